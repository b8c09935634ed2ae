import PyProof.Rows.All
import Wide.All
import OpenK.AllK
import Wide.FinOn
import Lean
import PyProof.EqAt
import PyProof.EqKinds
import PyProof.TupleCall
import PySem.Challenge.RW_netfinder_k76_no_place_could_go
set_option Elab.async false
set_option linter.all false
set_option maxRecDepth 100000
set_option compiler.extract_closed false
set_option bootstrap.genMatcherCode false
noncomputable section
theorem Zz{a b:Prop}(x:a)(y:b):a∧b:=⟨x,y⟩
def Tr:=@PySem.wpAny_bind
def Ts:=@List.mem_cons_self
def Tt:=@List.length_map
def Tu:=@List.size_toArray
def Tv:=@List.mem_append_right
def Tw:=@PySem.wpAny_pure
def Tx:=@List.mem_cons_of_mem
def Tz:=@Bool.false_ne_true
def TB:=@Nat.le_refl
def TC:=@List.mem_append_left
def TF:=@if_pos
def TH:=@PySem.Heap.lt_size
def TJ:=@if_neg
def TK:=@List.mem_cons
def TL:=@Nat.lt_of_lt_of_le
def TM:=@Bool.and_eq_true
def TN:=@List.length_cons
def TQ:=@decide_eq_true_eq
def TR:=@List.map_cons
def TU:=@Nat.ne_of_lt
def TV:=@List.map_append
def TX:=@Option.some.inj
def TY:=@List.mem_singleton
def TZ:=@List.map_map
def T3:=@List.length_range
def T4:=@decide_eq_false
def T5:=@Bool.eq_iff_iff
def T6:=@List.mem_of_getElem?
def T7:=@List.append_nil
def T8:=@List.all_eq_true
def T9:=@decide_eq_true
def Ua:=@List.length_append
def Ub:=@List.nodup_append
def Uc:=@Nat.le_trans
def Ud:=@List.length_take
def Ue:=@List.mem_append
def Ug:=@Nat.zero_le
def Uh:=@Option.map_eq_some_iff
def Ui:=@List.nodup_cons
def Uj:=@Option.bind_eq_some_iff
def Uk:=@List.idxOf_lt_length_of_mem
def Ul:=@List.append_assoc
def Um:=@List.length_singleton
def Uo:=@PySem.PassesOwn.never
def Up:=@Int.eq_ofNat_of_zero_le
def Uq:=@List.mem_range
def Ur:=@List.map_congr_left
def Us:=@beq_iff_eq
def Ut:=@List.map_nil
def Uu:=@PyProof.Rows.callWith_type1
def Uv:=@List.mem_iff_getElem?
def Uw:=@List.length_set
def Ux:=@List.eq_nil_of_length_eq_zero
def Uy:=@PySem.wpAny_newObj_type
def Uz:=@PySem.W.mg_none_of
def UA:=@Array.length_toList
def UB:=@PySem.sizeLine_eq
def UC:=@PySem.wpAny_call_entry
def UD:=@Int.toNat_natCast
def UE:=@decide_eq_false_iff_not
def UG:=@Bool.and_self
def UH:=@List.mem_map
def UI:=@List.zip_cons_cons
def UJ:=@PySem.wpAny_seqItems
def UK:=@List.length_drop
def UL:=@List.lookup_cons
def UM:=@List.not_mem_nil
def UN:=@Option.isSome_iff_exists
def UO:=@List.mem_of_mem_eraseIdx
def UP:=@congrArg
def UQ:=@PySem.wpAny_field
def UR:=@Bool.false_eq_true
def US:=@List.length_nil
def UT:=@beq_self_eq_true
def UU:=@List.take_of_length_le
def UW:=@beq_eq_false_iff_ne
def UX:=@PyProof.Rows.slot_tuple_getitem
def UY:=@List.replicate_succ
def UZ:=@List.drop_eq_getElem_cons
def U0:=@PySem.wpAny_Call_Name_kw
def U1:=@Ne.symm
def U2:=@PySem.wpAny_typeNameOfWhole_keyiter
def U3:=@List.any_eq_true
def U4:=@PySem.wpAny_holding
def U5:=@PySem.F.slot_dict_keyiterator_next
def U6:=@PySem.Heap.size_push
def U7:=@List.all_map
def U8:=@decide_false
def U9:=@List.flatten_cons
def Va:=@PySem.mem_of_lookup
def Vb:=@PyProof.Rows.KeyOrd.kle_refl
def Vc:=@PySem.W.kia_one
def Vd:=@PySem.F.slot_tuple_iterator_next
def Ve:=@Option.getD_none
def Vf:=@PySem.F.plain_max_loop
def Vg:=@List.cons_append
def Vh:=@PySem.wpAny_pyIter_tuple
def Vi:=@PySem.wpAny_setField_rec
def Vj:=@List.cons.inj
def Vk:=@List.set_set
def Vl:=@Nat.le_succ
def Vm:=@List.nodup_nil
def Vn:=@decide_true
def Vo:=@PySem.wpAny_truthy_bool
def Vp:=@PySem.wpAny_passesOwn
def Vq:=@PySem.wpAny_pyIter_list
def Vr:=@List.of_mem_zip
def Vs:=@of_decide_eq_true
def Vt:=@PySem.F.slot_tuple_index
def Vu:=@List.filterMap_cons_none
def Vv:=@List.filterMap_cons_some
def Vx:=@Nat.lt_irrefl
def Vy:=@List.getElem_of_mem
def Vz:=@List.all_cons
def VA:=@Nat.lt_succ_self
def VB:=@List.getElem_mem
def VC:=@List.pairwise_cons
def VD:=@List.mem_filter
def VE:=@PySem.wpAny_typeOf
def VF:=@List.foldl_cons
def VG:=@PySem.wpAny_letGo
def VH:=@List.nil_append
def VI:=@Bool.not_true
def VJ:=@List.nodup_iff_pairwise_ne
def VL:=@Bool.false_and
def VM:=@PySem.Calls.call_function_entry
def VN:=@List.pairwise_iff_getElem
def VO:=@Bool.not_false
def VP:=@Option.getD_some
def VQ:=@PySem.Heap.SameBut.update
def VR:=@List.length_reverse
def VS:=@PySem.wpAny_mono
def VT:=@PySem.F.args_tuple_add_2
def VU:=@List.any_map
def VW:=@PySem.F.type_tuple_index
def VX:=@PySem.F.entry_tuple_add
def VY:=@if_true
def VZ:=@PySem.Obj.data_mapFields
def V0:=@PySem.tupleKind_room_in1
def V1:=@List.length_zip
def V2:=@PySem.F.plainAttrs_list
def V3:=@Bool.and_true
def V4:=@Nat.min_eq_left
def V5:=@Int.cast_ofNat_Int
def V6:=@Option.isNone_some
def V7:=@List.length_eraseIdx_le
def V8:=@PySem.F.slot_tuple_add
def V9:=@List.drop_eq_nil_of_le
def Wa:=@List.length_pos_of_mem
def Wb:=@PyProof.Rows.KeyOrd.kle_of_klt
def Wc:=@List.ext_getElem?
def Wd:=@PySem.wpAny_dictEntries
def We:=@List.pairwise_map
def Wf:=@Option.some.injEq
def Wg:=@if_false
def Wh:=@PySem.wpAny_tryCatch
def Wi:=@Bool.and_false
def Wj:=@PySem.F.args_dict_keyiterator_next_1
def Wl:=@List.take_append_drop
def Wm:=@PyProof.Rows.KeyOrd.kle_trans
def Wn:=@PySem.F.entry_dict_keyiterator_next
def Wo:=@List.mem_reverse
def Wq:=@PySem.Around.under_plainId
def Wr:=@PySem.wpAny_updateSeq_pair
def Ws:=@List.mem_of_mem_take
def Wt:=@PySem.Paired.length
def Wu:=@PySem.plainId_quiet
def Wv:=@PySem.F.args_tuple_iterator_next_1
def Ww:=@List.map_take
def Wx:=@List.filterMap_cons
def Wy:=@PySem.wpAny_execs_nil
def Wz:=@List.toList_toArray
def WA:=@PySem.wpAny_updateSeq
def WB:=@List.length_pos_iff
def WC:=@PySem.F.entry_tuple_iterator_next
def WD:=@PySem.F.slot_zip_next
def WE:=@Array.getD_eq_getD_getElem?
def WG:=@PySem.wpAny_ite_split
def WH:=@PySem.Calls.Name_function_global
def WI:=@Nat.ne_of_gt
def WJ:=@List.mem_filterMap
def WK:=@List.getElem_range
def WL:=@List.getElem_idxOf
def WM:=@PySem.wpAny_setField
def WN:=@List.take_sublist
def WO:=@PySem.wpAny_getItem_list_slice
def WQ:=@bne_self_eq_false
def WR:=@PySem.wpAny_comprehension_free
def WS:=@Nat.lt_succ_of_lt
def WT:=@Option.isSome_map
def WU:=@PySem.AutoSeq1.sub_tuple_tuple
def WV:=@List.length_erase_of_mem
def WW:=@List.findIdx_cons
def WX:=@PySem.wpAny_onRaise
def WY:=@PySem.wpAny_attempt
def WZ:=@List.not_lt
def W0:=@PySem.F.slot_list_index
def W2:=@PySem.noFill_tuple_add
def W3:=@PySem.F.entry_max_loop
def W4:=@PySem.wpAny_isInstance
def W5:=@PySem.wpAny_forIn_list
def W6:=@List.drop_length
def W9:=@PySem.W.cellsFrom_some
def Xf:=@List.Perm.append_right
def Xg:=@List.range_succ_eq_map
def Xi:=@Nat.le_of_lt
def Xk:=@PySem.concat_meets
def Xl:=@List.forIn_cons
def Xm:=@Bool.or_eq_true
def Xn:=@PySem.codeAny_builtin
def Xp:=@PySem.wpAny_specialOf
def Xq:=@PySem.wpAny_dictEpoch
def Xs:=@List.Perm.append_left
def Xt:=@List.perm_append_comm
def Xu:=@Classical.choose_spec
def Xw:=@Nat.sub_self
def Xx:=@Int.natCast_add
def Xy:=@PySem.typeIs_str
def Xz:=@PySem.typeIs_int
def XA:=@PySem.wpAny_rule
def XE:=@Array.toArray_toList
def XF:=@List.getElem_toArray
def XG:=@List.findIdx_getElem
def XH:=@List.drop_zero
def XI:=@List.take_zero
def XO:=@List.take_succ_cons
def XQ:=@List.drop_succ_cons
def XW:=@PySem.wpAny_standAt
def XX:=@PySem.seq_tuple_add
def X0:=@Nat.lt_of_le_of_lt
def X1:=@or_false
def X3:=@PySem.wpAny_newList
def X4:=@of_decide_eq_false
def X5:=@List.any_cons
def X6:=@List.sum_cons
def X7:=@List.take_nil
def X8:=@List.map_drop
def X9:=@Bool.true_and
def Ya:=@Option.isNone_none
def Yg:=@PySem.call_meets
def Yv:=@Nat.le_of_eq
def Yw:=@Nat.mul_comm
def Yx:=@Nat.zero_add
def YY:=@Int.le_refl
def Zx:=@bne_iff_ne
namespace L2
open PySem PySem.Spec PyProof.Rows
def IsTupN(h:Heap)(a:Addr)(items:Array Value):Prop:=∃o,h.get? a=some o/\o.cls=.type "tuple"/\(∃n,o.data=.seq items n)/\o.dict=none
theorem IsTupN.tup{h:Heap}{a:Addr}{items:Array Value}(p:IsTupN h a items):IsTup h a items:=by
 obtain⟨o,e,c,n,_⟩:=p;exact⟨o,e,c,n⟩
theorem IsTupN.new(h:Heap)(items:Array Value):IsTupN (h.push {cls:=.type "tuple",data:=.seq items}) h.objs.size items:=⟨_,Heap.get?_push_size _ rfl,rfl,⟨_,rfl⟩,rfl⟩
abbrev Key:=Sum Int Str
def pB:Key->Value->Bool
 | .inl k,v=>Value.isInt k v
 | .inr x,v=>Value.isStrOf x v
def GU(w:World):Key->Int
 | .inl k=>hashInt k
 | .inr x=>hashStr w x
theorem bV:∀{k:Key}{v:Value},pB k v=true->(∃i t,k=Sum.inl i/\v=Value.int i t)\/(∃x t,k=Sum.inr x/\v=Value.str x t)
 | .inl i,v,h=>by
  obtain⟨t,e⟩:=Value.isInt_shape (k:=i) (v:=v) h;exact .inl ⟨i,t,rfl,e⟩
 | .inr x,v,h=>by
  obtain⟨t,e⟩:=Value.isStrOf_shape (x:=x) (v:=v) h;exact .inr ⟨x,t,rfl,e⟩
theorem tZ(i:Int)(t:Tok):pB (.inl i) (.int i t)=true:=by simp[pB,Value.isInt]
theorem ub(x:Str)(t:Tok):pB (.inr x) (.str x t)=true:=by simp[pB,Value.isStrOf]
theorem B4(a b:Int):decide ((Sum.inl a:Key)=Sum.inl b)=(a==b):=by
 by_cases e:a=b
 ·subst e;simp
 ·have h:¬ (Sum.inl a:Key)=Sum.inl b:=fun q=>e (Sum.inl.inj q)
  rw[T4 h];exact(UW.mpr e).symm
theorem B5(a b:Str):decide ((Sum.inr a:Key)=Sum.inr b)=decide (a=b):=by
 by_cases e:a=b
 ·subst e;simp
 ·have h:¬ (Sum.inr a:Key)=Sum.inr b:=fun q=>e (Sum.inr.inj q)
  rw[T4 h,T4 e]
theorem B6(a:Int)(b:Str):decide ((Sum.inl a:Key)=Sum.inr b)=false:=T4 (fun q=>nomatch q)
theorem B7(a:Str)(b:Int):decide ((Sum.inr a:Key)=Sum.inl b)=false:=T4 (fun q=>nomatch q)
noncomputable def mixKind(prog:Program)(w:World):PySem.KeyKind prog w Key where
 is:=pB
 hash:=GU w
 inj:=fun v a b ha hb=>by
  rcases bV ha with⟨i,t,rfl,rfl⟩|⟨x,t,rfl,rfl⟩
  ·rcases bV hb with⟨j,u,rfl,e⟩|⟨y,u,rfl,e⟩
   ·injection e with e1 _;rw[e1]
   ·exact nomatch e
  ·rcases bV hb with⟨j,u,rfl,e⟩|⟨y,u,rfl,e⟩
   ·exact nomatch e
   ·injection e with e1 _;rw[e1]
 byValue:=fun k v h=>by
  rcases bV h with⟨i,t,rfl,rfl⟩|⟨x,t,rfl,rfl⟩ <;> rfl
 pyHash:=fun hv h=>by
  rcases bV hv with⟨i,t,rfl,rfl⟩|⟨x,t,rfl,rfl⟩
  ·exact wpAny_pyHash_int h
  ·exact wpAny_pyHash_str h
 eqBool:=fun hu hv h=>by
  rcases bV hu with⟨i,t,rfl,rfl⟩|⟨x,t,rfl,rfl⟩
  ·rcases bV hv with⟨j,u,rfl,rfl⟩|⟨y,u,rfl,rfl⟩
   ·rw[B4]at h;exact wpAny_eqBool_int h
   ·rw[B6]at h;exact SeqAt.EqAt.int_str i t y u _ _ _ _ h
  ·rcases bV hv with⟨j,u,rfl,rfl⟩|⟨y,u,rfl,rfl⟩
   ·rw[B7]at h;exact SeqAt.EqAt.str_int x t j u _ _ _ _ h
   ·rw[B5]at h;exact wpAny_eqBool_str h
 «strs»:=fun k x t v h=>by
  rcases bV h with⟨i,u,rfl,e⟩|⟨y,u,rfl,e⟩
  ·exact nomatch e
  ·injection e with e1 _;subst e1;cases v <;> rfl
theorem su(prog:Program)(w:World)(k:Key)(v:Value):(mixKind prog w).is k v=pB k v:=rfl
theorem pC(prog:Program)(w:World)(i:Int)(t:Tok):(mixKind prog w).is (.inl i) (.int i t)=true:=tZ i t
theorem pD(prog:Program)(w:World)(x:Str)(t:Tok):(mixKind prog w).is (.inr x) (.str x t)=true:=ub x t
inductive V where
 |non|bl (b:Bool)|int (i:Int)|str (x:Str)|byt (b:Array UInt8)|flt (b:UInt64)|ref (a:Addr)|ty (n:String)
 deriving DecidableEq
noncomputable def RelV:V->Value->Prop
 | .non,u=>u=Value.none
 | .bl b,u=>u=Value.bool b
 | .int i,u=>∃t,u=Value.int i t
 | .str x,u=>∃t,u=Value.str x t
 | .byt b,u=>∃t,u=Value.bytes b t
 | .flt b,u=>∃t,u=Value.float b t
 | .ref a,u=>u=Value.ref a
 | .ty n,u=>u=Value.type n
abbrev Vals:List V->List Value->Prop:=Paired RelV
theorem Vals.length{xs:List V}{us:List Value}(r:Vals xs us):xs.length=us.length:=Wt r
theorem Vals.get:∀{xs:List V}{us:List Value}{i:Nat}{x:V},Vals xs us->xs[i]?=some x->∃u,us[i]?=some u/\RelV x u
 |_,_,_,_,.nil,e=>by simp at e
 |_,_,0,_,.cons r _,e=>by simp at e;subst e;exact⟨_,rfl,r⟩
 |_,_,i+1,x,.cons _ t,e=>by
  obtain⟨u,h1,h2⟩:=Vals.get (i:=i) (x:=x) t (by simpa using e);exact⟨u,by simpa using h1,h2⟩
theorem Vals.set{x:V}{u:Value}(r:RelV x u):∀{xs:List V}{us:List Value}(i:Nat),Vals xs us->Vals (xs.set i x) (us.set i u)
 |_,_,_,.nil=>.nil
 |_,_,0,.cons _ t=>.cons r t
 |_,_,i+1,.cons q t=>.cons q (Vals.set r i t)
theorem Vals.append:∀{xs ys:List V}{us ws:List Value},Vals xs us->Vals ys ws->Vals (xs++ys) (us++ws)
 |_,_,_,_,.nil,s=>s
 |_,_,_,_,.cons r t,s=>.cons r (Vals.append t s)
theorem Vals.take:∀{xs:List V}{us:List Value}(n:Nat),Vals xs us->Vals (xs.take n) (us.take n)
 |_,_,0,_=>.nil
 |_,_,_+1,.nil=>.nil
 |_,_,n+1,.cons r t=>.cons r (Vals.take n t)
theorem Vals.drop:∀{xs:List V}{us:List Value}(n:Nat),Vals xs us->Vals (xs.drop n) (us.drop n)
 |_,_,0,r=>r
 |_,_,_+1,.nil=>.nil
 |_,_,n+1,.cons _ t=>Vals.drop n t
theorem Vals.none_of:∀{xs:List V}{us:List Value}{i:Nat},Vals xs us->xs[i]?=none->us[i]?=none:=fun{xs us i} r e=>by
 have h1:=r.length;have h2:xs.length<=i:=List.getElem?_eq_none_iff.mp e;exact List.getElem?_eq_none_iff.mpr (by lia)
def RelO:Option V->Option Value->Prop
 |some v,some u=>RelV v u
 |none,none=>True
 |_,_=>False
def KV{κ:Type}:List (κ×V)->List (κ×Value)->Prop:=Paired fun(p:κ×V) (q:κ×Value)=>p.1=q.1/\RelV p.2 q.2
def kV:Key->V
 | .inl i=>.int i
 | .inr x=>.str x
inductive HO where
 |lst (xs:List V)
 |tup (xs:List V)
 |dK (kvs:List (Key×V))|dT (kvs:List (List Key×V))
 |set (S:Int->Bool) (n:Nat)
 |ins (C dx:Addr) (fs:List (Str×V))
 |own (x:Addr)
 |xd (fs:List (Str×V))
 |met (f x:Addr)
 |rng (lo hi:Int)
 |frz (o:Obj) (u:HO)
 |tbl (ps:Array Value)
 |ext (φ:Heap->Prop)
abbrev Hp:=Addr->Option HO
def upd(H:Hp)(a:Addr)(o:HO):Hp:=fun b=>if b=a then some o else H b
theorem aV{H:Hp}{a:Addr}{o:HO}:upd H a o a=some o:=by unfold upd;rw[TF rfl]
theorem aE{H:Hp}{a b:Addr}{o:HO}(h:b≠a):upd H a o b=H b:=by unfold upd;rw[TJ h]
theorem EV{H:Hp}{a b:Addr}{o u:HO}(h:H a=some o)(h':H b=some u)(d:o≠u):a≠b:=by
 intro e;subst e;rw[h]at h';exact d (TX h')
theorem a9{H:Hp}{a b:Addr}{o:HO}(h:H a=some o)(h':H b=none):a≠b:=by
 intro e;subst e;rw[h]at h';cases h'
section
variable(P:Program)(w:World)
noncomputable def ObjOk(H:Hp)(h:Heap)(a:Addr):HO->Prop
 | .lst xs=>xs.length<=sizeLine/\∃(Ic:List Value) (n:Nat),Vals xs Ic/\h.get? a=some {cls:=.type "list",data:=.seq Ic.toArray n}
 | .tup xs=>xs.length<=sizeLine/\∃Ic:List Value,Vals xs Ic/\IsTupN h a Ic.toArray
 | .dK kvs=>kvs.length<=sizeLine/\(a==sysModules)=false/\∃vs,KV kvs vs/\h.DictOf (mixKind P w) a vs
 | .dT kvs=>kvs.length<=sizeLine/\(a==sysModules)=false/\∃xs:List (List Key×Addr×Value),
   Paired (fun(p:List Key×V) (q:List Key×Addr×Value)=>p.1=q.1/\H q.2.1=some (.tup (p.1.map kV))/\RelV p.2 q.2.2) kvs xs/\
   ∃o es ep,h.get? a=some o/\o.ExactDict/\o.data=.dict es ep/\es.toList=xs.map (entryOfKey (tupleKind (mixKind P w)))/\(xs.map (·.1)).Nodup
 | .set S n=>h.SetOf (intKind P w) a S n
 | .ins C dx fs=>H dx=some (.own a)/\fs.length<=1000/\dx≠a/\h.get? a=some (PySem.W.instObj C dx)/\
   ∃mA,h.Ns1 dx mA/\(∀f,RelO (fs.lookup f) (mA f))/\PySem.Within mA (fs.map (·.1))
 | .own _=>∃o,h.get? a=some o
 | .xd fs=>∃mA,h.Ns1 a mA/\∀f,RelO (fs.lookup f) (mA f)
 | .rng lo hi=>∃t u v,h.get? a=some {cls:=.type "range",data:=.fields #[.int lo t,.int hi u,.int 1 v]}
 | .frz o u=>h.get? a=some o/\ObjOk H h a u
 | .tbl ps=>h.get? a=some {cls:=.none,data:=.fields ps}
 | .met f x=>h.get? a=some (PySem.W.methodObj (.ref f) (.ref x))
 | .ext φ=>φ h/\(∃o,h.get? a=some o)/\∀h1 h2:Heap,φ h1->(∀o,h1.get? a=some o->h2.get? a=some o)->φ h2
def HOk(H:Hp)(h:Heap):Prop:=∀a o,H a=some o->ObjOk P w H h a o
end
section
variable{P:Program}{w:World}{H H':Hp}{h h':Heap}{a:Addr}{o:HO}
theorem ObjOk.lt(x:ObjOk P w H h a o):a<h.objs.size:=by
 cases o with
 |lst xs=>obtain⟨_,_,_,_,e⟩:=x;exact TH e
 |tup xs=>obtain⟨_,_,_,p⟩:=x;exact p.tup.lt
 |dK kvs=>obtain⟨_,_,_,_,o,_,_,e,_⟩:=x;exact TH e
 |dT kvs=>obtain⟨_,_,_,_,o,_,_,e,_⟩:=x;exact TH e
 |set S n=>obtain⟨o,_,_,_,e,_⟩:=x;exact TH e
 |ins C dx fs=>obtain⟨_,_,_,e,_⟩:=x;exact TH e
 |own y=>obtain⟨_,e⟩:=x;exact TH e
 |xd fs=>obtain⟨_,⟨_,_,_,e,_⟩,_⟩:=x;exact TH e
 |rng lo hi=>obtain⟨_,_,_,e⟩:=x;exact TH e
 |frz ob u=>obtain⟨e,_⟩:=x;exact TH e
 |tbl ps=>exact TH (show h.get? a=some _ from x)
 |met f y=>exact TH (show h.get? a=some _ from x)
 |ext φ=>obtain⟨_,⟨_,e⟩,_⟩:=x;exact TH e
theorem Paired.mapP{α β:Type}{F G:α->β->Prop}:∀{l₁:List α}{l₂:List β},Paired F l₁ l₂->(∀a b,F a b->G a b)->Paired G l₁ l₂
 |_,_,.nil,_=>.nil
 |_,_,.cons r t,f=>.cons (f _ _ r) (Paired.mapP t f)
theorem ObjOk.stay(x:ObjOk P w H h a o)(k:∀b u,(b=a\/H b=some (.own a))->h.get? b=some u->h'.get? b=some u)
  (ho:∀b,H b=some (.own a)->H' b=some (.own a)) (ht:∀b xs,H b=some (.tup xs)->H' b=some (.tup xs)):ObjOk P w H' h' a o:=by
 induction o with
 |lst xs=>obtain⟨z,Ic,n,r,e⟩:=x;exact⟨z,Ic,n,r,k _ _ (.inl rfl) e⟩
 |tup xs=>obtain⟨z,Ic,r,ob,e,c⟩:=x;exact⟨z,Ic,r,ob,k _ _ (.inl rfl) e,c⟩
 |dK kvs=>obtain⟨z,y,vs,r,ob,es,ep,e,c⟩:=x;exact⟨z,y,vs,r,ob,es,ep,k _ _ (.inl rfl) e,c⟩
 |dT kvs=>
  obtain⟨z,y,xs,r,ob,es,ep,e,c⟩:=x;exact⟨z,y,xs,Paired.mapP r fun p q z=>⟨z.1,ht _ _ z.2.1,z.2.2⟩,ob,es,ep,k _ _ (.inl rfl) e,c⟩
 |set S n=>obtain⟨ob,es,ep,t,e,c⟩:=x;exact⟨ob,es,ep,t,k _ _ (.inl rfl) e,c⟩
 |ins C dx fs=>
  obtain⟨d,z,ne,e,mA,⟨od,es,ep,e2,c⟩,r⟩:=x;exact⟨ho _ d,z,ne,k _ _ (.inl rfl) e,mA,⟨od,es,ep,k _ _ (.inr d) e2,c⟩,r⟩
 |own y=>obtain⟨ob,e⟩:=x;exact⟨ob,k _ _ (.inl rfl) e⟩
 |xd fs=>obtain⟨mA,⟨od,es,ep,e,c⟩,r⟩:=x;exact⟨mA,⟨od,es,ep,k _ _ (.inl rfl) e,c⟩,r⟩
 |rng lo hi=>obtain⟨t,u,v,e⟩:=x;exact⟨t,u,v,k _ _ (.inl rfl) e⟩
 |frz ob u ih=>obtain⟨e,q⟩:=x;exact⟨k _ _ (.inl rfl) e,ih q⟩
 |tbl ps=>
  have e:h.get? a=some {cls:=.none,data:=.fields ps}:=x;show h'.get? a=some {cls:=.none,data:=.fields ps};exact k a _ (.inl rfl) e
 |met f y=>
  have e:h.get? a=some (PySem.W.methodObj (.ref f) (.ref y)):=x;show h'.get? a=some (PySem.W.methodObj (.ref f) (.ref y));exact k a _ (.inl rfl) e
 |ext φ=>obtain⟨p,⟨o,e⟩,st⟩:=x;exact⟨st _ _ p fun o q=>k _ _ (.inl rfl) q,⟨o,k _ _ (.inl rfl) e⟩,st⟩
theorem HOk.lt(x:HOk P w H h)(e:H a=some o):a<h.objs.size:=(x a o e).lt
theorem HOk.fresh(x:HOk P w H h)(e:h.objs.size<=a):H a=none:=by
 cases q:H a with
 |none=>rfl
 |some u=>exact absurd (TL (x.lt q) e) (Vx _)
theorem HOk.kept(x:HOk P w H h)(k:∀b u,h.get? b=some u->h'.get? b=some u):HOk P w H h':=fun a o e=>
 (x a o e).stay (fun b u _ q=>k b u q) (fun _ q=>q) fun _ _ q=>q
theorem HOk.laid(x:HOk P w H h)(k:∀b u,h.get? b=some u->h'.get? b=some u)(hp:h.objs.size<=a)(new:ObjOk P w (upd H a o) h' a o):HOk P w (upd H a o) h':=fun b u e=>by
 have hn:=x.fresh hp;by_cases hb:b=a
 ·subst hb;rw[aV]at e;cases e;exact new
 ·rw[aE hb]at e;exact(x b u e).stay (fun c v _ q=>k c v q) (fun c q=>by rw[aE (a9 q hn)];exact q) fun c xs q=>by rw[aE (a9 q hn)];exact q
end
def Rd(H:Hp)(a:Addr)(u:HO):Prop:=H a=some u\/∃o,H a=some (.frz o u)
theorem Rd.ok{P:Program}{w:World}{H:Hp}{h:Heap}{a:Addr}{u:HO}(r:Rd H a u)(x:HOk P w H h):ObjOk P w H h a u:=by
 rcases r with r|⟨o,r⟩
 ·exact x a u r
 ·obtain⟨_,q⟩:=x a _ r;exact q
def PF:Option HO->Prop
 |some (.lst _)=>True
 |some (.dK _)=>True
 |some (.dT _)=>True
 |some (.set _ _)=>True
 |some (.ins _ _ _)=>True
 |some (.ext _)=>True
 |_=>False
section
variable{P:Program}{w:World}{H:Hp}{h h':Heap}{x e:Addr}{o':HO}
theorem HOk.write(ok:HOk P w H h)(mu:PF (H x))(he:e=x\/H e=some (.own x))(k:∀b u,b≠e->h.get? b=some u->h'.get? b=some u)(Pn:∃u,h'.get? e=some u)
  (new:ObjOk P w (upd H x o') h' x o'):HOk P w (upd H x o') h':=fun b u q=>by
 have L0:∀c y,H c=some (.own y)->c≠x:=fun c y r z=>by subst z;rw[r]at mu;exact mu
 have ntup:∀c xs,H c=some (.tup xs)->c≠x:=fun c xs r z=>by subst z;rw[r]at mu;exact mu
 by_cases hb:b=x
 ·subst hb;rw[aV]at q;cases q;exact new
 ·rw[aE hb]at q;by_cases hbe:b=e
  ·have q':H b=some (.own x):=by
    rcases he with z|z
    ·exact absurd (hbe.trans z) hb
    ·rw[hbe];exact z
   rw[q]at q';cases q';obtain⟨v,hv⟩:=Pn;exact⟨v,by rw[hbe];exact hv⟩
  ·refine(ok b u q).stay (fun c v hc r=>k c v ?_ r) (fun c r=>by rw[aE (L0 c b r)];exact r) fun c xs r=>by rw[aE (ntup c xs r)];exact r
   rcases hc with rfl|hc
   ·exact hbe
   ·rintro rfl;rcases he with z|z
    ·exact L0 c b hc z
    ·rw[hc]at z;cases z;exact hb rfl
end
structure Un(fs ex:List Addr)(H H':Hp)(h h':Heap):Prop where
 keep:∀b o,h.get? b=some o->H b=none->b∉fs->b∉ex->h'.get? b=some o
 slot:∀b o,h.get? b=some o->H b=none->b∈fs->b∉ex->∃sl,h'.get? b=some {o with slots:=sl}
 free:∀b o,h.get? b=some o->H b=none->b∉ex->H' b=none
 there:∀b o,h.get? b=some o->b∉ex->∃o',h'.get? b=some o'
 tups:∀b xs,H b=some (.tup xs)->H' b=some (.tup xs)
 frzs:∀b o u,H b=some (.frz o u)->H' b=some (.frz o u)
 tbls:∀b ps,H b=some (.tbl ps)->∃more,H' b=some (.tbl (ps++more))
section
variable{fs fs' ex ex':List Addr}{H H1 H2:Hp}{h h1 h2 h':Heap}{a x e:Addr}{o:HO}
theorem Un.any(u:Un fs ex H H1 h h1){b:Addr}{ob:Obj}(q:h.get? b=some ob)(n:H b=none)(hx:b∉ex):∃sl,h1.get? b=some {ob with slots:=sl}:=by
 by_cases hb:b∈fs
 ·exact u.slot b ob q n hb hx
 ·exact⟨ob.slots,u.keep b ob q n hb hx⟩
theorem Un.kept(k:∀b u,h.get? b=some u->h'.get? b=some u):Un fs ex H H h h':=
 ⟨fun b ob q _ _ _=>k b ob q,fun b ob q _ _ _=>⟨ob.slots,k b ob q⟩,fun _ _ _ n _=>n,fun b ob q _=>⟨ob,k b ob q⟩,fun _ _ q=>q,fun _ _ _ q=>q,fun _ ps q=>⟨#[],by rw[q];simp⟩⟩
theorem Un.refl:Un fs ex H H h h:=Un.kept fun _ _ q=>q
theorem Un.laid(k:∀b u,h.get? b=some u->h'.get? b=some u)(hp:h.objs.size<=a)(hn:H a=none):Un fs ex H (upd H a o) h h' where
 keep:=fun b u q _ _ _=>k b u q
 slot:=fun b u q _ _ _=>⟨u.slots,k b u q⟩
 free:=fun b u q n _=>by rw[aE (TU (TL (TH q) hp))];exact n
 there:=fun b u q _=>⟨u,k b u q⟩
 tups:=fun b xs q=>by rw[aE (a9 q hn)];exact q
 frzs:=fun b u xs q=>by rw[aE (a9 q hn)];exact q
 tbls:=fun b ps q=>⟨#[],by rw[aE (a9 q hn),q];simp⟩
theorem Un.write(mu:PF (H x))(he:e=x\/H e=some (.own x))(k:∀b u,b≠e->h.get? b=some u->h'.get? b=some u)(Pn:∃u,h'.get? e=some u):Un fs ex H (upd H x o) h h':=by
 have hx:∀b,H b=none->b≠x:=fun b n z=>by subst z;rw[n]at mu;exact mu
 have hb:∀b,H b=none->b≠e:=fun b n z=>by
  subst z;rcases he with r|r
  ·exact hx b n r
  ·rw[n]at r;cases r
 have hm:∀b u,H b=some u->¬ PF (some u)->b≠x:=fun b u q nm z=>by subst z;rw[q]at mu;exact nm mu
 refine⟨fun b u q n _ _=>k b u (hb b n) q,fun b u q n _ _=>⟨u.slots,k b u (hb b n) q⟩,fun b u q n _=>by rw[aE (hx b n)];exact n,fun b u q _=>?_,
  fun b xs q=>by rw[aE (hm b _ q fun z=>z)];exact q,fun b u xs q=>by rw[aE (hm b _ q fun z=>z)];exact q,fun b ps q=>⟨#[],by rw[aE (hm b _ q fun z=>z),q];simp⟩⟩
 by_cases hbe:b=e
 ·subst hbe;exact Pn
 ·exact⟨u,k b u hbe q⟩
end
def trk(h:Heap)(H:Hp):List Addr:=(List.range h.objs.size).filter fun a=>(H a).isSome
def wZ(h:Heap)(H:Hp):Heap:=PySem.W.hideAll h (trk h H)
theorem uc(h:Heap)(H:Hp):(wZ h H).objs.size=h.objs.size:=PySem.W.hideAll_size _ _
theorem w5{h:Heap}{H:Hp}{b:Addr}{o:Obj}(e:h.get? b=some o)(n:H b=none):(wZ h H).get? b=some o:=
 PySem.W.hideAll_get _ e fun hm=>by
  have q:(H b).isSome=true:=(VD.mp hm).2;rw[n]at q;simp at q
theorem zu{h:Heap}{H:Hp}{b:Addr}{o:Obj}(e:(wZ h H).get? b=some o):h.get? b=some o/\H b=none:=by
 have e':h.get? b=some o:=PySem.W.of_hideAll (trk h H) e;refine⟨e',?_⟩;cases q:H b with
 |none=>rfl
 |some x=>
  have hm:b∈trk h H:=VD.mpr ⟨Uq.mpr (TH e'),by simp[q]⟩;have z:(wZ h H).get? b=none:=PySem.W.hideAll_none (trk h H) hm;rw[z]at e;cases e
def zv(g h:Heap)(L:Addr):List (Addr×Obj):=(List.range h.objs.size).filterMap fun a=>if a=L\/(g.get? a).isSome=true then none else(h.get? a).map fun o=>(a,o)
def eC(g h:Heap)(L d:Addr):List (Addr×Obj):=(zv g h L).filter fun p=>decide (p.1≠d)
structure Mod(K:W.Frag)(mg:Str->Option Value)(base:Heap):Prop where
 kin:K.In base
 glob:base.Ns mainGlobals mg
 blt:∃mb,base.Ns builtinsNs mb/\∀x:Str,x≠"__name__"->mb x=bootBuiltins x
 nolimit:base.NoLimit
structure Cx where
 prog:Program
 w:World
 K:W.Frag
 mg:Str->Option Value
 base:Heap
 A:Around
 N:List Str
 s₀:Shared
 H₀:Hp
 env:Env
 outer:List Env
 stack:List Env
 ex:List Addr
 fn:Str->Bool
 calm:Bool
 pn:List (Addr×Obj)
 xe:Value->Shared->Prop
def Mq(l:List Env):List Addr:=l.filterMap (·.frame)
abbrev Cx.fs(X:Cx):List Addr:=Mq X.outer
def Rv(sc:Scope)(x:Str):Prop:=sc.names.lookup x=some .local\/sc.names.lookup x=some .cell\/sc.names.lookup x=some .free
def Loc(sc:Scope)(x:Str):Prop:=sc.names.lookup x=some .local\/sc.names.lookup x=some .cell
def Gw(sc:Scope)(x:Str):Bool:=match sc.names.lookup x with
 |some .local=>true
 |some .cell=>true
 |_=>false
theorem lo{sc:Scope}{x:Str}(h:Gw sc x=true):Loc sc x:=by
 unfold Gw at h;split at h
 ·exact .inl (by assumption)
 ·exact .inr (by assumption)
 ·cases h

def GV(env:Env)(h:Heap)(m:Str->Option Value)(x:Str)(u:Value):Prop:=
 (env.kindOf x=some .local/\m x=some u)\/((env.kindOf x=some .cell\/env.kindOf x=some .free)/\∃c,env.cells.lookup x=some c/\h.IsCell c (some u))
structure Cx.Ok(X:Cx):Prop where
 mod:Mod X.K X.mg X.base
 kind:X.env.scope.kind=.function
 glob:X.env.globals=mainGlobals
 blt:X.env.builtins=builtinsNs
 above:X.s₀.heap.objs.size<=X.env.locals
 inj:∀x y c,X.env.cells.lookup x=some c->X.env.cells.lookup y=some c->x=y
 has:∀x,(X.env.kindOf x=some .cell\/X.env.kindOf x=some .free)->∃c,X.env.cells.lookup x=some c
 cab:∀x c,X.fn x=true->X.env.cells.lookup x=some c->X.s₀.heap.objs.size<=c
 hd:X.calm=true->X.A.handled=none
 frames:X.A.frames=some X.stack
 stk:X.stack=X.outer\/(X.stack=X.env::X.outer/\X.env.frame=some X.env.locals)
 exf:∀b∈X.ex,b≠X.env.locals/\∀x c,X.env.cells.lookup x=some c->c≠b
 bs:∀b o,X.base.get? b=some o->X.s₀.heap.get? b=some o/\X.H₀ b=none
 bsz:X.base.objs.size<=X.s₀.heap.objs.size
 noex:∀b o,X.base.get? b=some o->b∉X.ex
 exfs:∀b∈X.ex,b∉X.fs
 funs:X.s₀.heap.FunFrames X.base X.outer
 frf:∀b∈X.fs,X.H₀ b=none
structure Inv(X:Cx)(pr:List (Addr×Obj))(σ:List (Option V))(H:Hp)(s:Shared):Prop where
 ok:X.Ok
 os:s.os=X.s₀.os
 bare:AllBare s.gens
 base:Un X.fs X.ex X.H₀ H X.s₀.heap s.heap
 loc:∃m,s.heap.Ns X.env.locals m/\∀(i:Nat) (x:Str) (v:V),X.N[i]?=some x->σ[i]?=some (some v)->Rv X.env.scope x->∃u,RelV v u/\GV X.env s.heap m x u
 cell:∀x c,X.env.cells.lookup x=some c->∃v,s.heap.IsCell c v
 free:H X.env.locals=none
 freeC:∀x c,X.env.cells.lookup x=some c->H c=none
 pin:∀p∈X.pn++pr,s.heap.get? p.1=some p.2/\H p.1=none/\p.1≠X.env.locals/\p.1∉X.fs/\∀v,p.2.data≠.cell v
 hok:HOk X.prog X.w H s.heap
 len:σ.length=X.N.length
section
variable{X:Cx}{pr:List (Addr×Obj)}{σ:List (Option V)}{H H':Hp}{s:Shared}{h':Heap}
theorem Cx.Ok.nofr(ok:X.Ok){b:Addr}{o:Obj}(e:X.base.get? b=some o):b∉X.fs:=fun hb=>by
 have:=(ok.funs.mem hb).1;rw[e]at this;cases this
theorem Inv.bs(I:Inv X pr σ H s):∀b o,X.base.get? b=some o->s.heap.get? b=some o/\H b=none:=fun b o e=>
 ⟨I.base.keep b o (I.ok.bs b o e).1 (I.ok.bs b o e).2 (I.ok.nofr e) (I.ok.noex b o e),I.base.free b o (I.ok.bs b o e).1 (I.ok.bs b o e).2 (I.ok.noex b o e)⟩
theorem Inv.bk(I:Inv X pr σ H s):∀b o,X.base.get? b=some o->s.heap.get? b=some o:=fun b o e=>(I.bs b o e).1
theorem Inv.mod(I:Inv X pr σ H s):Mod X.K X.mg X.base:=I.ok.mod
theorem Inv.kIn(I:Inv X pr σ H s):X.K.In s.heap:=I.ok.mod.kin.keeps I.bk
theorem Inv.lt(I:Inv X pr σ H s):X.env.locals<s.heap.objs.size:=let⟨_,hn,_⟩:=I.loc;hn.lt
theorem Inv.sz(I:Inv X pr σ H s):X.s₀.heap.objs.size<=s.heap.objs.size:=Uc I.ok.above (Xi I.lt)
theorem Inv.nofs(I:Inv X pr σ H s){a:Addr}(h:s.heap.objs.size<=a):a∉X.fs:=fun hb=>by
 obtain⟨_,o,ho,_⟩:=I.ok.funs.mem hb;exact absurd (TL (TH ho) (Uc I.sz h)) (Vx _)
theorem Inv.cne(I:Inv X pr σ H s):∀x c,X.env.cells.lookup x=some c->c≠X.env.locals:=fun x c e z=>by
 obtain⟨v,o,ho,hd⟩:=I.cell x c e;obtain⟨m,⟨o',es,ep,M7,PH,_⟩,_⟩:=I.loc;rw[z,M7]at ho;cases ho;rw[PH]at hd;cases hd
theorem Inv.funs(I:Inv X pr σ H s):s.heap.FunFrames X.base X.outer:=by
 have all:∀(l:List Env),(∀b∈Mq l,b∈X.fs)->X.s₀.heap.FunFrames X.base l->s.heap.FunFrames X.base l:=by
  intro l;induction l with
  |nil=>intro _ _;trivial
  |cons env r ih=>
   intro hs hl;obtain⟨hk,⟨L,o,hf,hn,ho,hd⟩,hr⟩:=hl;have hL:L∈X.fs:=hs L (by unfold Mq;rw[Wx,hf];exact Ts);obtain⟨sl,e⟩:=I.base.slot L o ho (I.ok.frf L hL) hL fun z=>I.ok.exfs L z hL
   exact⟨hk,⟨L,_,hf,hn,e,hd⟩,ih (fun b hb=>hs b (by unfold Mq;rw[Wx,hf];exact Tx _ hb)) hr⟩
 exact all X.outer (fun _ hb=>hb) I.ok.funs
theorem Inv.stack(I:Inv X pr σ H s):s.heap.FunFrames X.base X.stack:=by
 rcases I.ok.stk with e|⟨e,hf⟩
 ·rw[e];exact I.funs
 ·rw[e];obtain⟨m,hn,_⟩:=I.loc;refine .cons (by rw[I.ok.kind];decide) hf hn ?_ I.funs;exact Heap.get?_none_of_le (Uc I.ok.bsz I.ok.above)
theorem Inv.stkSub(I:Inv X pr σ H s):∀b∈Mq X.stack,b∈X.env.locals::X.fs:=fun b hb=>by
 rcases I.ok.stk with e|⟨e,hf⟩
 ·rw[e]at hb;exact Tx _ hb
 ·rw[e]at hb;unfold Mq at hb;rw[Wx,hf]at hb;exact hb
theorem Inv.stkFree(I:Inv X pr σ H s):∀b∈Mq X.stack,H b=none:=fun b hb=>by
 rcases TK.mp (I.stkSub b hb) with e|hb
 ·rw[e];exact I.free
 ·obtain⟨_,o,ho,_⟩:=I.ok.funs.mem hb;exact I.base.free b o ho (I.ok.frf b hb) fun z=>I.ok.exfs b z hb
theorem Inv.step{g':Array GenState}{t':Nat}{d':Drawn}{ch:List Addr}(I:Inv X pr σ H s)
  (MZ:∀b∈ch,(b∈X.ex\/X.s₀.heap.objs.size<=b)/\b≠X.env.locals/\(∀x c,X.env.cells.lookup x=some c->c≠b)/\∀p∈X.pn++pr,p.1≠b)
  (keep:∀b o,b≠X.env.locals->b∉X.fs->b∉ch->s.heap.get? b=some o->H b=none->h'.get? b=some o)
  (slot:∀b o,b≠X.env.locals->b∈X.fs->b∉ch->s.heap.get? b=some o->H b=none->∃sl,h'.get? b=some {o with slots:=sl}) (free:∀b o,b∉ch->s.heap.get? b=some o->H b=none->H' b=none)
  (there:∀b o,b∉ch->s.heap.get? b=some o->∃o',h'.get? b=some o')
  (tups:∀b xs,H b=some (.tup xs)->H' b=some (.tup xs)) (frzs:∀b o u,H b=some (.frz o u)->H' b=some (.frz o u)) (tbls:∀b ps,H b=some (.tbl ps)->∃more,H' b=some (.tbl (ps++more)))
  (ns:∀m,s.heap.Ns X.env.locals m->h'.Ns X.env.locals m) (hok:HOk X.prog X.w H' h') (hg:AllBare g'):
  Inv X pr σ H' {s with heap:=h',gens:=g',drawn:=d',toks:=t'}:=by
 have Ss:∀b o,X.s₀.heap.get? b=some o->b≠X.env.locals:=fun b o e=>TU (TL (TH e) I.ok.above)
 have QV:∀b o,X.s₀.heap.get? b=some o->b∉X.ex->b∉ch:=fun b o e hx hb=>by
  rcases(MZ b hb).1 with z|z
  ·exact hx z
  ·exact absurd (TL (TH e) z) (Vx _)
 have cellK:∀x c,X.env.cells.lookup x=some c->∀v,s.heap.IsCell c v->h'.IsCell c v:=fun x c e v Ip=>by
  obtain⟨o,ho,hd⟩:=Ip;have PJ:c∉ch:=fun z=>(MZ c z).2.2.1 x c e rfl
  by_cases hc:c∈X.fs
  ·obtain⟨sl,q⟩:=slot c o (I.cne x c e) hc PJ ho (I.freeC x c e);exact⟨_,q,hd⟩
  ·exact⟨o,keep c o (I.cne x c e) hc PJ ho (I.freeC x c e),hd⟩
 refine⟨I.ok,I.os,hg,⟨fun b o e n hb hx=>?_,fun b o e n hb hx=>?_,fun b o e n hx=>?_,fun b o e hx=>?_,fun b xs e=>tups b xs (I.base.tups b xs e),fun b o xs e=>frzs b o xs (I.base.frzs b o xs e),fun b ps e=>?_⟩,?_,fun x c e=>?_,?_,fun x c e=>?_,fun p hp=>?_,hok,I.len⟩
 ·exact keep b o (Ss b o e) hb (QV b o e hx) (I.base.keep b o e n hb hx) (I.base.free b o e n hx)
 ·obtain⟨sl,e1⟩:=I.base.slot b o e n hb hx;obtain⟨sl',e2⟩:=slot b _ (Ss b o e) hb (QV b o e hx) e1 (I.base.free b o e n hx);exact⟨sl',e2⟩
 ·obtain⟨o',e1⟩:=I.base.there b o e hx;exact free b o' (QV b o e hx) e1 (I.base.free b o e n hx)
 ·obtain⟨o',e1⟩:=I.base.there b o e hx;exact there b o' (QV b o e hx) e1
 ·obtain⟨m1,e1⟩:=I.base.tbls b ps e;obtain⟨m2,e2⟩:=tbls b _ e1;exact⟨m1++m2,by rw[e2,Array.append_assoc]⟩
 ·obtain⟨m,hn,hl⟩:=I.loc;refine⟨m,ns m hn,fun i x v e1 e2 e3=>?_⟩;obtain⟨u,r,l⟩:=hl i x v e1 e2 e3;refine⟨u,r,?_⟩;rcases l with l|⟨k,c,e,z⟩
  ·exact .inl l
  ·exact .inr ⟨k,c,e,cellK x c e _ z⟩
 ·obtain⟨v,z⟩:=I.cell x c e;exact⟨v,cellK x c e v z⟩
 ·obtain⟨m,⟨o,_,_,ho,_⟩,_⟩:=I.loc;exact free _ o (fun z=>(MZ _ z).2.1 rfl) ho I.free
 ·obtain⟨v,o,ho,hd⟩:=I.cell x c e;exact free c o (fun z=>(MZ c z).2.2.1 x c e rfl) ho (I.freeC x c e)
 ·obtain⟨e,n,ne,nf,d⟩:=I.pin p hp;have PJ:p.1∉ch:=fun z=>(MZ p.1 z).2.2.2 p hp rfl
  exact⟨keep p.1 p.2 ne nf PJ e n,free p.1 p.2 PJ e n,ne,nf,d⟩
theorem Inv.un{t':Nat}(I:Inv X pr σ H s)(u:Un X.fs [] H H' s.heap h')(hok:HOk X.prog X.w H' h'):Inv X pr σ H' {s with heap:=h',toks:=t'}:=by
 obtain⟨m,⟨o,es,ep,ho,r⟩,_⟩:=id I.loc;obtain⟨sl,hL⟩:=u.any ho I.free (by simp);exact I.step (g':=s.gens) (d':=s.drawn) (ch:=[]) (fun _ z=>nomatch z) (fun b o _ hb _ e n=>u.keep b o e n hb (by simp)) (fun b o _ hb _ e n=>u.slot b o e n hb (by simp)) (fun b o _ e n=>u.free b o e n (by simp)) (fun b o _ e=>u.there b o e (by simp)) u.tups u.frzs u.tbls (fun m' hm=>by
  obtain⟨o',Lb,Oi,M7,r'⟩:=hm;rw[ho]at M7;cases M7;exact⟨_,Lb,Oi,hL,r'⟩) hok I.bare
theorem Inv.call{g':Array GenState}{t':Nat}{d':Drawn}{ch:List Addr}(I:Inv X pr σ H s)(u:Un (Mq X.stack) ch H H' s.heap h')(hok:HOk X.prog X.w H' h')(hg:AllBare g')
  (MZ:∀b∈ch,(b∈X.ex\/X.s₀.heap.objs.size<=b)/\b≠X.env.locals/\(∀x c,X.env.cells.lookup x=some c->c≠b)/\∀p∈X.pn++pr,p.1≠b):
  Inv X pr σ H' {s with heap:=h',gens:=g',drawn:=d',toks:=t'}:=by
 obtain⟨m,⟨o,es,ep,ho,r⟩,_⟩:=id I.loc;obtain⟨sl,hL⟩:=u.any ho I.free fun z=>(MZ _ z).2.1 rfl
 exact I.step (ch:=ch) MZ (fun b o hL hb hc e n=>u.keep b o e n (fun z=>(TK.mp (I.stkSub b z)).elim hL hb) hc) (fun b o _ _ hc e n=>u.any e n hc) (fun b o hc e n=>u.free b o e n hc) (fun b o hc e=>u.there b o e hc) u.tups u.frzs u.tbls (fun m' hm=>by
  obtain⟨o',Lb,Oi,M7,r'⟩:=hm;rw[ho]at M7;cases M7;exact⟨_,Lb,Oi,hL,r'⟩) hok hg
theorem Inv.turned{t':Nat}{it:Addr}(I:Inv X pr σ H s)(k:∀b o,b≠it->s.heap.get? b=some o->h'.get? b=some o)(hn:H it=none)(hL:it≠X.env.locals)
  (h1:it∈X.ex\/X.s₀.heap.objs.size<=it) (h2:∀x c,X.env.cells.lookup x=some c->c≠it) (h3:∀p∈X.pn++pr,p.1≠it):Inv X pr σ H {s with heap:=h',toks:=t'}:=by
 have Su:∀b u,H b=some u->b≠it:=fun b u e z=>by rw[z,hn]at e;cases e
 refine I.step (g':=s.gens) (d':=s.drawn) (ch:=[it]) (fun b hb=>?_) (fun b o _ _ hc e _=>k b o (fun z=>hc (by simp[z])) e) (fun b o _ _ hc e _=>⟨o.slots,k b o (fun z=>hc (by simp[z])) e⟩) (fun _ _ _ _ n=>n)
  (fun b o hc e=>⟨o,k b o (fun z=>hc (by simp[z])) e⟩) (fun _ _ e=>e) (fun _ _ _ e=>e) (fun b ps e=>⟨#[],by rw[e];simp⟩) (fun m hm=>?_) (fun b u e=>?_) I.bare
 ·have e:b=it:=by simpa using hb
  subst e;exact⟨h1,hL,h2,h3⟩
 ·obtain⟨o,es,ep,ho,r⟩:=hm;exact⟨o,es,ep,k _ o (U1 hL) ho,r⟩
 ·refine(I.hok b u e).stay (fun c v hc q=>k c v ?_ q) (fun _ q=>q) fun _ _ q=>q
  rcases hc with z|z
  ·rw[z];exact Su b u e
  ·exact Su c _ z
theorem Inv.tok(I:Inv X pr σ H s)(t:Nat):Inv X pr σ H {s with toks:=t}:=I.un (h':=s.heap) (t':=t) Un.refl I.hok
theorem Inv.kept{t':Nat}(I:Inv X pr σ H s)(k:∀b u,s.heap.get? b=some u->h'.get? b=some u):Inv X pr σ H {s with heap:=h',toks:=t'}:=I.un (Un.kept k) (I.hok.kept k)
theorem Inv.laid{a:Addr}{o:HO}{t':Nat}(I:Inv X pr σ H s)(k:∀b u,s.heap.get? b=some u->h'.get? b=some u)(hp:s.heap.objs.size<=a)(new:ObjOk X.prog X.w (upd H a o) h' a o):
  Inv X pr σ (upd H a o) {s with heap:=h',toks:=t'}:=I.un (Un.laid k hp (I.hok.fresh hp)) (I.hok.laid k hp new)
theorem Inv.write{x e:Addr}{o:HO}{t':Nat}(I:Inv X pr σ H s)(mu:PF (H x))(he:e=x\/H e=some (.own x))(k:∀b u,b≠e->s.heap.get? b=some u->h'.get? b=some u)(Pn:∃u,h'.get? e=some u)
  (new:ObjOk X.prog X.w (upd H x o) h' x o):Inv X pr σ (upd H x o) {s with heap:=h',toks:=t'}:=I.un (Un.write mu he k Pn) (I.hok.write mu he k Pn new)
theorem Inv.pins_of{N4:List (Addr×Obj)}(I:Inv X pr σ H s)(h:∀p∈N4,s.heap.get? p.1=some p.2/\H p.1=none/\p.1≠X.env.locals/\p.1∉X.fs/\∀v,p.2.data≠.cell v):Inv X N4 σ H s:=
 ⟨I.ok,I.os,I.bare,I.base,I.loc,I.cell,I.free,I.freeC,fun p hp=>(Ue.mp hp).elim (fun z=>I.pin p (TC _ z)) (h p),I.hok,I.len⟩
theorem qx{N:List Str}(hN:N.Nodup){i j:Nat}{x:Str}(a:N[i]?=some x)(b:N[j]?=some x):i=j:=by
 obtain⟨h1,e1⟩:=List.getElem?_eq_some_iff.mp a;obtain⟨h2,e2⟩:=List.getElem?_eq_some_iff.mp b;exact(List.getElem_inj hN).mp (e1.trans e2.symm)
theorem nj{M:Model}{A:Around}{E:Value->Shared->Prop}{i:Nat}{x:Str}{v:V}{u:Value}{Q:Unit->Shared->Prop}(I:Inv X pr σ H s)(hN:X.N.Nodup)(hi:X.N[i]?=some x)(hx:Loc X.env.scope x)(r:RelV v u)
  (h:∀s',Inv X pr (σ.set i (some v)) H s'->(∃a,Heap.SameBut a s.heap s'.heap/\(a=X.env.locals\/X.env.cells.lookup x=some a))->Q () s') (hf:X.fn x=true\/X.env.scope.names.lookup x=some .local:=by first|exact .inl rfl|exact .inr rfl|assumption):wpAny M A (storeName X.env x u) Q E s:=by
 obtain⟨m,hn,hl⟩:=id I.loc;have hcls:(X.env.scope.kind==.class||(X.env.scope.kind==.module&&X.env.locals != X.env.globals))=false:=by rw[I.ok.kind];rfl
 have hiσ:i<σ.length:=by rw[I.len];exact(List.getElem?_eq_some_iff.mp hi).1
 have cne:=I.cne;have tracked:∀{a:Addr}{h':Heap},(∃o,s.heap.get? a=some o/\H a=none)->Heap.SameBut a s.heap h'->HOk X.prog X.w H h':=fun{a h'} ha hs b ob e=>by
  obtain⟨_,_,N5⟩:=ha;refine(I.hok b ob e).stay (fun c w' hc q=>(hs.2 c ?_).trans q) (fun _ q=>q) fun _ _ q=>q
  rintro rfl;rcases hc with rfl|hc
  ·rw[N5]at e;cases e
  ·rw[N5]at hc;cases hc
 rcases hx with hk|hk
 ·refine wpAny_storeName_local hk hn (fun h' Oj hs=>?_) hcls;obtain⟨oL,_,_,hoL,_⟩:=id hn;refine h _ ⟨I.ok,I.os,I.bare,⟨fun b o e n hb hx=>?_,fun b o e n hb hx=>?_,I.base.free,fun b o e hx=>?_,I.base.tups,I.base.frzs,I.base.tbls⟩,⟨_,Oj,fun j y v' e1 e2 e3=>?_⟩,fun y c e=>?_,I.free,I.freeC,fun p hp=>?_,tracked ⟨oL,hoL,I.free⟩ hs,by simpa using I.len⟩ ⟨_,hs,.inl rfl⟩
  ·exact(hs.2 b (TU (TL (TH e) I.ok.above))).trans (I.base.keep b o e n hb hx)
  ·obtain⟨sl,e1⟩:=I.base.slot b o e n hb hx;exact⟨sl,(hs.2 b (TU (TL (TH e) I.ok.above))).trans e1⟩
  ·obtain⟨o',e1⟩:=I.base.there b o e hx;exact⟨o',(hs.2 b (TU (TL (TH e) I.ok.above))).trans e1⟩
  ·by_cases hj:j=i
   ·subst hj;rw[hi]at e1;cases e1;rw[List.getElem?_set_self hiσ]at e2;cases e2;exact⟨u,r,.inl ⟨hk,by simp⟩⟩
   ·rw[List.getElem?_set_ne (U1 hj)]at e2;obtain⟨u',r',q⟩:=hl j y v' e1 e2 e3;refine⟨u',r',?_⟩;rcases q with⟨k,e⟩|⟨k,c,e,z⟩
    ·refine .inl ⟨k,?_⟩;have:y≠x:=fun e=>hj (qx hN e1 (e▸hi))
     simp[this,e]
    ·exact .inr ⟨k,c,e,z.sameBut hs (cne y c e)⟩
  ·obtain⟨w',z⟩:=I.cell y c e;exact⟨w',z.sameBut hs (cne y c e)⟩
  ·obtain⟨e,n,ne,nf,d⟩:=I.pin p hp;exact⟨(hs.2 p.1 ne).trans e,n,ne,nf,d⟩
 ·have Mr:X.fn x=true:=by
   rcases hf with z|z
   ·exact z
   ·rw[z]at hk;cases hk
  obtain⟨c,hc⟩:=I.ok.has x (.inl hk);obtain⟨w',z⟩:=I.cell x c hc;refine wpAny_storeName_cell I.ok.kind hk hc z (fun h' QX hs=>?_);obtain⟨oc,Sv,hocd⟩:=id z;refine h {s with heap:=h'} ⟨I.ok,I.os,I.bare,⟨fun b o e n hb hx=>?_,fun b o e n hb hx=>?_,I.base.free,fun b o e hx=>?_,I.base.tups,I.base.frzs,I.base.tbls⟩,⟨m,hn.sameBut hs (U1 (cne x c hc)),fun j y v' e1 e2 e3=>?_⟩,fun y c' e=>?_,I.free,I.freeC,fun p hp=>?_,tracked ⟨oc,Sv,I.freeC x c hc⟩ hs,by simpa using I.len⟩ ⟨c,hs,.inr hc⟩
  ·exact(hs.2 b (TU (TL (TH e) (I.ok.cab x c Mr hc)))).trans (I.base.keep b o e n hb hx)
  ·obtain⟨sl,e1⟩:=I.base.slot b o e n hb hx;exact⟨sl,(hs.2 b (TU (TL (TH e) (I.ok.cab x c Mr hc)))).trans e1⟩
  ·obtain⟨o',e1⟩:=I.base.there b o e hx;exact⟨o',(hs.2 b (TU (TL (TH e) (I.ok.cab x c Mr hc)))).trans e1⟩
  ·by_cases hj:j=i
   ·subst hj;rw[hi]at e1;cases e1;rw[List.getElem?_set_self hiσ]at e2;cases e2;exact⟨u,r,.inr ⟨.inl hk,c,hc,QX⟩⟩
   ·rw[List.getElem?_set_ne (U1 hj)]at e2;obtain⟨u',r',q⟩:=hl j y v' e1 e2 e3;refine⟨u',r',?_⟩;rcases q with q|⟨k,c',e,z'⟩
    ·exact .inl q
    ·refine .inr ⟨k,c',e,z'.sameBut hs ?_⟩;rintro rfl;exact hj (qx hN e1 (I.ok.inj _ _ _ e hc▸hi))
  ·by_cases hcc:c'=c
   ·subst hcc;exact⟨_,QX⟩
   ·obtain⟨w2,z2⟩:=I.cell y c' e;exact⟨w2,z2.sameBut hs hcc⟩
  ·obtain⟨e,n,ne,nf,d⟩:=I.pin p hp;refine⟨(hs.2 p.1 ?_).trans e,n,ne,nf,d⟩;intro q;rw[q,Sv]at e;have q':oc=p.2:=TX e;exact d w' (by rw[<-q'];exact hocd)
theorem qy{M:Model}{A:Around}{E:Value->Shared->Prop}{i:Nat}{x:Str}{v:V}{u:Value}{Q:Unit->Shared->Prop}(I:Inv X pr σ H s)(hN:X.N.Nodup)(hi:X.N[i]?=some x)(hx:Loc X.env.scope x)(r:RelV v u)
  (h:∀s',Inv X pr (σ.set i (some v)) H s'->Q () s') (hf:X.fn x=true\/X.env.scope.names.lookup x=some .local:=by first|exact .inl rfl|exact .inr rfl|assumption):wpAny M A (storeName X.env x u) Q E s:=
 nj I hN hi hx r (fun s' I' _=>h s' I') hf
theorem Inv.call'{s':Shared}{ch:List Addr}(I:Inv X pr σ H s)(ho:s'.os=s.os)(u:Un (Mq X.stack) ch H H' s.heap s'.heap)(hok:HOk X.prog X.w H' s'.heap)(hg:AllBare s'.gens)
  (MZ:∀b∈ch,(b∈X.ex\/X.s₀.heap.objs.size<=b)/\b≠X.env.locals/\(∀x c,X.env.cells.lookup x=some c->c≠b)/\∀p∈X.pn++pr,p.1≠b):Inv X pr σ H' s':=by
 obtain⟨h',g',d',t',o'⟩:=s';have e:o'=s.os:=ho;subst e;exact I.call (g':=g') (t':=t') (d':=d') u hok hg MZ
end
abbrev XK:=Value->Option Addr->Hp->Prop
abbrev St:=List (Option V)
abbrev VK:=V->Hp->Prop
abbrev TE:=St->Hp->VK->Prop
abbrev TT:=St->Hp->(Bool->Hp->Prop)->Prop
abbrev TA:=St->Hp->(List V->Hp->Prop)->Prop
structure Ends where
 nx:St->Hp->Prop
 rt:VK
 bk:St->Hp->Prop:=fun _ _=>False
 ct:St->Hp->Prop:=fun _ _=>False
abbrev TS:=Ends->St->Hp->Prop
def EP(X:Cx)(pr:List (Addr×Obj))(σ:St)(Q:VK)(u:Value)(s':Shared):Prop:=∃v H',Inv X pr σ H' s'/\RelV v u/\Q v H'
def TP(X:Cx)(pr:List (Addr×Obj))(σ:St)(Q:Bool->Hp->Prop)(b:Bool)(s':Shared):Prop:=∃H',Inv X pr σ H' s'/\Q b H'
def AP(X:Cx)(pr:List (Addr×Obj))(σ:St)(Q:List V->Hp->Prop)(us:List Value)(s':Shared):Prop:=∃vs H',Inv X pr σ H' s'/\Vals vs us/\Q vs H'
def SP(X:Cx)(pr:List (Addr×Obj))(D:Ends)(f:Flow)(s':Shared):Prop:=
 match f with
 | .next=>∃σ' H',Inv X pr σ' H' s'/\D.nx σ' H'
 | .brk=>∃σ' H',Inv X pr σ' H' s'/\D.bk σ' H'
 | .cont=>∃σ' H',Inv X pr σ' H' s'/\D.ct σ' H'
 | .ret u=>∃v σ' H',Inv X pr σ' H' s'/\RelV v u/\D.rt v H'
def PE(X:Cx)(e:Expr)(t:TE):Prop:=
 ∀(pr:List (Addr×Obj)) (s:Shared) (σ:St) (H:Hp) (Q:VK),Inv X pr σ H s->t σ H Q->wpAny (model X.prog X.w) X.A (eval e X.env) (EP X pr σ Q) X.xe s
def PT(X:Cx)(e:Expr)(t:TT):Prop:=
 ∀(pr:List (Addr×Obj)) (s:Shared) (σ:St) (H:Hp) (Q:Bool->Hp->Prop),Inv X pr σ H s->t σ H Q->wpAny (model X.prog X.w) X.A (isTrue e X.env (eval e X.env)) (TP X pr σ Q) X.xe s
def PW(X:Cx)(e:Expr)(t:TT):Prop:=
 ∀(whole:Sem Value) (pr:List (Addr×Obj)) (s:Shared) (σ:St) (H:Hp) (Q:Bool->Hp->Prop),Inv X pr σ H s->t σ H Q->wpAny (model X.prog X.w) X.A (isTrue e X.env whole) (TP X pr σ Q) X.xe s
theorem PW.pt{X:Cx}{e:Expr}{t:TT}(h:PW X e t):PT X e t:=h _
def PA(X:Cx)(es:List Expr)(t:TA):Prop:=
 ∀(pos:Pos) (pr:List (Addr×Obj)) (s:Shared) (σ:St) (H:Hp) (Q:List V->Hp->Prop),Inv X pr σ H s->t σ H Q->wpAny (model X.prog X.w) X.A (spliced (backTo pos (starEach es X.env))) (AP X pr σ Q) X.xe s
def PS(X:Cx)(st:Stmt)(t:TS):Prop:=
 ∀(pr:List (Addr×Obj)) (s:Shared) (σ:St) (H:Hp) (D:Ends),Inv X pr σ H s->t D σ H->wpAny (model X.prog X.w) X.A (exec st X.env) (SP X pr D) X.xe s
def PSs(X:Cx)(st:List Stmt)(t:TS):Prop:=
 ∀(pr:List (Addr×Obj)) (s:Shared) (σ:St) (H:Hp) (D:Ends),Inv X pr σ H s->t D σ H->wpAny (model X.prog X.w) X.A (execs st X.env) (SP X pr D) X.xe s
theorem Iw{α:Type}{t:Sem α}{Q Q':α->Shared->Prop}{M:Model}{A:Around}{E:Value->Shared->Prop}{s:Shared}(h:wpAny M A t Q E s)(hQ:∀a s,Q a s->Q' a s):wpAny M A t Q' E s:=VS h hQ fun _ _ x=>x
section
variable{X:Cx}
theorem bin{a b:Expr}{ta tb:TE}(ha:PE X a ta)(hb:PE X b tb){pr:List (Addr×Obj)}{s:Shared}{σ:St}{H:Hp}{R:V->V->Hp->Prop}(I:Inv X pr σ H s)(h:ta σ H fun x H1=>tb σ H1 fun y H2=>R x y H2)
  {α:Type}{Q:α->Shared->Prop}{f:Value->Value->Sem α}
  (hf:∀v u s2 x y H2,Inv X pr σ H2 s2->RelV x v->RelV y u->R x y H2->wpAny (model X.prog X.w) X.A (f v u) Q X.xe s2):
  wpAny (model X.prog X.w) X.A (eval a X.env) (fun v s₁=>wpAny (model X.prog X.w) X.A (eval b X.env) (fun u s₂=>wpAny (model X.prog X.w) X.A (f v u) Q X.xe s₂) X.xe s₁) X.xe s:=by
 refine Iw (ha pr s σ H _ I h) fun v s1 IB=>?_
 obtain⟨x,H1,I1,r1,q1⟩:=IB;refine Iw (hb pr s1 σ H1 _ I1 q1) fun u s2 IB=>?_
 obtain⟨y,H2,I2,r2,q2⟩:=IB;exact hf v u s2 x y H2 I2 r1 r2 q2
def ud(i:Nat):TE:=fun σ H Q=>∃v,σ[i]?=some (some v)/\Q v H
def tC(v:V):TE:=fun _ H Q=>Q v H
theorem B8{i:Nat}{x:Str}{pos:Pos}(hN:X.N[i]?=some x)(hv:Rv X.env.scope x)(hd:(x==("__debug__" : Str))=false:=by decide)(Mv:(x==("__classdict__" : Str))=false:=by decide):PE X (.Name x pos) (ud i):=by
 intro pr s σ H Q I h;obtain⟨v,e,h⟩:=h;obtain⟨m,hn,hl⟩:=I.loc;obtain⟨u,r,l⟩:=hl i x v hN e hv;have fin:EP X pr σ Q u s:=⟨v,H,I,r,h⟩
 rcases l with⟨hk,hm⟩|⟨hk,c,hc,Jd⟩
 ·exact wpAny_Name (wpAny_loadName_local I.ok.kind hk hn hm fin) hd
 ·rcases hk with hk|hk
  ·exact wpAny_Name (wpAny_loadName_cell I.ok.kind hk hc Jd fin) hd
  ·exact wpAny_Name (wpAny_loadName_free I.ok.kind hk hc Jd fin Mv) hd
theorem B9{i j pos}:PE X (.Constant (.int i) j pos) (tC (.int i)):=fun _ _ _ H _ I h=>wpAny_Constant_int ⟨.int i,H,I.tok _,⟨_,rfl⟩,h⟩
theorem EW{b j pos}:PE X (.Constant (.bool b) j pos) (tC (.bl b)):=fun _ _ _ H _ I h=>Constant_bool ⟨.bl b,H,I,rfl,h⟩
theorem Ca{j pos}:PE X (.Constant .none j pos) (tC .non):=fun _ _ _ H _ I h=>Constant_none ⟨.non,H,I,rfl,h⟩
theorem Cb{x j pos}:PE X (.Constant (.str x) j pos) (tC (.str x)):=fun _ _ _ H _ I h=>Calls.Constant_str ⟨.str x,H,I.tok _,⟨_,rfl⟩,h⟩
def Gl(X:Cx)(x:Str):Prop:=X.env.kindOf x=some .globalImplicit
theorem zw{E:Value->Shared->Prop}{pr:List (Addr×Obj)}{s:Shared}{σ:St}{H:Hp}{x:Str}{u:Value}{pos:Pos}{Q:Value->Shared->Prop}(I:Inv X pr σ H s)(hg:Gl X x)(hm:X.mg x=some u)(h:Q u s)
  (hd:(x==("__debug__" : Str))=false:=by decide):wpAny (model X.prog X.w) X.A (eval (.Name x pos) X.env) Q E s:=
 WH I.ok.kind hg (Calls.loadGlobal_global (by rw[I.ok.glob];exact I.mod.glob.keeps I.bk) hm h) hd
theorem gX{E:Value->Shared->Prop}{pr:List (Addr×Obj)}{s:Shared}{σ:St}{H:Hp}{x:Str}{u:Value}{pos:Pos}{Q:Value->Shared->Prop}(I:Inv X pr σ H s)(hg:Gl X x)(hm:X.mg x=none)(hv:bootBuiltins x=some u)(h:Q u s)
  (hn:x≠"__name__":=by decide) (hd:(x==("__debug__" : Str))=false:=by decide):wpAny (model X.prog X.w) X.A (eval (.Name x pos) X.env) Q E s:=by
 obtain⟨mb,h1,h2⟩:=I.mod.blt;exact WH I.ok.kind hg (Calls.loadGlobal_builtin (by rw[I.ok.glob];exact I.mod.glob.keeps I.bk) hm (by rw[I.ok.blt];exact h1.keeps I.bk) ((h2 x hn).trans hv) h) hd
theorem zx{x:Str}{v:V}{u:Value}{pos:Pos}(hg:Gl X x)(hm:X.mg x=none)(hv:bootBuiltins x=some u)(r:RelV v u)(hn:x≠"__name__":=by decide)(hd:(x==("__debug__" : Str))=false:=by decide):PE X (.Name x pos) (tC v):=
 fun _ _ _ H _ I h=>gX I hg hm hv ⟨v,H,I,r,h⟩ hn hd
variable{a b:Expr}{ta tb:TE}{pos:Pos}
def PC(X:Cx)(op:CmpOp)(a b:Expr)(t:TE):Prop:=
 ∀(pr:List (Addr×Obj)) (s:Shared) (σ:St) (H:Hp) (Q:VK),Inv X pr σ H s->t σ H Q->
  wpAny (model X.prog X.w) X.A (eval a X.env) (fun v s₁=>wpAny (model X.prog X.w) X.A (eval b X.env) (fun u s₂=>wpAny (model X.prog X.w) X.A (compareOp op v u) (EP X pr σ Q) X.xe s₂) X.xe s₁) X.xe s
theorem w6(b:Expr){op:CmpOp}(h:op≠.In)(h2:op≠.NotIn):behindInMarks op b=false:=by
 have e1:(op==CmpOp.In)=false:=by cases op <;> first|rfl|exact absurd rfl h
 have e2:(op==CmpOp.NotIn)=false:=by cases op <;> first|rfl|exact absurd rfl h2
 cases b <;> simp[behindInMarks,e1,e2]
def tB(t:TE):TT:=fun σ H Q=>t σ H fun x H1=>∃c,x=.bl c/\Q c H1
theorem Gx{op:CmpOp}{t:TE}(h:PC X op a b t)(h1:behindInMarks op b=false:=by first|exact w6 _ (by decide) (by decide)|rfl):PT X (.Compare a [op] [b] pos) (tB t):=by
 intro pr s σ H Q I hw;refine wpAny_isTrue_Compare1 (Iw (h pr s σ H _ I hw) fun v s1 h1=>Iw h1 fun u s2 h2=>Iw h2 fun c s3 ⟨x,H1,I1,r1,q1⟩=>?_) h1;obtain⟨d,rfl,q⟩:=q1;cases r1;exact Vo ⟨H1,I1,q⟩
theorem Cc{e:Expr}{t:TE}(h:PE X e t)(he:∀whole,isTrue e X.env whole=(do let v <-whole;standAt e.pos;holding [v] (truthy v)):=by intro _;rfl):PT X e (tB t):=by
 intro pr s σ H Q I hw;refine isTrue_plain (Iw (h pr s σ H _ I hw) fun v s1 ⟨x,H1,I1,r1,q1⟩=>?_) (he _);obtain⟨d,rfl,q⟩:=q1;cases r1;exact Vo ⟨H1,I1,q⟩
variable{tA QY:TT}{eC:List Expr}
def GW(t u:TT):TT:=fun σ H Q=>t σ H fun c H1=>if c=true then u σ H1 Q else Q false H1
def tOr(t u:TT):TT:=fun σ H Q=>t σ H fun c H1=>if c=true then Q true H1 else u σ H1 Q
def GX(t:TT):TT:=fun σ H Q=>t σ H fun c H1=>Q (!c) H1
theorem zy(ha:PT X a tA):PW X (.BoolOp .And [a] pos) tA:=by
 intro wh pr s σ H Q I h;refine isTrue_and (Iw (ha pr s σ H Q I h) fun c s1 e=>?_);cases c with
 |true=>exact isTrue_and_nil e
 |false=>exact e
theorem Cd(ha:PT X a tA):PW X (.BoolOp .Or [a] pos) tA:=by
 intro wh pr s σ H Q I h;refine isTrue_or (Iw (ha pr s σ H Q I h) fun c s1 e=>?_);cases c with
 |false=>exact isTrue_or_nil e
 |true=>exact e
theorem Ce(ha:PT X a tA)(hb:PW X (.BoolOp .And (b::eC) pos) QY):PW X (.BoolOp .And (a::b::eC) pos) (GW tA QY):=by
 intro wh pr s σ H Q I h;refine isTrue_and (Iw (ha pr s σ H _ I h) fun c s1 IB=>?_);obtain⟨H1,I1,q1⟩:=IB;cases c with
 |true=>exact hb wh pr s1 σ H1 Q I1 q1
 |false=>exact⟨H1,I1,q1⟩
theorem EX(ha:PT X a tA)(hb:PW X (.BoolOp .Or (b::eC) pos) QY):PW X (.BoolOp .Or (a::b::eC) pos) (tOr tA QY):=by
 intro wh pr s σ H Q I h;refine isTrue_or (Iw (ha pr s σ H _ I h) fun c s1 IB=>?_);obtain⟨H1,I1,q1⟩:=IB;cases c with
 |true=>exact⟨H1,I1,q1⟩
 |false=>exact hb wh pr s1 σ H1 Q I1 q1
theorem Cf(ha:PT X a tA):PT X (.UnaryOp .Not a pos) (GX tA):=by
 intro pr s σ H Q I h;exact isTrue_not (ha pr s σ H (fun c H1=>Q (!c) H1) I h)
def EY(ta tb:TE):TE:=fun σ H Q=>ta σ H fun x H1=>∃c,x=.bl c/\if c=true then tb σ H1 Q else Q (.bl false) H1
theorem Cg{op}{t:TE}(h:PE X a t):PE X (.BoolOp op [a] pos) t:=fun pr s σ H Q I hw=>BoolOp_one (h pr s σ H Q I hw)
theorem Ci(ha:PE X a ta)(hb:PE X (.BoolOp .And (b::eC) pos) tb):PE X (.BoolOp .And (a::b::eC) pos) (EY ta tb):=by
 intro pr s σ H Q I h;refine BoolOp_and (Iw (ha pr s σ H _ I h) fun v s1 IB=>?_);obtain⟨x,H1,I1,r1,q1⟩:=IB;obtain⟨c,rfl,q1⟩:=q1;cases r1;refine Vo ?_;cases c with
 |true=>exact hb pr s1 σ H1 Q I1 q1
 |false=>exact⟨.bl false,H1,I1,rfl,q1⟩
end
def SqL(K:W.Frag)(H:Hp)(a:Addr)(xs:List V):Prop:=
 Rd H a (.lst xs)\/
  ∃(o:Obj) (Ic:Array Value) (n:Nat),K.lookup a=some o/\o.cls=.type "list"/\o.dict=none/\o.data=.seq Ic n/\Ic.size<=sizeLine/\Vals xs Ic.toList
def SqT(K:W.Frag)(H:Hp)(a:Addr)(xs:List V):Prop:=
 Rd H a (.tup xs)\/
  ∃(o:Obj) (Ic:Array Value) (n:Nat),K.lookup a=some o/\o.cls=.type "tuple"/\o.dict=none/\o.data=.seq Ic n/\Ic.size<=sizeLine/\Vals xs Ic.toList
def GY:Value->Option V
 | .none=>some .non
 | .bool b=>some (.bl b)
 | .int i _=>some (.int i)
 | .str x _=>some (.str x)
 | .bytes b _=>some (.byt b)
 | .float b _=>some (.flt b)
 | .ref a=>some (.ref a)
 | .type n=>some (.ty n)
 |_=>none
theorem RelV.abs{x:V}{u:Value}(r:RelV x u):GY u=some x:=by
 cases x with
 |non=>cases r;rfl
 |bl _=>cases r;rfl
 |int _=>obtain⟨t,rfl⟩:=r;rfl
 |str _=>obtain⟨t,rfl⟩:=r;rfl
 |byt _=>obtain⟨t,rfl⟩:=r;rfl
 |flt _=>obtain⟨t,rfl⟩:=r;rfl
 |ref _=>cases r;rfl
 |ty _=>cases r;rfl
theorem RelV.inj{x y:V}{u:Value}(r:RelV x u)(q:RelV y u):x=y:=TX (r.abs.symm.trans q.abs)
theorem Vals.inj:∀{xs ys:List V}{us:List Value},Vals xs us->Vals ys us->xs=ys
 |_,_,_,.nil,.nil=>rfl
 |_,_,_,.cons r t,.cons r' t'=>by rw[r.inj r',Vals.inj t t']
section
variable{X:Cx}{pr:List (Addr×Obj)}{σ:St}{H:Hp}{s:Shared}{a:Addr}{xs ys:List V}
theorem SqL.of{K:W.Frag}(h:H a=some (.lst xs)):SqL K H a xs:=.inl (.inl h)
theorem SqT.of{K:W.Frag}(h:H a=some (.tup xs)):SqT K H a xs:=.inl (.inl h)
theorem Inv.list(I:Inv X pr σ H s)(h:SqL X.K H a xs):∃Ic:List Value,Vals xs Ic/\PlainL s.heap a Ic.toArray/\xs.length<=sizeLine:=by
 rcases h with h|⟨o,Ic,n,hk,hc,hd,hs,hz,r⟩
 ·obtain⟨z,Ic,n,r,e⟩:=h.ok I.hok;exact⟨Ic,r,⟨_,n,e,rfl,rfl,rfl⟩,z⟩
 ·refine⟨Ic.toList,r,⟨o,n,I.kIn a o hk,hc,hd,by simpa using hs⟩,?_⟩;have e:=r.length;simp only[UA]at e;lia
theorem Inv.tupleN(I:Inv X pr σ H s)(h:SqT X.K H a xs):∃Ic:List Value,Vals xs Ic/\IsTupN s.heap a Ic.toArray/\xs.length<=sizeLine:=by
 rcases h with h|⟨o,Ic,n,hk,hc,hdn,hs,hz,r⟩
 ·obtain⟨z,Ic,r,p⟩:=h.ok I.hok;exact⟨Ic,r,p,z⟩
 ·refine⟨Ic.toList,r,⟨o,I.kIn a o hk,hc,⟨n,by simpa using hs⟩,hdn⟩,?_⟩;have e:=r.length;simp only[UA]at e;lia
theorem Inv.tuple(I:Inv X pr σ H s)(h:SqT X.K H a xs):∃Ic:List Value,Vals xs Ic/\IsTup s.heap a Ic.toArray/\xs.length<=sizeLine:=by
 obtain⟨Ic,r,p,z⟩:=I.tupleN h;exact⟨Ic,r,p.tup,z⟩
theorem Inv.list_inj(I:Inv X pr σ H s)(h:SqL X.K H a xs)(h':SqL X.K H a ys):xs=ys:=by
 obtain⟨Ic,r,⟨o,n,e,_,_,d⟩,_⟩:=I.list h;obtain⟨its',r',⟨o',n',e',_,_,d'⟩,_⟩:=I.list h';rw[e]at e';cases e';rw[d]at d';injection d' with d1 _;have:Ic=its':=by simpa using UP Array.toList d1
 subst this;exact r.inj r'
theorem Inv.tuple_inj(I:Inv X pr σ H s)(h:SqT X.K H a xs)(h':SqT X.K H a ys):xs=ys:=by
 obtain⟨Ic,r,⟨o,e,_,n,d⟩,_⟩:=I.tuple h;obtain⟨its',r',⟨o',e',_,n',d'⟩,_⟩:=I.tuple h';rw[e]at e';cases e';rw[d]at d';injection d' with d1 _;have:Ic=its':=by simpa using UP Array.toList d1
 subst this;exact r.inj r'
end
abbrev Cx.wish(X:Cx)(E:Value->Shared->Prop):Cx:={X with xe:=E}
abbrev Cx.nox(X:Cx):Cx:=X.wish fun _ _=>False
theorem Cx.Ok.wish{X:Cx}(ok:X.Ok)(E:Value->Shared->Prop):(X.wish E).Ok:=
 ⟨ok.mod,ok.kind,ok.glob,ok.blt,ok.above,ok.inj,ok.has,ok.cab,ok.hd,ok.frames,ok.stk,ok.exf,ok.bs,ok.bsz,ok.noex,ok.exfs,ok.funs,ok.frf⟩
theorem Cx.Ok.unwish{X:Cx}{E:Value->Shared->Prop}(ok:(X.wish E).Ok):X.Ok:=
 ⟨ok.mod,ok.kind,ok.glob,ok.blt,ok.above,ok.inj,ok.has,ok.cab,ok.hd,ok.frames,ok.stk,ok.exf,ok.bs,ok.bsz,ok.noex,ok.exfs,ok.funs,ok.frf⟩
section
variable{X:Cx}{pr:List (Addr×Obj)}{σ:St}{H:Hp}{s:Shared}{E:Value->Shared->Prop}
theorem Inv.wish(I:Inv X pr σ H s)(E:Value->Shared->Prop):Inv (X.wish E) pr σ H s:=⟨I.ok.wish E,I.os,I.bare,I.base,I.loc,I.cell,I.free,I.freeC,I.pin,I.hok,I.len⟩
theorem Inv.unwish(I:Inv (X.wish E) pr σ H s):Inv X pr σ H s:=⟨I.ok.unwish,I.os,I.bare,I.base,I.loc,I.cell,I.free,I.freeC,I.pin,I.hok,I.len⟩
theorem SP.unwish{D:Ends}{f:Flow}{s':Shared}(h:SP (X.wish E) pr D f s'):SP X pr D f s':=by
 cases f with
 |next=>obtain⟨σ',H',I,q⟩:=h;exact⟨σ',H',I.unwish,q⟩
 |brk=>obtain⟨σ',H',I,q⟩:=h;exact⟨σ',H',I.unwish,q⟩
 |cont=>obtain⟨σ',H',I,q⟩:=h;exact⟨σ',H',I.unwish,q⟩
 |ret u=>obtain⟨v,σ',H',I,r,q⟩:=h;exact⟨v,σ',H',I.unwish,r,q⟩
theorem PSs.nox{st:List Stmt}{t:TS}(h:PSs X.nox st t):PSs X st t:=fun pr s σ H D I hw=>
 VS (h pr s σ H D (I.wish _) hw) (fun _ _ q=>q.unwish) fun _ _ z=>False.elim z
end
section
variable{X:Cx}{st:Stmt}{eC:List Stmt}{t u:TS}{e:Expr}{te:TE}{pos:Pos}
def EZ:TS:=fun D σ H=>D.nx σ H
def GZ(t u:TS):TS:=fun D σ H=>t {D with nx:=u D} σ H
theorem zH:PSs X [] EZ:=fun _ _ σ H _ I h=>Wy ⟨σ,H,I,h⟩
theorem w9(h1:PS X st t)(h2:PSs X eC u):PSs X (st::eC) (GZ t u):=by
 intro pr s σ H D I h;refine wpAny_execs_cons (Iw (h1 pr s σ H {D with nx:=u D} I h) fun f s1 q=>?_);cases f with
 |next=>
  obtain⟨σ',H',I',q⟩:=q;exact h2 pr s1 σ' H' D I' q
 |ret v=>exact q
 |brk=>exact q
 |cont=>exact q
theorem zI(h1:PS X st t):PSs X [st] t:=by
 intro pr s σ H D I h;refine wpAny_execs_cons (Iw (h1 pr s σ H D I h) fun f s1 q=>?_);cases f with
 |next=>exact Wy q
 |ret v=>exact q
 |brk=>exact q
 |cont=>exact q
theorem Inv.quiet{pr:List (Addr×Obj)}{σ:St}{H:Hp}{s:Shared}(I:Inv X pr σ H s):interactive X.env=false:=by simp[interactive,I.ok.kind]
def E4(te:TE):TS:=fun D σ H=>te σ H fun _ H1=>D.nx σ H1
theorem zJ(he:PE X e te)(hs:swapsWith e none pos.line X.env=pure false:=by rfl):PS X (.Expr e pos) (E4 te):=by
 intro pr s σ H D I h;exact wpAny_Expr_any (Iw (he pr s σ H _ I h) fun v s1 ⟨x,H1,I1,r1,q1⟩=>⟨σ,H1,I1,q1⟩) I.quiet hs
def G9(te:TE):TS:=fun D σ H=>te σ H D.rt
theorem yG(he:PE X e te):PS X (.Return (some e) pos) (G9 te):=by
 intro pr s σ H D I h;exact wpAny_Return_some (Iw (he pr s σ H _ I h) fun v s1 ⟨x,H1,I1,r1,q1⟩=>⟨x,σ,H1,I1,r1,q1⟩)
def Ha(c:TT)(t u:TS):TS:=fun D σ H=>c σ H fun b H1=>if b=true then t D σ H1 else u D σ H1
theorem E5{c:Expr}{a b:List Stmt}{tc:TT}(hc:PT X c tc)(ha:PSs X a t)(hb:PSs X b u):PS X (.If c a b pos) (Ha tc t u):=by
 intro pr s σ H D I h;refine wpAny_If (Iw (hc pr s σ H _ I h) fun d s1 IB=>?_);obtain⟨H1,I1,q1⟩:=IB;cases d with
 |true=>exact ha pr s1 σ H1 D I1 q1
 |false=>exact hb pr s1 σ H1 D I1 q1
def Cj:TS:=fun _ _ _=>False
theorem xa:PS X st Cj:=fun _ _ _ _ _ _ h=>h.elim
end
abbrev TG:=V->St->Hp->(St->Hp->Prop)->Prop
abbrev N6:=List V->St->Hp->(St->Hp->Prop)->Prop
def PG(X:Cx)(target:Expr)(t:TG):Prop:=
 ∀(pr:List (Addr×Obj)) (s:Shared) (σ:St) (H:Hp) (v:V) (u:Value) (Q:St->Hp->Prop),Inv X pr σ H s->RelV v u->t v σ H Q->
  wpAny (model X.prog X.w) X.A (assign target X.env u) (fun _ s'=>∃σ' H',Inv X pr σ' H' s'/\Q σ' H') X.xe s
def Ol(X:Cx)(ts:List Expr)(t:N6):Prop:=
 ∀(pr:List (Addr×Obj)) (s:Shared) (σ:St) (H:Hp) (vs:List V) (us:List Value) (Q:St->Hp->Prop),Inv X pr σ H s->Vals vs us->t vs σ H Q->
  wpAny (model X.prog X.w) X.A (assignInOrder ((assignEach ts X.env).map (·.2)) us) (fun _ s'=>∃σ' H',Inv X pr σ' H' s'/\Q σ' H') X.xe s
abbrev Hb:=V->V->V->Hp->(Hp->Prop)->Prop
def Hc(X:Cx)(t:Hb):Prop:=
 ∀(pr:List (Addr×Obj)) (s:Shared) (σ:St) (H:Hp) (o i v:V) (ov iv u:Value) (Q:Hp->Prop),Inv X pr σ H s->RelV o ov->RelV i iv->RelV v u->t o i v H Q->
  wpAny (model X.prog X.w) X.A (setItem ov iv u) (fun _ s'=>∃H',Inv X pr σ H' s'/\Q H') X.xe s
section
variable{X:Cx}{pos:Pos}
def Cm(i:Nat):TG:=fun v σ H Q=>Q (σ.set i (some v)) H
theorem zL{i:Nat}{x:Str}(hN:X.N.Nodup)(hi:X.N[i]?=some x)(hx:Loc X.env.scope x)(hf:X.fn x=true\/X.env.scope.names.lookup x=some .local:=by first|exact .inl rfl|exact .inr rfl|assumption):PG X (.Name x pos) (Cm i):=by
 intro pr s σ H v u Q I r h;exact wpAny_assign_Name (qy I hN hi hx r (fun s' I'=>⟨_,H,I',h⟩) hf)
def Hd:N6:=fun vs σ H Q=>vs=[]/\Q σ H
def E6(t:TG)(u:N6):N6:=fun vs σ H Q=>∃v r,vs=v::r/\t v σ H fun σ' H'=>u r σ' H' Q
theorem zM:Ol X [] Hd:=by
 intro pr s σ H vs us Q I r h;obtain⟨e,h⟩:=h;subst e;cases r;exact assignInOrder_nil ⟨σ,H,I,h⟩
theorem xb{e:Expr}{es:List Expr}{t:TG}{u:N6}(h1:PG X e t)(h2:Ol X es u)
  (hs:(assignEach (e::es) X.env).map (·.2)=assign e X.env::(assignEach es X.env).map (·.2):=by rfl):Ol X (e::es) (E6 t u):=by
 intro pr s σ H vs us Q I r h;obtain⟨v,vr,e1,h⟩:=h;subst e1;cases r with
 |cons r rr=>
  rw[hs];refine assignInOrder_cons (Iw (h1 pr s σ H _ _ _ I r h) fun _ s1 IB=>?_);obtain⟨σ1,H1,I1,q1⟩:=IB;exact h2 pr s1 σ1 H1 _ _ Q I1 rr q1
def He(K:W.Frag)(n:Nat)(t:N6):TG:=fun v σ H Q=>∃a xs,v=.ref a/\SqT K H a xs/\xs.length=n/\t xs σ H Q
theorem Cn{es:List Expr}{k:Nat}{t:N6}{n:Nat}(hc:X.calm=true)(h:Ol X es t)
  (hn:(assignEach es X.env).length=n:=by rfl) (L1:(assignEach es X.env).findIdx? (·.1)=none:=by rfl):PG X (.Tuple es k pos) (He X.K n t):=by
 intro pr s σ H v u Q I r hw;obtain⟨a,xs,e1,hq,hl,hw⟩:=hw;subst e1;cases r;obtain⟨Ic,rv,ht,hz⟩:=I.tuple hq;refine assign_Tuple_tuple (I.ok.hd hc) ht (by simp[hn,<-hl,rv.length]) L1 fun h' hx=>?_
 have I1:Inv X pr σ H {s with heap:=h'}:=I.kept (t':=s.toks) fun b o e=>hx b o (TU (TH e)) e
 exact h pr _ σ H xs _ Q I1 (by simpa using rv) hw
def Gy(te:TE)(g:TG):TS:=fun D σ H=>te σ H fun x H1=>g x σ H1 D.nx
theorem Co{tg e:Expr}{te:TE}{g:TG}(he:PE X e te)(hg:PG X tg g)(hs:swapsWithSole [tg] e pos.line X.env=pure false:=by rfl)(hw:swappedStores [tg] e X.env=pure none:=by rfl)
  (h1:(assignEach [tg] X.env).map (·.2)=[assign tg X.env]:=by rfl):PS X (.Assign [tg] e pos) (Gy te g):=by
 intro pr s σ H D I h;refine wpAny_Assign_stores (Iw (he pr s σ H _ I h) fun v s1 ⟨x,H1,I1,r1,q1⟩=>?_) hs hw;rw[h1];exact Iw (hg pr s1 σ H1 x v _ I1 r1 q1) fun _ s2 q=>q
theorem Cp{i:Nat}{x:Str}{e:Expr}{te:TE}{pos':Pos}(hN:X.N.Nodup)(hi:X.N[i]?=some x)(hx:Loc X.env.scope x)(he:PE X e te)(hs:swapsWith e (some (.Name x pos')) pos.line X.env=pure false:=by rfl)(hf:X.fn x=true\/X.env.scope.names.lookup x=some .local:=by first|exact .inl rfl|exact .inr rfl|assumption):
  PS X (.Assign [.Name x pos'] e pos) (Gy te (Cm i)):=by
 intro pr s σ H D I h;refine wpAny_Assign_Name (Iw (he pr s σ H _ I h) fun v s1 ⟨y,H1,I1,r1,q1⟩=>?_) hs;exact qy I1 hN hi hx r1 (fun s2 I2=>⟨_,H1,I2,q1⟩) hf
end
section
variable{X:Cx}{pos:Pos}
def Cq(c:TT)(tb:TS):TS:=fun D σ H=>∃W:Nat->St->Hp->Prop,(∃m,W m σ H)/\∀m σ H,W m σ H->
 c σ H fun b H1=>if b=true then ∃N:St->Hp->Prop,(∀σ' H',N σ' H'->∃m',m'<m/\W m' σ' H')/\tb {D with nx:=N,ct:=N,bk:=D.nx} σ H1 else D.nx σ H1
theorem xc{c:Expr}{body:List Stmt}{tc:TT}{tb:TS}(hp:PassesOwn (model X.prog X.w) X.A X.env X.xe)(hc:PT X c tc)(hb:PSs X body tb):PS X (.While c body [] pos) (Cq tc tb):=by
 intro pr s σ H D I h;obtain⟨W,⟨m0,w0⟩,turn⟩:=h;refine wpAny_While (codeAny_whileLoop (fun n s'=>∃σ' H',Inv X pr σ' H' s'/\W n σ' H') ?_ m0 ⟨σ,H,I,w0⟩);rintro n s1 ⟨σ1,H1,I1,w1⟩;refine Vp hp (Iw (hc pr s1 σ1 H1 _ I1 (turn n σ1 H1 w1)) fun b s2 IB=>?_);obtain⟨H2,I2,q2⟩:=IB;cases b with
 |true=>
  obtain⟨N,hN,q2⟩:=q2;rw[TF rfl];refine Vp hp (Iw (hb pr s2 σ1 H2 _ I2 q2) fun f s3 q3=>?_);cases f with
  |next=>
   obtain⟨σ3,H3,I3,n3⟩:=q3;obtain⟨m',hm,w3⟩:=hN σ3 H3 n3;exact⟨m',hm,σ3,H3,I3,w3⟩
  |cont=>
   obtain⟨σ3,H3,I3,n3⟩:=q3;obtain⟨m',hm,w3⟩:=hN σ3 H3 n3;exact⟨m',hm,σ3,H3,I3,w3⟩
  |brk=>exact q3
  |ret v=>exact q3
 |false=>
  rw[TJ Tz];exact Wy ⟨σ1,H2,I2,q2⟩
end
structure It where
 go:Nat->Hp->Prop
 yld:Nat->Hp->V->Hp->Prop
 stop:Nat->Hp->Prop
def tW(X:Cx)(pr:List (Addr×Obj))(H:Hp)(b:Addr):Prop:=
 H b=none/\b≠X.env.locals/\b∉X.fs/\(b∈X.ex\/X.s₀.heap.objs.size<=b)/\(∀x c,X.env.cells.lookup x=some c->c≠b)/\∀p∈X.pn++pr,p.1≠b
theorem Inv.fpOk{X:Cx}{pr:List (Addr×Obj)}{σ:St}{H H':Hp}{s:Shared}{b:Addr}(I:Inv X pr σ H s)(hb:s.heap.objs.size<=b)(hn:H' b=none):tW X pr H' b:=by
 refine⟨hn,WI (TL I.lt hb),I.nofs hb,.inr (Uc I.sz hb),fun x c e z=>?_,fun p hp z=>?_⟩
 ·obtain⟨v,q⟩:=I.cell x c e;exact absurd (TL q.lt (by rw[z];exact hb)) (Vx _)
 ·exact absurd (TL (TH (I.pin p hp).1) (by rw[z];exact hb)) (Vx _)
structure Turn(P:Program)(w:World)(K:W.Frag)(tg:Expr)(J:It)(fp:List Addr)(it:Addr)(tn:Nat->Heap->Prop):Prop where
 mem:it∈fp
 obj:∀i h,tn i h->∀b∈fp,∃o,h.get? b=some o/\∀v,o.data≠.cell v
 keep:∀i h h',tn i h->(∀b∈fp,∀o,h.get? b=some o->h'.get? b=some o)->tn i h'
 item:∀(X:Cx),X.prog=P->X.w=w->X.K=K->X.calm=true->∀(i:Nat) (pr:List (Addr×Obj)) (s:Shared) (σ:St) (H:Hp) (E:Value->Shared->Prop),Inv X pr σ H s->(∀b∈fp,tW X pr H b)->tn i s.heap->J.go i H->
  wpAny (model P w) X.A (pyNext (.ref it)) (fun r s1=>∃u,r=some u/\
   wpAny (model P w) X.A (letOwnedTupleGo tg (.ref it) u) (fun _ s2=>∃x H',Inv X pr σ H' s2/\RelV x u/\J.yld i H x H'/\tn (i+1) s2.heap/\∀b∈fp,H' b=none) E s1) E s
 done:∀(X:Cx),X.prog=P->X.w=w->X.K=K->X.calm=true->∀(i:Nat) (pr:List (Addr×Obj)) (s:Shared) (σ:St) (H:Hp) (E:Value->Shared->Prop),Inv X pr σ H s->(∀b∈fp,tW X pr H b)->tn i s.heap->J.stop i H->
  wpAny (model P w) X.A (pyNext (.ref it)) (fun r s1=>r=none/\Inv X pr σ H s1) E s
 self:∀(A:Around) (i:Nat) (s:Shared) (Q:Value->Shared->Prop) (E:Value->Shared->Prop),tn i s.heap->Q (.ref it) s->wpAny (model P w) A (pyIter (.ref it)) Q E s
abbrev TI:=St->Hp->(It->Hp->Prop)->Prop
def Rw(X:Cx)(pr:List (Addr×Obj))(σ:St)(tg:Expr)(R:It->Hp->Prop)(QZ:Value)(s2:Shared):Prop:=
 ∃(it:Addr) (fp:List Addr) (tn:Nat->Heap->Prop) (J:It) (H':Hp),QZ=.ref it/\Inv X pr σ H' s2/\Turn X.prog X.w X.K tg J fp it tn/\tn 0 s2.heap/\(∀b∈fp,tW X pr H' b)/\R J H'
def PI(X:Cx)(tg iter:Expr)(wi:TI):Prop:=
 ∀(pr:List (Addr×Obj)) (s:Shared) (σ:St) (H:Hp) (R:It->Hp->Prop),Inv X pr σ H s->wi σ H R->
  wpAny (model X.prog X.w) X.A (eval iter X.env) (fun v s1=>wpAny (model X.prog X.w) X.A (pyIter v) (Rw X pr σ tg R) X.xe s1) X.xe s
theorem sv {M : Model} {A : Around} {E : Value -> Shared -> Prop} {s : Shared} {tg : Expr} {it : Addr} {u : Value} {o : Obj} {n : String} {vs : Array Value} {Q : Unit -> Shared -> Prop} (ho : s.heap.get? it = some o) (hc : o.cls = .type n) (hd : o.data = .fields vs)
    (hn : ["enumerate", "zip", "dict_itemiterator", "dict_reverseitemiterator", "odict_iterator", "itertools.zip_longest", "itertools.pairwise"].contains n = false) (hQ : Q () s) : wpAny M A (letOwnedTupleGo tg (.ref it) u) Q E s := by
  unfold letOwnedTupleGo
  cases tg <;> first
    | exact Tw hQ
    | (cases u <;> first
        | exact Tw hQ
        | (refine Tr (wpAny_load ho ?_)
           rw [hc, hd]
           show wpAny M A (if (["enumerate", "zip", "dict_itemiterator", "dict_reverseitemiterator", "odict_iterator", "itertools.zip_longest", "itertools.pairwise"].contains n && vs[0]? == some (rawInt _)) = true then _ else _) Q E s
           rw [TJ (by intro h; rw [hn, VL] at h; cases h)]
           exact Tw hQ))
def Po(K:W.Frag)(a:Addr):It:=
 ⟨fun i H=>∃xs x,SqL K H a xs/\xs[i]?=some x,fun i H x H'=>H'=H/\∀xs,SqL K H a xs->xs[i]?=some x,fun i H=>∃xs,SqL K H a xs/\xs.length<=i⟩
def Rx(K:W.Frag)(a:Addr):It:=
 ⟨fun i H=>∃xs x,SqT K H a xs/\xs[i]?=some x,fun i H x H'=>H'=H/\∀xs,SqT K H a xs->xs[i]?=some x,fun i H=>∃xs,SqT K H a xs/\xs.length<=i⟩
def PL(lo:Int)(n:Nat):It:=⟨fun i _=>i<n,fun i H x H'=>H'=H/\x=.int (lo+i),fun i _=>n<=i⟩
theorem ue{P:Program}{w:World}{K:W.Frag}{tg:Expr}(a it:Addr):Turn P w K tg (Po K a) [it] it (fun i h=>h.IsListIter it a i) where
 mem:=by simp
 obj:=fun i h st b hb=>by
  have e:b=it:=by simpa using hb
  subst e;obtain⟨o,e,c,d⟩:=st;exact⟨o,e,fun v z=>by rw[d]at z;cases z⟩
 keep:=fun i h h' st k=>st.at fun o e=>k it (by simp) o e
 item:=by
  intro X hP hw hK hc i pr s σ H E I hf st hg;subst hP hw hK;obtain⟨xs,x,hq,hx⟩:=hg;obtain⟨Ic,rv,p,hz⟩:=I.list hq;obtain⟨u,hu,ru⟩:=rv.get hx;obtain⟨f0,f1,f2,f3,f4,f5⟩:=hf it (by simp);refine wpAny_pyNext_list_item st p.isList (x:=u) (by simpa using hu) fun h' J6 sb=>?_
  have I1:Inv X pr σ H {s with heap:=h'}:=I.turned (t':=s.toks) (fun b o hb e=>(sb.2 b hb).trans e) f0 f1 f3 f4 f5;obtain⟨o,e,c,d⟩:=id J6;exact⟨u,rfl,sv (s:={s with heap:=h'}) e c d (by decide) ⟨x,H,I1,ru,⟨rfl,fun ys hy=>by rw[I.list_inj hy hq];exact hx⟩,J6,fun b hb=>(hf b hb).1⟩⟩
 done:=by
  intro X hP hw hK hc i pr s σ H E I hf st hg;subst hP hw hK;obtain⟨xs,hq,hx⟩:=hg;obtain⟨Ic,rv,p,hz⟩:=I.list hq;obtain⟨f0,f1,f2,f3,f4,f5⟩:=hf it (by simp);have hl:=rv.length;exact wpAny_pyNext_list_end (I.ok.hd hc) st p.isList (by simp;lia) fun h' eb=>⟨rfl,I.turned (t':=s.toks) (fun b o hb e=>eb b o hb e) f0 f1 f3 f4 f5⟩
 self:=fun _ _ _ _ _ st h=>wpAny_pyIter_listiter st h
theorem sx{P:Program}{w:World}{K:W.Frag}{tg:Expr}(a it:Addr):Turn P w K tg (Rx K a) [it] it (fun i h=>h.IsTupleIter it a i) where
 mem:=by simp
 obj:=fun i h st b hb=>by
  have e:b=it:=by simpa using hb
  subst e;obtain⟨o,e,c,d⟩:=st;exact⟨o,e,fun v z=>by rw[d]at z;cases z⟩
 keep:=fun i h h' st k=>st.at fun o e=>k it (by simp) o e
 item:=by
  intro X hP hw hK hc i pr s σ H E I hf st hg;subst hP hw hK;obtain⟨xs,x,hq,hx⟩:=hg;obtain⟨Ic,rv,p,hz⟩:=I.tuple hq;obtain⟨u,hu,ru⟩:=rv.get hx;obtain⟨f0,f1,f2,f3,f4,f5⟩:=hf it (by simp);refine wpAny_pyNext_tuple_item st (show s.heap.IsTuple a Ic.toArray from p) (x:=u) (by simpa using hu) fun h' J6 sb=>?_
  have I1:Inv X pr σ H {s with heap:=h'}:=I.turned (t':=s.toks) (fun b o hb e=>(sb.2 b hb).trans e) f0 f1 f3 f4 f5;obtain⟨o,e,c,d⟩:=id J6;exact⟨u,rfl,sv (s:={s with heap:=h'}) e c d (by decide) ⟨x,H,I1,ru,⟨rfl,fun ys hy=>by rw[I.tuple_inj hy hq];exact hx⟩,J6,fun b hb=>(hf b hb).1⟩⟩
 done:=by
  intro X hP hw hK hc i pr s σ H E I hf st hg;subst hP hw hK;obtain⟨xs,hq,hx⟩:=hg;obtain⟨Ic,rv,p,hz⟩:=I.tuple hq;obtain⟨f0,f1,f2,f3,f4,f5⟩:=hf it (by simp);have hl:=rv.length;exact wpAny_pyNext_tuple_end (I.ok.hd hc) st (show s.heap.IsTuple a Ic.toArray from p) (by simp;lia) fun h' eb=>⟨rfl,I.turned (t':=s.toks) (fun b o hb e=>eb b o hb e) f0 f1 f3 f4 f5⟩
 self:=fun _ _ _ _ _ st h=>wpAny_pyIter_tupleiter st h
theorem sy{P:Program}{w:World}{K:W.Frag}{tg:Expr}(it:Addr)(lo:Int)(n:Nat):Turn P w K tg (PL lo n) [it] it (fun i h=>IsRangeIter h it (lo+(i:Nat)*1) ((n:Int)-(i:Nat)) 1) where
 mem:=by simp
 obj:=fun i h st b hb=>by
  have e:b=it:=by simpa using hb
  subst e;exact⟨_,st,fun v z=>by
   have z':Data.fields _=Data.cell v:=z;cases z'⟩
 keep:=fun i h h' st k=>k it (by simp) _ st
 item:=by
  intro X hP hw hK hc i pr s σ H E I hf st hg;subst hP hw hK;obtain⟨f0,f1,f2,f3,f4,f5⟩:=hf it (by simp);have W:=Walks.range (prog:=X.prog) (w:=X.w) (I.ok.hd hc) it lo 1 n;refine W.item i s _ _ hg st fun v h' tk hv J6 kk=>?_
  obtain⟨t,rfl⟩:=hv;have I1:Inv X pr σ H {s with heap:=h',toks:=tk}:=I.turned (fun b o hb e=>kk b o (by simpa using hb) e) f0 f1 f3 f4 f5;refine⟨_,rfl,sv (s:={s with heap:=h',toks:=tk}) (n:="range_iterator") J6 rfl rfl (by decide) ⟨.int (lo+i),H,I1,⟨t,?_⟩,⟨rfl,rfl⟩,J6,fun b hb=>(hf b hb).1⟩⟩;rw[Int.mul_one]
 done:=by
  intro X hP hw hK hc i pr s σ H E I hf st hg;subst hP hw hK;obtain⟨f0,f1,f2,f3,f4,f5⟩:=hf it (by simp);exact wpAny_pyNext_range_end (I.ok.hd hc) st (by have:n<=i:=hg;lia) fun h' eb=>⟨rfl,I.turned (t':=s.toks) (fun b o hb e=>eb b o hb e) f0 f1 f3 f4 f5⟩
 self:=fun _ _ _ _ _ st h=>wpAny_pyIter_rangeiter st h
section
variable{X:Cx}{tg:Expr}
def E7(K:W.Frag)(tl:TE):TI:=fun σ H R=>tl σ H fun x H1=>∃a,x=.ref a/\(∃xs,SqL K H1 a xs)/\R (Po K a) H1
def Hf(K:W.Frag)(tl:TE):TI:=fun σ H R=>tl σ H fun x H1=>∃a,x=.ref a/\(∃xs,SqT K H1 a xs)/\R (Rx K a) H1
theorem uf{l:Expr}{tl:TE}(hl:PE X l tl):PI X tg l (E7 X.K tl):=by
 intro pr s σ H R I h;refine Iw (hl pr s σ H _ I h) fun v s1 IB=>?_
 obtain⟨x,H1,I1,r1,q1⟩:=IB;obtain⟨a,e,⟨xs,hq⟩,q⟩:=q1;subst e;cases r1;obtain⟨Ic,rv,p,hz⟩:=I1.list hq;refine Vq p.isList ?_;refine⟨s1.heap.objs.size,[s1.heap.objs.size],_,_,H1,rfl,I1.kept (t':=s1.toks) fun b o e=>Heap.get?_push_of_some _ e,ue a _,⟨_,Heap.get?_push_size _ rfl,rfl,rfl⟩,fun b hb=>?_,q⟩;have e:b=s1.heap.objs.size:=by simpa using hb
 subst e;exact I1.fpOk (TB _) (I1.hok.fresh (TB _))
theorem Cr{l:Expr}{tl:TE}(hl:PE X l tl):PI X tg l (Hf X.K tl):=by
 intro pr s σ H R I h;refine Iw (hl pr s σ H _ I h) fun v s1 IB=>?_
 obtain⟨x,H1,I1,r1,q1⟩:=IB;obtain⟨a,e,⟨xs,hq⟩,q⟩:=q1;subst e;cases r1;obtain⟨Ic,rv,p,hz⟩:=I1.tuple hq;refine Vh (show s1.heap.IsTuple a Ic.toArray from p) ?_;refine⟨s1.heap.objs.size,[s1.heap.objs.size],_,_,H1,rfl,I1.kept (t':=s1.toks) fun b o e=>Heap.get?_push_of_some _ e,sx a _,⟨_,Heap.get?_push_size _ rfl,rfl,rfl⟩,fun b hb=>?_,q⟩;have e:b=s1.heap.objs.size:=by simpa using hb
 subst e;exact I1.fpOk (TB _) (I1.hok.fresh (TB _))
theorem qz{pr:List (Addr×Obj)}{σ:St}{H:Hp}{s:Shared}{R:It->Hp->Prop}{E:Value->Shared->Prop}{lo hi:Int}{t u v:Tok}{tk:Nat}(I:Inv X pr σ H s)(h1:-(2 ^ 62)<=lo)(h2:lo<2 ^ 62)(h3:-(2 ^ 62)<=hi)(h4:hi<2 ^ 62)
  (q:R (PL lo (hi-lo).toNat) H):wpAny (model X.prog X.w) X.A (pyIter (.ref s.heap.objs.size)) (Rw X pr σ tg R) E {s with heap:=s.heap.push {cls:=.type "range",data:=.fields #[.int lo t,.int hi u,.int 1 v]},toks:=tk}:=by
 refine wpAny_pyIter_range (IsRange.new ..) (small_one h1 h2 h3 h4) ?_;have I1:Inv X pr σ H {s with heap:=s.heap.push {cls:=.type "range",data:=.fields #[.int lo t,.int hi u,.int 1 v]},toks:=tk}:=I.kept fun b o e=>Heap.get?_push_of_some _ e
 refine⟨(s.heap.push {cls:=.type "range",data:=.fields #[.int lo t,.int hi u,.int 1 v]}).objs.size,[(s.heap.push {cls:=.type "range",data:=.fields #[.int lo t,.int hi u,.int 1 v]}).objs.size],_,_,H,rfl,
  I1.kept (t':=tk) fun b o e=>Heap.get?_push_of_some _ e,sy _ lo (hi-lo).toNat,?_,fun b hb=>?_,q⟩
 ·have e1:lo+((0:Nat):Int)*1=lo:=by simp
  have e2:(((hi-lo).toNat:Nat):Int)-((0:Nat):Int)=Builtin.Range.rangeSize lo hi 1:=by rw[rangeSize_one];split <;> lia
  show IsRangeIter _ _ (lo+((0:Nat):Int)*1) ((((hi-lo).toNat:Nat):Int)-((0:Nat):Int)) 1;rw[e1,e2];exact Heap.get?_push_size _ rfl
 ·have e:b=(s.heap.push {cls:=.type "range",data:=.fields #[.int lo t,.int hi u,.int 1 v]}).objs.size:=by simpa using hb
  subst e;exact I1.fpOk (TB _) (I1.hok.fresh (TB _))
def E8(ta:TA):TI:=fun σ H R=>ta σ H fun vs H1=>∃j:Int,vs=[.int j]/\-(2 ^ 62)<=j/\j<2 ^ 62/\R (PL 0 j.toNat) H1
def E9(ta:TA):TI:=fun σ H R=>ta σ H fun vs H1=>∃i j:Int,vs=[.int i,.int j]/\(-(2 ^ 62)<=i/\i<2 ^ 62/\-(2 ^ 62)<=j/\j<2 ^ 62)/\R (PL i (j-i).toNat) H1
theorem ug{a:Expr}{ta:TA}{p pos:Pos}(hg:Gl X "range")(hm:X.mg "range" = none)(ha:PA X [a] ta)(hs:starEach [a] X.env=[(false,eval a X.env)]:=by rfl):PI X tg (.Call (.Name "range" p) [a] [] pos) (E8 ta):=by
 intro pr s σ H R I h;refine Call_ (gX I hg hm boot_range (Uu (Iw (ha pos pr s σ H _ I h) fun us s1 ⟨vs,H1,I1,r1,q1⟩=>?_) hs rfl));obtain⟨j,e,q1,q2,q⟩:=q1;subst e;cases r1 with
 |cons r rr=>
  cases rr;obtain⟨t,rfl⟩:=r;exact call_range_1 (qz I1 (by lia) (by lia) q1 q2 (by simpa using q))
theorem uh{a b:Expr}{ta:TA}{p pos:Pos}(hg:Gl X "range")(hm:X.mg "range" = none)(ha:PA X [a,b] ta)(hs:starEach [a,b] X.env=[(false,eval a X.env),(false,eval b X.env)]:=by rfl)(L3:starEach [b] X.env=[(false,eval b X.env)]:=by rfl):
  PI X tg (.Call (.Name "range" p) [a,b] [] pos) (E9 ta):=by
 intro pr s σ H R I h;refine Call_ (gX I hg hm boot_range (Uu (Iw (ha pos pr s σ H _ I h) fun us s1 ⟨vs,H1,I1,r1,q1⟩=>?_) (by rw[hs,L3]) (by rw[L3];rfl)));obtain⟨i,j,e,⟨q1,q2,q3,q4⟩,q⟩:=q1;subst e;cases r1 with
 |cons r rr=>
  cases rr with
  |cons r' rr=>
   cases rr;obtain⟨t,rfl⟩:=r;obtain⟨t',rfl⟩:=r';exact call_range_2 (qz I1 q1 q2 q3 q4 q)
noncomputable def Hg(wi:TI)(g:TG)(tb:TS):TS:=fun D σ H=>wi σ H fun J H1=>∃W:Nat->Nat->St->Hp->Prop,(∃m,W 0 m σ H1)/\∀i m σ H,W i m σ H->
 (J.stop i H/\D.nx σ H)\/(J.go i H/\∃N:St->Hp->Prop,(∀σ' H',N σ' H'->∃m',m'<m/\W (i+1) m' σ' H')/\∀x H',J.yld i H x H'->g x σ H' fun σ2 H2=>tb {D with nx:=N,ct:=N,bk:=D.nx} σ2 H2)
def nq(fp:List Addr)(h:Heap):List (Addr×Obj):=fp.filterMap fun b=>(h.get? b).map fun o=>(b,o)
theorem gC{fp:List Addr}{h:Heap}{b:Addr}{o:Obj}(hb:b∈fp)(e:h.get? b=some o):(b,o)∈nq fp h:=WJ.mpr ⟨b,hb,by rw[e];rfl⟩
theorem uk{fp:List Addr}{h:Heap}{p:Addr×Obj}(hp:p∈nq fp h):p.1∈fp/\h.get? p.1=some p.2:=by
 obtain⟨b,hb,e⟩:=WJ.mp hp;cases q:h.get? b with
 |none=>rw[q]at e;cases e
 |some o=>
  rw[q]at e;have e':(b,o)=p:=TX e;subst e';exact⟨hb,q⟩
theorem Inv.pinned{pr:List (Addr×Obj)}{σ:St}{H:Hp}{s:Shared}{fp:List Addr}(I:Inv X pr σ H s)(hf:∀b∈fp,tW X pr H b)(ho:∀b∈fp,∃o,s.heap.get? b=some o/\∀v,o.data≠.cell v):Inv X (pr++nq fp s.heap) σ H s:=
 I.pins_of fun p hp=>(Ue.mp hp).elim (fun z=>I.pin p (Tv _ z)) fun z=>by
  obtain⟨hb,e⟩:=uk z;obtain⟨f0,f1,f2,_⟩:=hf p.1 hb;obtain⟨o,e',d⟩:=ho p.1 hb;rw[e]at e';cases e';exact⟨e,f0,f1,f2,d⟩
theorem Inv.unpinned{pr pl:List (Addr×Obj)}{σ:St}{H:Hp}{s:Shared}(I:Inv X (pr++pl) σ H s):Inv X pr σ H s:=I.pins_of fun p hp=>I.pin p (Tv _ (TC _ hp))
theorem yH{iter:Expr}{body:List Stmt}{wi:TI}{g:TG}{tb:TS}{pos:Pos}(hp:PassesOwn (model X.prog X.w) X.A X.env X.xe)(hc:X.calm=true)(hi:PI X tg iter wi)(hg:PG X tg g)(hb:PSs X body tb)
  (hs:∀x,foldedSetIterable iter X.env x=pure x:=by intro _;rfl):PS X (.For tg iter body [] pos) (Hg wi g tb):=by
 intro pr s σ H D I h;refine wpAny_For (Iw (hi pr s σ H _ I h) fun v s1 h1=>Iw h1 fun QZ s2 h2=>?_) hs;obtain⟨it,fp,tn,J,H2,e,I2,T,Ii,f2,W,⟨m0,w0⟩,turn⟩:=h2;subst e;have Lu:∀{H':Hp},(∀b∈fp,H' b=none)->∀b∈fp,tW X pr H' b:=fun hn b hb=>⟨hn b hb,(f2 b hb).2⟩
 refine codeAny_forLoop_any (fun n s'=>∃i σ' H',Inv X pr σ' H' s'/\tn i s'.heap/\(∀b∈fp,H' b=none)/\W i n σ' H') ?_ m0 ⟨0,σ,H2,I2,Ii,fun b hb=>(f2 b hb).1,w0⟩;rintro n s3 ⟨i,σ3,H3,I3,IK,PM,w3⟩;rcases turn i n σ3 H3 w3 with⟨stop,qn⟩|⟨go,N,hN,step⟩
 ·refine Vp hp (Iw (T.done X rfl rfl rfl hc i pr s3 σ3 H3 X.xe I3 (Lu PM) IK stop) fun r s4 IB=>?_);obtain⟨hr,I4⟩:=IB;subst hr;exact Wy ⟨σ3,H3,I4,qn⟩
 ·refine Vp hp (Iw (T.item X rfl rfl rfl hc i pr s3 σ3 H3 X.xe I3 (Lu PM) IK go) fun r s4 IB=>?_);obtain⟨u,hr,h4⟩:=IB;subst hr;refine Vp hp (Iw h4 fun _ s5 IB=>?_);obtain⟨x,H5,I5,r5,y5,Ku,Ry⟩:=IB;have Rz:=I5.pinned (Lu Ry) (T.obj _ _ Ku);refine Vp hp (Iw (hg _ s5 σ3 H5 x u _ Rz r5 (step x H5 y5)) fun _ s6 IB=>?_);obtain⟨σ6,H6,I6,q6⟩:=IB;refine Vp hp (Iw (hb _ s6 σ6 H6 _ I6 q6) fun f s7 q7=>?_);have again:∀{σ7:St}{H7:Hp},Inv X (pr++nq fp s5.heap) σ7 H7 s7->N σ7 H7->∃m,m<n/\∃i σ' H',Inv X pr σ' H' s7/\tn i s7.heap/\(∀b∈fp,H' b=none)/\W i m σ' H':=fun{σ7 H7} I7 n7=>by
   obtain⟨m',hm,w7⟩:=hN σ7 H7 n7;refine⟨m',hm,i+1,σ7,H7,I7.unpinned,T.keep _ _ _ Ku fun b hb o e=>(I7.pin (b,o) (Tv _ (Tv _ (gC hb e)))).1,fun b hb=>?_,w7⟩;obtain⟨o,e,d⟩:=T.obj _ _ Ku b hb;exact(I7.pin (b,o) (Tv _ (Tv _ (gC hb e)))).2.1
  cases f with
  |next=>obtain⟨σ7,H7,I7,n7⟩:=q7;exact again I7 n7
  |cont=>obtain⟨σ7,H7,I7,n7⟩:=q7;exact again I7 n7
  |brk=>obtain⟨σ7,H7,I7,q7⟩:=q7;exact⟨σ7,H7,I7.unpinned,q7⟩
  |ret v=>obtain⟨x7,σ7,H7,I7,r7,q7⟩:=q7;exact⟨x7,σ7,H7,I7.unpinned,r7,q7⟩
end
theorem for_list{K:W.Frag}{a:Addr}{xs:List V}{g:TG}{tb:TS}{D:Ends}{σ:St}{H:Hp}(Pv:Nat->St->Hp->Prop)(h0:Pv 0 σ H)(hl:∀i σ H,i<=xs.length->Pv i σ H->SqL K H a xs)
  (hs:∀i x σ H,xs[i]?=some x->Pv i σ H->g x σ H fun σ2 H2=>tb {D with nx:=Pv (i+1),ct:=Pv (i+1),bk:=D.nx} σ2 H2) (hd:∀σ H,Pv xs.length σ H->D.nx σ H):
  ∃W:Nat->Nat->St->Hp->Prop,(∃m,W 0 m σ H)/\∀i m σ H,W i m σ H->
   ((Po K a).stop i H/\D.nx σ H)\/((Po K a).go i H/\∃N:St->Hp->Prop,(∀σ' H',N σ' H'->∃m',m'<m/\W (i+1) m' σ' H')/\∀x H',(Po K a).yld i H x H'->g x σ H' fun σ2 H2=>tb {D with nx:=N,ct:=N,bk:=D.nx} σ2 H2):=by
 refine⟨fun i m σ H=>m=xs.length-i/\i<=xs.length/\Pv i σ H,⟨xs.length,by simp,Ug _,h0⟩,?_⟩;rintro i m σ H ⟨rfl,hi,p⟩;have q:=hl i σ H hi p;by_cases IQ:i<xs.length
 ·refine .inr ⟨⟨xs,xs[i],q,by simp[IQ]⟩,Pv (i+1),fun σ' H' p'=>⟨xs.length-(i+1),by lia,rfl,IQ,p'⟩,fun x H' y=>?_⟩;obtain⟨e,y⟩:=y;subst e;exact hs i x σ _ (y xs q) p
 ·have e:i=xs.length:=by lia
  subst e;exact .inl ⟨⟨xs,q,TB _⟩,hd σ H p⟩
abbrev R2:=V->V->Hp->VK->Prop
def IZ(X:Cx)(f:Value->Value->Sem Value)(r:R2):Prop:=
 ∀(pr:List (Addr×Obj)) (s:Shared) (σ:St) (H:Hp) (x y:V) (v u:Value) (Q:VK),Inv X pr σ H s->RelV x v->RelV y u->r x y H Q->
  wpAny (model X.prog X.w) X.A (f v u) (EP X pr σ Q) X.xe s
def RA(X:Cx)(f:Value->Sem Value)(r:V->Hp->VK->Prop):Prop:=
 ∀(pr:List (Addr×Obj)) (s:Shared) (σ:St) (H:Hp) (x:V) (v:Value) (Q:VK),Inv X pr σ H s->RelV x v->r x H Q->
  wpAny (model X.prog X.w) X.A (f v) (EP X pr σ Q) X.xe s
def dJ(X:Cx)(f:Value)(r:List V->Hp->VK->Prop):Prop:=
 ∀(pr:List (Addr×Obj)) (s:Shared) (σ:St) (H:Hp) (xs:List V) (us:List Value) (Q:VK),Inv X pr σ H s->Vals xs us->r xs H Q->
  wpAny (model X.prog X.w) X.A (call f us) (EP X pr σ Q) X.xe s
def Pp(r:R2)(ta tb:TE):TE:=fun σ H Q=>ta σ H fun x H1=>tb σ H1 fun y H2=>r x y H2 Q
def tUn(r:V->Hp->VK->Prop)(ta:TE):TE:=fun σ H Q=>ta σ H fun x H1=>r x H1 Q
def rI(C:Int->Int->Prop)(g:Int->Int->V):R2:=fun x y H Q=>∃i j,x=.int i/\y=.int j/\C i j/\Q (g i j) H
def Om(g:Int->Int->V):R2:=fun x y H Q=>∃i j,x=.int i/\y=.int j/\Q (g i j) H
def rU(g:Int->V):V->Hp->VK->Prop:=fun x H Q=>∃i,x=.int i/\Q (g i) H
section
variable{X:Cx}{a b c:Expr}{ta tb tc:TE}{pos:Pos}
theorem Fb(ha:PE X a ta)(hb:PE X b tb){pr:List (Addr×Obj)}{s:Shared}{σ:St}{H:Hp}{R:V->V->Hp->Prop}(I:Inv X pr σ H s)
  (h:ta σ H fun x H1=>tb σ H1 fun y H2=>R x y H2) {Q:Value->Shared->Prop}{f:Value->Value->Sem Value}
  (hf:∀v u s2 x y H2,Inv X pr σ H2 s2->RelV x v->RelV y u->R x y H2->wpAny (model X.prog X.w) X.A (f v u) Q X.xe s2):
  wpAny (model X.prog X.w) X.A (eval a X.env) (fun v s₁=>wpAny (model X.prog X.w) X.A (eval b X.env) (fun u s₂=>wpAny (model X.prog X.w) X.A (f v u) Q X.xe s₂) X.xe s₁) X.xe s:=by
 refine Iw (ha pr s σ H _ I h) fun v s1 IB=>?_
 obtain⟨x,H1,I1,r1,q1⟩:=IB;refine Iw (hb pr s1 σ H1 _ I1 q1) fun u s2 IB=>?_
 obtain⟨y,H2,I2,r2,q2⟩:=IB;exact hf v u s2 x y H2 I2 r1 r2 q2
theorem Fc{op:Operator}{r:R2}(ho:IZ X (binaryOp op) r)(ha:PE X a ta)(hb:PE X b tb):PE X (.BinOp a op b pos) (Pp r ta tb):=by
 intro pr s σ H Q I h;exact wpAny_BinOp (Fb ha hb I h fun v u s2 x y H2 I2 rx ry q=>ho pr s2 σ H2 x y v u Q I2 rx ry q)
theorem Fd{op:UnaryOp}{r:V->Hp->VK->Prop}(ho:RA X (unaryOp op) r)(ha:PE X a ta):PE X (.UnaryOp op a pos) (tUn r ta):=by
 intro pr s σ H Q I h;exact UnaryOp_ (Iw (ha pr s σ H _ I h) fun v s1 ⟨x,H1,I1,r1,q1⟩=>ho pr s1 σ H1 x v Q I1 r1 q1)
theorem PN{f:Value->Value->Sem Value}{C:Int->Int->Prop}{g:Int->Int->Int}
  (rule:∀(i j:Int) (t u:Tok) (s:Shared) (Q:Value->Shared->Prop) (E:Value->Shared->Prop),C i j->Q (.int (g i j) s.toks) {s with toks:=s.toks+1}->wpAny (model X.prog X.w) X.A (f (.int i t) (.int j u)) Q E s):
  IZ X f (rI C fun i j=>.int (g i j)):=by
 intro pr s σ H x y v u Q I rx ry h;obtain⟨i,j,rfl,rfl,hc,q⟩:=h;obtain⟨t,rfl⟩:=rx;obtain⟨t',rfl⟩:=ry;exact rule i j t t' s _ _ hc ⟨.int (g i j),H,I.tok _,⟨_,rfl⟩,q⟩
theorem Gz{f:Value->Value->Sem Value}{g:Int->Int->Int}
  (rule:∀(i j:Int) (t u:Tok) (s:Shared) (Q:Value->Shared->Prop) (E:Value->Shared->Prop),Q (.int (g i j) s.toks) {s with toks:=s.toks+1}->wpAny (model X.prog X.w) X.A (f (.int i t) (.int j u)) Q E s):
  IZ X f (Om fun i j=>.int (g i j)):=by
 intro pr s σ H x y v u Q I rx ry h;obtain⟨i,j,rfl,rfl,q⟩:=h;obtain⟨t,rfl⟩:=rx;obtain⟨t',rfl⟩:=ry;exact rule i j t t' s _ _ ⟨.int (g i j),H,I.tok _,⟨_,rfl⟩,q⟩
theorem Fe{f:Value->Value->Sem Value}{g:Int->Int->Bool}
  (rule:∀(i j:Int) (t u:Tok) (s:Shared) (Q:Value->Shared->Prop) (E:Value->Shared->Prop),Q (.bool (g i j)) s->wpAny (model X.prog X.w) X.A (f (.int i t) (.int j u)) Q E s):
  IZ X f (Om fun i j=>.bl (g i j)):=by
 intro pr s σ H x y v u Q I rx ry h;obtain⟨i,j,rfl,rfl,q⟩:=h;obtain⟨t,rfl⟩:=rx;obtain⟨t',rfl⟩:=ry;exact rule i j t t' s _ _ ⟨.bl (g i j),H,I,rfl,q⟩
def Hh(i j:Int):Prop:=0<j/\j<1073741824
def Hi(i j:Int):Prop:=0<=j/\j<=1000000/\i.natAbs<2 ^ 64
def CMul(i j:Int):Prop:=(-(2 ^ 64)<i/\i<2 ^ 64)\/(-(2 ^ 64)<j/\j<2 ^ 64)
theorem CMul.ok{i j:Int}(h:CMul i j):IntMulOk i j:=by
 rcases h with⟨h1,h2⟩|⟨h1,h2⟩
 ·exact .of_left (intBits_le_64 h1 h2)
 ·exact .of_right (intBits_le_64 h1 h2)
theorem Cs:IZ X (binaryOp .Add) (Om fun i j=>.int (i+j)):=Gz fun _ _ _ _ _ _ _ q=>add_int q
theorem Cu:IZ X (binaryOp .Sub) (Om fun i j=>.int (i-j)):=Gz fun _ _ _ _ _ _ _ q=>sub_int q
theorem Cv:IZ X (binaryOp .Mult) (rI CMul fun i j=>.int (i*j)):=PN fun _ _ _ _ _ _ _ hc q=>mul_int q hc.ok
theorem zN:IZ X (binaryOp .FloorDiv) (rI Hh fun i j=>.int (i / j)):=PN fun i j _ _ _ _ _ hc q=>by
 have h1:(0:Int)<j:=hc.1;have h2:j<1073741824:=hc.2;exact floordiv_int (by lia) (by rw[Int.fdiv_eq_ediv_of_nonneg i (by lia)];exact q) (.inl (PyProof.noPylong_small (by lia)))
theorem Cw:IZ X (binaryOp .Mod) (rI (fun _ j=>0<j) fun i j=>.int (i%j)):=PN fun i j _ _ _ _ _ hc q=>by
 have h1:(0:Int)<j:=hc;exact mod_int' (by lia) (by rw[Int.fmod_eq_emod_of_nonneg i (by lia)];exact q)
theorem Cy:IZ X (binaryOp .Pow) (rI Hi fun i j=>.int (i ^ j.toNat)):=PN fun _ _ _ _ _ _ _ hc q=>pow_int_small hc.1 hc.2.1 hc.2.2 q
theorem unI{f:Value->Sem Value}{g:Int->Int}
  (rule:∀(i:Int) (t:Tok) (s:Shared) (Q:Value->Shared->Prop) (E:Value->Shared->Prop),Q (.int (g i) s.toks) {s with toks:=s.toks+1}->wpAny (model X.prog X.w) X.A (f (.int i t)) Q E s):
  RA X f (rU fun i=>.int (g i)):=by
 intro pr s σ H x v Q I rx h;obtain⟨i,rfl,q⟩:=h;obtain⟨t,rfl⟩:=rx;exact rule i t s _ _ ⟨.int (g i),H,I.tok _,⟨_,rfl⟩,q⟩
theorem Cz:RA X (unaryOp .USub) (rU fun i=>.int (-i)):=unI fun _ _ _ _ _ q=>neg_int q
end
section
variable{X:Cx}{a b c:Expr}{ta tb tc:TE}{pos:Pos}
theorem um{pr:List (Addr×Obj)}{σ:St}{H:Hp}{s:Shared}{Q:VK}{k k':Bool}(I:Inv X pr σ H s)(q:Q (.bl k) H)(e:k=k'):EP X pr σ Q (.bool k') s:=by
 subst e;exact⟨.bl k,H,I,rfl,q⟩
theorem Ff:IZ X (compareOp .Lt) (Om fun i j=>.bl (decide (i<j))):=Fe fun _ _ _ _ _ _ _ q=>lt_int q
theorem Fg:IZ X (compareOp .Gt) (Om fun i j=>.bl (decide (j<i))):=Fe fun _ _ _ _ _ _ _ q=>gt_int q
theorem Fh:IZ X (compareOp .GtE) (Om fun i j=>.bl (decide (j<=i))):=Fe fun _ _ _ _ _ _ _ q=>ge_int q
theorem uo:IZ X (compareOp .Lt) (fun x y H Q=>∃i j,x=.str i/\y=.str j/\Q (.bl (decide (i.cps.toList<j.cps.toList))) H):=by
 intro pr s σ H x y v u Q I rx ry h;obtain⟨i,j,rfl,rfl,q⟩:=h;obtain⟨t,rfl⟩:=rx;obtain⟨t',rfl⟩:=ry;exact lt_str (um I q rfl)
theorem uq:IZ X (compareOp .In) (fun x y H Q=>∃i j,x=.str i/\y=.str j/\Q (.bl (!(Builtin.Str.occurrences j i 0 j.length 1).isEmpty)) H):=by
 intro pr s σ H x y v u Q I rx ry h;obtain⟨i,j,rfl,rfl,q⟩:=h;obtain⟨t,rfl⟩:=rx;obtain⟨t',rfl⟩:=ry;exact in_str (um I q rfl)
theorem nr:IZ X (compareOp .NotIn) (fun x y H Q=>∃i j,x=.str i/\y=.str j/\Q (.bl (!(!(Builtin.Str.occurrences j i 0 j.length 1).isEmpty))) H):=by
 intro pr s σ H x y v u Q I rx ry h;obtain⟨i,j,rfl,rfl,q⟩:=h;obtain⟨t,rfl⟩:=rx;obtain⟨t',rfl⟩:=ry;exact notIn_str (um I q rfl)
theorem bc(b:Expr){op:CmpOp}(h:op≠.In:=by decide)(h2:op≠.NotIn:=by decide):behindInMarks op b=false:=by
 have e1:(op==CmpOp.In)=false:=by cases op <;> first|rfl|exact absurd rfl h
 have e2:(op==CmpOp.NotIn)=false:=by cases op <;> first|rfl|exact absurd rfl h2
 cases b <;> simp[behindInMarks,e1,e2]
theorem ur{op:CmpOp}{r:R2}(ho:IZ X (compareOp op) r)(ha:PE X a ta)(hb:PE X b tb)(hm:behindInMarks op b=false):PE X (.Compare a [op] [b] pos) (Pp r ta tb):=by
 intro pr s σ H Q I h;exact wpAny_Compare1 (Fb ha hb I h fun v u s2 x y H2 I2 rx ry q=>ho pr s2 σ H2 x y v u Q I2 rx ry q) hm
def Fi(t:TE):TT:=fun σ H Q=>t σ H fun x H'=>∃k,x=.bl k/\Q k H'
theorem uu{op:CmpOp}{r:R2}(ho:IZ X (compareOp op) r)(ha:PE X a ta)(hb:PE X b tb)(hm:behindInMarks op b=false):PT X (.Compare a [op] [b] pos) (Fi (Pp r ta tb)):=by
 intro pr s σ H Q I h;refine wpAny_isTrue_Compare1 (Iw (ha pr s σ H _ I h) fun v s1 ⟨x,H1,I1,r1,q1⟩=>Iw (hb pr s1 σ H1 _ I1 q1) fun u s2 ⟨y,H2,I2,r2,q2⟩=>
  Iw (ho pr s2 σ H2 x y v u _ I2 r1 r2 q2) fun c s3 ⟨z,H3,I3,r3,k,e,q3⟩=>?_) hm
 subst e;cases r3;exact Vo ⟨H3,I3,q3⟩
theorem lx:(sizeLine:Nat)<2 ^ 63:=by rw[UB];decide
theorem sH:IZ X (binaryOp .Add) (fun x y H Q=>∃i j,x=.str i/\y=.str j/\i.length+j.length<=sizeLine/\Q (.str (i++j)) H):=by
 intro pr s σ H x y v u Q I rx ry h;obtain⟨i,j,rfl,rfl,hz,q⟩:=h;obtain⟨t,rfl⟩:=rx;obtain⟨t',rfl⟩:=ry;exact add_str (fun t' tk=>⟨.str (i++j),H,I.tok _,⟨_,rfl⟩,q⟩) hz
theorem fN{x:V}{us:List Value}(r:Vals [x] us):∃u,us=[u]/\RelV x u:=by
 cases r with
 |cons r1 r2=>cases r2;exact⟨_,rfl,r1⟩
theorem zO{x y:V}{us:List Value}(r:Vals [x,y] us):∃u w',us=[u,w']/\RelV x u/\RelV y w':=by
 cases r with
 |cons r1 r2=>
  cases r2 with
  |cons r3 r4=>cases r4;exact⟨_,_,rfl,r1,r3⟩
end
section
variable{prog:Program}{w:World}{A:Around}{E:Value->Shared->Prop}{s:Shared}{K:W.Frag}{x dx C f:Addr}{mA:Str->Option Value}{name:Str}{v:Value}
end
theorem RelO.some_of{v:V}{o:Option Value}(r:RelO (some v) o):∃u,o=some u/\RelV v u:=by
 cases o with
 |none=>exact(show False from r).elim
 |some u=>exact⟨u,rfl,r⟩
section
variable{P:Program}{w:World}{H H':Hp}{h h':Heap}{a C dx:Addr}{fs fs':List (Str×V)}
end
section
variable{X:Cx}{pr:List (Addr×Obj)}{σ:St}{H:Hp}{s:Shared}{a C dx:Addr}{fs:List (Str×V)}{f:Str}{v:V}{A:Around}{E:Value->Shared->Prop}
end
section
variable{X:Cx}{o e value:Expr}{f:Str}{pos pos' tpos:Pos}{ta tv:TE}
end
section
variable{X:Cx}{pr:List (Addr×Obj)}{σ:St}{H:Hp}{s:Shared}{A:Around}{E:Value->Shared->Prop}{Q:Value->Shared->Prop}{c:Value}{b:Bool}
end
structure Room(k:Nat)(A:Around):Prop where
 hd:A.handled=none
 dp:A.depth+3*k+5<recursionLimit
 un:A.units+16*k+200<cLine
theorem Room.mono{j k:Nat}{A:Around}(r:Room k A)(h:j<=k):Room j A:=⟨r.hd,by have:=r.dp;lia,by have:=r.un;lia⟩
theorem Room.m{j k:Nat}{A:Around}(r:Room k A)(h:j<=k:=by decide):Room j A:=r.mono h
theorem Room.deeper{k:Nat}{A:Around}(r:Room (k+1) A)(env:Env):Room k (A.deeper env):=
 ⟨r.hd,by have:=r.dp;show A.depth+1+3*k+5<_;lia,by have:=r.un;show A.units+3+16*k+200<_;lia⟩
theorem Room.depth{k:Nat}{A:Around}(r:Room k A):A.depth<recursionLimit:=by have:=r.dp;lia
theorem Room.units{k:Nat}{A:Around}(r:Room k A):A.units+64<cLine:=by have:=r.un;lia
theorem Room.units0{k:Nat}{A:Around}(r:Room k A):A.units<cLine:=by have:=r.un;lia
def EK:TA:=fun _ H Q=>Q [] H
def xf(ta:TE)(tr:TA):TA:=fun σ H Q=>ta σ H fun x H1=>tr σ H1 fun xs H2=>Q (x::xs) H2
section
variable{X:Cx}{e:Expr}{es:List Expr}{te:TE}{t:TA}{pos:Pos}
theorem nu:PA X [] EK:=fun _ _ _ _ H Q I h=>Calls.spliced_nil ⟨[],H,I,.nil,h⟩
theorem fQ(ha:PE X e te)(hr:PA X es t)(hs:starEach (e::es) X.env=(false,eval e X.env)::starEach es X.env:=by rfl):PA X (e::es) (xf te t):=by
 intro pos pr s σ H Q I h;rw[hs];show wpAny _ _ (spliced ((false,eval e X.env)::backTo pos (starEach es X.env))) _ _ s;refine Calls.spliced_cons (Iw (ha pr s σ H _ I h) fun u s1 IB=>?_);obtain⟨x,H1,I1,r1,q1⟩:=IB;exact Iw (hr pos pr s1 σ H1 _ I1 q1) fun us s2 ⟨xs,H2,I2,r2,q2⟩=>⟨x::xs,H2,I2,.cons r1 r2,q2⟩
def Hj(t:TA):TE:=fun σ H Q=>t σ H fun xs H1=>xs.length<=sizeLine/\∀p,H1 p=none->Q (.ref p) (upd H1 p (.tup xs))
def Hk(t:TA):TE:=fun σ H Q=>t σ H fun xs H1=>xs.length<=sizeLine/\∀p,H1 p=none->Q (.ref p) (upd H1 p (.lst xs))
theorem yI{x1}(h:PA X es t):PE X (.Tuple es x1 pos) (Hj t):=by
 intro pr s σ H Q I hq;refine wpAny_Tuple_spliced (Iw (h pos pr s σ H _ I hq) fun us s1 ⟨xs,H1,I1,r,z,q⟩=>⟨by rw[<-r.length];exact z,?_⟩);have hf:H1 s1.heap.objs.size=none:=I1.hok.fresh (TB _);refine⟨.ref s1.heap.objs.size,upd H1 s1.heap.objs.size (.tup xs),I1.laid (t':=s1.toks) (fun b u e=>Heap.get?_push_of_some _ e) (TB _) ?_,rfl,q _ hf⟩;exact⟨z,us,r,⟨_,Heap.get?_push_size _ rfl,rfl,⟨_,rfl⟩,rfl⟩⟩
theorem CA(h:PA X es t):PE X (.List es pos) (Hk t):=by
 intro pr s σ H Q I hq;refine wpAny_List_spliced (Iw (h pos pr s σ H _ I hq) fun us s1 ⟨xs,H1,I1,r,z,q⟩=>⟨by rw[<-r.length];exact z,?_⟩);have hf:H1 s1.heap.objs.size=none:=I1.hok.fresh (TB _);refine⟨.ref s1.heap.objs.size,upd H1 s1.heap.objs.size (.lst xs),I1.laid (t':=s1.toks) (fun b u e=>Heap.get?_push_of_some _ e) (TB _) ?_,rfl,q _ hf⟩;exact⟨z,us,0,r,Heap.get?_push_size _ rfl⟩
end
abbrev Sp:=List V->Hp->VK->XK->Prop
abbrev Ms:=List Env->Hp->Shared->XK->Value->Shared->Prop
structure Env0(P:Program)(w:World)(K:W.Frag)(mg:Str->Option Value)(base:Heap)(A:Around)(outer:List Env)(s:Shared)(H:Hp):Prop where
 frames:A.frames=some outer
 mod:Mod K mg base
 bs:∀b o,base.get? b=some o->s.heap.get? b=some o/\H b=none
 bsz:base.objs.size<=s.heap.objs.size
 funs:s.heap.FunFrames base outer
 frf:∀b∈Mq outer,H b=none
 hok:HOk P w H s.heap
 bare:AllBare s.gens
def CE(outer:List Env)(P:Program)(w:World)(H:Hp)(s:Shared)(Q:VK)(u:Value)(s':Shared):Prop:=
 ∃v H',s'.os=s.os/\AllBare s'.gens/\Un (Mq outer) [] H H' s.heap s'.heap/\HOk P w H' s'.heap/\RelV v u/\Q v H'
def CR(CX:Ms)(outer:List Env)(P:Program)(w:World)(H:Hp)(s:Shared)(Q:VK)(E:XK)(r:Result)(s':Shared):Prop:=
 match r with
 | .ok (.ret u)=>CE outer P w H s Q u s'
 | .ok _=>False
 | .error e=>CX outer H s E e s'
structure FnOk(P:Program)(w:World)(K:W.Frag)(mg:Str->Option Value)(base:Heap)(CX:Ms)(k:Nat)(f:Addr)(fd:FuncData)(ps:List Str)(sp:Sp):Prop where
 len:∀vs H Q E,sp vs H Q E->vs.length=ps.length
 run:∀(A:Around) (outer:List Env) (s:Shared) (H:Hp) (args:Args) (us:List Value) (vs:List V) (Q:VK) (E:XK),Room k A->Env0 P w K mg base A outer s H->BindsTo s fd args (ps.zip us)->Vals vs us->sp vs H Q E->
  codeAny (model P w) A (.call (.ref f) args) (CR CX outer P w H s Q E) s
theorem FnOk.imp{P:Program}{w:World}{K:W.Frag}{mg:Str->Option Value}{base:Heap}{CX:Ms}{k:Nat}{f:Addr}{fd:FuncData}{ps:List Str}{sp Sw:Sp}(F:FnOk P w K mg base CX k f fd ps sp)
  (h:∀vs H Q E,Sw vs H Q E->sp vs H Q E):FnOk P w K mg base CX k f fd ps Sw:=
 ⟨fun vs H Q E q=>F.len vs H Q E (h _ _ _ _ q),fun A outer s H args us vs Q E hr he hb hv hs=>F.run A outer s H args us vs Q E hr he hb hv (h _ _ _ _ hs)⟩
section
variable{X:Cx}{pr:List (Addr×Obj)}{σ:St}{H:Hp}{s s':Shared}
theorem Inv.env0(I:Inv X pr σ H s):Env0 X.prog X.w X.K X.mg X.base X.A X.stack s H:=
 ⟨I.ok.frames,I.ok.mod,I.bs,Uc I.ok.bsz I.sz,I.stack,I.stkFree,I.hok,I.bare⟩
theorem Inv.after{Q:VK}{u:Value}(I:Inv X pr σ H s)(h:CE X.stack X.prog X.w H s Q u s'):EP X pr σ Q u s':=by
 obtain⟨v,H',os,bare,un,hok,r,q⟩:=h;obtain⟨hh,g,d,t,Sy⟩:=s';obtain rfl:Sy=s.os:=os;exact⟨v,H',I.call (h':=hh) (g':=g) (d':=d) (t':=t) (ch:=[]) un hok bare (fun b z=>absurd z (by simp)),r,q⟩
end
def tCall(sp:Sp)(N7:List V)(E:XK)(t:TA):TE:=fun σ H Q=>t σ H fun vs H1=>sp (vs++N7) H1 Q E
def Binds(K:W.Frag)(fd:FuncData)(ps:List Str)(ds:List Value):Prop:=
 ∀(s:Shared) (us:List Value),K.In s.heap->(us++ds).length=ps.length->BindsTo s fd ⟨us,[]⟩ (ps.zip (us++ds))
theorem Binds.all{K:W.Frag}{fd:FuncData}{ps:List Str}(h:∀us:List Value,us.length=ps.length->bindArgs fd ⟨us,[]⟩=pure (ps.zip us)):Binds K fd ps []:=fun s us _ hl=>by
 rw[T7]at hl ⊢;exact .of_eq (h us hl)
def uv(CX:Ms)(X:Cx)(E:XK):Prop:=∀(pr:List (Addr×Obj)) (σ:St) (H:Hp) (s:Shared) (e:Value) (s':Shared),Inv X pr σ H s->CX X.stack H s E e s'->X.xe e s'
section
variable{X:Cx}{CX:Ms}{k:Nat}{f C:Addr}{fd:FuncData}{ps:List Str}{sp:Sp}{N7:List V}{ds:List Value}{E:XK}{x m:Str}{p pos apos:Pos}{e o:Expr}{es:List Expr}{ta:TE}{t:TA}
theorem CB{pr:List (Addr×Obj)}{σ:St}{H:Hp}{s:Shared}{Q:VK}{us:List Value}{vs:List V}(F:FnOk X.prog X.w X.K X.mg X.base CX k f fd ps sp)(hr:Room k X.A)(hb:Binds X.K fd ps ds)(hd:Vals N7 ds)(hx:uv CX X E)
  (I:Inv X pr σ H s) (r:Vals vs us) (h:sp (vs++N7) H Q E):wpAny (model X.prog X.w) X.A (call (.ref f) us) (EP X pr σ Q) X.xe s:=by
 have r2:Vals (vs++N7) (us++ds):=r.append hd;have hl:(us++ds).length=ps.length:=by rw[<-r2.length];exact F.len _ _ _ _ h
 refine wpAny_call (codeAny_mono (F.run X.A X.stack s H ⟨us,[]⟩ (us++ds) (vs++N7) Q E hr I.env0 (hb s us I.kIn hl) r2 h) fun r s' hq=>?_);cases r with
 |error e=>exact hx pr σ H s e s' I hq
 |ok fl=>
  cases fl with
  |ret u=>exact I.after hq
  |next=>exact False.elim hq
  |brk=>exact False.elim hq
  |cont=>exact False.elim hq
theorem zP(F:FnOk X.prog X.w X.K X.mg X.base CX k f fd ps sp)(hr:Room k X.A)(hg:Gl X x)(hm:X.mg x=some (.ref f))(hk:PySem.W.keepIn X.K (.ref f)=true)(hb:Binds X.K fd ps ds)(hd:Vals N7 ds)(hx:uv CX X E)
  (ha:PA X (e::es) t) (Kl:(x==("__debug__" : Str))=false:=by decide) (he:starEach (e::es) X.env=(false,eval e X.env)::starEach es X.env:=by rfl) (JJ:(backTo pos (starEach es X.env)).any (·.1)=false:=by rfl):
  PE X (.Call (.Name x p) (e::es) [] pos) (tCall sp N7 E t):=by
 intro pr s σ H Q I h;refine U0 (zw I hg hm ?_ Kl);refine PySem.W.callWith_K (h₀:=X.base) I.ok.mod.kin hk (Iw (ha pos pr s σ H _ I h) fun us s1 ⟨vs,H1,I1,r,q⟩=>⟨I1.kIn,?_⟩) he JJ;exact CB F hr hb hd hx I1 r q
structure Mk(K:W.Frag)(C f:Addr):Prop where
 makes:PySem.W.makesIn K C=true
 init:PySem.W.findIn K (.ref C) "__init__" = some (some (.ref f))
 fn:PySem.W.isFn K (.ref f)=true
 kp:PySem.W.keepIn K (.ref C)=true
end
def PK(X:Cx)(PQ:List Keyword)(t:TA):Prop:=
 ∀(pos:Pos) (pr:List (Addr×Obj)) (s:Shared) (σ:St) (H:Hp) (Q:List V->Hp->Prop),Inv X pr σ H s->t σ H Q->wpAny (model X.prog X.w) X.A (evalAll ((backToKw pos (keywordEach PQ X.env)).map (·.2))) (AP X pr σ Q) X.xe s
section
variable{X:Cx}{CX:Ms}{k:Nat}{f C:Addr}{fd:FuncData}{ps ks:List Str}{sp:Sp}{E:XK}{x m:Str}{p pos apos L4:Pos}{e o:Expr}{es:List Expr}{PQ:List Keyword}{te ta:TE}{t tk:TA}{nm:Option Str}
theorem CC:PK X [] EK:=fun _ _ _ _ H Q I h=>wpAny_evalAll_nil ⟨[],H,I,.nil,h⟩
theorem zQ(ha:PE X e te)(hr:PK X PQ t):PK X (⟨nm,e,L4⟩::PQ) (xf te t):=by
 intro pos pr s σ H Q I h;show wpAny _ _ (evalAll ((do let v <-eval e X.env;standAt pos;pure v)::(backToKw pos (keywordEach PQ X.env)).map (·.2))) _ _ s;refine wpAny_evalAll_cons (Tr (Iw (ha pr s σ H _ I h) fun u s1 ⟨x,H1,I1,r1,q1⟩=>Tr (XW (Tw ?_))));exact Iw (hr pos pr s1 σ H1 _ I1 q1) fun us s2 ⟨xs,H2,I2,r2,q2⟩=>⟨x::xs,H2,I2,.cons r1 r2,q2⟩
variable{g:List Value->List Value->List Value}{gV:List V->List V->List V}
end
structure FnScope(N P:List Str)(sc:Scope):Prop where
 kind:sc.kind=.function
 co:sc.isCoroutine=false
 gen:sc.isGenerator=false
 nd:N.Nodup
 pre:N.take P.length=P
 par:∀x∈P,sc.names.lookup x=some .local\/sc.names.lookup x=some .cell
 nofree:∀y∈sc.names,y.2≠.free
theorem fs{N P:List Str}{sc:Scope}(a:sc.kind=.function:=by rfl)(b:sc.isCoroutine=false:=by rfl)(c:sc.isGenerator=false:=by rfl)(d:N.Nodup:=by decide +kernel)(e:N.take P.length=P:=by rfl)(f:∀x∈P,sc.names.lookup x=some .local\/sc.names.lookup x=some .cell:=by decide +kernel)(g:∀y∈sc.names,y.2≠.free:=by decide +kernel):FnScope N P sc:=⟨a,b,c,d,e,f,g⟩
theorem nv{kindOf:Str->Option NameKind}{x:Str}:∀{binds:List (Str×Value)}{m:Str->Option Value},(∀v,(x,v)∉binds)->bindL kindOf binds m x=m x
 |[],_,_=>rfl
 |(n,v)::r,m,h=>by
  unfold bindL;rw[nv fun w hw=>h w (Tx _ hw)];split
  ·have:x≠n:=by rintro rfl;exact h v Ts
   simp[this]
  ·rfl
theorem ny{kindOf:Str->Option NameKind}{x:Str}:∀{binds:List (Str×Value)}{m:Str->Option Value},(∀v,(x,v)∉binds)->bindC kindOf binds m x=m x
 |[],_,_=>rfl
 |(n,v)::r,m,h=>by
  unfold bindC;rw[ny fun w hw=>h w (Tx _ hw)];split
  ·rfl
  ·have:x≠n:=by rintro rfl;exact h v Ts
   simp[this]
theorem nE{kindOf:Str->Option NameKind}{x:Str}{v:Value}:∀{P:List Str}{vs:List Value}{i:Nat}{m:Str->Option Value},P.Nodup->P[i]?=some x->vs[i]?=some v->kindOf x=some .local->
  bindL kindOf (P.zip vs) m x=some v
 |[],_,_,_,_,h,_,_=>by simp at h
 |_::_,[],_,_,_,_,h,_=>by simp at h
 |p::P,w::vs,0,m,nd,h1,h2,hk=>by
  simp at h1 h2;subst h1;subst h2;show bindL kindOf ((p,w)::P.zip vs) m p=_;unfold bindL;rw[nv fun v hv=>(Ui.mp nd).1 (Vr hv).1,TF hk];simp
 |p::P,w::vs,i+1,m,nd,h1,h2,hk=>by
  show bindL kindOf ((p,w)::P.zip vs) m x=_;unfold bindL;exact nE (i:=i) (Ui.mp nd).2 (by simpa using h1) (by simpa using h2) hk
theorem nF{kindOf:Str->Option NameKind}{x:Str}{v:Value}:∀{P:List Str}{vs:List Value}{i:Nat}{m:Str->Option Value},P.Nodup->P[i]?=some x->vs[i]?=some v->kindOf x≠some .local->
  bindC kindOf (P.zip vs) m x=some v
 |[],_,_,_,_,h,_,_=>by simp at h
 |_::_,[],_,_,_,_,h,_=>by simp at h
 |p::P,w::vs,0,m,nd,h1,h2,hk=>by
  simp at h1 h2;subst h1;subst h2;show bindC kindOf ((p,w)::P.zip vs) m p=_;unfold bindC;rw[ny fun v hv=>(Ui.mp nd).1 (Vr hv).1,TJ hk];simp
 |p::P,w::vs,i+1,m,nd,h1,h2,hk=>by
  show bindC kindOf ((p,w)::P.zip vs) m x=_;unfold bindC;exact nF (i:=i) (Ui.mp nd).2 (by simpa using h1) (by simpa using h2) hk
def jJ(N:List Str)(vs:List V):St:=vs.map some++List.replicate (N.length-vs.length) none
noncomputable def wR(CX:Ms)(P:Program)(w:World)(K:W.Frag)(mg:Str->Option Value)(base:Heap)(N:List Str)(qual:Str)(scope:Scope)(f:Addr)(cd:Value)(A:Around)(outer:List Env)(s:Shared)(H:Hp)(E:XK):Cx where
 prog:=P
 w:=w
 K:=K
 mg:=mg
 base:=base
 A:=A.deeper (envOfC qual scope s.heap.objs.size f cd)
 N:=N
 s₀:=s
 H₀:=H
 env:=envOfC qual scope s.heap.objs.size f cd
 outer:=outer
 stack:=envOfC qual scope s.heap.objs.size f cd::outer
 ex:=[]
 calm:=true
 fn:=fun _=>true
 pn:=[]
 xe:=fun e s'=>wpAny (model P w) (A.deeper (envOfC qual scope s.heap.objs.size f cd)) (leaving (envOfC qual scope s.heap.objs.size f cd) e) (fun _ RB=>CX outer H s E e RB) (fun e' RB=>CX outer H s E e' RB) s'
theorem qA{sc:Scope}{n:Nat}{x:Str}(h:sc.names.lookup x=some .cell):∃c,(cellsFrom n sc.names []).lookup x=some c:=by
 have q:=W9 sc.names n [] (.inl h);exact UN.mp q
theorem uw{CX:Ms}{P:Program}{w:World}{K:W.Frag}{mg:Str->Option Value}{base:Heap}{N ps:List Str}{qual:Str}{scope:Scope}{f:Addr}{cd:Value}{A:Around}{outer:List Env}{s s1:Shared}{H:Hp}{E:XK}{us:List Value}{vs:List V}
  (S:FnScope N ps scope) (hd:A.handled=none) (e0:Env0 P w K mg base A outer s H) (hl:vs.length=ps.length) (r:Vals vs us)
  (x:InCallC s s.heap.objs.size (bindL (envOfC qual scope s.heap.objs.size f cd).kindOf (ps.zip us) fun _=>none) (cellsFrom (s.heap.objs.size+1) scope.names []) (bindC (envOfC qual scope s.heap.objs.size f cd).kindOf (ps.zip us) fun _=>none) s1):
  Inv (wR CX P w K mg base N qual scope f cd A outer s H E) [] (jJ N vs) H s1:=by
 have JJ:ps.length<=N.length:=by have:=UP List.length S.pre;rw[Ud]at this;lia
 obtain⟨h1,tk,rfl,hk⟩:=x.done;have PR:∀b:Addr,b∉(wR CX P w K mg base N qual scope f cd A outer s H E).ex:=fun b z=>absurd (show b∈([]:List Addr) from z) (by simp)
 refine⟨⟨e0.mod,S.kind,rfl,rfl,TB _,fun y z c h1 h2=>?_,fun y hy=>?_,fun y c _ h=>?_,fun _=>hd,Around.frames_deeper e0.frames,.inr ⟨rfl,rfl⟩,fun b z=>absurd z (PR b),e0.bs,e0.bsz,fun b _ _=>PR b,fun b z=>absurd z (PR b),e0.funs,e0.frf⟩,
  rfl,e0.bare,Un.kept hk,⟨_,x.toInCall.ns,fun i y v h1 h2 h3=>?_⟩,fun y c h=>⟨_,x.cell y c h⟩,e0.hok.fresh (TB _),fun y c h=>?_,fun p hp=>absurd (show p∈([]:List (Addr×Obj)) from hp) (by simp),e0.hok.kept hk,?_⟩
 ·exact name_of_addr x.apart (Va h1) (Va h2)
 ·have hy:scope.names.lookup y=some .cell\/scope.names.lookup y=some .free:=hy;rcases hy with hy|hy
  ·exact qA hy
  ·exact absurd rfl (S.nofree _ (Va hy))
 ·exact Xi (x.above y c (Va h))
 ·have hi:i<vs.length:=by
   unfold jJ at h2;by_cases hi:i<vs.length
   ·exact hi
   ·rw[List.getElem?_append_right (by simpa using hi)]at h2;rw[List.getElem?_replicate]at h2;split at h2 <;> cases h2
  have ha:vs[i]?=some v:=by
   unfold jJ at h2;rw[List.getElem?_append_left (by simpa using hi),List.getElem?_map]at h2;cases e:vs[i]? with
   |none=>rw[e]at h2;cases h2
   |some a=>rw[e]at h2;cases h2;rfl
  obtain⟨u,hu,rv⟩:=r.get ha;have hp:ps[i]?=some y:=by
   rw[<-S.pre,List.getElem?_take_of_lt (by lia)];exact h1
  have Sz:ps.Nodup:=by rw[<-S.pre];exact S.nd.sublist (WN _ _)
  refine⟨u,rv,?_⟩;rcases S.par y (T6 hp) with k|k
  ·exact .inl ⟨k,nE Sz hp hu k⟩
  ·obtain⟨c,e⟩:=qA (n:=s.heap.objs.size+1) k;refine .inr ⟨.inl k,c,e,?_⟩;have q:=x.cell y c e;rw[nF Sz hp hu (by show scope.names.lookup y≠_;rw[k];decide)]at q;exact q
 ·exact e0.hok.fresh (Xi (x.above y c (Va h)))
 ·unfold jJ;show _=N.length;rw[Ua,Tt,List.length_replicate];lia
theorem Fj{CX:Ms}{P:Program}{w:World}{K:W.Frag}{mg:Str->Option Value}{base:Heap}{k:Nat}{f:Addr}{name qual:Str}{params:Arguments}{body:List Stmt}{scope:Scope}{dV kV doc pm ID ct oc:Value}{an od:Option Addr}
  {M0:Array (Option Value)}{N ps:List Str}{sp:Sp}(lk:K.lookup f=some ⟨oc,od,.func (PySem.W.fnOf name qual params body scope dV kV doc pm an ID ct),M0⟩) (Mv:PySem.W.codeIn K ID qual=true) (S:FnScope N ps scope)
  (len:∀vs H Q E,sp vs H Q E->vs.length=ps.length)
  (Mw:∀(A:Around) (outer:List Env) (s:Shared) (H:Hp) (vs:List V) (Q:VK) (E:XK),Room k (A.deeper (envOfC qual scope s.heap.objs.size f ID))->sp vs H Q E->
   ∃t,PSs (wR CX P w K mg base N qual scope f ID A outer s H E) body t/\t {nx:=fun _ H'=>Q .non H',rt:=Q} (jJ N vs) H):
  FnOk P w K mg base CX (k+1) f (PySem.W.fnOf name qual params body scope dV kV doc pm an ID ct) ps sp:=by
 refine⟨len,fun A outer s H args us vs Q E hr e0 hb r N8=>?_⟩;have hl:=len _ _ _ _ N8;have KX:K.In s.heap:=e0.mod.kin.keeps fun b o e=>(e0.bs b o e).1
 have lim:s.heap.NoLimit:=e0.mod.nolimit.keeps fun b o e=>(e0.bs b o e).1
 have Kv:∀y∈ps.zip us,scope.names.lookup y.1=some .local\/(scope.names.lookup y.1=some .cell/\((cellsFrom (s.heap.objs.size+1) scope.names []).lookup y.1).isSome=true):=fun Ip hy=>by
  obtain⟨n,v⟩:=Ip;rcases S.par n (Vr hy).1 with q|q
  ·exact .inl q
  ·exact .inr ⟨q,W9 _ _ _ (.inl q)⟩
 refine codeAny_call_function hr.depth (KX _ _ lk) rfl S.co S.gen rfl (PySem.W.codeRec_of KX Mv) (hb _ _ _ _ ?_);refine wpAny_newFunctionEnv_cells S.kind Kv fun env he s1 x=>?_
 subst he;refine⟨lim.keeps x.toInCall.keep,codeAny_func ?_⟩;obtain⟨t,ht,hq⟩:=Mw A outer s H vs Q E (hr.deeper _) N8;have I:Inv (wR CX P w K mg base N qual scope f ID A outer s H E) [] (jJ N vs) H s1:=uw S hr.hd e0 hl r x;refine VS (ht [] s1 (jJ N vs) H _ I hq) (fun fl s' hs=>?_) fun e s' hs=>hs
 have fin:∀{σ':St}{H':Hp}{v:V}{u:Value},Inv (wR CX P w K mg base N qual scope f ID A outer s H E) [] σ' H' s'->RelV v u->Q v H'->CE outer P w H s Q u s':=
  fun{σ' H' v u} J rv q=>⟨v,H',J.os,J.bare,J.base,J.hok,rv,q⟩
 cases fl with
 |ret u=>
  obtain⟨v,σ',H',J,rv,q⟩:=hs;exact fin J rv q
 |next=>
  obtain⟨σ',H',J,q⟩:=hs;exact fin (v:=V.non) (u:=Value.none) J rfl q
 |brk=>
  obtain⟨_,_,_,q⟩:=hs;exact False.elim q
 |cont=>
  obtain⟨_,_,_,q⟩:=hs;exact False.elim q
section
variable{X:Cx}{x:Str}{p pos:Pos}{e:Expr}{es:List Expr}{t:TA}{id T:String}{r:List V->Hp->VK->Prop}
def RC(r:List V->Hp->VK->Prop)(t:TA):TE:=fun σ H Q=>t σ H fun vs H1=>r vs H1 Q
theorem qB(hc:dJ X (.builtin id) r)(hg:Gl X x)(hm:X.mg x=none)(hv:bootBuiltins x=some (.builtin id))(ha:PA X (e::es) t)(hn:x≠"__name__":=by decide)(Kl:(x==("__debug__" : Str))=false:=by decide)
  (he:starEach (e::es) X.env=(false,eval e X.env)::starEach es X.env:=by rfl) (JJ:(backTo pos (starEach es X.env)).any (·.1)=false:=by rfl):PE X (.Call (.Name x p) (e::es) [] pos) (RC r t):=by
 intro pr s σ H Q I h;refine U0 (gX I hg hm hv ?_ hn Kl);exact PyProof.Rows.callWith_builtin1 (Iw (ha pos pr s σ H _ I h) fun us s1 ⟨vs,H1,I1,r1,q1⟩=>hc pr s1 σ H1 vs us Q I1 r1 q1) he JJ
theorem ux(hc:dJ X (.type T) r)(hg:Gl X x)(hm:X.mg x=none)(hv:bootBuiltins x=some (.type T))(ha:PA X (e::es) t)(hn:x≠"__name__":=by decide)(Kl:(x==("__debug__" : Str))=false:=by decide)
  (he:starEach (e::es) X.env=(false,eval e X.env)::starEach es X.env:=by rfl) (JJ:(backTo pos (starEach es X.env)).any (·.1)=false:=by rfl):PE X (.Call (.Name x p) (e::es) [] pos) (RC r t):=by
 intro pr s σ H Q I h;refine U0 (gX I hg hm hv ?_ hn Kl);exact Uu (Iw (ha pos pr s σ H _ I h) fun us s1 ⟨vs,H1,I1,r1,q1⟩=>hc pr s1 σ H1 vs us Q I1 r1 q1) he JJ
end
end L2
namespace HT
open PySem PyProof.Rows
section
open PySem.SeqAt
open PySem.AutoSeq1 (wpAny_loadPart')
open PySem.MeetsSeq PySem.MeetsSeq2 PySem.MeetsSeq3
end
section
variable{prog:Program}{w:World}{A:Around}{E:Value->Shared->Prop}{s:Shared}
theorem zR{t b:Addr}{vs ws:List Value}{Q:Value->Shared->Prop}(ht:IsTup s.heap t vs.toArray)(hb:IsTup s.heap b ws.toArray)(hv:vs≠[])
  (h1:ws=[]->Q (.ref t) s) (h2:ws≠[]->Q (.ref s.heap.objs.size) {s with heap:=s.heap.push {cls:=.type "tuple",data:=.seq (vs++ws).toArray}})
  (hsz:vs.length+ws.length<=sizeLine):wpAny (model prog w) A (binaryOp .Add (.ref t) (.ref b)) Q E s:=by
 obtain⟨⟨cls,dd,data,sl⟩,ho,hc,n,hd⟩:=id ht;obtain⟨⟨M8,LR,data2,LS⟩,JR,Lc,n2,hd2⟩:=id hb;simp only at hc hd Lc hd2;subst hc hd Lc hd2;have e:vs.toArray++ws.toArray=(vs++ws).toArray:=by simp
 by_cases hw:ws=[]
 ·exact Xk ⟨_,ho,rfl⟩ ⟨_,JR,rfl⟩ W2 XX V8 VX (VT _ _)
   (tuple_addW1 t b vs.toArray ws.toArray n n2 dd LR sl LS (by simpa using hv) (by simp[hw])) ⟨ho,JR,h1 hw⟩
 ·refine Xk ⟨_,ho,rfl⟩ ⟨_,JR,rfl⟩ W2 XX V8 VX (VT _ _)
   (tuple_addW2 t b vs.toArray ws.toArray n n2 dd LR sl LS (by simpa using hv) (by simpa using hw) (by rw[Tu,Tu];exact hsz)) ⟨ho,JR,?_⟩
  rw[e];exact h2 hw
def sIx(n d:Nat):Option Int->Nat
 |none=>d
 |some v=>if v<0 then(v+(n:Int)).toNat else min v.toNat n
theorem qC(n d:Nat):sIx n d none=d:=rfl
theorem lW(n d k:Nat):sIx n d (some (k:Int))=min k n:=by
 show(if(k:Int)<0 then((k:Int)+(n:Int)).toNat else min (k:Int).toNat n)=min k n;rw[TJ (by lia),UD]
theorem uy(n d:Nat)(hd:d<=n)(o:Option Int):sIx n d o<=n:=by
 cases o with
 |none=>exact hd
 |some v=>
  show(if v<0 then(v+(n:Int)).toNat else min v.toNat n)<=n;by_cases hv:v<0
  ·rw[TF hv];lia
  ·rw[TJ hv];exact Nat.min_le_right _ _
theorem uz(v:Int)(n d:Nat):(if v<0 then max (v+(n:Int)) 0 else min v (n:Int))=((sIx n d (some v):Nat):Int):=by
 show(if v<0 then max (v+(n:Int)) 0 else min v (n:Int))=(((if v<0 then(v+(n:Int)).toNat else min v.toNat n):Nat):Int)
 by_cases hv:v<0
 ·simp only[TF hv];lia
 ·simp only[TJ hv];lia
theorem sI(lo hi:Option Int)(n:Nat):Builtin.Slice.sliceAdjust lo hi 1 (n:Int)=(((sIx n 0 lo:Nat):Int),((sIx n n hi:Nat):Int)):=by
 have h1:¬ ((1:Int)<0):=by lia
 unfold Builtin.Slice.sliceAdjust;simp only[h1,Wg];refine Prod.ext ?_ ?_
 ·cases lo with
  |none=>rfl
  |some v=>exact uz v n 0
 ·cases hi with
  |none=>rfl
  |some v=>exact uz v n n
theorem sJ(i j:Nat):Builtin.Slice.slicePlaces (i:Int) (j:Int) 1=j-i:=by
 unfold Builtin.Slice.slicePlaces;have h1:(1:Int)>0:=by lia
 simp only[h1,VY,Int.ediv_one];split <;> lia
theorem ly{v:Value}{o:Option Int}{Q:Option Int->Shared->Prop}(p:IsPart v o)(h:Q o s):wpAny (model prog w) A (Builtin.Slice.slicePartIndex v) Q E s:=by
 cases p with
 |none=>exact slicePart_none h
 |int i t=>exact slicePart_int h
theorem fE{sl:Addr}{vl vu:Value}{lo hi:Option Int}{n:Nat}{Q:Int×Int×Nat->Shared->Prop}(hs:s.heap.IsSliceOf sl vl vu .none)(pl:IsPart vl lo)(pu:IsPart vu hi)
  (h:Q (((sIx n 0 lo:Nat):Int),1,sIx n n hi-sIx n 0 lo) s):wpAny (model prog w) A (Builtin.Slice.sliceApplied (.ref sl) (pure (n:Int))) Q E s:=by
 obtain⟨os,M9,Q0,Na⟩:=id hs;unfold Builtin.Slice.sliceApplied Builtin.Slice.sliceFields;refine Tr (Tr (UQ M9 Na (x:=vl) rfl (Tr (UQ M9 Na (x:=vu) rfl (Tr (UQ M9 Na (x:=.none) rfl (Tw ?_)))))));refine Tr (slicePart_none ?_);show wpAny _ _ (if((1:Int)==0)=true then _ else _) _ _ s;rw[TJ (by decide)];refine Tr (ly pl (Tr (ly pu (Tr (Tw ?_)))));show wpAny _ _ (match Builtin.Slice.sliceAdjust lo hi 1 (n:Int) with|(lo,hi)=>pure (lo,(1:Int),Builtin.Slice.slicePlaces lo hi 1)) _ _ s;rw[sI lo hi n];show wpAny _ _ (pure (((sIx n 0 lo:Nat):Int),(1:Int),Builtin.Slice.slicePlaces ((sIx n 0 lo:Nat):Int) ((sIx n n hi:Nat):Int) 1)) _ _ s;rw[sJ];exact Tw h
theorem xg(xs:Array Value)(i k:Nat):((List.range k).filterMap fun(m:Nat)=>xs[((i:Int)+(m:Int)*1).toNat]?).toArray=((xs.toList.drop i).take k).toArray:=by
 have e:(fun(m:Nat)=>xs[((i:Int)+(m:Int)*1).toNat]?)=fun m=>xs[i+m]?:=by
  funext m
  have:((i:Int)+(m:Int)*1).toNat=i+m:=by lia
  rw[this]
 rw[e];have:=pick_run xs i k;rw[List.filterMap_map]at this;have e2:((fun x=>xs[x]?)∘fun x=>i+x)=fun m=>xs[i+m]?:=rfl
 rw[e2]at this;rw[this]
theorem i7{t sl:Addr}{items:Array Value}{vl vu:Value}{lo hi:Option Int}{Q:Value->Shared->Prop}(ht:IsTup s.heap t items)(hs:s.heap.IsSliceOf sl vl vu .none)(pl:IsPart vl lo)(pu:IsPart vu hi)
  (hw:¬ (sIx items.size 0 lo=0/\sIx items.size items.size hi=items.size))
  (h:Q (.ref s.heap.objs.size) {s with heap:=s.heap.push {cls:=.type "tuple",data:=.seq ((items.toList.drop (sIx items.size 0 lo)).take (sIx items.size items.size hi-sIx items.size 0 lo)).toArray}})
  (hsz:items.size<=sizeLine):wpAny (model prog w) A (getItem (.ref t) (.ref sl)) Q E s:=by
 have LU:sizeOk (.seq ((items.toList.drop (sIx items.size 0 lo)).take (sIx items.size items.size hi-sIx items.size 0 lo)).toArray):=by
  show((items.toList.drop (sIx items.size 0 lo)).take (sIx items.size items.size hi-sIx items.size 0 lo)).toArray.size<=sizeLine;rw[Tu,Ud,UK,UA];lia
 have hj:sIx items.size items.size hi<=items.size:=uy _ _ (TB _) hi;obtain⟨os,M9,Q0,Na⟩:=id hs;have RD:s.TypeIs (.ref sl) "slice":=⟨os,M9,Q0⟩
 unfold getItem;try with_reducible refine U4 ?_
 first|refine Tr (Tw ?_)|skip
 refine Tr (wpAny_sequenceKey ht.typeIs (by decide) ?_);refine Tr (wpAny_callSpecial?_slot (name:=Str.ofString "__getitem__") ht.typeIs UX
  (UC UX ht.typeIs entry_tuple_getitem ?_ (args_tuple_getitem _ _)))
 show wpAny _ _ (Builtin.Tuple.tupleItemsOf (.ref t) >>= _) _ _ s;refine Tr (tupleItemsOf_ ht ?_);refine Tr (VE RD ?_);rw[TF (by decide)];refine Tr (fE hs pl pu ?_);have Q1:¬ ((((sIx items.size 0 lo:Nat):Int)==0&&(1:Int)==1&&(sIx items.size items.size hi-sIx items.size 0 lo)==items.size)=true):=by
  intro q;rw[TM,TM]at q;have q1:((sIx items.size 0 lo:Nat):Int)=0:=eq_of_beq q.1.1;have q2:sIx items.size items.size hi-sIx items.size 0 lo=items.size:=eq_of_beq q.2;exact hw ⟨by lia,by lia⟩
 show wpAny _ _ (if(((sIx items.size 0 lo:Nat):Int)==0&&(1:Int)==1&&(sIx items.size items.size hi-sIx items.size 0 lo)==items.size)=true then _ else _) _ _ s;rw[TJ Q1,xg];first
  |exact Tr (m:=Builtin.Tuple.tupleExact _) (Uy (Tw ⟨_,rfl,Tw h⟩) LU)
  |exact Tr (m:=Builtin.Tuple.tupleExact _) (Uy (Tr (Tw (Tw ⟨_,rfl,Tw h⟩))) LU)
  |exact Tr (Tr (m:=Builtin.Tuple.tupleExact _) (Uy (Tw (Tw ⟨_,rfl,Tw h⟩)) LU))
  |exact Tr (Tr (m:=Builtin.Tuple.tupleExact _) (Uy (Tw ⟨_,rfl,Tw h⟩) LU))
end
end HT
namespace L2
open PySem PySem.Spec PyProof.Rows
abbrev TO:=St->Hp->(Option Int->Hp->Prop)->Prop
def PO(X:Cx)(e:Option Expr)(t:TO):Prop:=
 ∀(pr:List (Addr×Obj)) (s:Shared) (σ:St) (H:Hp) (Q:Option Int->Hp->Prop),Inv X pr σ H s->t σ H Q->
  wpAny (model X.prog X.w) X.A (evalPart e X.env) (fun u s'=>∃o H',Inv X pr σ H' s'/\IsPart u o/\Q o H') X.xe s
def zS:TO:=fun _ H Q=>Q none H
def Fl(t:TE):TO:=fun σ H Q=>t σ H fun x H1=>∃i,x=.int i/\Q (some i) H1
section
variable{X:Cx}{e:Expr}{te:TE}{lo hi:Option Expr}{tl th:TO}{pos p2:Pos}
theorem zT:PO X none zS:=by
 intro pr s σ H Q I h;rw[evalPart_none];exact Tw ⟨none,H,I,.none,h⟩
theorem zU(h:PE X e te):PO X (some e) (Fl te):=by
 intro pr s σ H Q I hw;rw[evalPart_some];refine Iw (h pr s σ H _ I hw) fun u s1 IB=>?_
 obtain⟨x,H1,I1,r1,q1⟩:=IB;obtain⟨i,rfl,q⟩:=q1;obtain⟨t,rfl⟩:=r1;exact⟨some i,H1,I1,.int i t,q⟩
def Oo(X:Cx)(r:V->Option Int->Option Int->Hp->VK->Prop):Prop:=
 ∀(pr:List (Addr×Obj)) (s:Shared) (σ:St) (H:Hp) (x:V) (v vl vu:Value) (lo hi:Option Int) (sl:Addr) (Q:VK),Inv X pr σ H s->RelV x v->s.heap.IsSliceOf sl vl vu .none->IsPart vl lo->IsPart vu hi->r x lo hi H Q->
  ∃T id,typeLookup (.type T) "__getitem__" = pure (some (.builtin id))/\s.TypeIs v T/\wpAny (model X.prog X.w) X.A (getItem v (.ref sl)) (EP X pr σ Q) X.xe s
def tSl(r:V->Option Int->Option Int->Hp->VK->Prop)(te:TE)(tl th:TO):TE:=fun σ H Q=>te σ H fun x H1=>tl σ H1 fun l H2=>th σ H2 fun u H3=>r x l u H3 Q
theorem xh{r:V->Option Int->Option Int->Hp->VK->Prop}(hr:Oo X r)(he:PE X e te)(hl:PO X lo tl)(hu:PO X hi th):PE X (.Subscript e (.Slice lo hi none p2) pos) (tSl r te tl th):=by
 intro pr s σ H Q I h;refine Subscript_ (Iw (he pr s σ H _ I h) fun v s1 IB=>?_);obtain⟨x,H1,I1,r1,q1⟩:=IB;refine wpAny_Slice (Iw (hl pr s1 σ H1 _ I1 q1) fun vl s2 ⟨l,H2,I2,pl,q2⟩=>Iw (hu pr s2 σ H2 _ I2 q2) fun vu s3 IB=>?_);obtain⟨u,H3,I3,pu,q3⟩:=IB;rw[evalPart_none];refine Tw ?_;have I4:Inv X pr σ H3 {s3 with heap:=s3.heap.push {cls:=.type "slice",data:=.fields #[vl,vu,.none]}}:=I3.kept (t':=s3.toks) fun b ob q=>Heap.get?_push_of_some _ q
 obtain⟨T,id,hT,ht,hg⟩:=hr pr {s3 with heap:=s3.heap.push {cls:=.type "slice",data:=.fields #[vl,vu,.none]}} σ H3 x v vl vu l u s3.heap.objs.size Q I4 r1 (Heap.IsSliceOf.new ..) pl pu q3;show wpAny (model X.prog X.w) X.A (subscriptTail e (.Slice lo hi none p2) v (.ref s3.heap.objs.size)) (EP X pr σ Q) X.xe {s3 with heap:=s3.heap.push {cls:=.type "slice",data:=.fields #[vl,vu,.none]}};exact tail_any (ops:=[.ref s3.heap.objs.size,v]) ht hT hg (by with_unfolding_all rfl)
def yJ(xs:List V)(lo hi:Option Int):List V:=(xs.drop (HT.sIx xs.length 0 lo)).take (HT.sIx xs.length xs.length hi-HT.sIx xs.length 0 lo)
theorem j3(xs:List V)(lo hi:Option Int):(yJ xs lo hi).length<=xs.length:=by
 unfold yJ;rw[Ud,UK];lia
def Hl(K:W.Frag):V->Option Int->Option Int->Hp->VK->Prop:=fun x lo hi H Q=>∃a xs,x=.ref a/\SqT K H a xs/\
 ¬ (HT.sIx xs.length 0 lo=0/\HT.sIx xs.length xs.length hi=xs.length)/\∀p,H p=none->Q (.ref p) (upd H p (.tup (yJ xs lo hi)))
theorem CD:Oo X (Hl X.K):=by
 intro pr s σ H x v vl vu lo hi sl Q I rx hs pl pu h;obtain⟨a,xs,rfl,hx,hw,q⟩:=h;cases rx;obtain⟨Ic,r,ht,hz⟩:=I.tuple hx;have hlen:Ic.toArray.size=xs.length:=by rw[Tu];exact r.length.symm
 refine⟨"tuple",_,PyProof.Rows.slot_tuple_getitem.lookup,ht.typeIs,?_⟩;refine HT.i7 ht hs pl pu (by rw[hlen];exact hw) ?_ (by rw[hlen];exact hz);rw[hlen];refine⟨.ref s.heap.objs.size,_,I.laid (t':=s.toks) (o:=.tup (yJ xs lo hi)) (fun b ob q=>Heap.get?_push_of_some _ q) (TB _) ?_,rfl,q _ (I.hok.fresh (TB _))⟩;exact⟨Uc (j3 xs lo hi) hz,_,(r.drop (HT.sIx xs.length 0 lo)).take (HT.sIx xs.length xs.length hi-HT.sIx xs.length 0 lo),IsTupN.new _ _⟩
def Fm(K:W.Frag):R2:=fun x y H Q=>∃a b xs ys,x=.ref a/\y=.ref b/\SqT K H a xs/\SqT K H b ys/\xs≠[]/\xs.length+ys.length<=sizeLine/\
 (ys=[]->Q (.ref a) H)/\(ys≠[]->∀p,H p=none->Q (.ref p) (upd H p (.tup (xs++ys))))
theorem Vals.nil_iff{xs:List V}{us:List Value}(r:Vals xs us):us=[]<->xs=[]:=by
 cases r with
 |nil=>simp
 |cons _ _=>simp
theorem zV:IZ X (binaryOp .Add) (Fm X.K):=by
 intro pr s σ H x y v u Q I rx ry h;obtain⟨a,b,xs,ys,rfl,rfl,ha,hb,hx,hz,q1,q2⟩:=h;cases rx;cases ry;obtain⟨Ic,r1,p1,_⟩:=I.tuple ha;obtain⟨Lv,r2,p2,_⟩:=I.tuple hb;refine HT.zR p1 p2 (fun z=>hx (r1.nil_iff.mp z)) (fun z=>⟨.ref a,H,I,rfl,q1 (r2.nil_iff.mp z)⟩) (fun z=>?_) (by rw[<-r1.length,<-r2.length];exact hz);refine⟨.ref s.heap.objs.size,_,I.laid (t':=s.toks) (o:=.tup (xs++ys)) (fun b ob q=>Heap.get?_push_of_some _ q) (TB _) ?_,rfl,q2 (fun w=>z (r2.nil_iff.mpr w)) _ (I.hok.fresh (TB _))⟩;exact⟨by rw[Ua];exact hz,_,r1.append r2,IsTupN.new _ _⟩
end
def ixN(n:Nat)(i:Int):Option Nat:=if 0<=i then(if i<n then some i.toNat else none) else if -(n:Int)<=i then some (i+n).toNat else none
def Ju{α:Type}(xs:List α)(i:Int):Option α:=(ixN xs.length i).bind fun j=>xs[j]?
theorem uA{n:Nat}{i:Int}{j:Nat}(h:ixN n i=some j):seqIndex? i n=some j/\j<n/\-(n:Int)<=i/\i<n:=by
 unfold ixN at h;by_cases h0:0<=i
 ·rw[TF h0]at h;by_cases h1:i<n
  ·rw[TF h1]at h;have e:i.toNat=j:=TX h;exact⟨by rw[seqIndex_of h0 h1,e],by lia,by lia,h1⟩
  ·rw[TJ h1]at h;cases h
 ·rw[TJ h0]at h;by_cases h1:-(n:Int)<=i
  ·rw[TF h1]at h;have e:(i+n).toNat=j:=TX h;exact⟨by rw[seqIndex_neg (by lia) h1,e],by lia,h1,by lia⟩
  ·rw[TJ h1]at h;cases h
theorem pE{α:Type}{xs:List α}{i:Int}{v:α}(h:Ju xs i=some v):∃j,seqIndex? i xs.length=some j/\xs[j]?=some v/\j<xs.length/\-(xs.length:Int)<=i/\i<xs.length:=by
 unfold Ju at h;cases e:ixN xs.length i with
 |none=>rw[e]at h;cases h
 |some j=>
  rw[e]at h;obtain⟨h1,h2,h3,h4⟩:=uA e;exact⟨j,h1,h,h2,h3,h4⟩
theorem fR{α:Type}{xs:List α}{j:Nat}{v:α}(h:xs[j]?=some v):Ju xs (j:Int)=some v:=by
 have hj:j<xs.length:=(List.getElem?_eq_some_iff.mp h).1;have e:ixN xs.length (j:Int)=some j:=by
  unfold ixN;rw[TF (by lia),TF (by lia)];simp
 unfold Ju;rw[e];exact h
def uB(b:Expr):Prop:=∀o i,subscripted b false o i=operate [o,i] (getItem o i)
def PU(X:Cx)(r:R2):Prop:=
 ∀(value slice:Expr) (pr:List (Addr×Obj)) (s:Shared) (σ:St) (H:Hp) (x y:V) (v u:Value) (Q:VK),Inv X pr σ H s->RelV x v->RelV y u->r x y H Q->
  subscripted slice false v u=operate [v,u] (getItem v u)->wpAny (model X.prog X.w) X.A (subscriptTail value slice v u) (EP X pr σ Q) X.xe s
def N9(X:Cx)(id:String)(r:V->List V->Hp->VK->Prop):Prop:=
 ∀(pr:List (Addr×Obj)) (s:Shared) (σ:St) (H:Hp) (x:V) (xs:List V) (v:Value) (us:List Value) (Q:VK),Inv X pr σ H s->RelV x v->Vals xs us->r x xs H Q->
  wpAny (model X.prog X.w) X.A (call (.builtin id) (v::us)) (EP X pr σ Q) X.xe s
section
variable{X:Cx}{a b:Expr}{ta tb:TE}{pos:Pos}
theorem Fn{r:R2}(hr:PU X r)(ha:PE X a ta)(hb:PE X b tb)(hs:uB b):PE X (.Subscript a b pos) (Pp r ta tb):=by
 intro pr s σ H Q I h;exact Subscript_ (Fb ha hb I h fun v u s2 x y H2 I2 rx ry q=>hr a b pr s2 σ H2 x y v u Q I2 rx ry q (hs _ _))
def Hm(K:W.Frag):R2:=fun x y H Q=>∃p xs i v,x=.ref p/\y=.int i/\SqL K H p xs/\Ju xs i=some v/\Q v H
def Hn(K:W.Frag):R2:=fun x y H Q=>∃p xs i v,x=.ref p/\y=.int i/\SqT K H p xs/\Ju xs i=some v/\Q v H
def Ho:R2:=fun x y H Q=>∃z i c,x=.str z/\y=.int i/\z.length<=sizeLine/\Ju z.cps.toList i=some c/\Q (.str ⟨#[c]⟩) H
theorem zW:PU X (Hm X.K):=by
 intro value slice pr s σ H x y v u Q I rx ry h hs;obtain⟨p,xs,i,z,rfl,rfl,hq,he,q⟩:=h;cases rx;obtain⟨t,rfl⟩:=ry;obtain⟨Ic,r,pl,hz⟩:=I.list hq;obtain⟨j,h1,h2,h3,h4,h5⟩:=pE he;obtain⟨w,ew,L5⟩:=r.get h2;have hl:=r.length;have hn:=lx;have fin:EP X pr σ Q w s:=⟨z,H,I,L5,q⟩
 by_cases h0:0<=i
 ·have hj:i.toNat=j:=by
   rw[seqIndex_of h0 h5]at h1;exact TX h1
  exact item_listR pl.isList h0 (by lia) (by rw[hj];simpa using ew) fin hs
 ·have hj:(i+(Ic.toArray.size:Int)).toNat=j:=by
   rw[seqIndex_neg (by lia) h4]at h1;rw[Tu,<-hl];exact TX h1
  exact subscriptTail_builtinR (x:=w) pl.isList.typeIs slot_list_getitem.lookup
   (wpAny_getItem_list_neg (Q:=fun r s'=>r=w/\EP X pr σ Q r s') pl.isList (by lia) (by rw[Tu] <;> lia) (by lia) (by rw[hj];simpa using ew) ⟨rfl,fin⟩) hs
theorem CF:PU X (Hn X.K):=by
 intro value slice pr s σ H x y v u Q I rx ry h hs;obtain⟨p,xs,i,z,rfl,rfl,hq,he,q⟩:=h;cases rx;obtain⟨t,rfl⟩:=ry;obtain⟨Ic,r,pl,hz⟩:=I.tuple hq;obtain⟨j,h1,h2,h3,h4,h5⟩:=pE he;obtain⟨w,ew,L5⟩:=r.get h2;have hl:=r.length;have hn:=lx;have fin:EP X pr σ Q w s:=⟨z,H,I,L5,q⟩
 exact subscriptTail_builtinR (x:=w) pl.typeIs slot_tuple_getitem.lookup
  (getItem_tuple (j:=j) (Q:=fun r s'=>r=w/\EP X pr σ Q r s') pl (by lia) (by lia) (by rw[Tu,<-hl];exact h1) (by simpa using ew) ⟨rfl,fin⟩) hs
theorem CG:PU X Ho:=by
 intro value slice pr s σ H x y v u Q I rx ry h hs;obtain⟨z,i,c,rfl,rfl,hz,he,q⟩:=h;obtain⟨t,rfl⟩:=rx;obtain⟨t',rfl⟩:=ry;obtain⟨j,h1,h2,h3,h4,h5⟩:=pE he;have hl:z.cps.toList.length=z.length:=by simp[Str.length]
 rw[hl]at h1 h4 h5;have hn:=lx;exact tail_any (Xy s z t) slot_str_getitem.lookup (getItem_str (c:=c) (by
  have e1:decide (i < -(2 ^ 63:Int))=false:=T4 (by lia);have e2:decide (i>=2 ^ 63)=false:=T4 (by lia);rw[e1,e2,Bool.or_false]) (by rw[h1];simpa using h2) ⟨.str ⟨#[c]⟩,H,I.tok _,⟨_,rfl⟩,q⟩) hs
theorem sL(Ic:List Value)(n j:Nat)(u:Value):Obj.mapSeq (·.setIfInBounds j u) {cls:=.type "list",data:=.seq Ic.toArray n}={cls:=.type "list",data:=.seq (Ic.set j u).toArray n}:=by
 simp[Obj.mapSeq]
theorem Inv.lst{pr:List (Addr×Obj)}{σ:St}{H:Hp}{s:Shared}{p:Addr}{xs:List V}(I:Inv X pr σ H s)(h:H p=some (.lst xs)):
  ∃(Ic:List Value) (n:Nat),Vals xs Ic/\s.heap.get? p=some {cls:=.type "list",data:=.seq Ic.toArray n}/\xs.length<=sizeLine:=by
 obtain⟨z,Ic,n,r,e⟩:=I.hok p _ h;exact⟨Ic,n,r,e,z⟩
theorem Inv.lstUpd{pr:List (Addr×Obj)}{σ:St}{H:Hp}{s:Shared}{p:Addr}{xs ys:List V}{Ic its':List Value}{n n':Nat}{f:Obj->Obj}(I:Inv X pr σ H s)(h:H p=some (.lst xs))
  (ho:s.heap.get? p=some {cls:=.type "list",data:=.seq Ic.toArray n}) (hf:f {cls:=.type "list",data:=.seq Ic.toArray n}={cls:=.type "list",data:=.seq its'.toArray n'}) (r:Vals ys its') (hz:ys.length<=sizeLine) (t:Nat):
  Inv X pr σ (upd H p (.lst ys)) {s with heap:=s.heap.update p f,toks:=t}:=by
 have e:(s.heap.update p f).get? p=some {cls:=.type "list",data:=.seq its'.toArray n'}:=by
  rw[Heap.get?_update_self f ho (by rw[hf] <;> rfl),hf]
 refine I.write (x:=p) (e:=p) (by rw[h];trivial) (.inl rfl) (fun b u hb q=>(Heap.get?_update_other _ _ (U1 hb)).trans q) ⟨_,e⟩ ?_;exact⟨hz,its',n',r,e⟩
def CI:V->V->V->Hp->(Hp->Prop)->Prop:=fun o i v H Q=>∃p xs k j,o=.ref p/\i=.int k/\H p=some (.lst xs)/\ixN xs.length k=some j/\Q (upd H p (.lst (xs.set j v)))
theorem xi:Hc X CI:=by
 intro pr s σ H o i v ov iv u Q I ro ri rv h;obtain⟨p,xs,k,j,rfl,rfl,hp,hj,q⟩:=h;cases ro;obtain⟨t,rfl⟩:=ri;obtain⟨Ic,n,r,ho,hz⟩:=I.lst hp;obtain⟨h1,h2,h3,h4⟩:=uA hj;have hl:=r.length;have hn:=lx;have I':Inv X pr σ (upd H p (.lst (xs.set j v))) {s with heap:=s.heap.update p (Obj.mapSeq (·.setIfInBounds j u))}:=
  I.lstUpd hp ho (sL Ic n j u) (r.set rv j) (by rw[Uw];exact hz) s.toks
 by_cases h0:0<=k
 ·have hk:k.toNat=j:=by
   rw[seqIndex_of h0 h4]at h1;exact TX h1
  exact PySem.W.ki_setAt ho h0 (by lia) (by rw[Tu,<-hl];exact h4) (by rw[hk];exact⟨_,I',q⟩)
 ·have hk:(k+(Ic.toArray.size:Int)).toNat=j:=by
   rw[seqIndex_neg (by lia) h3]at h1;rw[Tu,<-hl];exact TX h1
  exact PySem.W.ki_setBack ho (by lia) (by rw[Tu,<-hl];exact h3) (by lia) (by rw[hk];exact⟨_,I',q⟩)
theorem nG(lo hi:Option Int)(n:Nat):(sliceBounds lo hi none n).1=((HT.sIx n 0 lo:Nat):Int)/\(sliceBounds lo hi none n).2.1=((HT.sIx n n hi:Nat):Int)/\(sliceBounds lo hi none n).2.2=1:=by
 refine⟨?_,?_,rfl⟩
 ·cases lo with
  |none=>simp[sliceBounds,HT.sIx]
  |some i=>
   simp only[sliceBounds,HT.sIx,Ve,show(1:Int)>0 by decide,VY];by_cases h:i<0
   ·simp only[h,VY] <;> lia
   ·simp only[h,Wg] <;> lia
 ·cases hi with
  |none=>simp[sliceBounds,HT.sIx]
  |some i=>
   simp only[sliceBounds,HT.sIx,Ve,show(1:Int)>0 by decide,VY];by_cases h:i<0
   ·simp only[h,VY] <;> lia
   ·simp only[h,Wg] <;> lia
theorem lX(Ic:List Value)(lo hi:Option Int):slicePick Ic.toArray lo hi none=((Ic.drop (HT.sIx Ic.length 0 lo)).take (HT.sIx Ic.length Ic.length hi-HT.sIx Ic.length 0 lo)).toArray:=by
 obtain⟨h1,h2,h3⟩:=nG lo hi Ic.toArray.size;unfold slicePick;rw[h1,h2,h3];simp only[sliceRange_one,pick_run,Tu] <;> rfl
def Hq(K:W.Frag):V->Option Int->Option Int->Hp->VK->Prop:=fun x lo hi H Q=>∃a xs,x=.ref a/\SqL K H a xs/\∀p,H p=none->Q (.ref p) (upd H p (.lst (yJ xs lo hi)))
theorem zX:Oo X (Hq X.K):=by
 intro pr s σ H x v vl vu lo hi sl Q I rx hs pl pu h;obtain⟨a,xs,rfl,hx,q⟩:=h;cases rx;obtain⟨Ic,r,ht,hz⟩:=I.list hx;have hlen:=r.length;refine⟨"list",_,slot_list_getitem.lookup,ht.isList.typeIs,?_⟩;refine WO ht.isList hs pl pu .none (by simp) ?_ (by rw[Tu] <;> lia);rw[lX,<-hlen];refine⟨.ref s.heap.objs.size,_,I.laid (t':=s.toks) (o:=.lst (yJ xs lo hi)) (fun b ob q=>Heap.get?_push_of_some _ q) (TB _) ?_,rfl,q _ (I.hok.fresh (TB _))⟩;exact⟨Uc (j3 xs lo hi) hz,_,0,(r.drop (HT.sIx xs.length 0 lo)).take (HT.sIx xs.length xs.length hi-HT.sIx xs.length 0 lo),Heap.get?_push_size _ rfl⟩
def xj:V->Bool
 | .non=>true
 | .bl _=>true
 | .int _=>true
 | .str _=>true
 |_=>false
def RE:V->V->Bool
 | .non,.non=>true
 | .bl a,.bl b=>a==b
 | .bl a,.int b=>(if a then 1 else 0)==b
 | .int a,.bl b=>a==(if b then 1 else 0)
 | .int a,.int b=>a==b
 | .str a,.str b=>a==b
 |_,_=>false
theorem yK{A:Around}{s:Shared}{y x:V}{u v:Value}(ry:RelV y u)(rx:RelV x v)(fy:xj y=true)(fx:xj x=true):SeqAt.EqAt A s u v (RE y x):=by
 cases y with
 |non=>
  cases ry;cases x with
  |non=>cases rx;exact SeqAt.EqAt.same _
  |bl b=>cases rx;exact SeqAt.EqAt.none_bool b
  |int b=>obtain⟨t,rfl⟩:=rx;exact SeqAt.EqAt.none_int b t
  |str b=>obtain⟨t,rfl⟩:=rx;exact SeqAt.EqAt.none_str b t
  |_=>exact absurd (show false=true from fx) Tz
 |bl a=>
  cases ry;cases x with
  |non=>cases rx;exact SeqAt.EqAt.bool_none a
  |bl b=>cases rx;exact SeqAt.EqAt.bool_bool a b
  |int b=>obtain⟨t,rfl⟩:=rx;exact SeqAt.EqAt.bool_int a b t
  |str b=>obtain⟨t,rfl⟩:=rx;exact SeqAt.EqAt.bool_str a b t
  |_=>exact absurd (show false=true from fx) Tz
 |int a=>
  obtain⟨t',rfl⟩:=ry;cases x with
  |non=>cases rx;exact SeqAt.EqAt.int_none a t'
  |bl b=>cases rx;exact SeqAt.EqAt.int_bool a t' b
  |int b=>obtain⟨t,rfl⟩:=rx;exact SeqAt.EqAt.int_int a t' b t
  |str b=>obtain⟨t,rfl⟩:=rx;exact SeqAt.EqAt.int_str a t' b t
  |_=>exact absurd (show false=true from fx) Tz
 |str a=>
  obtain⟨t',rfl⟩:=ry;cases x with
  |non=>cases rx;exact SeqAt.EqAt.str_none a t'
  |bl b=>cases rx;exact SeqAt.EqAt.str_bool a t' b
  |int b=>obtain⟨t,rfl⟩:=rx;exact SeqAt.EqAt.str_int a t' b t
  |str b=>obtain⟨t,rfl⟩:=rx;exact SeqAt.EqAt.str_str a t' b t
  |_=>exact absurd (show false=true from fx) Tz
 |_=>exact absurd (show false=true from fy) Tz
theorem ju:dJ X (.builtin "len") (fun xs H Q=>∃p ys,xs=[.ref p]/\(SqL X.K H p ys\/SqT X.K H p ys)/\Q (.int ys.length) H):=by
 intro pr s σ H xs us Q I r h;obtain⟨p,ys,rfl,hq,q⟩:=h;obtain⟨u,rfl,rx⟩:=fN r;cases rx;have hn:=lx;rcases hq with hq|hq
 ·obtain⟨Ic,r',pl,hz⟩:=I.list hq;have hlen:=r'.length;exact Calls.call_len_list pl.isList (by simp only[Tu] <;> lia) ⟨.int ys.length,H,I.tok _,⟨s.toks+1,by rw[Tu,hlen]⟩,q⟩
 ·obtain⟨Ic,r',pl,hz⟩:=I.tuple hq;have hlen:=r'.length;exact len_tuple pl (by simp only[Tu] <;> lia) ⟨.int ys.length,H,I.tok _,⟨s.toks+1,by rw[Tu,hlen]⟩,q⟩
theorem nH:dJ X (.builtin "len") (fun xs H Q=>∃z,xs=[.str z]/\z.length<=sizeLine/\Q (.int z.length) H):=by
 intro pr s σ H xs us Q I r h;obtain⟨z,rfl,hz,q⟩:=h;obtain⟨u,rfl,t,rfl⟩:=fN r;have hn:=lx;exact len_str (by lia) ⟨.int z.length,H,I.tok _,⟨_,rfl⟩,q⟩
theorem jv:dJ X (.type "list") (fun xs H Q=>∃p ys,xs=[.ref p]/\(SqL X.K H p ys\/SqT X.K H p ys)/\∀l,H l=none->Q (.ref l) (upd H l (.lst ys))):=by
 intro pr s σ H xs us Q I r h;obtain⟨p,ys,rfl,hq,q⟩:=h;obtain⟨u,rfl,rx⟩:=fN r;cases rx;have fin:∀(Ic:List Value),Vals ys Ic->ys.length<=sizeLine->∀(h':Heap) (c':Nat),(∀b o',s.heap.get? b=some o'->h'.get? b=some o')->
   h'.get? s.heap.objs.size=some {cls:=.type "list",dict:=none,data:=.seq Ic.toArray c',slots:=#[]}->EP X pr σ Q (.ref s.heap.objs.size) {s with heap:=h'}:=fun Ic r' hz h' c' kp e=>
  ⟨.ref s.heap.objs.size,_,I.laid (t':=s.toks) kp (TB _) (show ObjOk X.prog X.w _ h' _ (.lst ys) from⟨hz,Ic,c',r',e⟩),rfl,q _ (I.hok.fresh (TB _))⟩
 rcases hq with hq|hq
 ·obtain⟨Ic,r',pl,hz⟩:=I.list hq;have hlen:=r'.length;obtain⟨o,ho,hc,n,hd⟩:=pl.isList;exact call_list_seq p (.inl rfl) ho hc hd (fun h' c' kp e=>fin Ic r' hz h' c' kp e) (by simp only[Tu] <;> lia)
 ·obtain⟨Ic,r',pl,hz⟩:=I.tuple hq;have hlen:=r'.length;obtain⟨o,ho,hc,n,hd⟩:=pl;exact call_list_seq p (.inr rfl) ho hc hd (fun h' c' kp e=>fin Ic r' hz h' c' kp e) (by simp only[Tu] <;> lia)
theorem iz:dJ X (.type "tuple") (fun xs H Q=>∃p ys,xs=[.ref p]/\((SqL X.K H p ys/\∀l,H l=none->Q (.ref l) (upd H l (.tup ys)))\/(SqT X.K H p ys/\Q (.ref p) H))):=by
 intro pr s σ H xs us Q I r h;obtain⟨p,ys,rfl,h⟩:=h;obtain⟨u,rfl,rx⟩:=fN r;cases rx;rcases h with⟨hq,q⟩|⟨hq,q⟩
 ·obtain⟨Ic,r',pl,hz⟩:=I.list hq;have hlen:=r'.length;refine call_tuple_list pl.isList (fun h' kp=>?_) (by simp only[Tu] <;> lia);have I1:Inv X pr σ H {s with heap:=h'}:=I.kept (t':=s.toks) kp;have I2:Inv X pr σ (upd H h'.objs.size (.tup ys)) {s with heap:=h'.push {cls:=.type "tuple",data:=.seq Ic.toArray}}:=
   I1.laid (t':=s.toks) (fun b o e=>Heap.get?_push_of_some _ e) (TB _) (show ObjOk X.prog X.w _ _ _ (.tup ys) from⟨hz,Ic,r',IsTupN.new _ _⟩)
  exact⟨.ref h'.objs.size,_,I2,rfl,q _ (I1.hok.fresh (TB _))⟩
 ·obtain⟨Ic,r',pl,hz⟩:=I.tuple hq;exact call_tuple_same pl ⟨.ref p,H,I,rfl,q⟩
def RF(K:W.Frag)(T:String)(x:V)(H:Hp):Prop:=match x with
 | .str _=>T = "str"
 | .int _=>T = "int"
 | .ref p=>(T = "list"/\∃xs,SqL K H p xs)\/(T = "tuple"/\∃o,K.lookup p=some o/\o.cls=.type "tuple"/\o.dict=none)\/
   (T = "dict"/\((∃kvs,H p=some (.dK kvs))\/∃kvs,H p=some (.dT kvs)))\/(T = "set"/\∃S n,H p=some (.set S n))
 |_=>False
theorem CJ{pr:List (Addr×Obj)}{σ:St}{H:Hp}{s:Shared}{T:String}{x:V}{v:Value}(I:Inv X pr σ H s)(r:RelV x v)(ty:RF X.K T x H):
  s.TypeIs v T/\∀a,v=.ref a->∃ob,s.heap.get? a=some ob/\ob.dict=none:=by
 cases x with
 |str z=>
  obtain⟨t,rfl⟩:=r;cases(show T = "str" from ty);exact⟨Xy s z t,fun _ e=>nomatch e⟩
 |int i=>
  obtain⟨t,rfl⟩:=r;cases(show T = "int" from ty);exact⟨Xz s i t,fun _ e=>nomatch e⟩
 |ref p=>
  cases r;rcases ty with⟨rfl,xs,hq⟩|⟨rfl,o,hk,hc,hd⟩|⟨rfl,hk⟩|⟨rfl,S,n,hk⟩
  ·obtain⟨Ic,_,pl,_⟩:=I.list hq;refine⟨pl.isList.typeIs,fun a e=>?_⟩;cases e;obtain⟨o,n,e,c,hd,_⟩:=pl;exact⟨o,e,hd⟩
  ·refine⟨⟨o,I.kIn p o hk,hc⟩,fun a e=>?_⟩;cases e;exact⟨o,I.kIn _ o hk,hd⟩
  ·have z:∃o,s.heap.get? p=some o/\o.ExactDict:=by
    rcases hk with⟨kvs,hk⟩|⟨kvs,hk⟩
    ·obtain⟨_,_,_,_,o,_,_,e,ex,_⟩:=I.hok p _ hk;exact⟨o,e,ex⟩
    ·obtain⟨_,_,_,_,o,_,_,e,ex,_⟩:=I.hok p _ hk;exact⟨o,e,ex⟩
   obtain⟨o,e,ex⟩:=z;refine⟨⟨o,e,ex.1⟩,fun a e2=>?_⟩;cases e2;exact⟨o,e,ex.2.1⟩
  ·obtain⟨o,_,_,_,e,ex,_⟩:=I.hok p _ hk;refine⟨⟨o,e,ex.1⟩,fun a e2=>?_⟩;cases e2;exact⟨o,e,ex.2.1⟩
 |_=>exact False.elim ty
def tBM(K:W.Frag)(T:String)(r:V->List V->Hp->VK->Prop)(to:TE)(t:TA):TE:=fun σ H Q=>to σ H fun x H1=>RF K T x H1/\t σ H1 fun xs H2=>r x xs H2 Q
variable{o e:Expr}{es:List Expr}{to:TE}{t:TA}{name:Str}{apos Iy:Pos}{T id:String}{r:V->List V->Hp->VK->Prop}
theorem xk(pa:PlainAttrs T)(slot:Slot T name id)(Mx:typeOf (.builtin id)=pure (.type "method_descriptor"))(hm:N9 X id r)(ho:PE X o to)(ha:PA X (e::es) t)
  (Jq:attributeBase o name X.env (eval o X.env)=eval o X.env:=by rfl)
  (Kc:((backTo Iy (starEach (e::es) X.env)).all (fun x=>!x.1)&&(backToKw Iy (keywordEach [] X.env)).all (fun x=>x.1.isSome)
   && decide ((e::es).length+([]:List Keyword).length+(if([]:List Keyword).isEmpty then 0 else 1)<30))=true:=by rfl)
  (Jr:(apos.endLine==Iy.line)=true:=by rfl) (hs:starEach (e::es) X.env=(false,eval e X.env)::starEach es X.env:=by rfl) (IV:(backTo Iy (starEach es X.env)).any (·.1)=false:=by rfl):
  PE X (.Call (.Attribute o name apos) (e::es) [] Iy) (tBM X.K T r to t):=by
 intro pr s σ H Q I h;refine wpAny_Call_method_late Jq Kc Jr rfl (Iw (ho pr s σ H _ I h) fun v s1 IB=>?_);obtain⟨x,H1,I1,r1,ty,q1⟩:=IB;obtain⟨h1,h2⟩:=CJ I1 r1 ty;refine⟨T,id,pa,slot,Mx,h1,h2,?_⟩;have hA:=ha Iy pr s1 σ H1 _ I1 q1;rw[hs]at hA ⊢;refine Calls.callWith_builtin (by show(false||(backTo Iy (starEach es X.env)).any (·.1))=false;rw[IV] <;> rfl) (Calls.evalArgs_plain ?_);exact Iw hA fun us s2 ⟨vs,H2,I2,r2,q2⟩=>hm pr s2 σ H2 x vs v us Q I2 r1 r2 q2
end
def MtM(X:Cx)(id:String)(r:V->List V->Hp->VK->Prop):Prop:=
 ∀(pr:List (Addr×Obj)) (s:Shared) (σ:St) (H:Hp) (x:V) (xs:List V) (v:Value) (us:List Value) (Q:VK),Inv X pr σ H s->RelV x v->Vals xs us->r x xs H Q->
  wpAny (model X.prog X.w) X.A (call (.builtin id) (v::us)) (EP X pr σ Q) X.xe s
theorem Vals.one:∀{x:V}{us:List Value},Vals [x] us->∃u,us=[u]/\RelV x u
 |_,_,.cons r .nil=>⟨_,rfl,r⟩
theorem Vals.two:∀{x y:V}{us:List Value},Vals [x,y] us->∃u v,us=[u,v]/\RelV x u/\RelV y v
 |_,_,_,.cons r (.cons q .nil)=>⟨_,_,rfl,r,q⟩
theorem Vals.rep{xs:List V}{us:List Value}(h:Vals xs us):∀k:Nat,Vals (List.replicate k xs).flatten (List.replicate k us).flatten
 | 0=>.nil
 |k+1=>by
  rw[UY,UY,U9,U9];exact Vals.append h (Vals.rep h k)
theorem nJ(Ic:List Value):∀(k:Nat) (acc:List Value),
  List.foldl (fun x1 x2=>x1++x2) acc.toArray (List.replicate k Ic.toArray)=(acc++(List.replicate k Ic).flatten).toArray
 | 0,acc=>by simp
 |k+1,acc=>by
  have e:acc.toArray++Ic.toArray=(acc++Ic).toArray:=by simp
  have e2:(acc++Ic)++(List.replicate k Ic).flatten=acc++(List.replicate (k+1) Ic).flatten:=by
   rw[UY,U9,Ul]
  rw[<-e2,<-nJ Ic k (acc++Ic),<-e,UY,VF]
section
variable{X:Cx}{pr:List (Addr×Obj)}{σ:St}{H:Hp}{s:Shared}{l b:Addr}{xs ys zs:List V}
theorem Inv.lset{Ic its':List Value}{n:Nat}{f:Array Value->Array Value}{t':Nat}(I:Inv X pr σ H s)(hH:H l=some (.lst xs))
  (e:s.heap.get? l=some {cls:=.type "list",data:=.seq Ic.toArray n}) (hf:f Ic.toArray=its'.toArray) (hv:Vals ys its') (hz:ys.length<=sizeLine):
  Inv X pr σ (upd H l (.lst ys)) {s with heap:=s.heap.update l (Obj.mapSeq f),toks:=t'}:=by
 have q:=PySem.IsL.update e f;rw[hf]at q;refine I.write (x:=l) (e:=l) (by rw[hH];exact trivial) (.inl rfl) (fun b' u hb hu=>(Heap.get?_update_other s.heap (Obj.mapSeq f) (U1 hb)).trans hu) ⟨_,q⟩ ?_;exact⟨hz,its',_,hv,q⟩
theorem Inv.lnew{Ic:List Value}{t':Nat}(I:Inv X pr σ H s)(hv:Vals ys Ic)(hz:ys.length<=sizeLine):
  Inv X pr σ (upd H s.heap.objs.size (.lst ys)) {s with heap:=s.heap.push {cls:=.type "list",data:=.seq Ic.toArray},toks:=t'}:=
 I.laid (fun _ _ q=>Heap.get?_push_of_some _ q) (TB _) ⟨hz,Ic,0,hv,Heap.get?_push_size _ rfl⟩
theorem Inv.fresh(I:Inv X pr σ H s):H s.heap.objs.size=none:=I.hok.fresh (TB _)
theorem Inv.lstM(I:Inv X pr σ H s)(hH:H l=some (.lst xs)):xs.length<=sizeLine/\∃(Ic:List Value) (n:Nat),Vals xs Ic/\xs.length=Ic.length/\s.heap.get? l=some {cls:=.type "list",data:=.seq Ic.toArray n}:=by
 obtain⟨z,Ic,n,r,e⟩:=I.hok l _ hH;exact⟨z,Ic,n,r,r.length,e⟩
theorem xl{n:Nat}(h:n<=sizeLine):Builtin.List.listTooLong n=false:=by
 unfold Builtin.List.listTooLong;exact T4 (by lia)
end
section
variable{X:Cx}
def zY:V->List V->Hp->VK->Prop:=fun x vs H Q=>∃l xs y,x=.ref l/\vs=[y]/\H l=some (.lst xs)/\xs.length<sizeLine/\Q .non (upd H l (.lst (xs++[y])))
theorem nK:MtM X "list.append" zY:=by
 intro pr s σ H x vs v us Q I rx rv h;obtain⟨l,xs,y,rfl,rfl,hH,hz,q⟩:=h;cases rx;obtain⟨u,rfl,ru⟩:=rv.one;obtain⟨z,Ic,n,r,hl,e⟩:=I.lstM hH;refine Yg F.slot_list_append ⟨_,e,rfl⟩ F.entry_list_append (F.args_list_append_2 _ _) (PySem.list_append l Ic.toArray n u (by rw[Tu];lia)) ⟨e,?_⟩;refine⟨.non,_,I.lset (its':=Ic++[u]) hH e (by simp) (r.append (.cons ru .nil)) ?_,rfl,q⟩;rw[Ua,Um];lia
theorem lY{α:Type}(xs:List α)(k:Nat):(List.replicate k xs).flatten.length=k*xs.length:=by
 induction k with
 |zero=>simp
 |succ k ih=>rw[UY,U9,Ua,ih,Nat.succ_mul,Nat.add_comm]
end
section
variable{prog:Program}{w:World}{A:Around}{E:Value->Shared->Prop}{s:Shared}
end
section
variable{X:Cx}
end
end L2
namespace Att
open PySem PySem.W PySem.Calls PyProof.Rows
theorem j4{P:Params}{h:Heap}:∀(ns:List Int) (vs:List Value),WellAll P h vs (ns.map WData.int)->IntsAre vs ns:=by
 intro ns;induction ns with
 |nil=>
  intro vs w;rw[Ut]at w;cases w;exact .nil
 |cons n ns ih=>
  intro vs w;rw[TR]at w;cases w with
  |cons a b=>
   cases a;exact .cons _ _ (ih _ b)
theorem uC{l:OpenLaw}{n:Nat}(hn:l.most=some n){P:Params}{h:Heap}{args:List WData}{vals:List Value}
  (Nb:l.row.toRowW.claim.pre args=true) (Oq:WellAll P h vals args):
  ∃a vs ns,vals=[Value.ref a]/\args=[WData.list (ns.map WData.int)]/\h.get? a=some {cls:=.type "list",data:=.seq vs.toArray}/\IntsAre vs ns/\ns.length<=n:=by
 have hsh:WShape.hasAll [] args [.list .int]=true:=(pre_splitW Nb).1;have hc:l.pre.holds [] {args:=args}=true:=(pre_splitW Nb).2;obtain⟨d,r,rfl,h1,h2⟩:=hasAllW_cons hsh;obtain rfl:=hasAllW_nil h2;obtain⟨xs,rfl,h3⟩:=hasW_list h1;obtain⟨ns,rfl⟩:=items_int h3;have hlen:ns.length<=n:=by
  unfold OpenLaw.pre at hc;have h4:(WTm.not (.lt (.lit (.int (n:Int))) (.len (.arg 0)))).holds [] {args:=[.list (ns.map .int)]}=true:=by
   have h4:=(holds_andW hc).1;rw[hn]at h4;exact h4
  have h5:=condW_of h4 (w_not (w_lt w_lit (w_len_list (w_arg rfl))));rw[Tt]at h5;refine Nat.le_of_not_lt fun q=>?_
  have q':(n:Int)<((ns.length:Nat):Int):=by lia
  first
   |(rw[T9 q']at h5;exact absurd h5 (by decide))
   |(simp at h5;lia)
 cases Oq with
 |cons w1 w2=>
  cases w2;cases w1 with
  |list ho My=>exact⟨_,_,ns,rfl,rfl,ho,j4 ns _ My,hlen⟩
theorem uD(l:OpenLaw)(args:List WData):l.row.toRowW.claim.post args (.bool true) args=true:=
 postW_of (r:=l.row.toRowW) (X:=(true==true))
  (show WShape.has [] (.bool true) .bool=true by first|rfl|decide|simp[WShape.has,WShape.arms,WShape.armsAll])
  (show(WTm.eq .res (.lit (.bool true))).value [] {args:=args,res:=some (.bool true),after:=args}=some (.bool (true==true)) from w_eq_bool (w_res rfl) w_lit) rfl
theorem attach_call{l:OpenLaw}{n:Nat}{q:Program}{loose:List Str}{XP:(Str->Option Value)->Heap->Prop}{YP:World->Heap->Prop}{d:DefRec}
  (hn:l.most=some n) (PX:d.params.defaults=[])
  (call:∀(w:World) (s₀ s₁:Shared) (mg mb:Str->Option Value) (fa:Addr) (o:Obj) (pm cd doc:Value) (a:Addr) (vs:List Value) (ns:List Int),
   Ground q loose [] XP w s₀ mg mb s₁.heap->YP w s₁.heap->
   s₁.heap.get? fa=some o->o.data=.func (docDef d.name d.params d.body d.scope pm cd doc)->s₁.heap.CodeRec cd d.name->mg d.name=some (.ref fa)->
   s₁.heap.get? a=some {cls:=.type "list",data:=.seq vs.toArray}->IntsAre vs ns->ns.length<=n->s₁.gens = #[]->
   codeAny (model l.prog w) callerA (.call (.ref fa) ⟨[.ref a],[]⟩) (fun r s'=>r=.ok (.ret (.bool true))/\OldK s₁.heap s'.heap/\s'.os=s₁.os/\AllBare s'.gens) s₁):
  WalkO q loose XP YP l.row.toRowW d [] (fun f vs=>PySem.call f vs):=by
 intro w s₀ s₁ mg mb G Y fa o pm cd doc dV kV ho hd Mv hD PY hg args vals as Nb hlay hrd Oq SA;obtain rfl:dV=.none:=Dflts.none hD PX;obtain rfl:kV=.none:=Dflts.noKw hD;obtain⟨a,vs,ns,rfl,rfl,Ot,hints,hlen⟩:=uC hn Nb Oq;refine enter_call (codeAny_mono (call w s₀ s₁ mg mb fa o pm cd doc a vs ns G Y ho (fd_plain hd) Mv PY Ot hints hlen hg) fun r s' hq=>?_);obtain⟨rfl,h2,h3,h4⟩:=hq;exact⟨.inl ⟨.bool true,.bool true,[],rfl,fun _=>rfl,.bool true,uD l _,fun _=>⟨List.Pairwise.nil,fun _ hm=>(nomatch hm)⟩⟩,h2,h3,h4⟩
section
variable{prog:Program}{w:World}{A:Around}{E:Value->Shared->Prop}{s:Shared}{K:Frag}
end
end Att
namespace L2
open PySem PySem.Spec PyProof.Rows
theorem nL:∀{vs:List Value}{ns:List Int},IntsAre vs ns->Vals (ns.map V.int) vs
 |_,_,.nil=>.nil
 |_,_,.cons n t h=>.cons ⟨t,rfl⟩ (nL h)
def Fo(H:Hp):Prop:=∀b,H b=none\/∃o xs,H b=some (.frz o (.lst xs))
theorem xm{P:Program}{w:World}{K:W.Frag}{mg mb:Str->Option Value}{CX:Ms}{k:Nat}{fa a:Addr}{fd:FuncData}{x:Str}{sp:Sp}{s₁:Shared}{vs:List Value}{ns:List Int}
  (KX:K.In s₁.heap) (Pq:s₁.heap.Ns mainGlobals mg) (hb:s₁.heap.Ns builtinsNs mb) (PZ:∀x:Str,x≠"__name__"->mb x=bootBuiltins x) (hlim:s₁.heap.NoLimit) (hg:s₁.gens = #[])
  (ha:s₁.heap.get? a=some {cls:=.type "list",data:=.seq vs.toArray}) (hi:IntsAre vs ns) (hl:ns.length<=sizeLine) (hr:Room k callerA)
  (F:∀base:Heap,K.In base->base.Ns mainGlobals mg->FnOk P w K mg base CX k fa fd [x] sp) (P0:∀(s:Shared) (u:Value),BindsTo s fd ⟨[u],[]⟩ [(x,u)])
  (N8:∀H:Hp,Fo H->SqL K H a (ns.map V.int)->sp [.ref a] H (fun v _=>v=.bl true) fun _ _ _=>False)
  (RG:∀H e s',CX [] H s₁ (fun _ _ _=>False) e s'->False):
  codeAny (model P w) callerA (.call (.ref fa) ⟨[.ref a],[]⟩) (fun r s'=>r=.ok (.ret (.bool true))/\OldK s₁.heap s'.heap/\s'.os=s₁.os/\AllBare s'.gens) s₁:=by
 have rv:=nL hi;have lenV:=hi.length;have core:∀H:Hp,Fo H->SqL K H a (ns.map V.int)->HOk P w H s₁.heap->(∀b,H b≠none->b=a)->(H a≠none->K.lookup a=none)->
   codeAny (model P w) callerA (.call (.ref fa) ⟨[.ref a],[]⟩) (fun r s'=>r=.ok (.ret (.bool true))/\OldK s₁.heap s'.heap/\s'.os=s₁.os/\AllBare s'.gens) s₁:=by
  intro H hO hS hok hA hK;have LV:∀{b:Addr}{o:Obj},s₁.heap.get? b=some o->H b=none->(wZ s₁.heap H).get? b=some o:=fun e n=>w5 e n
  have PR:∀{b:Addr}{o:Obj}{es:Array DictEntry}{ep:Nat},s₁.heap.get? b=some o->o.data=.dict es ep->H b=none:=fun{b o es ep} e d=>by
   cases q:H b with
   |none=>rfl
   |some u=>
    have e':b=a:=hA b (by rw[q];simp);subst e';rw[ha]at e;cases e;have d':Data.seq vs.toArray _=Data.dict es ep:=d;cases d'
  have Q2:∀{b:Addr}{m:Str->Option Value},s₁.heap.Ns b m->(wZ s₁.heap H).Ns b m:=fun{b m} ⟨o,es,ep,e,d,r⟩=>⟨o,es,ep,LV e (PR e d),d,r⟩
  have SD:K.In (wZ s₁.heap H):=fun b o e=>LV (KX b o e) (by
   cases q:H b with
   |none=>rfl
   |some u=>
    have e':b=a:=hA b (by rw[q];simp);subst e';rw[hK (by rw[q];simp)]at e;cases e)
  have hM:Mod K mg (wZ s₁.heap H):=⟨SD,Q2 Pq,⟨mb,Q2 hb,PZ⟩,let⟨mc,h1,h2⟩:=hlim;⟨mc,Q2 h1,h2⟩⟩
  have e0:Env0 P w K mg (wZ s₁.heap H) callerA [] s₁ H:=⟨rfl,hM,fun b o e=>zu e,Yv (uc _ _),trivial,fun b hb=>absurd (show b∈([]:List Addr) from hb) (by simp),hok,.of_eq hg⟩
  refine codeAny_mono ((F _ SD (Q2 Pq)).run callerA [] s₁ H ⟨[.ref a],[]⟩ [.ref a] [.ref a] _ _ hr e0 (P0 s₁ (.ref a)) (.cons rfl .nil) (N8 H hO hS)) fun r s' h=>?_
  cases r with
  |error e=>exact(RG H e s' h).elim
  |ok fl=>
   cases fl with
   |next=>exact False.elim h
   |brk=>exact False.elim h
   |cont=>exact False.elim h
   |ret u=>
    obtain⟨v,H',os,bare,un,hok',r',q⟩:=h;have q':v=.bl true:=q;subst q';obtain rfl:u=Value.bool true:=r';refine⟨rfl,OldK.of_keep fun b o e=>?_,os,bare⟩;cases q:H b with
    |none=>exact un.keep b o e q (by intro z;exact absurd (show b∈([]:List Addr) from z) (by simp)) (by simp)
    |some u=>
     rcases hO b with z|⟨ob,xs,z⟩
     ·rw[q]at z;cases z
     ·have z2:=un.frzs b ob _ z;obtain⟨e1,_⟩:=hok b _ z;obtain⟨e2,_⟩:=hok' b _ z2;rw[e]at e1;cases e1;exact e2
 cases hk:K.lookup a with
 |some o=>
  have e:=KX a o hk;rw[ha]at e;cases e;refine core (fun _=>none) (fun _=>.inl rfl) (.inr ⟨_,vs.toArray,_,hk,rfl,rfl,rfl,by rw[Tu,lenV];exact hl,by simpa using rv⟩) (fun b u z=>by have z':(none:Option HO)=some u:=z;cases z') (fun b z=>absurd rfl z) fun z=>absurd rfl z
 |none=>
  refine core (fun b=>if b=a then some (.frz {cls:=.type "list",data:=.seq vs.toArray} (.lst (ns.map V.int))) else none) (fun b=>?_) (.inl (.inr ⟨{cls:=.type "list",data:=.seq vs.toArray},TF rfl⟩)) (fun b u z=>?_) (fun b z=>?_) fun _=>hk
  ·by_cases hb:b=a
   ·exact .inr ⟨_,_,TF hb⟩
   ·exact .inl (TJ hb)
  ·by_cases hb:b=a
   ·have z':=(TF hb).symm.trans z;cases z';subst hb;exact⟨ha,by rw[Tt];exact hl,vs,_,rv,ha⟩
   ·have z':=(TJ hb).symm.trans z;cases z'
  ·by_cases hb:b=a
   ·exact hb
   ·exact absurd (TJ hb) z
theorem zZ{l:PySem.W.OpenLaw}{n k:Nat}{q:Program}{loose:List Str}{XP:(Str->Option Value)->Heap->Prop}{YP:World->Heap->Prop}{d:DefRec}{K:Params->W.Frag}{CX:World->Ms}{sp:World->Sp}{x:Str}
  (hn:l.most=some n) (hn2:n<=sizeLine) (PX:d.params.defaults=[]) (hr:Room k callerA)
  (hY:∀(w:World) (h:Heap),YP w h->(K w.params).In h)
  (F:∀(w:World) (mg:Str->Option Value) (fa:Addr) (h:Heap),(K w.params).In h->h.Ns mainGlobals mg->mg d.name=some (.ref fa)->
   ∃fd:FuncData,(∀(s:Shared) (u:Value),BindsTo s fd ⟨[u],[]⟩ [(x,u)])/\
    ∀base:Heap,(K w.params).In base->base.Ns mainGlobals mg->FnOk l.prog w (K w.params) mg base (CX w) k fa fd [x] (sp w))
  (N8:∀(w:World) (H:Hp) (a:Addr) (ns:List Int),ns.length<=n->Fo H->SqL (K w.params) H a (ns.map V.int)->sp w [.ref a] H (fun v _=>v=.bl true) fun _ _ _=>False)
  (RG:∀(w:World) (H:Hp) (s:Shared) (e:Value) (s':Shared),CX w [] H s (fun _ _ _=>False) e s'->False):
  PySem.W.WalkO q loose XP YP l.row.toRowW d [] (fun f vs=>PySem.call f vs):=by
 refine Att.attach_call hn PX fun w s₀ s₁ mg mb fa o pm cd doc a vs ns G Y ho hd Mv PY Ot hints hlen hg=>?_
 have KX:=hY w _ Y;obtain⟨fd,hb,hF⟩:=F w mg fa _ KX G.T.g PY;exact xm KX G.T.g G.T.b G.T.builtins G.T.nolimit hg Ot hints (Uc hlen hn2) hr hF hb (fun H hO hS=>N8 w H a ns hlen hO hS) fun H e s'=>RG w H s₁ e s'
def eD(s:Stmt):Arguments:=match s with
 | .FunctionDef _ a _ _ _ _ _ _ _ _=>a
 |_=>{posonlyargs:=[],args:=[],vararg:=none,kwonlyargs:=[],kw_defaults:=[],kwarg:=none,defaults:=[]}
def cQ(s:Stmt):List Stmt:=match s with
 | .FunctionDef _ _ b _ _ _ _ _ _ _=>b
 |_=>[]
def defScope(s:Stmt):Scope:=match s with
 | .FunctionDef _ _ _ _ _ _ sc _ _ _=>sc
 |_=>{kind:=.function,names:=[],isGenerator:=false,isCoroutine:=false}
abbrev L6:Ms:=fun _ _ _ _ _ _=>False
abbrev E0:XK:=fun _ _ _=>False
theorem Fp{X:Cx}:uv L6 X E0:=fun _ _ _ _ _ _ _ h=>h.elim
structure Fun(K:W.Frag)(x qual:Str)(st:Stmt)(f:Addr)(fd:FuncData):Prop where
 ex:∃(oc:Value) (od:Option Addr) (kV doc pm:Value) (an:Option Addr) (ID ct:Value) (M0:Array (Option Value)),
  fd=PySem.W.fnOf x qual (eD st) (cQ st) (defScope st) .none kV doc pm an ID ct/\K.lookup f=some ⟨oc,od,.func fd,M0⟩/\PySem.W.codeIn K ID qual=true
 kp:PySem.W.keepIn K (.ref f)=true
section
variable{P:Program}{w:World}{K:W.Frag}{mg:Str->Option Value}{base:Heap}
theorem Fun.ok{x qual:Str}{st:Stmt}{f:Addr}{fd:FuncData}{N ps:List Str}{k:Nat}{sp:Sp}(F:Fun K x qual st f fd)(S:FnScope N ps (defScope st))(len:∀vs H Q E,sp vs H Q E->vs.length=ps.length)
  (Mw:∀(ID:Value) (A:Around) (outer:List Env) (s:Shared) (H:Hp) (vs:List V) (Q:VK) (E:XK),Room k (A.deeper (envOfC qual (defScope st) s.heap.objs.size f ID))->sp vs H Q E->
   ∃t,PSs (wR L6 P w K mg base N qual (defScope st) f ID A outer s H E).nox (cQ st) t/\t {nx:=fun _ H'=>Q .non H',rt:=Q} (jJ N vs) H):FnOk P w K mg base L6 (k+1) f fd ps sp:=by
 obtain⟨oc,od,kV,doc,pm,an,ID,ct,M0,rfl,lk,Mv⟩:=F.ex;refine Fj lk Mv S len fun A outer s H vs Q E hr N8=>?_
 obtain⟨t,h,q⟩:=Mw ID A outer s H vs Q E hr N8;exact⟨t,h.nox,q⟩
theorem Fun.binds{x qual:Str}{st:Stmt}{f:Addr}{fd:FuncData}{ps:List Str}(F:Fun K x qual st f fd)
  (h:∀(kV doc pm:Value) (an:Option Addr) (ID ct:Value) (us:List Value),us.length=ps.length->bindArgs (PySem.W.fnOf x qual (eD st) (cQ st) (defScope st) .none kV doc pm an ID ct) ⟨us,[]⟩=pure (ps.zip us)):Binds K fd ps []:=by
 obtain⟨oc,od,kV,doc,pm,an,ID,ct,M0,rfl,lk,Mv⟩:=F.ex;exact .all (h kV doc pm an ID ct)
theorem yL{x qual:Str}{st:Stmt}{f:Addr}{oc:Value}{od an:Option Addr}{M0:Array (Option Value)}{kV doc pm ID ct:Value}(l:K.lookup f=some ⟨oc,od,.func (PySem.W.fnOf x qual (eD st) (cQ st) (defScope st) .none kV doc pm an ID ct),M0⟩)
  (c:PySem.W.codeIn K ID qual=true) (k:PySem.W.keepIn K (.ref f)=true):Fun K x qual st f (PySem.W.fnOf x qual (eD st) (cQ st) (defScope st) .none kV doc pm an ID ct):=⟨⟨oc,od,kV,doc,pm,an,ID,ct,M0,rfl,l,c⟩,k⟩
end
theorem hu_of{A:Around}{k:Nat}(hr:Room k A):A.units+1<cLine:=X0 (Nat.add_le_add_left (by decide:1<=64) _) hr.units
section
variable{X:Cx}
theorem pv(i:Nat){x:Str}{pos:Pos}(hN:X.N[i]?=some x:=by rfl)(hv:Rv X.env.scope x:=by first|exact Or.inl rfl|exact Or.inr (Or.inl rfl)|exact Or.inr (Or.inr rfl))(hd:(x==("__debug__" : Str))=false:=by decide)
  (Mv:(x==("__classdict__" : Str))=false:=by decide):PE X (.Name x pos) (ud i):=B8 hN hv hd Mv
end
theorem iteF{A B:Prop}(h:B):if false=true then A else B:=by
 rw[TJ Tz];exact h
theorem EL{A B:Prop}(h:A):if true=true then A else B:=by
 rw[TF rfl];exact h
def Same(H H':Hp):Prop:=∀b o,H b=some o->H' b=some o
theorem Same.refl(H:Hp):Same H H:=fun _ _ h=>h
theorem Same.trans{H H1 H2:Hp}(a:Same H H1)(b:Same H1 H2):Same H H2:=fun c o h=>b c o (a c o h)
end L2
set_option maxHeartbeats 4000000
namespace NX
open PySem PySem.Spec PyProof.Rows L2
section
variable{X:Cx}
theorem xn(v:Int)(n:Nat):max (0:Int) (min (if v<0 then v+(n:Int) else v) (n:Int))=((HT.sIx n 0 (some v):Nat):Int):=by
 show _=(((if v<0 then(v+(n:Int)).toNat else min v.toNat n):Nat):Int)
 split <;> lia
theorem CK(a b:Nat):sliceRange (a:Int) (b:Int) 1=(List.range (b-a)).map (fun k=>a+k):=by
 unfold sliceRange;rw[TF (by decide:(1:Int)>0)];by_cases IQ:(a:Int)<b
 ·have e3:(((b:Int)-a+1-1) / 1).toNat=b-a:=by first|lia|(simp;done)|(simp;lia)
  simp only[IQ,VY,e3];refine Ur fun k _=>?_
  lia
 ·have:b-a=0:=by lia
  simp[IQ,this]
theorem Hr(lo hi:Option Int)(n:Nat):Builtin.Str.strSliceIndices lo hi 1 n=(List.range (HT.sIx n n hi-HT.sIx n 0 lo)).map (fun k=>HT.sIx n 0 lo+k):=by
 rw[<-CK];unfold Builtin.Str.strSliceIndices;simp only[show(1:Int)>0 from by decide,VY];cases lo with
 |none=>
  cases hi with
  |none=>rfl
  |some v=>exact UP (fun z=>sliceRange 0 z 1) (xn v n)
 |some u=>
  cases hi with
  |none=>exact UP (fun z=>sliceRange z (n:Int) 1) (xn u n)
  |some v=>exact(UP (fun z=>sliceRange z _ 1) (xn u n)).trans (UP (fun z=>sliceRange _ z 1) (xn v n))
def CL(xs:List Nat)(lo hi:Option Int):List Nat:=(xs.drop (HT.sIx xs.length 0 lo)).take (HT.sIx xs.length xs.length hi-HT.sIx xs.length 0 lo)
theorem yM{α:Type}(l:List α):∀(n a:Nat),a+n<=l.length->((List.range n).map (fun k=>a+k)).filterMap (l[·]?)=(l.drop a).take n
 | 0,_,_=>by simp
 |n+1,a,h=>by
  have IQ:a+n<l.length:=by lia
  rw[List.range_succ,TV,List.filterMap_append,yM l n a (by lia),List.take_add_one,List.getElem?_drop];simp[List.getElem?_eq_getElem IQ]
theorem uE(x:Str)(lo hi:Option Int):(Txt.slice x lo hi).cps.toList=CL x.cps.toList lo hi:=by
 have hl:x.cps.toList.length=x.length:=UA;have ha:=HT.uy x.length 0 (Ug _) lo;have hb:=HT.uy x.length x.length (TB _) hi;unfold Txt.slice CL;rw[Hr,hl];split
 ·rename_i h;have h2:HT.sIx x.length x.length hi-HT.sIx x.length 0 lo=x.length:=by simpa using h
  have ez:HT.sIx x.length 0 lo=0\/x.length=0:=by lia
  rcases ez with e|e
  ·rw[h2,e,XH,UU (by lia)]
  ·have:x.cps.toList=[]:=Ux (by lia);rw[this];simp
 ·have hk:∀(f:List Nat),f.filterMap (x.cps[·]?)=f.filterMap (x.cps.toList[·]?):=fun f=>by
   congr 1
   funext i
   simp
  show(List.filterMap _ _).toArray.toList=_;rw[Wz,hk];by_cases hle:HT.sIx x.length 0 lo<=HT.sIx x.length x.length hi
  ·rw[yM _ _ _ (by lia)]
  ·have e0:HT.sIx x.length x.length hi-HT.sIx x.length 0 lo=0:=by lia
   rw[e0];rfl
abbrev S(l:List Nat):Str:=⟨l.toArray⟩
theorem nM(x:Str):S x.cps.toList=x:=by cases x;simp[S]
theorem S_inj{a b:List Nat}(h:S a=S b):a=b:=by
 have:=UP (fun z:Str=>z.cps.toList) h;simpa[S] using this
theorem lh(l:List Nat):(S l).length=l.length:=by simp[S,Str.length]
theorem dr(l:List Nat):(S l).cps.toList=l:=by simp[S]
theorem Fq(a b:List Nat):S a++S b=S (a++b):=by
 rw[<-nM (S a++S b),PySem.W.KT.app_list,dr,dr]
def Hs:V->Option Int->Option Int->Hp->VK->Prop:=fun x lo hi H Q=>∃l,x=.str (S l)/\l.length<=sizeLine/\Q (.str (S (CL l lo hi))) H
theorem CM:Oo X Hs:=by
 intro pr s σ H x v vl vu lo hi sl Q I rx hs pl pu h;obtain⟨l,rfl,hz,q⟩:=h;obtain⟨t,rfl⟩:=rx;have hz':(S l).length<=sizeLine:=by rw[lh];exact hz
 have e:∀t' k,EP X pr σ Q (.str (Txt.slice (S l) lo hi) t') {s with toks:=k}:=fun t' k=>by
  refine⟨.str (S (CL l lo hi)),H,I.tok _,⟨t',?_⟩,q⟩;have e1:=uE (S l) lo hi;rw[dr]at e1;rw[<-e1,nM]
 refine⟨"str",_,PySem.F.slot_str_getitem.lookup,Xy _ _ _,?_⟩;have key:∀(Ou Q3:Option (Int×Tok)),partValue Ou=vl->partValue Q3=vu->Ou.map (·.1)=lo->Q3.map (·.1)=hi->
   wpAny (model X.prog X.w) X.A (getItem (.str (S l) t) (.ref sl)) (EP X pr σ Q) X.xe s:=by
  rintro Ou Q3 rfl rfl rfl rfl;exact wpAny_getItem_str_slice (l:=Ou) (u:=Q3) (st:=none) hs rfl (post_val_or_str ⟨Uc (Txt.slice_le (S l) _ _) hz',fun t' k=>e t' k⟩)
 cases pl with
 |none=>
  cases pu with
  |none=>exact key none none rfl rfl rfl rfl
  |int j uj=>exact key none (some (j,uj)) rfl rfl rfl rfl
 |int i ui=>
  cases pu with
  |none=>exact key (some (i,ui)) none rfl rfl rfl rfl
  |int j uj=>exact key (some (i,ui)) (some (j,uj)) rfl rfl rfl rfl
theorem z4{xs:List V}{j:Nat}{x:V}(h:xs[j]?=some x):xs.getD j .non=x:=by rw[List.getD_eq_getElem?_getD,h];rfl
end
def Def(K:W.Frag)(mg:Str->Option Value)(x:Str)(st:Stmt):Prop:=∃f fd,Fun K x x st f fd/\mg x=some (.ref f)
def Ct(P:Program)(w:World)(K:W.Frag)(mg:Str->Option Value)(base:Heap)(x:Str)(k:Nat)(sp:Sp):Prop:=
 ∃f fd ps,FnOk P w K mg base L6 k f fd ps sp/\mg x=some (.ref f)/\PySem.W.keepIn K (.ref f)=true/\Binds K fd ps []
section
variable{X:Cx}{e:Expr}{es:List Expr}{t:TA}{x:Str}{p pos:Pos}{k:Nat}{sp:Sp}
theorem z5(C:Ct X.prog X.w X.K X.mg X.base x k sp)(hr:Room k X.A)(hg:Gl X x)(ha:PA X (e::es) t)(Kl:(x==("__debug__" : Str))=false:=by decide)
  (he:starEach (e::es) X.env=(false,eval e X.env)::starEach es X.env:=by rfl) (JJ:(backTo pos (starEach es X.env)).any (·.1)=false:=by rfl):
  PE X (.Call (.Name x p) (e::es) [] pos) (tCall sp [] E0 t):=by
 obtain⟨f,fd,ps,G,m,kp,b⟩:=C;exact zP G hr hg m kp b .nil Fp ha Kl he JJ
end
theorem bt_len:bootBuiltins "len" = some (.builtin "len"):=by decide +kernel
theorem lZ:bootBuiltins "isinstance" = some (.builtin "isinstance"):=by decide +kernel
theorem j5:bootBuiltins "list" = some (.type "list"):=by decide +kernel
theorem cn:bootBuiltins "tuple" = some (.type "tuple"):=by decide +kernel
theorem line_eq:sizeLine=16777216:=UB
theorem flat_strs(a:List (List Nat)):(a.map fun l=>V.str (S l)).all xj=true:=by
 rw[T8];intro v hv;obtain⟨l,_,rfl⟩:=UH.mp hv;rfl
section
variable{X:Cx}{e:Expr}{st:Stmt}
end
def clOf(scope:Scope)(env:Env):List (Str×Addr):=scope.names.foldl (fun cs y=>if y.2==NameKind.free then(y.1,(env.cells.lookup y.1).getD 0)::cs else cs) []
def iA(scope:Scope)(env:Env):Bool:=scope.names.all fun y=>y.2 != NameKind.free||env.kindOf y.1==some .cell||env.kindOf y.1==some .free
theorem gD(env:Env):∀(l:List (Str×NameKind)) (cs:List (Str×Addr)),(∀y∈l,y.2=.free->∃c,env.cells.lookup y.1=some c)->
  (forIn l cs fun(y:Str×NameKind) (r:List (Str×Addr))=>(do
   if y.2==NameKind.free then
    let a <-cellOf env y.1
    pure (ForInStep.yield ((y.1,a)::r))
   else pure (ForInStep.yield r):Sem (ForInStep (List (Str×Addr)))))=pure (l.foldl (fun cs y=>if y.2==NameKind.free then(y.1,(env.cells.lookup y.1).getD 0)::cs else cs) cs)
 |[],cs,_=>by simp
 |y::l,cs,h=>by
  rw[Xl,VF];by_cases k:y.2=.free
  ·obtain⟨c,e⟩:=h y Ts k;have e2:cellOf env y.1=pure c:=by unfold cellOf;rw[e]
   simp only[k,UT,VY,e2,e,VP,pure_bind];exact gD env l _ fun z hz=>h z (Tx _ hz)
  ·have kb:(y.2==NameKind.free)=false:=by simpa using k
   simp only[kb,UR,Wg,pure_bind];exact gD env l _ fun z hz=>h z (Tx _ hz)
theorem gY(env:Env)(x:Str)(c:Addr):∀(l:List (Str×NameKind)) (cs:List (Str×Addr)),(∀y∈l,y.2=.free->∃c,env.cells.lookup y.1=some c)->(cs.lookup x=some c->env.cells.lookup x=some c)->
  (l.foldl (fun cs y=>if y.2==NameKind.free then(y.1,(env.cells.lookup y.1).getD 0)::cs else cs) cs).lookup x=some c->env.cells.lookup x=some c
 |[],_,_,h,e=>h e
 |y::l,cs,hf,h,e=>by
  rw[VF]at e;refine gY env x c l _ (fun z hz=>hf z (Tx _ hz)) (fun q=>?_) e;split at q
  ·rename_i k;have k:y.2=.free:=by simpa using k
   obtain⟨d,ed⟩:=hf y Ts k;rw[UL]at q;cases hx:x==y.1 with
   |true=>
    rw[hx]at q;have exy:x=y.1:=by simpa using hx
    rw[ed,VP]at q;rw[exy,ed];exact q
   |false=>
    rw[hx]at q;exact h q
  ·exact h q
theorem j6(env:Env)(x:Str):∀(l:List (Str×NameKind)) (cs:List (Str×Addr)),((∃d,cs.lookup x=some d)\/(x,NameKind.free)∈l)->
  ∃d,(l.foldl (fun cs y=>if y.2==NameKind.free then(y.1,(env.cells.lookup y.1).getD 0)::cs else cs) cs).lookup x=some d
 |[],_,h=>by
  rcases h with h|h
  ·exact h
  ·cases h
 |y::l,cs,h=>by
  rw[VF];refine j6 env x l _ ?_;rcases h with⟨d,h⟩|h
  ·refine .inl ?_;split
   ·rw[UL];cases hx:x==y.1 with
    |true=>exact⟨_,rfl⟩
    |false=>exact⟨d,h⟩
   ·exact⟨d,h⟩
  ·rcases TK.mp h with h|h
   ·refine .inl ?_;rw[<-h];refine⟨(env.cells.lookup x).getD 0,?_⟩;show List.lookup x ((x,_)::cs)=_;rw[UL,UT]
   ·exact .inr h
noncomputable def b6(X:Cx)(scope:Scope)(N:List Str)(C:Addr)(s:Shared)(H:Hp)(fp:List Addr)(pn:List (Addr×Obj)):Cx:=
 {X with N:=N,s₀:=s,H₀:=H,env:=compEnvC scope (clOf scope X.env) C X.env,outer:=X.stack,ex:=fp,fn:=fun _=>false,pn:=pn,xe:=fun _ _=>False}
def lz(ix:List (Option Nat))(σ:L2.St):L2.St:=ix.map fun i=>i.bind fun i=>(σ[i]?).bind id
noncomputable def z6(wi:TI)(ix:List (Option Nat))(g:TG)(tc:TT)(te:TE):TE:=fun σ H Q=>wi σ H fun J H1=>∀D,H1 D=none->∃W:Nat->Nat->L2.St->Hp->Prop,(∃m,W 0 m (lz ix σ) (upd H1 D (.lst [])))/\
 ∀i m σ1 H2,W i m σ1 H2->(J.stop i H2/\Q (.ref D) H2)\/(J.go i H2/\∀x H3,J.yld i H2 x H3->g x σ1 H3 fun σ2 H4=>tc σ2 H4 fun b H5=>if b=true then te σ2 H5 fun v H6=>
  ∃ys,H6 D=some (.lst ys)/\ys.length<sizeLine/\∃m',m'<m/\W (i+1) m' σ2 (upd H6 D (.lst (ys++[v]))) else ∃m',m'<m/\W (i+1) m' σ2 H5)
abbrev Nd:Value->Shared->Prop:=fun _ _=>False
theorem Pr{α:Type}{M:Model}{A:Around}{t:Sem α}{Q Q':α->Shared->Prop}{E:Value->Shared->Prop}{s:Shared}(h:wpAny M A t Q Nd s)(k:∀a s,Q a s->Q' a s):wpAny M A t Q' E s:=VS h k fun _ _ z=>z.elim
theorem uF{prog:Program}{w:World}{A:Around}{R:Result->Shared->Prop}{s:Shared}{elt target iter:Expr}{ifs:List Expr}{scope:Scope}{pos:Pos}{it acc:Value}{env:Env}(I:Nat->Shared->Prop)
  (turn:∀n s,I n s->wpAny (model prog w) A (pyNext it) (fun r s₁=>match r with
   |none=>R (.ok .next) s₁
   |some v=>wpAny (model prog w) A (letOwnedTupleGo target it v) (fun _ s₂=>wpAny (model prog w) A (assign target env v) (fun _ s₃=>
     wpAny (model prog w) A (forIn ifs true fun c r=>if r=true then do let ok <-isTrue c env (eval c env);pure (ForInStep.yield ok) else pure (ForInStep.yield r)) (fun ok s₄=>
      if ok=true then wpAny (model prog w) A (eval elt env) (fun x s₅=>
       wpAny (model prog w) A (call (.builtin "list.append") [acc,x]) (fun _ s₆=>∃m,m<n/\I m s₆) Nd s₅) Nd s₄
      else ∃m,m<n/\I m s₄) Nd s₃) Nd s₂) Nd s₁) Nd s)
  (n:Nat) (h:I n s):codeAny (model prog w) A (.compLoop (.ListComp elt [⟨target,iter,ifs,0⟩] scope pos) 0 it acc env) R s:=by
 refine codeAny_loop rfl I (fun n s hI=>?_) n h;show wpAny _ A ((compTurn (.ListComp elt [⟨target,iter,ifs,0⟩] scope pos) 0 it acc env).onRaise (fun x=>do noteFrame x env;theTreesLotGoes x)) _ _ s;refine wpAny_noted ?_;rw[compTurn_list];refine Tr (XW (Tr (Pr (turn n s hI) fun r s₁ h₁=>?_)));cases r with
 |none=>exact Tw h₁
 |some v=>
  refine Tr (Pr h₁ fun _ s₂ h₂=>Tr (Pr h₂ fun _ s₃ h₃=>Tr (Pr h₃ fun ok s₄ h₄=>?_)));cases ok with
  |false=>exact Tw ⟨rfl,h₄⟩
  |true=>exact Tr (Tr (Pr h₄ fun x s₅ h₅=>Tr (Pr h₅ fun _ s₆ h₆=>Tw (Tw ⟨rfl,h₆⟩))))
def Pt(X:Cx)(ifs:List Expr)(t:TT):Prop:=
 ∀(pr:List (Addr×Obj)) (s:Shared) (σ:L2.St) (H:Hp) (Q:Bool->Hp->Prop),Inv X pr σ H s->t σ H Q->
  wpAny (model X.prog X.w) X.A (forIn ifs true fun c r=>if r=true then do let ok <-isTrue c X.env (eval c X.env);pure (ForInStep.yield ok) else pure (ForInStep.yield r)) (TP X pr σ Q) X.xe s
def Ht:TT:=fun _ H Q=>Q true H
theorem z7{X:Cx}:Pt X [] Ht:=fun _ _ _ H _ I h=>wpAny_tests_nil ⟨H,I,h⟩
theorem z8{X:Cx}{c:Expr}{t:TT}(h:PT X c t):Pt X [c] t:=fun pr s σ H Q I k=>wpAny_tests_one (h pr s σ H Q I k)
def yN(X:Cx)(scope:Scope)(N:List Str)(ix:List (Option Nat)):Bool:=
 N.length==ix.length&&(N.zip ix).all fun y=>match y.2 with
  |none=>true
  |some j=>X.N[j]?==some y.1&&scope.names.lookup y.1==some .free
theorem nN{scope:Scope}{env:Env}{x:Str}(h:scope.names.lookup x=some .free):(relabel scope env).names.lookup x=some .cell\/(relabel scope env).names.lookup x=some .free:=by
 unfold relabel;dsimp only;generalize scope.names=l at h;induction l with
 |nil=>cases h
 |cons y l ih=>
  obtain⟨n,k⟩:=y;rw[UL]at h;rw[TR];cases hx:x==n with
  |true=>
   rw[hx]at h;have hk:k=.free:=TX h;subst hk;dsimp only;split
   ·exact .inl (by rw[UL,hx])
   ·exact .inr (by rw[UL,hx])
  |false=>
   rw[hx]at h;dsimp only;split
   ·rw[UL,hx];exact ih h
   ·rw[UL,hx];exact ih h
theorem nO{scope:Scope}{env:Env}{x:Str}(hc:∀y∈scope.names,y.2≠.cell)(h:(relabel scope env).names.lookup x=some .cell\/(relabel scope env).names.lookup x=some .free):(x,NameKind.free)∈scope.names:=by
 unfold relabel at h;dsimp only at h;generalize scope.names=l at h hc;induction l with
 |nil=>rcases h with h|h <;> cases h
 |cons y l ih=>
  obtain⟨n,k⟩:=y;rw[TR]at h;dsimp only at h;have nk:k≠.cell:=hc (n,k) Ts;have SE:=ih (hc:=fun z hz=>hc z (Tx _ hz));by_cases cnd:(k==NameKind.free&&env.scope.kind==.function&&env.kindOf n==some .cell)=true
  ·rw[TF cnd,UL]at h;have kf:k=.free:=by
    have:(k==NameKind.free)=true:=by
     simp only[TM]at cnd;exact cnd.1.1
    simpa using this
   cases hx:x==n with
   |true=>
    have:x=n:=by simpa using hx
    rw[this,kf];exact Ts
   |false=>
    rw[hx]at h;exact Tx _ (SE h)
  ·rw[TJ cnd,UL]at h;cases hx:x==n with
   |true=>
    rw[hx]at h;have:x=n:=by simpa using hx
    rcases h with h|h
    ·exact absurd (TX h) nk
    ·rw[this,<-TX h];exact Ts
   |false=>
    rw[hx]at h;exact Tx _ (SE h)
section
variable{X:Cx}{pr:List (Addr×Obj)}{σ:L2.St}{H:Hp}{s:Shared}{scope:Scope}{N:List Str}{ix:List (Option Nat)}{fp:List Addr}
theorem l5(ok:X.Ok)(hf:iA scope X.env=true):∀y∈scope.names,y.2=.free->∃c,X.env.cells.lookup y.1=some c:=fun y hy k=>by
 have:=T8.mp hf y hy;rw[k]at this;simp only[WQ,Bool.false_or,Xm,Us]at this;exact ok.has y.1 this
theorem j7(ok:X.Ok)(hf:iA scope X.env=true){x:Str}{c:Addr}(h:(clOf scope X.env).lookup x=some c):X.env.cells.lookup x=some c:=
 gY X.env x c scope.names [] (l5 ok hf) (fun z=>nomatch z) h
theorem uG(ok:X.Ok)(hf:iA scope X.env=true){x:Str}(h:(x,NameKind.free)∈scope.names):∃c,(clOf scope X.env).lookup x=some c/\X.env.cells.lookup x=some c:=by
 obtain⟨c,e⟩:=j6 X.env x scope.names [] (.inr h);exact⟨c,e,j7 ok hf e⟩
theorem _root_.L2.Inv.block(I:Inv X pr σ H s)(hf:iA scope X.env=true)(hk:scope.kind=.function)(Jd:∀y∈scope.names,y.2≠.cell)(JU:yN X scope N ix=true)(fo:∀b∈fp,tW X pr H b)(fin:∀b∈fp,∃o,s.heap.get? b=some o)
  {h1:Heap}{t1:Nat}{D C:Addr}(hD:D=s.heap.objs.size) (hC:C=s.heap.objs.size+1) (old:∀b o,s.heap.get? b=some o->h1.get? b=some o) {n:Nat}(acc:h1.get? D=some {cls:=.type "list",data:=.seq #[] n})
  {m:Str->Option Value}(ns:h1.Ns C m):Inv (b6 X scope N C s H fp (X.pn++pr)) [] (lz ix σ) (upd H D (.lst [])) {s with heap:=h1,toks:=t1}:=by
 have Lw:s.heap.objs.size<=C:=by rw[hC];exact Vl _
 have freshD:s.heap.objs.size<=D:=by rw[hD];exact TB _
 have nD:H D=none:=I.hok.fresh freshD;have DC:D≠C:=by rw[hD,hC];exact TU (VA _)
 have Ov:∀b,H b=none->b≠D->upd H D (.lst []) b=none:=fun b n z=>by rw[aE z];exact n
 have Pu:∀b o,s.heap.get? b=some o->b≠D:=fun b o e=>TU (TL (TH e) freshD)
 have Nf:∀b o,s.heap.get? b=some o->b≠C:=fun b o e=>TU (TL (TH e) Lw)
 have cellAt:∀x c,(clOf scope X.env).lookup x=some c->∃v o,s.heap.get? c=some o/\o.data=.cell v:=fun x c e=>by
  obtain⟨v,o,ho,hd⟩:=I.cell x c (j7 I.ok hf e);exact⟨v,o,ho,hd⟩
 have okY:(b6 X scope N C s H fp (X.pn++pr)).Ok:=by
  refine⟨I.ok.mod,hk,I.ok.glob,I.ok.blt,Lw,fun x y c e1 e2=>?_,fun x hx=>?_,fun x c z _=>?_,I.ok.hd,I.ok.frames,.inl rfl,fun b hb=>?_,I.bs,?_,fun b o e hb=>?_,fun b hb hs=>?_,I.stack,I.stkFree⟩
  ·exact I.ok.inj x y c (j7 I.ok hf e1) (j7 I.ok hf e2)
  ·obtain⟨c,e,_⟩:=uG I.ok hf (nO Jd hx);exact⟨c,e⟩
  ·exact absurd (show false=true from z) Tz
  ·obtain⟨f0,f1,f2,f3,f4,f5⟩:=fo b hb;refine⟨?_,fun x c e=>f4 x c (j7 I.ok hf e)⟩;intro z;have z:b=C:=z;obtain⟨o,ho⟩:=fin b hb;exact Nf b o ho z
  ·exact Uc I.ok.bsz I.sz
  ·obtain⟨f0,f1,f2,f3,f4,f5⟩:=fo b hb;rcases f3 with q|q
   ·exact I.ok.noex b o e q
   ·exact absurd (TL (TH e) (Uc I.ok.bsz q)) (Vx _)
  ·obtain⟨f0,f1,f2,_⟩:=fo b hb;exact(TK.mp (I.stkSub b hs)).elim f1 f2
 refine⟨okY,rfl,I.bare,Un.laid old freshD nD,⟨m,ns,fun i x v e1 e2 e3=>?_⟩,fun x c e=>?_,?_,fun x c e=>?_,fun p hp=>?_,I.hok.laid old freshD ⟨Ug _,[],n,.nil,acc⟩,?_⟩
 ·
  have e2:(ix.map fun i=>i.bind fun i=>(σ[i]?).bind id)[i]?=some (some v):=e2;have e1:N[i]?=some x:=e1;unfold yN at JU;rw[TM]at JU;rw[List.getElem?_map]at e2;cases q:ix[i]? with
  |none=>rw[q]at e2;cases e2
  |some o=>
   rw[q]at e2;have e2:(o.bind fun i=>(σ[i]?).bind id)=some v:=TX e2;cases o with
   |none=>cases e2
   |some j=>
    have e2:(σ[j]?).bind id=some v:=e2;have hσ:σ[j]?=some (some v):=by
     cases w':σ[j]? with
     |none=>rw[w']at e2;cases e2
     |some y=>rw[w']at e2;exact UP some e2
    have hz:(N.zip ix)[i]?=some (x,some j):=by
     rw[List.getElem?_zip_eq_some];exact⟨e1,q⟩
    have hy:=T8.mp JU.2 _ (T6 hz);simp only[TM,Us]at hy;have SF:(x,NameKind.free)∈scope.names:=Va hy.2;obtain⟨c,c1,c2⟩:=uG I.ok hf SF;have P1:X.env.kindOf x=some .cell\/X.env.kindOf x=some .free:=by
     have:=T8.mp hf _ SF;simpa using this
    obtain⟨mo,Q1,SA⟩:=I.loc;obtain⟨u,r,l⟩:=SA j x v hy.1 hσ (.inr P1);refine⟨u,r,.inr ⟨nN hy.2,c,c1,?_⟩⟩;rcases l with⟨k1,_⟩|⟨_,c',e',M7⟩
    ·rcases P1 with k2|k2 <;> (rw[k1]at k2;cases k2)
    ·rw[c2]at e';cases e';obtain⟨o,ho,hd⟩:=M7;exact⟨o,old c o ho,hd⟩
 ·obtain⟨v,o,ho,hd⟩:=cellAt x c e;exact⟨v,o,old c o ho,hd⟩
 ·exact Ov C (I.hok.fresh Lw) (U1 DC)
 ·obtain⟨v,o,ho,hd⟩:=cellAt x c e;exact Ov c (I.freeC x c (j7 I.ok hf e)) (Pu c o ho)
 ·have hp:p∈X.pn++pr:=by
   have:p∈(X.pn++pr)++[]:=hp
   rwa [T7]at this
  obtain⟨e,nn,ne,nf,d⟩:=I.pin p hp;refine⟨old _ _ e,Ov _ nn (Pu _ _ e),Nf _ _ e,fun z=>?_,d⟩;exact(TK.mp (I.stkSub p.1 z)).elim ne nf
 ·unfold yN at JU;rw[TM]at JU;have:N.length=ix.length:=by simpa using JU.1
  show(ix.map _).length=N.length;rw[Tt,this]
theorem _root_.L2.Inv.unblock{C:Addr}{σ1:L2.St}{H1:Hp}{s1:Shared}{h2:Heap}(I:Inv X pr σ H s)(fo:∀b∈fp,tW X pr H b)(hC:s.heap.objs.size<=C)(J:Inv (b6 X scope N C s H fp (X.pn++pr)) [] σ1 H1 s1)(hs:Heap.SameBut C s1.heap h2):
  Inv X pr σ H1 {s1 with heap:=h2}:=by
 have Nf:∀b o,s.heap.get? b=some o->b≠C:=fun b o e=>TU (TL (TH e) hC)
 have bb:Un (Mq X.stack) fp H H1 s.heap s1.heap:=J.base;have jf:H1 C=none:=J.free;refine I.call' (s':={s1 with heap:=h2}) (ch:=fp) J.os ⟨fun b o e n hb hx=>?_,fun b o e n hb hx=>?_,bb.free,fun b o e hx=>?_,bb.tups,bb.frzs,bb.tbls⟩ (fun b ob e=>?_) J.bare fun b hb=>?_
 ·exact(hs.2 b (Nf b o e)).trans (bb.keep b o e n hb hx)
 ·obtain⟨sl,q⟩:=bb.slot b o e n hb hx;exact⟨sl,(hs.2 b (Nf b o e)).trans q⟩
 ·obtain⟨o',q⟩:=bb.there b o e hx;exact⟨o',(hs.2 b (Nf b o e)).trans q⟩
 ·refine(J.hok b ob e).stay (fun c w' hc q=>(hs.2 c ?_).trans q) (fun _ q=>q) fun _ _ q=>q
  rintro rfl;rcases hc with rfl|hc
  ·rw[jf]at e;cases e
  ·rw[jf]at hc;cases hc
 ·obtain⟨f0,f1,f2,f3,f4,f5⟩:=fo b hb;exact⟨f3,f1,f4,f5⟩
end
section
variable{X:Cx}{scope:Scope}{N:List Str}{ix:List (Option Nat)}{tg iter elt:Expr}{ifs:List Expr}{pos:Pos}{wi:TI}{g:TG}{tc:TT}{te:TE}
theorem lA{pr:List (Addr×Obj)}{σ:L2.St}{H2:Hp}{s2:Shared}{J:It}{fp:List Addr}{it:Addr}{tn:Nat->Heap->Prop}{Q:VK}{RR:Value->Addr->Result->Shared->Prop}{E:Value->Shared->Prop}
  (hc:X.calm=true) (I2:Inv X pr σ H2 s2) (T:Turn X.prog X.w X.K tg J fp it tn) (Ii:tn 0 s2.heap) (f2:∀b∈fp,tW X pr H2 b)
  (hg:∀C s H fp pn,PG (b6 X scope N C s H fp pn) tg g) (ht:∀C s H fp pn,Pt (b6 X scope N C s H fp pn) ifs tc) (he:∀C s H fp pn,PE (b6 X scope N C s H fp pn) elt te)
  (hf:iA scope X.env=true) (hk:scope.kind=.function) (Jd:∀y∈scope.names,y.2≠.cell) (JU:yN X scope N ix=true)
  (q:∀D,H2 D=none->∃W:Nat->Nat->L2.St->Hp->Prop,(∃m,W 0 m (lz ix σ) (upd H2 D (.lst [])))/\
   ∀i m σ1 H3,W i m σ1 H3->(J.stop i H3/\Q (.ref D) H3)\/(J.go i H3/\∀x H4,J.yld i H3 x H4->g x σ1 H4 fun σ2 H5=>tc σ2 H5 fun b H6=>if b=true then te σ2 H6 fun v H7=>
    ∃ys,H7 D=some (.lst ys)/\ys.length<sizeLine/\∃m',m'<m/\W (i+1) m' σ2 (upd H7 D (.lst (ys++[v]))) else ∃m',m'<m/\W (i+1) m' σ2 H6))
  (hRR:∀(D C:Addr) (σ1:L2.St) (H1:Hp) (s1:Shared),s2.heap.objs.size<=C->Inv (b6 X scope N C s2 H2 fp (X.pn++pr)) [] σ1 H1 s1->Q (.ref D) H1->RR (.ref D) C (.ok .next) s1):
  wpAny (model X.prog X.w) X.A (newList []) (fun acc s₃=>wpAny (model X.prog X.w) X.A (newFunctionEnv scope X.env.globals (clOf scope X.env) [] X.env.qual none .none (some X.env)) (fun P2 s₄=>
   codeAny (model X.prog X.w) X.A (.compStart (.ListComp elt [⟨tg,iter,ifs,0⟩] scope pos) 0 (.ref it) acc {P2 with scope:=relabel scope X.env}) (RR acc P2.locals) s₄) E s₃) E s2:=by
 refine Uy (wpAny_newFunctionEnv Jd (by intro y hy;simp at hy) (fun h₁ hns₁ hsb₁=>?_) hk);dsimp only at hns₁ hsb₁ ⊢;generalize hH2:s2.heap.push {cls:=.type "list",dict:=none,data:=.seq ([]:List Value).toArray}=HH at hns₁ hsb₁ ⊢;have hC:HH.objs.size=s2.heap.objs.size+1:=by rw[<-hH2,U6]
 have hDC:s2.heap.objs.size≠HH.objs.size:=by rw[hC];exact TU (VA _)
 have P4:s2.heap.objs.size<=HH.objs.size:=by rw[hC];exact Vl _
 have Nf:∀b o,s2.heap.get? b=some o->b≠HH.objs.size:=fun b o e=>TU (TL (TH e) P4)
 have old:∀b o,s2.heap.get? b=some o->h₁.get? b=some o:=fun b o e=>hsb₁.extBut b o (Nf b o e) (Heap.get?_push_of_some _ (hH2▸Heap.get?_push_of_some _ e))
 have J8:h₁.get? s2.heap.objs.size=some {cls:=.type "list",data:=.seq #[] 0}:=hsb₁.extBut _ _ hDC (Heap.get?_push_of_some _ (hH2▸Heap.get?_push_size _ rfl));obtain⟨W,⟨m0,w0⟩,turn⟩:=q s2.heap.objs.size (I2.hok.fresh (TB _));have fin:∀b∈fp,∃o,s2.heap.get? b=some o:=fun b hb=>let⟨o,e,_⟩:=T.obj 0 _ Ii b hb;⟨o,e⟩
 have Lu:∀{H':Hp},(∀b∈fp,H' b=none)->∀b∈fp,tW (b6 X scope N HH.objs.size s2 H2 fp (X.pn++pr)) [] H' b:=fun{H'} hn b hb=>by
  obtain⟨f0,f1,ff,f3,f4,f5⟩:=f2 b hb;refine⟨hn b hb,?_,fun z=>?_,.inl hb,fun x c e=>f4 x c (j7 I2.ok hf e),fun p hp=>?_⟩
  ·intro z;have z:b=HH.objs.size:=z;obtain⟨o,ho⟩:=fin b hb;exact Nf b o ho z
  ·exact(TK.mp (I2.stkSub b z)).elim f1 ff
  ·have hp:p∈X.pn++pr:=by
    have:p∈(X.pn++pr)++[]:=hp
    rwa [T7]at this
   exact f5 p hp
 have loop:∀s₃:Shared,s₃={s2 with heap:=h₁,toks:=s2.toks+([]:List (Str×Value)).length}->
   codeAny (model X.prog X.w) X.A (.compLoop (.ListComp elt [⟨tg,iter,ifs,0⟩] scope pos) 0 (.ref it) (.ref s2.heap.objs.size) (compEnvC scope (clOf scope X.env) HH.objs.size X.env)) (RR (.ref s2.heap.objs.size) HH.objs.size) s₃:=by
  rintro s₃ rfl;refine uF (fun n s'=>∃i σ' H',Inv (b6 X scope N HH.objs.size s2 H2 fp (X.pn++pr)) [] σ' H' s'/\tn i s'.heap/\(∀b∈fp,H' b=none)/\W i n σ' H') ?_ m0
   ⟨0,_,_,I2.block hf hk Jd JU f2 fin rfl hC old J8 hns₁,T.keep 0 _ _ Ii fun b _ o e=>old b o e,fun b hb=>?_,w0⟩
  ·rintro n s3 ⟨i,σ3,H3,I3,IK,PM,w3⟩;rcases turn i n σ3 H3 w3 with⟨stop,qn⟩|⟨go,step⟩
   ·refine Iw (T.done (b6 X scope N HH.objs.size s2 H2 fp (X.pn++pr)) rfl rfl rfl hc i [] s3 σ3 H3 Nd I3 (Lu PM) IK stop) fun r s4 IB=>?_
    obtain⟨hr,I4⟩:=IB;subst hr;exact hRR _ _ σ3 H3 s4 P4 I4 qn
   ·refine Iw (T.item (b6 X scope N HH.objs.size s2 H2 fp (X.pn++pr)) rfl rfl rfl hc i [] s3 σ3 H3 Nd I3 (Lu PM) IK go) fun r s4 IB=>?_
    obtain⟨u,hr,h4⟩:=IB;subst hr;refine Iw h4 fun _ s5 IB=>?_
    obtain⟨x,H5,I5,r5,y5,Ku,Ry⟩:=IB;have Rz:=I5.pinned (Lu Ry) (T.obj _ _ Ku);refine Iw (hg _ _ _ _ _ _ s5 σ3 H5 x u _ Rz r5 (step x H5 y5)) fun _ s6 IB=>?_
    obtain⟨σ6,H6,I6,q6⟩:=IB;refine Iw (ht _ _ _ _ _ _ s6 σ6 H6 _ I6 q6) fun ok s7 IB=>?_
    obtain⟨H7,I7,q7⟩:=IB;have again:∀{H8:Hp}{s8:Shared},Inv (b6 X scope N HH.objs.size s2 H2 fp (X.pn++pr)) ([]++nq fp s5.heap) σ6 H8 s8->(∃m',m'<n/\W (i+1) m' σ6 H8)->
      ∃m,m<n/\∃i σ' H',Inv (b6 X scope N HH.objs.size s2 H2 fp (X.pn++pr)) [] σ' H' s8/\tn i s8.heap/\(∀b∈fp,H' b=none)/\W i m σ' H':=fun{H8 s8} I8 ⟨m',hm,w8⟩=>by
     refine⟨m',hm,i+1,σ6,H8,I8.unpinned,T.keep _ _ _ Ku fun b hb o e=>(I8.pin (b,o) (Tv _ (Tv _ (gC hb e)))).1,fun b hb=>?_,w8⟩;obtain⟨o,e,d⟩:=T.obj _ _ Ku b hb;exact(I8.pin (b,o) (Tv _ (Tv _ (gC hb e)))).2.1
    cases ok with
    |false=>exact again I7 q7
    |true=>
     show wpAny _ _ _ _ _ _;refine Iw (he _ _ _ _ _ _ s7 σ6 H7 _ I7 q7) fun x8 s8 IB=>?_
     obtain⟨v8,H8,I8,r8,ys,RH,IQ,q8⟩:=IB;refine Iw (nK _ s8 σ6 H8 (.ref s2.heap.objs.size) [v8] (.ref s2.heap.objs.size) [x8] (fun _ H9=>∃m',m'<n/\W (i+1) m' σ6 H9) I8 rfl (.cons r8 .nil) ⟨_,ys,v8,rfl,rfl,RH,IQ,q8⟩) fun _ s9 IB=>?_
     obtain⟨_,H9,I9,_,q9⟩:=IB;exact again I9 q9
  ·rw[aE (fun z=>by
    obtain⟨o,ho⟩:=fin b hb;exact absurd z (TU (TH ho)))]
   exact(f2 b hb).1
 exact codeAny_compStart_list (loop _ rfl) (T.self _ 0 _ _ _ (T.keep 0 _ _ Ii fun b _ o e=>old b o e) (loop _ rfl))
theorem z9(ix:List (Option Nat))(N:List Str)(hc:X.calm=true)(hi:PI X tg iter wi)(hg:∀C s H fp pn,PG (b6 X scope N C s H fp pn) tg g)(ht:∀C s H fp pn,Pt (b6 X scope N C s H fp pn) ifs tc)(he:∀C s H fp pn,PE (b6 X scope N C s H fp pn) elt te)
  (hf:iA scope X.env=true:=by rfl) (hk:scope.kind=.function:=by rfl) (Jd:∀y∈scope.names,y.2≠.cell:=by decide +kernel) (JV:∀y∈scope.names,y.2=.local->scope.names.lookup y.1=some .local:=by decide +kernel) (JU:yN X scope N ix=true:=by rfl)
  (hs:∀x,foldedSetIterable iter X.env x=pure x:=by intro _;rfl):PE X (.ListComp elt [⟨tg,iter,ifs,0⟩] scope pos) (z6 wi ix g tc te):=by
 intro pr s σ H Q I h;rw[eval_ListComp];have Mz:closureFor scope X.env=pure (clOf scope X.env):=by
  unfold closureFor clOf;have:=gD X.env scope.names [] (l5 I.ok hf);simpa using this
 refine WR (use:=none) rfl hs Mz hk JV (Iw (hi pr s σ H _ I h) fun v s1 h1=>Iw h1 fun QZ s2 h2=>?_);obtain⟨it,fp,tn,J,H2,e,I2,T,Ii,f2,q⟩:=h2;subst e;refine lA (RR:=fun acc C=>compPost (model X.prog X.w) X.A X.xe none (EP X pr σ Q) acc C) (Q:=Q) (iter:=iter) hc I2 T Ii f2 hg ht he hf hk Jd JU q fun D C σ1 H1 s1 hC J1 q1=>?_
 obtain⟨m,ns,_⟩:=J1.loc;exact⟨m,ns,fun h' Ox=>⟨.ref D,H1,I2.unblock f2 hC J1 Ox,rfl,q1⟩⟩
end
section
variable{X:Cx}{scope:Scope}{N:List Str}{ix:List (Option Nat)}{tg iter elt:Expr}{ifs:List Expr}{pos:Pos}{wi:TI}{g:TG}{tc:TT}{te:TE}
theorem Aa{i:Nat}{y:Str}{py MA:Pos}(ix:List (Option Nat))(N:List Str)(hN:X.N.Nodup)(RI:X.N[i]?=some y)(hy:Loc X.env.scope y)(hc:X.calm=true)(hi:PI X tg iter wi)(hg:∀C s H fp pn,PG (b6 X scope N C s H fp pn) tg g)(ht:∀C s H fp pn,Pt (b6 X scope N C s H fp pn) ifs tc)
  (he:∀C s H fp pn,PE (b6 X scope N C s H fp pn) elt te) (RJ:swapsWith (.ListComp elt [⟨tg,iter,ifs,0⟩] scope pos) (some (.Name y py)) MA.line X.env=pure true:=by rfl)
  (hf:iA scope X.env=true:=by rfl) (hk:scope.kind=.function:=by rfl) (Jd:∀y∈scope.names,y.2≠.cell:=by decide +kernel) (JV:∀y∈scope.names,y.2=.local->scope.names.lookup y.1=some .local:=by decide +kernel) (JU:yN X scope N ix=true:=by rfl)
  (hs:∀x,foldedSetIterable iter X.env x=pure x:=by intro _;rfl) (Mr:X.fn y=true\/X.env.scope.names.lookup y=some .local:=by first|exact .inl rfl|exact .inr rfl):
  PS X (.Assign [.Name y py] (.ListComp elt [⟨tg,iter,ifs,0⟩] scope pos) MA) (fun D σ H=>z6 wi ix g tc te σ H fun v H'=>D.nx (σ.set i (some v)) H'):=by
 intro pr s σ H Dd I h;rw[exec_Assign_Name_used _ _ _ _ RJ];have Mz:closureFor scope X.env=pure (clOf scope X.env):=by
  unfold closureFor clOf;have:=gD X.env scope.names [] (l5 I.ok hf);simpa using this
 refine Tr (XW (Tr ?_));show wpAny _ X.A (do let _ <-comprehension (.ListComp elt [⟨tg,iter,ifs,0⟩] scope pos) scope X.env _ (newList []) false (eval iter X.env) (some (assign (.Name y py) X.env))) _ _ s;refine Tr (VS (WR (use:=some (assign (.Name y py) X.env)) (Q:=fun _ s'=>SP X pr Dd .next s') rfl hs Mz hk JV
  (Iw (hi pr s σ H _ I h) fun v s1 h1=>Iw h1 fun QZ s2 h2=>?_)) (fun _ s' hq=>Tw (Tw hq)) fun _ _ e=>e)
 obtain⟨it,fp,tn,J,H2,e,I2,T,Ii,f2,q⟩:=h2;subst e;refine lA (RR:=fun acc C=>compPost (model X.prog X.w) X.A X.xe (some (assign (.Name y py) X.env)) (fun _ s'=>SP X pr Dd .next s') acc C) (Q:=fun v H'=>Dd.nx (σ.set i (some v)) H') (iter:=iter) hc I2 T Ii f2 hg ht he hf hk Jd JU q fun D C σ1 H1 s1 hC J1 q1=>?_
 obtain⟨m,ns,_⟩:=id J1.loc;have ns:s1.heap.Ns C m:=ns;have I3:Inv X pr σ H1 s1:=I2.unblock f2 hC J1 (.refl ..);show wpAny _ X.A (assign (.Name y py) X.env (.ref D)) _ _ s1;refine wpAny_assign_Name (nj I3 hN RI hy (v:=.ref D) rfl (fun s4 I4 ⟨a,sb,ha⟩=>?_) Mr);have aC:C≠a:=by
  intro z;rcases ha with ha|ha
  ·exact TU (TL I2.lt hC) (ha▸z.symm)
  ·obtain⟨v,o,ho,_⟩:=I2.cell y a ha;exact TU (TL (TH ho) hC) z.symm
 refine⟨m,ns.sameBut sb aC,fun h' Ox=>?_⟩;have jf:H1 C=none:=J1.free;have kk:∀b o,b≠C->s4.heap.get? b=some o->h'.get? b=some o:=fun b o hb e=>(Ox.2 b hb).trans e
 refine⟨σ.set i (some (.ref D)),H1,?_,q1⟩;have z:=I4.turned (t':=s4.toks) kk jf (fun z=>TU (TL I2.lt hC) z.symm) (.inr (Uc I2.sz hC)) (fun x c e z=>by
  obtain⟨v,o,ho,_⟩:=I2.cell x c e;exact TU (TL (TH ho) hC) z) (fun p hp z=>TU (TL (TH (I2.pin p hp).1) hC) z)
 exact z
end
def Itv(val:Nat->V)(n:Nat):It:=⟨fun i _=>i<n,fun i H x H'=>H'=H/\x=val i,fun i _=>i=n⟩
theorem qD{P:Program}{w:World}{K:W.Frag}{tg:Expr}(ty:String)(Mx:["enumerate","zip","dict_itemiterator","dict_reverseitemiterator","odict_iterator","itertools.zip_longest","itertools.pairwise"].contains ty=false)(l:List Nat)(t:Tok)(it:Addr)
  (Wk:∀A:Around,A.handled=none->Walks P w A it [it] [it] (S l).cps.size (SignAt (S l)) (fun i h=>h.IsStrIter it ty (S l) t i))
  (self:∀(A:Around) (i:Nat) (s:Shared) (Q:Value->Shared->Prop) (E:Value->Shared->Prop),s.heap.IsStrIter it ty (S l) t i->Q (.ref it) s->wpAny (model P w) A (pyIter (.ref it)) Q E s):
  Turn P w K tg (Itv (fun i=>.str (S [l.getD i 0])) l.length) [it] it (fun i h=>h.IsStrIter it ty (S l) t i) where
 mem:=by simp
 obj:=fun i h st b hb=>by
  have e:b=it:=by simpa using hb
  subst e;obtain⟨o,e,c,d⟩:=st;exact⟨o,e,fun v z=>by rw[d]at z;cases z⟩
 keep:=fun i h h' st k=>by
  obtain⟨o,e,r⟩:=st;exact⟨o,k it (by simp) o e,r⟩
 item:=by
  intro X hP hw hK hc i pr s σ H E I hf st hg;subst hP hw hK;obtain⟨f0,f1,f2,f3,f4,f5⟩:=hf it (by simp);have hg:i<l.length:=hg;refine(Wk X.A (I.ok.hd hc)).item i s _ _ (by simpa[S] using hg) st fun v h' tk hv J6 kk=>?_
  obtain⟨c,u,QX,rfl⟩:=hv;have I1:Inv X pr σ H {s with heap:=h',toks:=tk}:=I.turned (fun b o hb e=>kk b o (by simpa using hb) e) f0 f1 f3 f4 f5;obtain⟨o,e,cc,d⟩:=id J6;have K0:l.getD i 0=c:=by
   have:l[i]?=some c:=by simpa[S] using QX
   rw[List.getD_eq_getElem?_getD,this];rfl
  refine⟨_,rfl,sv (s:={s with heap:=h',toks:=tk}) e cc d Mx ⟨.str (S [l.getD i 0]),H,I1,⟨u,?_⟩,⟨rfl,rfl⟩,J6,fun b hb=>(hf b hb).1⟩⟩;rw[K0]
 done:=by
  intro X hP hw hK hc i pr s σ H E I hf st hg;subst hP hw hK;obtain⟨f0,f1,f2,f3,f4,f5⟩:=hf it (by simp);have hg:i=l.length:=hg;have hn:(S l).cps.size=i:=by rw[hg];simp[S]
  refine(Wk X.A (I.ok.hd hc)).done s _ _ (by rw[hn];exact st) fun h' tk kk=>⟨rfl,I.turned (fun b o hb e=>kk b o (by simpa using hb) e) f0 f1 f3 f4 f5⟩
 self:=self
def Hu(tl:TE):TI:=fun σ H R=>tl σ H fun x H1=>∃l,x=.str (S l)/\R (Itv (fun i=>.str (S [l.getD i 0])) l.length) H1
section
variable{X:Cx}{tg:Expr}
theorem CN{l:Expr}{tl:TE}(hl:PE X l tl):PI X tg l (Hu tl):=by
 intro pr s σ H R I h;refine Iw (hl pr s σ H _ I h) fun v s1 IB=>?_
 obtain⟨x,H1,I1,r1,l,e,q⟩:=IB;subst e;obtain⟨t,rfl⟩:=r1;cases ha:(S l).cps.all (·< 128)
 ·refine wpAny_pyIter_wide ha ?_;refine⟨s1.heap.objs.size,[s1.heap.objs.size],_,_,H1,rfl,I1.kept (t':=s1.toks) fun b o e=>Heap.get?_push_of_some _ e,
   qD "str_iterator" (by decide) l t _ (fun A hA=>Walks.strWide hA _ _ _) (fun _ _ _ _ _ st h=>wpAny_pyIter_striter_wide st h),⟨_,Heap.get?_push_size _ rfl,rfl,rfl⟩,fun b hb=>?_,q⟩
  have e:b=s1.heap.objs.size:=by simpa using hb
  subst e;exact I1.fpOk (TB _) (I1.hok.fresh (TB _))
 ·refine wpAny_pyIter_ascii ha ?_;refine⟨s1.heap.objs.size,[s1.heap.objs.size],_,_,H1,rfl,I1.kept (t':=s1.toks) fun b o e=>Heap.get?_push_of_some _ e,
   qD "str_ascii_iterator" (by decide) l t _ (fun A hA=>Walks.strAscii hA _ _ _) (fun _ _ _ _ _ st h=>wpAny_pyIter_striter_ascii st h),⟨_,Heap.get?_push_size _ rfl,rfl,rfl⟩,fun b hb=>?_,q⟩
  have e:b=s1.heap.objs.size:=by simpa using hb
  subst e;exact I1.fpOk (TB _) (I1.hok.fresh (TB _))
theorem l6{pr:List (Addr×Obj)}{s:Shared}{σ:L2.St}{H:Hp}{p:Addr}{xs:List V}{E:Value->Shared->Prop}{R:Value->Shared->Prop}(hc:X.calm=true)(I:Inv X pr σ H s)(h:SqL X.K H p xs\/SqT X.K H p xs)
  (k:∀(it:Addr) (fp:List Addr) (o:Obj) (us:List Value) (Sx:Nat->Heap->Prop),Vals xs us->Walks X.prog X.w X.A.in1 it fp [it] us.length (fun i v=>us[i]?=some v) Sx->Sx 0 (s.heap.push o)->(∀b∈fp,b<(s.heap.push o).objs.size)->it=s.heap.objs.size->R (.ref it) {s with heap:=s.heap.push o}):
  wpAny (model X.prog X.w) X.A.in1 (pyIter (.ref p)) R E s:=by
 have hh:X.A.in1.handled=none:=I.ok.hd hc;rcases h with h|h
 ·obtain⟨us,r,pl,hz⟩:=I.list h;have IQ:p<s.heap.objs.size:=by obtain⟨o,ho,_⟩:=pl.isList;exact TH ho
  refine Vq pl.isList (k s.heap.objs.size [s.heap.objs.size,p] _ us (fun i h=>h.IsListIter s.heap.objs.size p i/\h.IsList p us.toArray) r (by
   have W:=Walks.list (prog:=X.prog) (w:=X.w) hh s.heap.objs.size p (TU IQ) us.toArray;simpa using W) ⟨⟨_,Heap.get?_push_size _ rfl,rfl,rfl⟩,pl.isList.at fun o e=>Heap.get?_push_of_some _ e⟩ (fun b hb=>?_) rfl)
  rw[U6];rcases TK.mp hb with rfl|hb
  ·exact VA _
  ·rw[TY]at hb;rw[hb];exact WS IQ
 ·obtain⟨us,r,pl,hz⟩:=I.tuple h;have Ou:s.heap.IsTuple p us.toArray:=pl;have IQ:p<s.heap.objs.size:=by obtain⟨o,ho,_⟩:=pl;exact TH ho
  refine Vh Ou (k s.heap.objs.size [s.heap.objs.size,p] _ us (fun i h=>h.IsTupleIter s.heap.objs.size p i/\h.IsTuple p us.toArray) r (by
   have W:=Walks.tuple (prog:=X.prog) (w:=X.w) hh s.heap.objs.size p (TU IQ) us.toArray;simpa using W) ⟨⟨_,Heap.get?_push_size _ rfl,rfl,rfl⟩,Ou.at fun o e=>Heap.get?_push_of_some _ e⟩ (fun b hb=>?_) rfl)
  rw[U6];rcases TK.mp hb with rfl|hb
  ·exact VA _
  ·rw[TY]at hb;rw[hb];exact WS IQ
theorem i8{pr:List (Addr×Obj)}{s:Shared}{σ:L2.St}{H:Hp}{o:Obj}{h':Heap}{tk:Nat}(I:Inv X pr σ H s)(kk:∀b ob,b∉[s.heap.objs.size]->(s.heap.push o).get? b=some ob->h'.get? b=some ob):
  Inv X pr σ H {s with heap:=h',toks:=tk}:=I.kept fun b ob e=>kk b ob (fun z=>TU (TH e) (by simpa using z)) (Heap.get?_push_of_some _ e)
theorem bG{α:Type}(l:List α)(i:Nat)(d:α)(h:i<l.length):l.getD i d=l[i]:=by
 rw[List.getD_eq_getElem?_getD,List.getElem?_eq_getElem h];rfl
def CO:V->Bool
 | .bl b=>b
 |_=>false
def Fs:V->Bool
 | .bl _=>true
 |_=>false
theorem xo{xs:List V}{us:List Value}(r:Vals xs us)(hb:xs.all Fs=true):TruthOf X.prog X.w X.A.in1 (fun i v=>us[i]?=some v) (fun i=>CO (xs.getD i .non)):=by
 intro i v s Q E hv q;have hl:=r.length;obtain⟨hi,_⟩:=List.getElem?_eq_some_iff.mp hv;have e1:xs[i]?=some (xs[i]'(by lia)):=List.getElem?_eq_getElem _;obtain⟨u,hu,ru⟩:=r.get e1;rw[hv]at hu;cases hu;have q:Q (CO (xs.getD i .non)) s:=q;rw[z4 e1]at q;have bl:=T8.mp hb _ (T6 e1);generalize xs[i]'(by lia)=x at ru q bl;cases x <;> first|(exact absurd (show false=true from bl) Tz)|skip
 cases ru;exact Vo q
theorem uH{xs:List V}(f:V->Bool):(List.range xs.length).all (fun i=>f (xs.getD i .non))=xs.all f:=by
 rw[T5,T8,T8];constructor
 ·intro h x hx;obtain⟨i,hi,rfl⟩:=Vy hx;have:=h i (Uq.mpr hi)
  rwa [bG _ _ _ hi]at this
 ·intro h i hi;have hi:=Uq.mp hi;rw[bG _ _ _ hi];exact h _ (VB hi)
theorem xp(hc:X.calm=true):dJ X (.builtin "all") (fun vs H Q=>∃p xs,vs=[.ref p]/\(SqL X.K H p xs\/SqT X.K H p xs)/\xs.all Fs=true/\Q (.bl (xs.all CO)) H):=by
 intro pr s σ H vs us Q I r h;obtain⟨p,xs,rfl,hp,hb,q⟩:=h;obtain⟨u,rfl,r1⟩:=fN r;cases r1;refine call_all_walk (l6 hc I hp fun it fp o ws Sx rv W st hf hit=>⟨it,fp,[it],_,_,Sx,_,rfl,W,st,xo rv hb,fun h' tk kk=>?_⟩);subst hit;refine⟨.bl (xs.all CO),H,i8 (s:=s) I kk,?_,q⟩;rw[<-rv.length,uH];rfl
theorem hV{ns:List Int}{us:List Value}(r:Vals (ns.map V.int) us){i:Nat}{v:Value}(h:us[i]?=some v):∃t,v=.int (ns.getD i 0) t:=by
 have hl:=r.length;rw[Tt]at hl;obtain⟨hi,_⟩:=List.getElem?_eq_some_iff.mp h;have e1:(ns.map V.int)[i]?=some (.int (ns.getD i 0)):=by
  rw[List.getElem?_map,List.getElem?_eq_getElem (by lia),bG _ _ _ (by lia)];rfl
 obtain⟨u,hu,t,rfl⟩:=r.get e1;rw[h]at hu;exact⟨t,TX hu⟩
theorem qE{ns:List Int}{us:List Value}(r:Vals (ns.map V.int) us)(A:Around):CmpOf X.prog X.w A .Gt (fun i v=>us[i]?=some v) (fun i j=>decide (ns.getD j 0<ns.getD i 0)):=by
 intro i j vi vj s Q E hi hj q;obtain⟨t,rfl⟩:=hV r hi;obtain⟨t',rfl⟩:=hV r hj;exact gt_int q
def sM(ns:List Int):Int:=ns.foldl max (ns.headD 0)
def Ft(ns:List Int):Int:=ns.foldl min (ns.headD 0)
theorem l7(ns:List Int):∀k,k<ns.length->argBest (fun i j=>decide (ns.getD j 0<ns.getD i 0)) k<ns.length/\ns.getD (argBest (fun i j=>decide (ns.getD j 0<ns.getD i 0)) k) 0=(ns.take (k+1)).foldl max (ns.headD 0)
 | 0,h=>by
  refine⟨h,?_⟩;cases ns with
  |nil=>cases h
  |cons a l=>show a=max a a;lia
 |k+1,h=>by
  obtain⟨ih1,ih2⟩:=l7 ns k (by lia);have et:ns.take (k+1+1)=ns.take (k+1)++[ns.getD (k+1) 0]:=by
   rw[List.take_add_one,List.getElem?_eq_getElem h,bG _ _ _ h];rfl
  rw[et,List.foldl_append,<-ih2];show(if decide (ns.getD (argBest (fun i j=>decide (ns.getD j 0<ns.getD i 0)) k) 0<ns.getD (k+1) 0)=true then k+1 else argBest (fun i j=>decide (ns.getD j 0<ns.getD i 0)) k)<ns.length/\
   ns.getD (if decide (ns.getD (argBest (fun i j=>decide (ns.getD j 0<ns.getD i 0)) k) 0<ns.getD (k+1) 0)=true then k+1 else argBest (fun i j=>decide (ns.getD j 0<ns.getD i 0)) k) 0=max _ _
  split
  ·rename_i hd;have:=Vs hd;exact⟨h,by lia⟩
  ·rename_i hd;rw[TQ]at hd;exact⟨ih1,by lia⟩
theorem uI(hc:X.calm=true):dJ X (.builtin "max") (fun vs H Q=>∃(p:Addr) (ns:List Int),vs=[.ref p]/\(SqL X.K H p (ns.map V.int)\/SqT X.K H p (ns.map V.int))/\ns≠[]/\Q (.int (sM ns)) H):=by
 intro pr s σ H vs us Q I r h;obtain⟨p,ns,rfl,hp,Km,q⟩:=h;obtain⟨u,rfl,r1⟩:=fN r;cases r1;have hn:0<ns.length:=by cases ns with|nil=>exact absurd rfl Km|cons _ _=>simp
 refine call_max_walk (l6 hc I hp fun it fp o ws Sx rv W st hf hit=>?_);have hl:=rv.length;rw[Tt]at hl;refine⟨it,fp,[it],_,_,Sx,_,rfl,W,st,hf,by lia,qE rv _,fun v h' tk hv kk=>?_⟩;subst hit;obtain⟨b1,b2⟩:=l7 ns (ns.length-1) (by lia);rw[<-hl]at hv;obtain⟨t,rfl⟩:=hV rv hv;refine⟨.int (sM ns),H,i8 (s:=s) I kk,⟨t,?_⟩,q⟩;rw[b2,show ns.length-1+1=ns.length by lia,List.take_length];rfl
end
section
variable{prog:Program}{w:World}{A:Around}{R:Result->Shared->Prop}{it:Addr}{fp wr:List Addr}{n:Nat}{Pv:Nat->Value->Prop}{Sx:Nat->Heap->Prop}{kw:List (Str×Value)}
theorem l8:(toString "max"++toString ".loop" : String) = "max.loop":=by decide
theorem Fv(Wk:Walks prog w A.in1 it fp wr n Pv Sx)(bt:Nat->Nat->Bool)(cm:CmpOf prog w A.in1 .Gt Pv bt)(T:Addr)(nT:T∉fp):∀(k j:Nat) (s:Shared) (vb:Value) (c:Nat),n-(j+1)=k->j+1<=n->Sx (j+1) s.heap->Pv (argBest bt j) vb->
   s.heap.get? T=some {cls:=.type "list",dict:=none,data:=.seq #[vb,vb] c,slots:=#[]}->
   (∀v h' tk,Pv (argBest bt (n-1)) v->(∀b o,b∉wr->b≠T->s.heap.get? b=some o->h'.get? b=some o)->R (.ok (.ret v)) {s with heap:=h',toks:=tk})->codeAny (model prog w) A (.builtin "max.loop" ⟨[.ref it,.none,.ref T],kw⟩) R s:=by
 have Q4:T∉wr:=fun z=>nT (Wk.sub _ z)
 intro k;induction k with
 |zero=>
  intro j s vb c hk hj st hp hT fin;have ej:j+1=n:=by lia
  refine Xn W3 ?_;rw[Wq Vf _];show wpAny _ A.in1 (seqItems? (.ref T) >>= _) _ _ s;refine Tr (UJ hT rfl ?_);show wpAny _ A.in1 (tryCatch (pyNext (.ref it)) _ >>= _) _ _ s;refine Tr (Wh (Wk.done s _ _ (ej▸st) fun h' tk kk=>?_));have Oa:=kk T _ Q4 hT;show wpAny _ A.in1 (updateSeq T (fun _=>#[]) >>= _) _ _ _;refine Tr (WA Oa rfl (Tr (VG (Tw ?_))));exact fin vb _ tk (by rw[<-ej];exact hp) fun b o bw bT e=>(Heap.get?_update_other _ _ (U1 bT)).trans (kk b o bw e)
 |succ k ih=>
  intro j s vb c hk hj st hp hT fin;have jn:j+1<n:=by lia
  refine Xn W3 ?_;rw[Wq Vf _];show wpAny _ A.in1 (seqItems? (.ref T) >>= _) _ _ s;refine Tr (UJ hT rfl ?_);show wpAny _ A.in1 (tryCatch (pyNext (.ref it)) _ >>= _) _ _ s;refine Tr (Wh (Wk.item (j+1) s _ _ jn st fun v h' tk pv J6 kk=>?_));have Oa:=kk T _ Q4 hT;show wpAny _ A.in1 (tryCatch (holding [v,v] (richCompare .Gt v vb >>= _)) _ >>= _) _ _ _;refine Tr (Wh (U4 (Tr (cm (j+1) (argBest bt j) v vb _ _ _ pv hp (Tr (U4 (Vo (Tr (VG (Tw ?_))))))))));cases eb:bt (j+1) (argBest bt j) with
  |true=>
   rw[TF rfl];refine Tr (WA Oa rfl (Tr (VG ?_)));rw[l8];refine Tw ⟨Wu Vf _,ih (j+1) _ v _ (by lia) jn (Wk.frame _ _ _ J6 fun b bf o e=>?_) (by simp only[argBest,eb,VY];exact pv) (Heap.get?_update_self _ Oa rfl) fun v2 h2 t2 p2 k2=>?_⟩
   ·exact(Heap.get?_update_other _ _ (fun z:T=b=>nT (by rw[z];exact bf))).trans e
   ·exact fin v2 h2 t2 p2 fun b o bw bT e=>k2 b o bw bT ((Heap.get?_update_other _ _ (U1 bT)).trans (kk b o bw e))
  |false=>
   rw[TJ Tz];refine Tr (VG ?_);rw[l8];refine Tw ⟨Wu Vf _,ih (j+1) _ vb c (by lia) jn J6 (by simp only[argBest,eb,UR,Wg];exact hp) Oa fun v2 h2 t2 p2 k2=>?_⟩;exact fin v2 h2 t2 p2 fun b o bw bT e=>k2 b o bw bT (kk b o bw e)
theorem xq(Wk:Walks prog w A.in1 it fp wr n Pv Sx)(bt:Nat->Nat->Bool)(cm:CmpOf prog w A.in1 .Gt Pv bt)(T:Addr)(nT:T∉fp){s:Shared}{c:Nat}{d:Value}(hkw:kw=[(Str.ofString "default",d)])(st:Sx 0 s.heap)
  (hT:s.heap.get? T=some {cls:=.type "list",dict:=none,data:=.seq #[] c,slots:=#[]}) (fin:∀v h' tk,(if n=0 then v=d else Pv (argBest bt (n-1)) v)->(∀b o,b∉wr->b≠T->s.heap.get? b=some o->h'.get? b=some o)->R (.ok (.ret v)) {s with heap:=h',toks:=tk}):
  codeAny (model prog w) A (.builtin "max.loop" ⟨[.ref it,.none,.ref T],kw⟩) R s:=by
 have Q4:T∉wr:=fun z=>nT (Wk.sub _ z)
 refine Xn W3 ?_;rw[Wq Vf _];show wpAny _ A.in1 (seqItems? (.ref T) >>= _) _ _ s;refine Tr (UJ hT rfl ?_);show wpAny _ A.in1 (tryCatch (pyNext (.ref it)) _ >>= _) _ _ s;by_cases hn:n=0
 ·refine Tr (Wh (Wk.done s _ _ (by rw[hn];exact st) fun h' tk kk=>?_));subst hkw;refine Tr (XA (Tw ?_));exact fin d _ tk (by rw[TF hn]) fun b o bw bT e=>kk b o bw e
 ·refine Tr (Wh (Wk.item 0 s _ _ (by lia) st fun v h' tk pv J6 kk=>?_));have Oa:=kk T _ Q4 hT;show wpAny _ A.in1 (updateSeq T (fun _=>#[v,v]) >>= _) _ _ _;refine Tr (WA Oa rfl ?_);rw[l8];refine Tw ⟨Wu Vf _,Fv Wk bt cm T nT _ 0 _ v _ rfl (by lia) (Wk.frame _ _ _ J6 fun b bf o e=>?_) pv (Heap.get?_update_self _ Oa rfl) fun v2 h2 t2 p2 k2=>?_⟩
  ·exact(Heap.get?_update_other _ _ (fun z:T=b=>nT (by rw[z];exact bf))).trans e
  ·exact fin v2 h2 t2 (by rw[TJ hn];exact p2) fun b o bw bT e=>k2 b o bw bT ((Heap.get?_update_other _ _ (U1 bT)).trans (kk b o bw e))
end
theorem tree_kw{prog:Program}{w:World}{A:Around}{E:Value->Shared->Prop}{s:Shared}{id:String}{bf:Builtin}{args:List Value}{kw:List (Str×Value)}{Q:Value->Shared->Prop}(hk:builtinKind id=none)(hp:plainId id=true)
  (hb:entryFor table id=some bf) (ha:argsOk id ⟨args,kw⟩)
  (hc:wpAny (model prog w) A.in1 (bf ⟨args,kw⟩) (fun fin s'=>match fin with
   | .done f=>(match(Except.ok f:Result) with | .ok (.ret v)=>Q v s' | .ok _=>False | .error e=>E e s')
   | .again c'=>c'.quiet=true/\codeAny (model prog w) A c' (fun r s'=>match r with | .ok (.ret v)=>Q v s' | .ok _=>False | .error e=>E e s') s') E s):wpAny (model prog w) A (call (.builtin id) args kw) Q E s:=by
 refine wpAny_call (codeAny_call_builtin hp hb ?_);simp only[checkBuiltinCall,hk];cases hsig:Manifest.signature? id with
 |none=>exact Tw hc
 |some sig=>
  have ha2:Bind.checkArgs id sig ⟨args,kw⟩=pure ():=by simpa only[argsOk,hsig] using ha
  simp only[ha2];exact Tw hc
theorem uJ(a d:Value):argsOk "max" ⟨[a],[(Str.ofString "default",d)]⟩:=by unfold argsOk;kernel_rfl
section
variable{X:Cx}{e k:Expr}{te tk:TE}{p pos L4:Pos}
def maxD(ns:List Int)(d:Int):Int:=if ns=[] then d else sM ns
def Fw(K:W.Frag)(te tk:TE):TE:=fun σ H Q=>xf te EK σ H fun vs H1=>xf tk EK σ H1 fun ks H2=>∃(a:Addr) (ns:List Int) (d:Int),vs=[.ref a]/\ks=[.int d]/\(SqL K H2 a (ns.map V.int)\/SqT K H2 a (ns.map V.int))/\Q (.int (maxD ns d)) H2
theorem Ab(hc:X.calm=true)(hg:Gl X "max")(hm:X.mg "max" = none)(he:PE X e te)(hk:PE X k tk)(hs:starEach [e] X.env=[(false,eval e X.env)]:=by rfl):
  PE X (.Call (.Name "max" p) [e] [⟨some "default",k,L4⟩] pos) (Fw X.K te tk):=by
 intro pr s σ H Q I h;refine U0 (gX I hg hm (by decide +kernel:bootBuiltins "max" = some (.builtin "max")) ?_ (by decide) (by decide));refine callWith_kw (Iw (fQ he nu (hs:=hs) pos pr s σ H _ I h) fun us s1 ⟨vs,H1,I1,r1,q1⟩=>?_) (by rw[hs];rfl) (by rw[hs];rfl);refine Iw (zQ hk CC pos pr s1 σ H1 _ I1 q1) fun ws s2 IB=>?_
 obtain⟨ks,H2,I2,r2,a,ns,d,e1,e2,hp,q⟩:=IB;subst e1 e2;obtain⟨u,rfl,ru⟩:=fN r1;obtain⟨w',rfl,t,rfl⟩:=fN r2;cases ru;show wpAny _ _ (call (.builtin "max") [.ref a] [(Str.ofString "default",.int d t)]) _ _ s2;refine tree_kw F.kind_max F.plain_max F.entry_max (uJ _ _) ?_;show wpAny _ X.A.in1 (Builtin.Builtins.bindParams "max" ["key","default"] 0 ⟨[],[(Str.ofString "default",.int d t)]⟩ >>= _) _ _ s2;refine Tr (wpAny_of_eq (show Builtin.Builtins.bindParams "max" ["key","default"] 0 ⟨[],[(Str.ofString "default",.int d t)]⟩=pure [none,some (.int d t)] from rfl) ?_);refine Tr (Tw ?_);refine Tr (l6 hc I2 hp fun it fp o ws Sx rv Wk st hf hit=>?_);have hl:=rv.length;rw[Tt]at hl;refine Tr (Uy ?_);have nT:(s2.heap.push o).objs.size∉fp:=fun z=>Vx _ (hf _ z)
 rw[l8];refine Tw ⟨Wu Vf _,xq Wk _ (qE rv _) (s2.heap.push o).objs.size nT rfl (Wk.frame _ _ _ st fun b _ ob e=>Heap.get?_push_of_some _ e) (Heap.get?_push_size _ rfl) fun v h' tk' hv kk=>?_⟩;subst hit;have I3:Inv X pr σ H2 {s2 with heap:=h',toks:=tk'}:=i8 (s:=s2) (o:=o) I2 fun b ob nb e=>kk b ob nb (TU (TH e)) (Heap.get?_push_of_some _ e)
 refine⟨.int (maxD ns d),H2,I3,?_,q⟩;unfold maxD;by_cases hn:ns=[]
 ·rw[TF (by rw[<-hl,hn];rfl)]at hv;rw[TF hn,hv];exact⟨t,rfl⟩
 ·have h0:0<ns.length:=WB.mpr hn;rw[TJ (by lia)]at hv;rw[TJ hn];obtain⟨b1,b2⟩:=l7 ns (ns.length-1) (by lia);rw[<-hl]at hv;obtain⟨t2,rfl⟩:=hV rv hv;refine⟨t2,?_⟩;rw[b2,show ns.length-1+1=ns.length by lia,List.take_length];rfl
end
section
variable{prog:Program}{w:World}{A:Around}{E:Value->Shared->Prop}{s:Shared}
theorem xr{it t:Addr}{i:Nat}{items:Array Value}{x:Value}{Q:Value->Shared->Prop}(hi:s.heap.IsTupleIter it t i)(ht:s.heap.IsTuple t items)(hx:items[i]?=some x)
  (k:∀h',h'.IsTupleIter it t (i+1)->Heap.SameBut it s.heap h'->Q x {s with heap:=h'}):wpAny (model prog w) A (Builtin.SmallTypes.nextOf (.ref it)) Q E s:=by
 obtain⟨o,ho,oc,od⟩:=id hi;obtain⟨q,hq,_,n,qd⟩:=ht;unfold Builtin.SmallTypes.nextOf;refine Tr (wpAny_callSpecial?_slot (name:=Str.ofString "__next__") hi.typeIs Vd (UC Vd hi.typeIs WC ?_ (Wv _)));show wpAny _ _ (field (.ref it) 0 >>= _) _ _ s;refine Tr (UQ ho od (x:=.ref t) rfl ?_);show wpAny _ _ (if(Value.ref t==Value.none)=true then _ else _) _ _ s;rw[TJ (fun z:(Value.ref t==Value.none)=true=>Tz z)];show wpAny _ _ (field (.ref it) 1 >>= _) _ _ s;refine Tr (UQ ho od (x:=.int i 0) rfl (Tr (UJ hq qd ?_)));simp only[UD,hx];refine Tr (WM ho od (by simp) (Tw ⟨x,rfl,Tw (k _ ⟨_,Heap.get?_update_self _ ho (Obj.isFreed_of_fields (VZ od _)),(Obj.cls_mapFields ..).trans oc,?_⟩ (VQ ..))⟩));rw[VZ od];simp[rawInt]
theorem Ac{it t:Addr}{i:Nat}{items:Array Value}{Q:Value->Shared->Prop}(hh:A.handled=none)(hi:s.heap.IsTupleIter it t i)(ht:s.heap.IsTuple t items)(hx:items[i]?=none)
  (k:∀h' e,Heap.ExtBut it s.heap h'->(∃o,h'.get? e=some o/\o.cls=.type "StopIteration")->E (.ref e) {s with heap:=h'}):wpAny (model prog w) A (Builtin.SmallTypes.nextOf (.ref it)) Q E s:=by
 obtain⟨o,ho,oc,od⟩:=id hi;obtain⟨q,hq,_,n,qd⟩:=ht;unfold Builtin.SmallTypes.nextOf;refine Tr (wpAny_callSpecial?_slot (name:=Str.ofString "__next__") hi.typeIs Vd (UC Vd hi.typeIs WC ?_ (Wv _)));show wpAny _ _ (field (.ref it) 0 >>= _) _ _ s;refine Tr (UQ ho od (x:=.ref t) rfl ?_);show wpAny _ _ (if(Value.ref t==Value.none)=true then _ else _) _ _ s;rw[TJ (fun z:(Value.ref t==Value.none)=true=>Tz z)];show wpAny _ _ (field (.ref it) 1 >>= _) _ _ s;refine Tr (UQ ho od (x:=.int i 0) rfl (Tr (UJ hq qd ?_)));simp only[UD,hx];refine Tr (XA (Tr (WM ho od (by simp) ?_)));show wpAny _ _ (newExc (.type "StopIteration") [] >>= _) _ _ _;refine Tr ?_;simp only[newExc,newTuple];refine Tr (Uy (Tr (m:=firstArgMember _ _) (wpAny_of_eq (a:=Value.none) (by first|rfl|(simp only[firstArgMember];rfl)) (Uy ?_ (by size_fits)))) (by size_fits));simp only[raiseNew];refine Tr (wpAny_handled ?_);first
  |rw[show A.in1.handled=none from hh]
  |rw[hh]
 exact Tr (Tw (wpAny_throw (k _ _ (((VQ ..).extBut.push _).push _) ⟨_,Heap.get?_push_size _ rfl,rfl⟩)))
def IsIt(k:Bool)(h:Heap)(it l:Addr)(i:Nat):Prop:=match k with
 |true=>h.IsListIter it l i
 |false=>h.IsTupleIter it l i
def IsSq(k:Bool)(h:Heap)(l:Addr)(xs:Array Value):Prop:=match k with
 |true=>h.IsList l xs
 |false=>h.IsTuple l xs
theorem IsIt.at{k:Bool}{h h':Heap}{it l:Addr}{i:Nat}(x:IsIt k h it l i)(e:∀o,h.get? it=some o->h'.get? it=some o):IsIt k h' it l i:=by
 cases k with
 |true=>obtain⟨o,ho,r⟩:=(show h.IsListIter it l i from x);exact(show h'.IsListIter it l i from⟨o,e o ho,r⟩)
 |false=>obtain⟨o,ho,r⟩:=(show h.IsTupleIter it l i from x);exact(show h'.IsTupleIter it l i from⟨o,e o ho,r⟩)
theorem IsSq.at{k:Bool}{h h':Heap}{l:Addr}{xs:Array Value}(x:IsSq k h l xs)(e:∀o,h.get? l=some o->h'.get? l=some o):IsSq k h' l xs:=by
 cases k with
 |true=>obtain⟨o,ho,r⟩:=(show h.IsList l xs from x);exact(show h'.IsList l xs from⟨o,e o ho,r⟩)
 |false=>obtain⟨o,ho,r⟩:=(show h.IsTuple l xs from x);exact(show h'.IsTuple l xs from⟨o,e o ho,r⟩)
theorem IsIt.obj{k:Bool}{h:Heap}{it l:Addr}{i:Nat}(x:IsIt k h it l i):∃o,h.get? it=some o/\∀v,o.data≠.cell v:=by
 cases k with
 |true=>obtain⟨o,ho,_,d⟩:=(show h.IsListIter it l i from x);exact⟨o,ho,fun v z=>by rw[d]at z;cases z⟩
 |false=>obtain⟨o,ho,_,d⟩:=(show h.IsTupleIter it l i from x);exact⟨o,ho,fun v z=>by rw[d]at z;cases z⟩
theorem pF{k:Bool}{it l:Addr}{i:Nat}{xs:Array Value}{x:Value}{Q:Value->Shared->Prop}(hi:IsIt k s.heap it l i)(hl:IsSq k s.heap l xs)(hx:xs[i]?=some x)
  (q:∀h',IsIt k h' it l (i+1)->Heap.SameBut it s.heap h'->Q x {s with heap:=h'}):wpAny (model prog w) A (Builtin.SmallTypes.nextOf (.ref it)) Q E s:=by
 cases k with
 |true=>exact wpAny_nextOf_list_item hi hl hx q
 |false=>exact xr hi hl hx q
theorem yO{k:Bool}{it l:Addr}{i:Nat}{xs:Array Value}{Q:Value->Shared->Prop}(hh:A.handled=none)(hi:IsIt k s.heap it l i)(hl:IsSq k s.heap l xs)(hx:xs[i]?=none)
  (q:∀h' e,Heap.ExtBut it s.heap h'->(∃o,h'.get? e=some o/\o.cls=.type "StopIteration")->E (.ref e) {s with heap:=h'}):wpAny (model prog w) A (Builtin.SmallTypes.nextOf (.ref it)) Q E s:=by
 cases k with
 |true=>exact wpAny_nextOf_list_end hh hi hl hx q
 |false=>exact Ac hh hi hl hx q
theorem Ad{k1 k2:Bool}{z TI TO i1 i2 l1 l2:Addr}{i:Nat}{xs ys:Array Value}{x y a b:Value}{Q:Value->Shared->Prop}(D:ZipApart z TI TO i1 i2 l1 l2)(hz:IsZip s.heap z TI TO .none)(Lx:IsPair s.heap TI (.ref i1) (.ref i2))(L7:IsPair s.heap TO a b)
  (h1:IsIt k1 s.heap i1 l1 i) (h2:IsIt k2 s.heap i2 l2 i) (g1:IsSq k1 s.heap l1 xs) (g2:IsSq k2 s.heap l2 ys) (hx:xs[i]?=some x) (hy:ys[i]?=some y)
  (q:∀h',IsZip h' z TI TO (rawInt s.heap.objs.size)->IsPair h' TO x y->IsIt k1 h' i1 l1 (i+1)->IsIt k2 h' i2 l2 (i+1)->IsPair h' s.heap.objs.size x y->
   (∀c o,c≠z->c≠TO->c≠i1->c≠i2->s.heap.get? c=some o->h'.get? c=some o)->Q (.ref s.heap.objs.size) {s with heap:=h'}):
  wpAny (model prog w) A (Builtin.«zip.__next__» ⟨[.ref z],[]⟩) (fun fin s'=>∃v,fin=.done (.ret v)/\Q v s') E s:=by
 show wpAny _ _ (field (.ref z) 2 >>= _) _ _ _;refine Tr (UQ hz rfl (x:=.bool false) rfl ?_);show wpAny _ _ (field (.ref z) 3 >>= _) _ _ _;refine Tr (UQ hz rfl (x:=.ref TI) rfl (Tr (UJ Lx rfl ?_)));show wpAny _ _ (Builtin.SmallTypes.ownedTupleIsFree (.ref z) >>= _) _ _ _;refine Tr ?_;unfold Builtin.SmallTypes.ownedTupleIsFree;refine Tr (UQ hz rfl (x:=.none) rfl (Tw ?_));rw[TF (by rfl)];refine Tr (XA (Tr (UQ hz rfl (x:=.ref TO) rfl (Tr (Vi hz (by simp) fun hA zA sA=>?_)))));have zA:IsZip hA z TI TO .ellipsis:=zA;refine Tr ?_;simp only[List.zipIdx_cons,List.zipIdx_nil,Xl,List.forIn_nil];refine Tr (Tr (WX ?_));show wpAny _ _ (Builtin.SmallTypes.nextOf (.ref i1) >>= _) _ _ _;refine Tr (pF (h1.at fun o e=>sA.extBut _ _ D.i1z e) (g1.at fun o e=>sA.extBut _ _ D.l1z e) hx fun hB iB sB=>Tw ?_);have tB:IsPair hB TO a b:=sB.extBut _ _ D.TOi1 (sA.extBut _ _ D.TOz L7);refine Tr (UJ tB rfl (Tr (Wr tB fun hC tC sC=>Tr (VG (Tw ?_)))));have tC:IsPair hC TO x b:=tC;refine Tr (Tr (WX ?_));show wpAny _ _ (Builtin.SmallTypes.nextOf (.ref i2) >>= _) _ _ _;refine Tr (pF (h2.at fun o e=>sC.extBut _ _ D.TOi2.symm (sB.extBut _ _ D.i12.symm (sA.extBut _ _ D.i2z e))) (g2.at fun o e=>sC.extBut _ _ D.l2TO (sB.extBut _ _ D.l2i1 (sA.extBut _ _ D.l2z e))) hy fun hD iD sD=>Tw ?_);have tD:IsPair hD TO x b:=sD.extBut _ _ D.TOi2 tC;refine Tr (UJ tD rfl (Tr (Wr tD fun hE tE sE=>Tr (VG (Tw (Tw ?_))))));have tE:IsPair hE TO x y:=tE;refine Tr (UJ tE rfl (Tr (wpAny_newTuple ?_)));have ez:hE.objs.size=s.heap.objs.size:=by rw[sE.1,sD.1,sC.1,sB.1,sA.1]
 have zE:IsZip hE z TI TO .ellipsis:=sE.extBut _ _ D.TOz.symm (sD.extBut _ _ D.i2z.symm (sC.extBut _ _ D.TOz.symm (sB.extBut _ _ D.i1z.symm zA)));have kE:∀c o,c≠z->c≠TO->c≠i1->c≠i2->s.heap.get? c=some o->hE.get? c=some o:=fun c o c1 c2 c3 c4 e=>sE.extBut _ _ c2 (sD.extBut _ _ c4 (sC.extBut _ _ c2 (sB.extBut _ _ c3 (sA.extBut _ _ c1 e))))
 have i1E:IsIt k1 hE i1 l1 (i+1):=iB.at fun o e=>sE.extBut _ _ D.TOi1.symm (sD.extBut _ _ D.i12 (sC.extBut _ _ D.TOi1.symm e))
 have i2E:IsIt k2 hE i2 l2 (i+1):=iD.at fun o e=>sE.extBut _ _ D.TOi2.symm e
 show wpAny _ _ (Builtin.SmallTypes.ownedTupleHandOut (.ref z) (.ref hE.objs.size) >>= _) _ _ _;refine Tr ?_;unfold Builtin.SmallTypes.ownedTupleHandOut;have zF:IsZip (hE.push {cls:=.type "tuple",data:=.seq #[x,y]}) z TI TO .ellipsis:=Heap.get?_push_of_some _ zE;refine Tr (Vi zF (by simp) fun hG zG sG=>?_);have zG:IsZip hG z TI TO (rawInt hE.objs.size):=zG;refine Vi zG (by simp) fun hK zK sK=>?_
 have zK:IsZip hK z TI TO (rawInt hE.objs.size):=zK;have up:∀c o,c≠z->hE.get? c=some o->hK.get? c=some o:=fun c o c1 e=>sK.extBut _ _ c1 (sG.extBut _ _ c1 (Heap.get?_push_of_some _ e))
 have nz:hE.objs.size≠z:=WI (TH zE);have tK:IsPair hK hE.objs.size x y:=sK.extBut _ _ nz (sG.extBut _ _ nz (Heap.get?_push_size _ rfl));rw[ez]at zK tK;refine Tw ⟨_,rfl,?_⟩;show Q (.ref hE.objs.size) _;rw[ez];exact q hK zK (up _ _ D.TOz tE) (i1E.at fun o e=>up _ o D.i1z e) (i2E.at fun o e=>up _ o D.i2z e) tK fun c o c1 c2 c3 c4 e=>up c o c1 (kE c o c1 c2 c3 c4 e)
theorem CP{k1 k2:Bool}{z TI TO i1 i2 l1 l2:Addr}{i:Nat}{xs ys:Array Value}{a b:Value}{Q:Fin->Shared->Prop}(hh:A.handled=none)(D:ZipApart z TI TO i1 i2 l1 l2)(hz:IsZip s.heap z TI TO .none)(Lx:IsPair s.heap TI (.ref i1) (.ref i2))(L7:IsPair s.heap TO a b)
  (h1:IsIt k1 s.heap i1 l1 i) (h2:IsIt k2 s.heap i2 l2 i) (g1:IsSq k1 s.heap l1 xs) (g2:IsSq k2 s.heap l2 ys) (he:xs[i]?=none\/ys[i]?=none)
  (q:∀h' e,(∀c o,c≠z->c≠TO->c≠i1->c≠i2->s.heap.get? c=some o->h'.get? c=some o)->(∃o,h'.get? e=some o/\o.cls=.type "StopIteration")->E (.ref e) {s with heap:=h'}):
  wpAny (model prog w) A (Builtin.«zip.__next__» ⟨[.ref z],[]⟩) Q E s:=by
 show wpAny _ _ (field (.ref z) 2 >>= _) _ _ _;refine Tr (UQ hz rfl (x:=.bool false) rfl ?_);show wpAny _ _ (field (.ref z) 3 >>= _) _ _ _;refine Tr (UQ hz rfl (x:=.ref TI) rfl (Tr (UJ Lx rfl ?_)));show wpAny _ _ (Builtin.SmallTypes.ownedTupleIsFree (.ref z) >>= _) _ _ _;refine Tr ?_;unfold Builtin.SmallTypes.ownedTupleIsFree;refine Tr (UQ hz rfl (x:=.none) rfl (Tw ?_));rw[TF (by rfl)];refine Tr (XA (Tr (UQ hz rfl (x:=.ref TO) rfl (Tr (Vi hz (by simp) fun hA zA sA=>?_)))));have zA:IsZip hA z TI TO .ellipsis:=zA;refine Tr ?_;simp only[List.zipIdx_cons,List.zipIdx_nil,Xl,List.forIn_nil];refine Tr (Tr (WX ?_));show wpAny _ _ (Builtin.SmallTypes.nextOf (.ref i1) >>= _) _ _ _;cases hx:xs[i]? with
 |none=>
  refine Tr (yO hh (h1.at fun o e=>sA.extBut _ _ D.i1z e) (g1.at fun o e=>sA.extBut _ _ D.l1z e) hx fun hB e sB IB=>?_);obtain⟨oe,ge,ce⟩:=IB;have zB:IsZip hB z TI TO .ellipsis:=sB _ _ D.i1z.symm zA;have ne:e≠z:=fun x=>by subst x;rw[zB]at ge;cases ge;simp at ce
  exact Vi zB (by simp) fun hC _ sC=>q hC e (fun c o c1 _ c3 _ x=>sC.extBut _ _ c1 (sB _ _ c3 (sA.extBut _ _ c1 x))) ⟨oe,sC.extBut _ _ ne ge,ce⟩
 |some x=>
  have hy:ys[i]?=none:=by
   rcases he with z|z
   ·rw[hx]at z;cases z
   ·exact z
  refine Tr (pF (h1.at fun o e=>sA.extBut _ _ D.i1z e) (g1.at fun o e=>sA.extBut _ _ D.l1z e) hx fun hB iB sB=>Tw ?_);have tB:IsPair hB TO a b:=sB.extBut _ _ D.TOi1 (sA.extBut _ _ D.TOz L7);refine Tr (UJ tB rfl (Tr (Wr tB fun hC tC sC=>Tr (VG (Tw ?_)))));refine Tr (Tr (WX ?_));show wpAny _ _ (Builtin.SmallTypes.nextOf (.ref i2) >>= _) _ _ _;refine Tr (yO hh (h2.at fun o e=>sC.extBut _ _ D.TOi2.symm (sB.extBut _ _ D.i12.symm (sA.extBut _ _ D.i2z e))) (g2.at fun o e=>sC.extBut _ _ D.l2TO (sB.extBut _ _ D.l2i1 (sA.extBut _ _ D.l2z e))) hy fun hD e sD IB=>?_);obtain⟨oe,ge,ce⟩:=IB;have zD:IsZip hD z TI TO .ellipsis:=sD _ _ D.i2z.symm (sC.extBut _ _ D.TOz.symm (sB.extBut _ _ D.i1z.symm zA));have ne:e≠z:=fun x=>by subst x;rw[zD]at ge;cases ge;simp at ce
  exact Vi zD (by simp) fun hF _ sF=>q hF e (fun c o c1 c2 c3 c4 x=>sF.extBut _ _ c1 (sD _ _ c4 (sC.extBut _ _ c2 (sB.extBut _ _ c3 (sA.extBut _ _ c1 x))))) ⟨oe,sF.extBut _ _ ne ge,ce⟩
end
def itObj(k:Bool)(l:Addr):Obj:=match k with
 |true=>{cls:=.type "list_iterator",data:=.fields #[.ref l,.int 0 0]}
 |false=>{cls:=.type "tuple_iterator",data:=.fields #[.ref l,.int 0 0]}
theorem qF(k:Bool)(h:Heap)(l:Addr):IsIt k (h.push (itObj k l)) h.objs.size l 0:=by
 cases k with
 |true=>exact⟨_,Heap.get?_push_size _ rfl,rfl,rfl⟩
 |false=>exact⟨_,Heap.get?_push_size _ rfl,rfl,rfl⟩
abbrev zA(h:Heap)(k1:Bool)(l1:Addr):Heap:=h.push (itObj k1 l1)
abbrev zB(h:Heap)(k1 k2:Bool)(l1 l2:Addr):Heap:=(zA h k1 l1).push (itObj k2 l2)
abbrev zC(h:Heap)(k1 k2:Bool)(l1 l2:Addr):Heap:=(zB h k1 k2 l1 l2).push {cls:=.type "tuple",data:=.seq #[.ref h.objs.size,.ref (zA h k1 l1).objs.size]}
abbrev zD(h:Heap)(k1 k2:Bool)(l1 l2:Addr):Heap:=(zC h k1 k2 l1 l2).push {cls:=.type "tuple",data:=.seq #[.none,.none]}
abbrev zE(h:Heap)(k1 k2:Bool)(l1 l2:Addr):Heap:=(zD h k1 k2 l1 l2).push {cls:=.type "zip",data:=.fields #[.none,.bool false,.bool false,.ref (zB h k1 k2 l1 l2).objs.size,.ref (zC h k1 k2 l1 l2).objs.size]}
set_option maxHeartbeats 8000000 in
theorem CQ(k1 k2:Bool)(l1 l2:Addr)(xs ys:Array Value):
  Meets (Builtin.«zip.__new__» ⟨[.type "zip",.ref l1,.ref l2],[]⟩) (fun _ R s=>IsSq k1 s.heap l1 xs/\IsSq k2 s.heap l2 ys/\R (.ok (.ret (.ref (zD s.heap k1 k2 l1 l2).objs.size))) {s with heap:=zE s.heap k1 k2 l1 l2}):=
 .of_wp fun prog w A R s h=>by
  obtain⟨hp,g,d,tk,os⟩:=s;obtain⟨g1,g2,q⟩:=h;have hsub:=sub_zip;cases k1 with
  |true=>
   have e1:Heap.IsList (Shared.heap ⟨hp,g,d,tk,os⟩) l1 xs:=g1;cases k2 with
   |true=>
    have e2:Heap.IsList (Shared.heap ⟨hp.push {cls:=.type "list_iterator",data:=.fields #[.ref l1,.int 0 0]},g,d,tk,os⟩) l2 ys:=Heap.IsList.push g2 _
    wp_walk using Vq e1,Vq e2
    exact⟨_,rfl,q⟩
   |false=>
    have e2:Heap.IsTuple (Shared.heap ⟨hp.push {cls:=.type "list_iterator",data:=.fields #[.ref l1,.int 0 0]},g,d,tk,os⟩) l2 ys:=Heap.IsTuple.push g2 _
    wp_walk using Vq e1,Vh e2
    exact⟨_,rfl,q⟩
  |false=>
   have e1:Heap.IsTuple (Shared.heap ⟨hp,g,d,tk,os⟩) l1 xs:=g1;cases k2 with
   |true=>
    have e2:Heap.IsList (Shared.heap ⟨hp.push {cls:=.type "tuple_iterator",data:=.fields #[.ref l1,.int 0 0]},g,d,tk,os⟩) l2 ys:=Heap.IsList.push g2 _
    wp_walk using Vh e1,Vq e2
    exact⟨_,rfl,q⟩
   |false=>
    have e2:Heap.IsTuple (Shared.heap ⟨hp.push {cls:=.type "tuple_iterator",data:=.fields #[.ref l1,.int 0 0]},g,d,tk,os⟩) l2 ys:=Heap.IsTuple.push g2 _
    wp_walk using Vh e1,Vh e2
    exact⟨_,rfl,q⟩
def ZS(k1 k2:Bool)(z TI TO i1 i2 l1 l2:Addr)(i:Nat)(h:Heap):Prop:=IsZip h z TI TO .none/\IsPair h TI (.ref i1) (.ref i2)/\(∃a b,IsPair h TO a b)/\IsIt k1 h i1 l1 i/\IsIt k2 h i2 l2 i
theorem Ae{prog:Program}{w:World}{A:Around}{E:Value->Shared->Prop}{s:Shared}{k1 k2:Bool}{l1 l2:Addr}{xs ys:Array Value}{Q:Value->Shared->Prop}(g1:IsSq k1 s.heap l1 xs)(g2:IsSq k2 s.heap l2 ys)
  (q:∀h',ZS k1 k2 (s.heap.objs.size+4) (s.heap.objs.size+2) (s.heap.objs.size+3) s.heap.objs.size (s.heap.objs.size+1) l1 l2 0 h'->(∀c o,s.heap.get? c=some o->h'.get? c=some o)->Q (.ref (s.heap.objs.size+4)) {s with heap:=h'}):
  wpAny (model prog w) A (call (.type "zip") [.ref l1,.ref l2]) Q E s:=by
 refine callType_new F.called_zip (by decide) (F.typeCall_zip_2 _ _) (F.newCall_zip_2 _ _) (fun obj=>F.args_object_init_3 obj _ _) F.entry_zip_new (CQ k1 k2 l1 l2 xs ys) ⟨g1,g2,?_⟩;have nA:(zA s.heap k1 l1).objs.size=s.heap.objs.size+1:=U6 ..;have nB:(zB s.heap k1 k2 l1 l2).objs.size=s.heap.objs.size+2:=by rw[U6,nA]
 have nC:(zC s.heap k1 k2 l1 l2).objs.size=s.heap.objs.size+3:=by rw[U6,nB]
 have nD:(zD s.heap k1 k2 l1 l2).objs.size=s.heap.objs.size+4:=by rw[U6,nC]
 have pu:∀{h:Heap}{o:Obj}{c:Addr}{v:Obj},h.get? c=some v->(h.push o).get? c=some v:=fun e=>Heap.get?_push_of_some _ e
 have gz:(zE s.heap k1 k2 l1 l2).get? (zD s.heap k1 k2 l1 l2).objs.size=some _:=Heap.get?_push_size _ rfl;have go:(zE s.heap k1 k2 l1 l2).get? (zC s.heap k1 k2 l1 l2).objs.size=some _:=pu (Heap.get?_push_size _ rfl);have gi:(zE s.heap k1 k2 l1 l2).get? (zB s.heap k1 k2 l1 l2).objs.size=some _:=pu (pu (Heap.get?_push_size _ rfl));have j2:IsIt k2 (zE s.heap k1 k2 l1 l2) (zA s.heap k1 l1).objs.size l2 0:=(qF k2 (zA s.heap k1 l1) l2).at fun o e=>pu (pu (pu e))
 have j1:IsIt k1 (zE s.heap k1 k2 l1 l2) s.heap.objs.size l1 0:=(qF k1 s.heap l1).at fun o e=>pu (pu (pu (pu e)))
 show _/\_;rw[nB,nC,nD]at gz;rw[nA,nB]at gi;rw[nC]at go;rw[nA]at j2;rw[nD];exact⟨⟨_,gz,rfl⟩,q _ ⟨gz,gi,⟨_,_,go⟩,j1,j2⟩ fun c o x=>pu (pu (pu (pu (pu x))))⟩
noncomputable def RK(K:W.Frag)(k1 k2:Bool)(a b:Addr):It:=
 ⟨fun i H=>∃xs ys x y,(if k1 then SqL K H a xs else SqT K H a xs)/\(if k2 then SqL K H b ys else SqT K H b ys)/\xs[i]?=some x/\ys[i]?=some y,
  fun i H v H'=>∃T,H T=none/\v=.ref T/\∀xs ys x y,(if k1 then SqL K H a xs else SqT K H a xs)->(if k2 then SqL K H b ys else SqT K H b ys)->xs[i]?=some x->ys[i]?=some y->H'=upd H T (.tup [x,y]),
  fun i H=>∃xs ys,(if k1 then SqL K H a xs else SqT K H a xs)/\(if k2 then SqL K H b ys else SqT K H b ys)/\i=min xs.length ys.length⟩
section
variable{X:Cx}{pr:List (Addr×Obj)}{σ:L2.St}{H:Hp}{s:Shared}
theorem sN(I:Inv X pr σ H s){k:Bool}{a:Addr}{xs:List V}(h:if k then SqL X.K H a xs else SqT X.K H a xs):∃us:List Value,Vals xs us/\IsSq k s.heap a us.toArray:=by
 cases k with
 |true=>
  obtain⟨us,r,p,_⟩:=I.list (show SqL X.K H a xs from h);exact⟨us,r,p.isList⟩
 |false=>
  obtain⟨us,r,p,_⟩:=I.tuple (show SqT X.K H a xs from h);exact⟨us,r,(show s.heap.IsTuple a us.toArray from p)⟩
theorem yP(I:Inv X pr σ H s){k:Bool}{a:Addr}{xs ys:List V}(h:if k then SqL X.K H a xs else SqT X.K H a xs)(h':if k then SqL X.K H a ys else SqT X.K H a ys):xs=ys:=by
 cases k with
 |true=>exact I.list_inj (show SqL X.K H a xs from h) (show SqL X.K H a ys from h')
 |false=>exact I.tuple_inj (show SqT X.K H a xs from h) (show SqT X.K H a ys from h')
theorem gT(I:Inv X pr σ H s){k:Bool}{a b:Addr}{xs:List V}(h:if k then SqL X.K H a xs else SqT X.K H a xs)(f:tW X pr H b):a≠b:=by
 rintro rfl;obtain⟨f0,_,_,f3,_⟩:=f;have nb:∀o,X.K.lookup a=some o->False:=fun o hk=>by
  have e:=I.ok.mod.kin a o hk;rcases f3 with z|z
  ·exact I.ok.noex a o e z
  ·exact absurd (TL (TH e) (Uc I.ok.bsz z)) (Vx _)
 cases k with
 |true=>
  rcases(show SqL X.K H a xs from h) with(h|⟨o,h⟩)|⟨o,Ic,n,hk,_⟩
  ·rw[f0]at h;cases h
  ·rw[f0]at h;cases h
  ·exact nb o hk
 |false=>
  rcases(show SqT X.K H a xs from h) with(h|⟨o,h⟩)|⟨o,Ic,n,hk,_⟩
  ·rw[f0]at h;cases h
  ·rw[f0]at h;cases h
  ·exact nb o hk
end
theorem nx_zip_item{prog:Program}{w:World}{A:Around}{E:Value->Shared->Prop}{s:Shared}{k1 k2:Bool}{z TI TO i1 i2 l1 l2:Addr}{i:Nat}{xs ys:Array Value}{x y:Value}{Q:Option Value->Shared->Prop}(D:ZipApart z TI TO i1 i2 l1 l2)(st:ZS k1 k2 z TI TO i1 i2 l1 l2 i s.heap)
  (g1:IsSq k1 s.heap l1 xs) (g2:IsSq k2 s.heap l2 ys) (hx:xs[i]?=some x) (hy:ys[i]?=some y)
  (q:∀h',IsZip h' z TI TO (rawInt s.heap.objs.size)->IsPair h' TO x y->IsIt k1 h' i1 l1 (i+1)->IsIt k2 h' i2 l2 (i+1)->IsPair h' s.heap.objs.size x y->
   (∀c o,c≠z->c≠TO->c≠i1->c≠i2->s.heap.get? c=some o->h'.get? c=some o)->Q (some (.ref s.heap.objs.size)) {s with heap:=h'}):wpAny (model prog w) A (pyNext (.ref z)) Q E s:=by
 obtain⟨hz,Lx,⟨a,b,L7⟩,h1,h2⟩:=st;have ty:s.TypeIs (.ref z) "zip":=⟨_,hz,rfl⟩
 unfold pyNext;exact Tr (WY (wpAny_callSpecial?_slot (name:=Str.ofString "__next__") ty WD (UC WD ty F.entry_zip_next (Ad D hz Lx L7 h1 h2 g1 g2 hx hy fun h' a1 a2 a3 a4 a5 a6=>Tw (q h' a1 a2 a3 a4 a5 a6)) (F.args_zip_next_1 _))))
theorem sO{prog:Program}{w:World}{A:Around}{E:Value->Shared->Prop}{s:Shared}{k1 k2:Bool}{z TI TO i1 i2 l1 l2:Addr}{i:Nat}{xs ys:Array Value}{Q:Option Value->Shared->Prop}(hh:A.handled=none)(D:ZipApart z TI TO i1 i2 l1 l2)(st:ZS k1 k2 z TI TO i1 i2 l1 l2 i s.heap)
  (g1:IsSq k1 s.heap l1 xs) (g2:IsSq k2 s.heap l2 ys) (he:xs[i]?=none\/ys[i]?=none) (q:∀h',(∀c o,c≠z->c≠TO->c≠i1->c≠i2->s.heap.get? c=some o->h'.get? c=some o)->Q none {s with heap:=h'}):wpAny (model prog w) A (pyNext (.ref z)) Q E s:=by
 obtain⟨hz,Lx,⟨a,b,L7⟩,h1,h2⟩:=st;have ty:s.TypeIs (.ref z) "zip":=⟨_,hz,rfl⟩
 unfold pyNext;refine Tr (WY (wpAny_callSpecial?_slot (name:=Str.ofString "__next__") ty WD (UC WD ty F.entry_zip_next (CP hh D hz Lx L7 h1 h2 g1 g2 he fun h' e kk ⟨o,ho,oc⟩=>?_) (F.args_zip_next_1 _))));exact Tr (W4 (T:="StopIteration") (b:=true) ⟨o,ho,oc⟩ isSubtype_stop (Tw (q _ kk)))
theorem xt{P:Program}{w:World}{K:W.Frag}{es:List Expr}{kt:Nat}{pt:Pos}(k1 k2:Bool)(a b z TI TO i1 i2:Addr)(ne:z≠TI/\z≠TO/\z≠i1/\z≠i2/\TI≠TO/\TI≠i1/\TI≠i2/\TO≠i1/\TO≠i2/\i1≠i2):
  Turn P w K (.Tuple es kt pt) (RK K k1 k2 a b) [z,TI,TO,i1,i2] z (ZS k1 k2 z TI TO i1 i2 a b) where
 mem:=by simp
 obj:=fun i h st c hc=>by
  obtain⟨hz,Lx,⟨x,y,L7⟩,h1,h2⟩:=st;simp only[TK,UM,X1]at hc;rcases hc with rfl|rfl|rfl|rfl|rfl
  ·exact⟨_,hz,fun v q=>by cases q⟩
  ·exact⟨_,Lx,fun v q=>by cases q⟩
  ·exact⟨_,L7,fun v q=>by cases q⟩
  ·exact h1.obj
  ·exact h2.obj
 keep:=fun i h h' st k=>by
  obtain⟨hz,Lx,⟨x,y,L7⟩,h1,h2⟩:=st;exact⟨k z (by simp) _ hz,k TI (by simp) _ Lx,⟨x,y,k TO (by simp) _ L7⟩,h1.at fun o e=>k i1 (by simp) o e,h2.at fun o e=>k i2 (by simp) o e⟩
 item:=by
  intro X hP hw hK hc i pr s σ H E I hf st hg;subst hP hw hK;obtain⟨xs,ys,x,y,s1,s2,hx,hy⟩:=hg;obtain⟨us,r1,q1⟩:=sN I s1;obtain⟨ws,r2,q2⟩:=sN I s2;obtain⟨u,hu,ru⟩:=r1.get hx;obtain⟨v,hv,rv⟩:=r2.get hy;obtain⟨n1,n2,n3,n4,n5,n6,n7,n8,n9,RL⟩:=ne;have f:=fun c hc=>hf c hc
  have D:ZipApart z TI TO i1 i2 a b:=⟨n1.symm,n2.symm,n3.symm,n4.symm,n5,n6,n7,n8,n9,RL,gT I s1 (f z (by simp)),gT I s1 (f TO (by simp)),gT I s1 (f i1 (by simp)),gT I s1 (f i2 (by simp)),
   gT I s2 (f z (by simp)),gT I s2 (f TO (by simp)),gT I s2 (f i1 (by simp)),gT I s2 (f i2 (by simp))⟩
  have Lx:=st.2.1;refine nx_zip_item D st q1 q2 (by simpa using hu) (by simpa using hv) fun h' z1 t1 j1 j2 tp kk=>⟨_,rfl,?_⟩
  refine wpAny_letOwnedTupleGo_zip z1 fun h2 z2 sb=>?_
  have nT:H s.heap.objs.size=none:=I.hok.fresh (TB _);have tT:s.heap.objs.size≠z:=WI (TH st.1);have all:∀c o,c≠z->c≠TO->c≠i1->c≠i2->s.heap.get? c=some o->h2.get? c=some o:=fun c o c1 c2 c3 c4 e=>(sb.2 c c1).trans (kk c o c1 c2 c3 c4 e)
  have fz:=f z (by simp);have fo:=f TO (by simp);have f1:=f i1 (by simp);have f2:=f i2 (by simp);have Oy:∀c ob,H c=some ob->c≠z/\c≠TO/\c≠i1/\c≠i2:=fun c ob e=>⟨(fun q=>by rw[q,fz.1]at e;cases e),(fun q=>by rw[q,fo.1]at e;cases e),(fun q=>by rw[q,f1.1]at e;cases e),(fun q=>by rw[q,f2.1]at e;cases e)⟩
  refine⟨.ref s.heap.objs.size,upd H s.heap.objs.size (.tup [x,y]),?_,rfl,⟨_,nT,rfl,fun JK ys' x' y' a1 a2 a3 a4=>?_⟩,⟨z2,?_,⟨u,v,(sb.2 TO n2.symm).trans t1⟩,j1.at fun o e=>(sb.2 i1 n3.symm).trans e,j2.at fun o e=>(sb.2 i2 n4.symm).trans e⟩,fun c hc=>?_⟩
  ·have tup2:h2.get? s.heap.objs.size=some {cls:=.type "tuple",data:=.seq #[u,v]}:=(sb.2 _ tT).trans tp;have S0:Inv X pr σ (upd H s.heap.objs.size (.tup [x,y])) {s with heap:=h2,gens:=s.gens,drawn:=s.drawn,toks:=s.toks}:=by
    refine I.step (ch:=[z,TO,i1,i2]) (fun c hc=>?_) (fun c o _ _ nc e _=>all c o (fun q=>nc (by simp[q])) (fun q=>nc (by simp[q])) (fun q=>nc (by simp[q])) (fun q=>nc (by simp[q])) e)
     (fun c o _ _ nc e _=>⟨o.slots,all c o (fun q=>nc (by simp[q])) (fun q=>nc (by simp[q])) (fun q=>nc (by simp[q])) (fun q=>nc (by simp[q])) e⟩) (fun c o _ e n=>by rw[aE (TU (TH e))];exact n)
     (fun c o nc e=>⟨o,all c o (fun q=>nc (by simp[q])) (fun q=>nc (by simp[q])) (fun q=>nc (by simp[q])) (fun q=>nc (by simp[q])) e⟩) (fun c l e=>by rw[aE (a9 e nT)];exact e) (fun c o u' e=>by rw[aE (a9 e nT)];exact e)
     (fun c ps e=>⟨#[],by rw[aE (a9 e nT),e];simp⟩) (fun m hm=>?_) (fun c ob e=>?_) I.bare
    ·simp only[TK,UM,X1]at hc;rcases hc with rfl|rfl|rfl|rfl
     ·exact⟨fz.2.2.2.1,fz.2.1,fz.2.2.2.2.1,fz.2.2.2.2.2⟩
     ·exact⟨fo.2.2.2.1,fo.2.1,fo.2.2.2.2.1,fo.2.2.2.2.2⟩
     ·exact⟨f1.2.2.2.1,f1.2.1,f1.2.2.2.2.1,f1.2.2.2.2.2⟩
     ·exact⟨f2.2.2.2.1,f2.2.1,f2.2.2.2.2.1,f2.2.2.2.2.2⟩
    ·obtain⟨o,es,ep,ho,r⟩:=hm;exact⟨o,es,ep,all _ o (U1 fz.2.1) (U1 fo.2.1) (U1 f1.2.1) (U1 f2.2.1) ho,r⟩
    ·by_cases ec:c=s.heap.objs.size
     ·subst ec;rw[aV]at e;cases e;exact⟨by simp only[TN,US];rw[UB];decide,[u,v],.cons ru (.cons rv .nil),⟨_,tup2,rfl,⟨0,rfl⟩,rfl⟩⟩
     ·rw[aE ec]at e;refine(I.hok c ob e).stay (fun d w' hd q=>?_) (fun d q=>by rw[aE (a9 q nT)];exact q) fun d l q=>by rw[aE (a9 q nT)];exact q
      have PH:∃oo,H d=some oo:=by
       rcases hd with rfl|hd
       ·exact⟨_,e⟩
       ·exact⟨_,hd⟩
      obtain⟨oo,RM⟩:=PH;obtain⟨m1,m2,m3,m4⟩:=Oy d oo RM;exact all d w' m1 m2 m3 m4 q
   exact S0
  ·have e1:=yP I a1 s1;have e2:=yP I a2 s2;subst e1 e2;rw[hx]at a3;rw[hy]at a4;cases a3;cases a4;rfl
  ·exact(sb.2 TI n1.symm).trans (kk TI _ n1.symm n5 n6 n7 Lx)
  ·have hc0:=(f c hc).1;have cs:c≠s.heap.objs.size:=by
    have:=(fun i h st=>by
     exact(by
      obtain⟨hz,Lx,⟨x,y,L7⟩,h1,h2⟩:=st;simp only[TK,UM,X1]at hc;rcases hc with rfl|rfl|rfl|rfl|rfl
      ·exact⟨_,hz⟩
      ·exact⟨_,Lx⟩
      ·exact⟨_,L7⟩
      ·obtain⟨o,e,_⟩:=h1.obj;exact⟨o,e⟩
      ·obtain⟨o,e,_⟩:=h2.obj;exact⟨o,e⟩:∃o,h.get? c=some o):∀i h,ZS k1 k2 z TI TO i1 i2 a b i h->∃o,h.get? c=some o) i s.heap st
    obtain⟨o,e⟩:=this;exact TU (TH e)
   rw[aE cs];exact hc0
 done:=by
  intro X hP hw hK hc i pr s σ H E I hf st hg;subst hP hw hK;obtain⟨xs,ys,s1,s2,hi⟩:=hg;obtain⟨us,r1,q1⟩:=sN I s1;obtain⟨ws,r2,q2⟩:=sN I s2;have l1:=r1.length;have l2:=r2.length;obtain⟨n1,n2,n3,n4,n5,n6,n7,n8,n9,RL⟩:=ne;have f:=fun c hc=>hf c hc
  have D:ZipApart z TI TO i1 i2 a b:=⟨n1.symm,n2.symm,n3.symm,n4.symm,n5,n6,n7,n8,n9,RL,gT I s1 (f z (by simp)),gT I s1 (f TO (by simp)),gT I s1 (f i1 (by simp)),gT I s1 (f i2 (by simp)),
   gT I s2 (f z (by simp)),gT I s2 (f TO (by simp)),gT I s2 (f i1 (by simp)),gT I s2 (f i2 (by simp))⟩
  have fz:=f z (by simp);have fo:=f TO (by simp);have f1:=f i1 (by simp);have f2:=f i2 (by simp);refine sO (I.ok.hd hc) D st q1 q2 (by
   rcases Nat.le_total us.length ws.length with q|q
   ·exact .inl (by simp;lia)
   ·exact .inr (by simp;lia)) fun h' kk=>⟨rfl,?_⟩
  have Oy:∀c ob,H c=some ob->c≠z/\c≠TO/\c≠i1/\c≠i2:=fun c ob e=>⟨(fun q=>by rw[q,fz.1]at e;cases e),(fun q=>by rw[q,fo.1]at e;cases e),(fun q=>by rw[q,f1.1]at e;cases e),(fun q=>by rw[q,f2.1]at e;cases e)⟩
  have S0:Inv X pr σ H {s with heap:=h',gens:=s.gens,drawn:=s.drawn,toks:=s.toks}:=by
   refine I.step (ch:=[z,TO,i1,i2]) (fun c hc=>?_) (fun c o _ _ nc e _=>kk c o (fun q=>nc (by simp[q])) (fun q=>nc (by simp[q])) (fun q=>nc (by simp[q])) (fun q=>nc (by simp[q])) e)
    (fun c o _ _ nc e _=>⟨o.slots,kk c o (fun q=>nc (by simp[q])) (fun q=>nc (by simp[q])) (fun q=>nc (by simp[q])) (fun q=>nc (by simp[q])) e⟩) (fun c o _ e n=>n)
    (fun c o nc e=>⟨o,kk c o (fun q=>nc (by simp[q])) (fun q=>nc (by simp[q])) (fun q=>nc (by simp[q])) (fun q=>nc (by simp[q])) e⟩) (fun c l e=>e) (fun c o u' e=>e)
    (fun c ps e=>⟨#[],by rw[e];simp⟩) (fun m hm=>?_) (fun c ob e=>?_) I.bare
   ·simp only[TK,UM,X1]at hc;rcases hc with rfl|rfl|rfl|rfl
    ·exact⟨fz.2.2.2.1,fz.2.1,fz.2.2.2.2.1,fz.2.2.2.2.2⟩
    ·exact⟨fo.2.2.2.1,fo.2.1,fo.2.2.2.2.1,fo.2.2.2.2.2⟩
    ·exact⟨f1.2.2.2.1,f1.2.1,f1.2.2.2.2.1,f1.2.2.2.2.2⟩
    ·exact⟨f2.2.2.2.1,f2.2.1,f2.2.2.2.2.1,f2.2.2.2.2.2⟩
   ·obtain⟨o,es,ep,ho,r⟩:=hm;exact⟨o,es,ep,kk _ o (U1 fz.2.1) (U1 fo.2.1) (U1 f1.2.1) (U1 f2.2.1) ho,r⟩
   ·refine(I.hok c ob e).stay (fun d w' hd q=>?_) (fun d q=>q) fun d l q=>q
    have PH:∃oo,H d=some oo:=by
     rcases hd with rfl|hd
     ·exact⟨_,e⟩
     ·exact⟨_,hd⟩
    obtain⟨oo,RM⟩:=PH;obtain⟨m1,m2,m3,m4⟩:=Oy d oo RM;exact kk d w' m1 m2 m3 m4 q
  exact S0
 self:=fun _ _ _ _ _ st h=>wpAny_pyIter_zip st.1 h
section
variable{X:Cx}{es:List Expr}{kt:Nat}{pt:Pos}
def Hv(K:W.Frag)(k1 k2:Bool)(ta:TA):TI:=fun σ H R=>ta σ H fun vs H1=>∃a b xs ys,vs=[.ref a,.ref b]/\(if k1 then SqL K H1 a xs else SqT K H1 a xs)/\(if k2 then SqL K H1 b ys else SqT K H1 b ys)/\R (RK K k1 k2 a b) H1
theorem CS(k1 k2:Bool){e1 e2:Expr}{ta:TA}{p pos:Pos}(hg:Gl X "zip")(hm:X.mg "zip" = none)(ha:PA X [e1,e2] ta)(he:starEach [e1,e2] X.env=(false,eval e1 X.env)::starEach [e2] X.env:=by rfl)(JJ:(backTo pos (starEach [e2] X.env)).any (·.1)=false:=by rfl):
  PI X (.Tuple es kt pt) (.Call (.Name "zip" p) [e1,e2] [] pos) (Hv X.K k1 k2 ta):=by
 intro pr s σ H R I h;refine U0 (gX I hg hm (by decide +kernel:bootBuiltins "zip" = some (.type "zip")) ?_ (by decide) (by decide));refine Uu (Iw (ha pos pr s σ H _ I h) fun us s1 ⟨vs,H1,I1,r1,a,b,xs,ys,e,s1',s2',q⟩=>?_) he JJ;subst e;obtain⟨u,w',rfl,ra,rb⟩:=zO r1;cases ra;cases rb;obtain⟨us,v1,q1⟩:=sN I1 s1';obtain⟨ws,v2,q2⟩:=sN I1 s2';refine Ae q1 q2 fun h' st kk=>?_
 refine wpAny_pyIter_zip st.1 ?_;have fr:∀j,tW X pr H1 (s1.heap.objs.size+j):=fun j=>I1.fpOk (Nat.le_add_right _ _) (I1.hok.fresh (Nat.le_add_right _ _))
 have nn:∀i j:Nat,i≠j->s1.heap.objs.size+i≠s1.heap.objs.size+j:=fun i j h z=>h (Nat.add_left_cancel z)
 refine⟨_,_,_,_,H1,rfl,I1.kept (t':=s1.toks) kk,xt k1 k2 a b (s1.heap.objs.size+4) (s1.heap.objs.size+2) (s1.heap.objs.size+3) (s1.heap.objs.size+0) (s1.heap.objs.size+1)
  ⟨nn 4 2 (by decide),nn 4 3 (by decide),nn 4 0 (by decide),nn 4 1 (by decide),nn 2 3 (by decide),nn 2 0 (by decide),nn 2 1 (by decide),nn 3 0 (by decide),nn 3 1 (by decide),nn 0 1 (by decide)⟩,st,fun c hc=>?_,q⟩
 simp only[TK,UM,X1]at hc;rcases hc with rfl|rfl|rfl|rfl|rfl
 ·exact fr 4
 ·exact fr 2
 ·exact fr 3
 ·exact fr 0
 ·exact fr 1
end
end NX
namespace NX
open PySem PySem.W PyProof.Rows
section
variable{n:Nat}{O:KeyOrd}{κ:Nat->O.α}{cmp:Nat->Nat->(Bool->Shared->Prop)->Shared->Prop}{Good:Shared->Prop}
def kk(κ:Nat->O.α)(p:Array Nat)(i:Nat):O.α:=κ (p.getD i 0)
structure POk(n:Nat)(p:Array Nat):Prop where
 perm:p.toList.Perm (List.range n)
theorem POk.size{p:Array Nat}(h:POk n p):p.size=n:=by
 have:=h.perm.length_eq;simpa using this
theorem POk.lt{p:Array Nat}(h:POk n p){i:Nat}(hi:i<n):p.getD i 0<n:=by
 have hs:=h.size;have M1:i<p.size:=by lia
 have e:p.getD i 0=p[i]:=by simp[Array.getD,M1]
 rw[e];exact Uq.mp (h.perm.mem_iff.mp (Array.getElem_mem_toList M1))
theorem POk.of{p q:Array Nat}(h:POk n p)(hq:q.Perm p):POk n q:=⟨(Array.perm_iff_toList_perm.mp hq).trans h.perm⟩
def bq(κ:Nat->O.α)(p:Array Nat)(m:Nat):Prop:=∀i j,i<=j->j<m->O.kle (kk κ p i) (kk κ p j)
def eX(κ:Nat->O.α)(p:Array Nat)(m:Nat):Prop:=∀i j,i<=j->j<m->O.kle (kk κ p j) (kk κ p i)
theorem eJ{p q:Array Nat}{i j:Nat}(h:p[i]?=q[j]?):p.getD i 0=q.getD j 0:=by
 rw[WE,WE,h]
theorem qG{p:Array Nat}{i j:Nat}(hj:j<=p.size)(k:Nat):kk κ (kas_rev p i j) k=if i<=k/\k<j then kk κ p (i+j-1-k) else kk κ p k:=by
 have e:=getElem?_mirror_all (i:=i) hj k;unfold kk kas_rev;split
 ·rename_i h;rw[TF h]at e;rw[eJ e]
 ·rename_i h;rw[TJ h]at e;rw[eJ e]
theorem yQ{p:Array Nat}{src d:Nat}(hs:src<p.size)(hd:d<=src)(k:Nat):kk κ (bubble p src d) k=if k=src-d then kk κ p src else if src-d<k/\k<=src then kk κ p (k-1) else kk κ p k:=by
 have e:=getElem?_bubble hs d hd k;by_cases h:k=src-d
 ·rw[TF h]at e ⊢;exact UP κ (eJ e)
 ·rw[TJ h]at e ⊢;by_cases h2:src-d<k/\k<=src
  ·rw[TF h2]at e ⊢;exact UP κ (eJ e)
  ·rw[TJ h2]at e ⊢;exact UP κ (eJ e)
theorem POk.rev{p:Array Nat}(h:POk n p)(i j:Nat):POk n (kas_rev p i j):=h.of (mirror_perm _ _ _ _)
theorem POk.bub{p:Array Nat}(h:POk n p)(i j:Nat):POk n (bubble p i j):=h.of (bubble_perm _ _ _)
theorem sP(p:Array Nat):bq κ p 1:=fun i j a b=>by
 have e:i=j:=by lia
 rw[e];exact Vb _
theorem pG{p:Array Nat}{m:Nat}(h1:1<=m)(h:bq κ p m)(hm:O.kle (kk κ p (m-1)) (kk κ p m)):bq κ p (m+1):=by
 intro i j M3 hj;by_cases e:j=m
 ·subst e;by_cases e2:i=j
  ·subst e2;exact Vb _
  ·exact Wm (h i (j-1) (by lia) (by lia)) hm
 ·exact h i j M3 (by lia)
theorem eK{p:Array Nat}{m:Nat}(h1:1<=m)(h:eX κ p m)(hm:O.kle (kk κ p m) (kk κ p (m-1))):eX κ p (m+1):=by
 intro i j M3 hj;by_cases e:j=m
 ·subst e;by_cases e2:i=j
  ·subst e2;exact Vb _
  ·exact Wm hm (h i (j-1) (by lia) (by lia))
 ·exact h i j M3 (by lia)
variable(hc:∀i j,i<n->j<n->∀(Q:Bool->Shared->Prop) s,Good s->(∀s',Good s'->Q (O.blt (κ i) (κ j)) s')->cmp i j Q s)
include hc
theorem uK{p:Array Nat}(hp:POk n p){IW:Nat}(hn:IW<=n){Q:Nat->Shared->Prop}:∀(f m:Nat) (s:Shared),Good s->1<=m->m+f=IW->bq κ p m->
  (∀r s',Good s'->m<=r->r<=IW->bq κ p r->(r<IW->O.klt (kk κ p r) (kk κ p (r-1)))->Q r s')->(kas_asc p f m).kasWp cmp Q s
 | 0,m,s,g,h1,hf,hs,k=>k m s g (TB _) (by lia) hs (fun z=>by lia)
 |f+1,m,s,g,h1,hf,hs,k=>by
  show cmp (p.getD m 0) (p.getD (m-1) 0) _ s;refine hc _ _ (hp.lt (by lia)) (hp.lt (by lia)) _ s g fun s' g'=>?_
  cases e:O.blt (κ (p.getD m 0)) (κ (p.getD (m-1) 0)) with
  |true=>
   (try dsimp only)
   rw[TF rfl];exact k m s' g' (TB _) (by lia) hs fun _=>e
  |false=>
   (try dsimp only)
   rw[TJ Tz];exact uK hp hn f (m+1) s' g' (by lia) (by lia) (pG h1 hs e) fun r s2 g2 a b c d=>k r s2 g2 (by lia) b c d
def Af(κ:Nat->O.α)(p:Array Nat)(m q:Nat):Prop:=∀k,m-(q+1)<=k->k<m->kk κ p k=kk κ p (m-1)
omit hc in
theorem nP{p:Array Nat}{m q:Nat}(hm:m<=p.size)(h:Af κ p m q)(k:Nat):kk κ (kas_rev p (m-(q+1)) m) k=kk κ p k:=by
 rw[qG hm];split
 ·rename_i hk;rw[h _ (by lia) (by lia),h k hk.1 hk.2]
 ·rfl
omit hc in
theorem i9{p p':Array Nat}{m:Nat}(e:∀k,kk κ p' k=kk κ p k)(h:eX κ p m):eX κ p' m:=fun i j a b=>by rw[e,e];exact h i j a b
theorem l9{IW:Nat}(hn:IW<=n){Q:Array Nat×Nat×Nat->Shared->Prop}:∀(f:Nat) (p:Array Nat) (m q:Nat) (s:Shared),POk n p->Good s->1<=m->q+1<=m->m+f=IW->eX κ p m->Af κ p m q->
  (∀p' m' q' s',POk n p'->Good s'->m<=m'->m'<=IW->q'+1<=m'->eX κ p' m'->Af κ p' m' q'->Q (p',m',q') s')->(kas_desc f p m q).kasWp cmp Q s
 | 0,p,m,q,s,hp,g,h1,hq,hf,hs,ha,k=>k p m q s hp g (TB _) (by lia) hq hs ha
 |f+1,p,m,q,s,hp,g,h1,hq,hf,hs,ha,k=>by
  show cmp (p.getD m 0) (p.getD (m-1) 0) _ s;refine hc _ _ (hp.lt (by lia)) (hp.lt (by lia)) _ s g fun s' g'=>?_
  have hsz:=hp.size;cases e:O.blt (κ (p.getD m 0)) (κ (p.getD (m-1) 0)) with
  |true=>
   (try dsimp only)
   rw[TF rfl];have le:O.kle (kk κ p m) (kk κ p (m-1)):=Wb e;by_cases h0:q>0
   ·rw[TF h0];have same:=nP (κ:=κ) (p:=p) (m:=m) (q:=q) (by lia) ha;refine l9 hn f _ (m+1) 0 s' (hp.rev _ _) g' (by lia) (by lia) (by lia) (eK h1 (i9 same hs) (by rw[same,same];exact le)) ?_ fun p' m' q' s2 a b c d e' f' g2=>k p' m' q' s2 a b (by lia) d e' f' g2
    intro k' a b;have:k'=m:=by lia
    rw[this];rfl
   ·rw[TJ h0];refine l9 hn f p (m+1) 0 s' hp g' (by lia) (by lia) (by lia) (eK h1 hs le) ?_ fun p' m' q' s2 a b c d e' f' g2=>k p' m' q' s2 a b (by lia) d e' f' g2
    intro k' a b;have:k'=m:=by lia
    rw[this];rfl
  |false=>
   (try dsimp only)
   rw[TJ Tz];show cmp (p.getD (m-1) 0) (p.getD m 0) _ s';refine hc _ _ (hp.lt (by lia)) (hp.lt (by lia)) _ s' g' fun s2 g2=>?_
   cases e2:O.blt (κ (p.getD (m-1) 0)) (κ (p.getD m 0)) with
   |true=>
    (try dsimp only)
    rw[TF rfl];exact k p m q s2 hp g2 (TB _) (by lia) hq hs ha
   |false=>
    (try dsimp only)
    rw[TJ Tz];have eq:kk κ p (m-1)=kk κ p m:=KeyOrd.kle_antisymm (O:=O) e e2;refine l9 hn f p (m+1) (q+1) s2 hp g2 (by lia) (by lia) (by lia) (eK h1 hs (by rw[eq];exact Vb _)) ?_ fun p' m' q' s3 a b c d e' f' g3=>k p' m' q' s3 a b (by lia) d e' f' g3
    intro k' a b;show kk κ p k'=kk κ p m;by_cases z:k'=m
    ·rw[z]
    ·rw[ha k' (by lia) (by lia),eq]
omit hc in
theorem sQ{p:Array Nat}{m:Nat}(hm:m<=p.size)(h:eX κ p m):bq κ (kas_rev p 0 m) m:=by
 intro i j a b;rw[qG hm,qG hm,TF (by lia),TF (by lia)];exact h _ _ (by lia) (by lia)
theorem uL{p:Array Nat}(hp:POk n p){m IW:Nat}(hn:IW<=n)(h1:1<=m)(hm:m<=IW)(hs:eX κ p m){Q:Nat×Array Nat->Shared->Prop}{s:Shared}(g:Good s)
  (k:∀r p' s',POk n p'->Good s'->1<=r->r<=IW->bq κ p' r->Q (r,p') s'):(kas_tail3 m IW p).kasWp cmp Q s:=by
 unfold kas_tail3;rw[KasT.kasWp_bind];have hsz:=hp.size;refine uK hc (hp.rev 0 m) hn (IW-m) m s g h1 (by lia) (sQ (by lia) hs) fun r s' g' a b c _=>?_
 exact k r _ s' (hp.rev 0 m) g' (by lia) b c
theorem j8{p:Array Nat}(hp:POk n p){m IW:Nat}(hn:IW<=n)(h1:1<=m)(hm:m+1<=IW)(hs:eX κ p (m+1)){Q:Nat×Array Nat->Shared->Prop}{s:Shared}(g:Good s)
  (k:∀r p' s',POk n p'->Good s'->1<=r->r<=IW->bq κ p' r->Q (r,p') s'):(kas_descPart m IW p).kasWp cmp Q s:=by
 unfold kas_descPart;rw[KasT.kasWp_bind];refine l9 hc hn (IW-(m+1)) p (m+1) 0 s hp g (by lia) (by lia) (by lia) hs ?_ fun p' m' q' s' a b c d e f g2=>?_
 ·intro k' a b;have:k'=m:=by lia
  rw[this];rfl
 ·have hsz:=a.size;dsimp only;split
  ·have same:=nP (κ:=κ) (p:=p') (m:=m') (q:=q') (by lia) g2;exact uL hc (a.rev _ _) hn (by lia) d (i9 same f) b k
  ·exact uL hc a hn (by lia) d f b k
theorem xu{p:Array Nat}(hp:POk n p){IW:Nat}(hn:IW<=n)(h1:1<=IW){Q:Nat×Array Nat->Shared->Prop}{s:Shared}(g:Good s)
  (k:∀r p' s',POk n p'->Good s'->1<=r->r<=IW->bq κ p' r->Q (r,p') s'):(kas_count IW p).kasWp cmp Q s:=by
 unfold kas_count;rw[KasT.kasWp_bind];have hsz:=hp.size;refine uK hc hp hn (IW-1) 1 s g (TB _) (by lia) (sP p) fun m s' g' a b c d=>?_
 by_cases e:m=IW
 ·rw[TF (by simpa using e)];exact k m p s' hp g' (by lia) (by lia) c
 ·rw[TJ (by simpa using e)];have dd:=d (by lia);by_cases h2:m>1
  ·rw[TF h2];show cmp (p.getD 0 0) (p.getD (m-1) 0) _ s';refine hc _ _ (hp.lt (by lia)) (hp.lt (by lia)) _ s' g' fun s2 g2=>?_
   cases e2:O.blt (κ (p.getD 0 0)) (κ (p.getD (m-1) 0)) with
   |true=>
    (try dsimp only)
    rw[TF rfl];exact k m p s2 hp g2 (by lia) b c
   |false=>
    (try dsimp only)
    rw[TJ Tz];have eq:∀i,i<m->kk κ p i=kk κ p 0:=fun i hi=>by
     have x1:=c 0 i (by lia) hi;have x2:=c i (m-1) (by lia) (by lia);exact KeyOrd.kle_antisymm (O:=O) (Wm x2 e2) x1
    have same:∀i,kk κ (kas_rev p 0 m) i=kk κ p i:=fun i=>by
     rw[qG (by lia)];split
     ·rw[eq _ (by lia),eq i (by lia)]
     ·rfl
    refine j8 hc (hp.rev 0 m) hn (by lia) (by lia) ?_ g2 k;refine i9 same (eK (by lia) (fun i j x y=>?_) (Wb dd));rw[eq i (by lia),eq j y];exact Vb _
  ·rw[TJ h2];refine j8 hc hp hn (by lia) (by lia) (eK (by lia) (fun i j x y=>?_) (Wb dd)) g' k;have:i=j:=by lia
   rw[this];exact Vb _
theorem ma{p:Array Nat}(hp:POk n p){t:Nat}(ht:t<n)(hs:bq κ p t){Q:Nat->Shared->Prop}:∀(f l r:Nat) (s:Shared),Good s->l<=r->r<=t->r-l<=f->(∀i,i<l->O.kle (kk κ p i) (kk κ p t))->(∀i,r<=i->i<t->O.klt (kk κ p t) (kk κ p i))->
  (∀x s',Good s'->x<=t->(∀i,i<x->O.kle (kk κ p i) (kk κ p t))->(∀i,x<=i->i<t->O.klt (kk κ p t) (kk κ p i))->Q x s')->(kas_place p t f l r).kasWp cmp Q s
 | 0,l,r,s,g,h1,h2,h3,lo,hi,k=>k l s g (by lia) lo fun i a b=>hi i (by lia) b
 |f+1,l,r,s,g,h1,h2,h3,lo,hi,k=>by
  unfold kas_place;by_cases e:l>=r
  ·rw[TF e];exact k l s g (by lia) lo fun i a b=>hi i (by lia) b
  ·rw[TJ e];show cmp (p.getD t 0) (p.getD ((l+r) / 2) 0) _ s;refine hc _ _ (hp.lt ht) (hp.lt (by lia)) _ s g fun s' g'=>?_
   cases e2:O.blt (κ (p.getD t 0)) (κ (p.getD ((l+r) / 2) 0)) with
   |true=>
    (try dsimp only)
    rw[TF rfl];refine ma hp ht hs f l ((l+r) / 2) s' g' (by lia) (by lia) (by lia) lo (fun i a b=>?_) k;exact KeyOrd.klt_of_klt_of_kle (O:=O) e2 (hs _ i a b)
   |false=>
    (try dsimp only)
    rw[TJ Tz];refine ma hp ht hs f ((l+r) / 2+1) r s' g' (by lia) (by lia) (by lia) (fun i a=>?_) hi k;exact Wm (O:=O) (hs i ((l+r) / 2) (by lia) (by lia)) e2
theorem yR{Q:Array Nat->Shared->Prop}:∀(f:Nat) (p:Array Nat) (t:Nat) (s:Shared),POk n p->Good s->t+f=n->bq κ p t->(∀p' s',POk n p'->Good s'->bq κ p' n->Q p' s')->(kas_bin f p t).kasWp cmp Q s
 | 0,p,t,s,hp,g,hf,hs,k=>k p s hp g (by rw[show n=t by lia];exact hs)
 |f+1,p,t,s,hp,g,hf,hs,k=>by
  unfold kas_bin;rw[KasT.kasWp_bind];have hsz:=hp.size;refine ma hc hp (by lia) hs t 0 t s g (Ug _) (TB _) (by lia) (fun i a=>by lia) (fun i a b=>by lia) fun x s' g' hx lo hi=>?_
  refine yR f _ (t+1) s' (hp.bub _ _) g' (by lia) ?_ k;have ex:t-(t-x)=x:=by lia
  intro i j a b;rw[yQ (by lia) (by lia),yQ (by lia) (by lia),ex];have lo':=lo;by_cases i1:i=x
  ·by_cases j1:j=x
   ·rw[TF i1,TF j1];exact Vb _
   ·rw[TF i1,TJ j1,TF (by lia)];exact Wb (hi (j-1) (by lia) (by lia))
  ·rw[TJ i1];by_cases i2:x<i/\i<=t
   ·rw[TF i2,TJ (by lia),TF (by lia)];exact hs (i-1) (j-1) (by lia) (by lia)
   ·rw[TJ i2];by_cases j1:j=x
    ·rw[TF j1];exact lo i (by lia)
    ·rw[TJ j1];by_cases j2:x<j/\j<=t
     ·rw[TF j2];exact hs i (j-1) (by lia) (by lia)
     ·rw[TJ j2];exact hs i j a (by lia)
theorem Ag(h1:1<=n){Q:Array Nat->Shared->Prop}{s:Shared}(g:Good s)(k:∀p s',POk n p->Good s'->bq κ p n->Q p s'):(kas_sort n).kasWp cmp Q s:=by
 unfold kas_sort;rw[KasT.kasWp_bind];refine xu hc (p:=List.toArray (List.range n)) ⟨by simp⟩ (TB _) h1 g fun r p' s' hp g' a b c=>?_
 dsimp only;split
 ·have e:max r 1=r:=by lia
  rw[e];exact yR hc (n-r) p' r s' hp g' (by lia) c k
 ·exact k p' s' hp g' (by rw[show n=r by lia];exact c)
end
end NX
namespace NX
open PySem PySem.W PySem.Spec PyProof.Rows L2
section
variable{prog:Program}{w:World}{A:Around}{E:Value->Shared->Prop}{s:Shared}
theorem qH(n:Nat):POk n (List.toArray (List.range n)):=⟨by simp⟩
theorem iC{O:KeyOrd}{key:Nat->O.α}{kd:SortKind}{a:Addr}{vs:List Value}{n:Nat}{P:PySem.Fin->Shared->Prop}(ho:s.heap.get? a=some (seqObj "list" vs.toArray n))(L8:vs.length<64)
  (Kv:2<=vs.length->∀(h':Heap),(∀b o,b≠a->s.heap.get? b=some o->h'.get? b=some o)->∀Q:SortKind->Shared->Prop,Q kd {s with heap:=h'}->wpAny (model prog w) A (keyKind' vs.toArray) Q E {s with heap:=h'})
  (MB:∀i j,i<vs.length->j<vs.length->∀(h':Heap),(∀b o,b≠a->s.heap.get? b=some o->h'.get? b=some o)->∀C:Bool->Shared->Prop,C (O.blt (key i) (key j)) {s with heap:=h'}->kas_ask prog w A kd vs i j C {s with heap:=h'})
  (h:∀p h',POk vs.length p->bq key p vs.length->(∃e,h'.get? a=some (seqObj "list" (List.toArray (p.toList.map fun i=>vs.getD i .none)) e))->(∀b o,b≠a->s.heap.get? b=some o->h'.get? b=some o)->P (.done (.ret .none)) {s with heap:=h'}):
  wpAny (model prog w) A (Builtin.«list.sort» ⟨[.ref a],[]⟩) P E s:=by
 rw[list_sort_plain];have la:a<s.heap.objs.size:=TH ho;have zs:vs.toArray.size=vs.length:=by simp
 refine Tr (listItems_at ho rfl (Tr (listUpdate_at ho rfl ?_ (by rw[zs,UB];lia) (Ug _))));obtain⟨e1,h1⟩:∃e1,(s.heap.update a (Obj.mapSeq fun _=>#[])).get? a=some (seqObj "list" #[] e1):=⟨_,get?_update_seq ho (fun _=>#[])⟩
 refine Tr (seqEpoch_at h1 rfl (Tr (wpAny_newTuple (Tr (X3 (U4 ?_))) (by simp only[Wz];rw[UB];lia))));generalize e6:((s.heap.update a (Obj.mapSeq fun _=>#[])).push {cls:=.type "tuple",data:=.seq vs.toArray.toList.toArray}).push {cls:=.type "list",data:=.seq ([]:List Value).toArray}=h6;have k6:∀b o,b≠a->s.heap.get? b=some o->h6.get? b=some o:=fun b o nb e=>by
  rw[<-e6];exact Heap.get?_push_of_some _ (Heap.get?_push_of_some _ ((Heap.get?_update_other _ _ (U1 nb)).trans e))
 have P5:h6.get? a=some (seqObj "list" #[] e1):=by
  rw[<-e6];exact Heap.get?_push_of_some _ (Heap.get?_push_of_some _ h1)
 dsimp only;have fin:∀(p:Array Nat),POk vs.length p->bq key p vs.length->∀out:Array Value,out=List.toArray (p.toList.map fun i=>vs.getD i .none)->
   P (.done (.ret .none)) {s with heap:=h6.update a (Obj.mapSeq fun _=>out)}:=fun p hp hs out eo=>by
  subst eo;exact h p _ hp hs ⟨_,get?_update_seq P5 _⟩ fun b o nb e=>(Heap.get?_update_other _ _ (U1 nb)).trans (k6 b o nb e)
 have fits:∀{out:Array Value}{p:Array Nat},POk vs.length p->out=List.toArray (p.toList.map fun i=>vs.getD i .none)->out.size<=sizeLine+1:=fun{out p} hp e=>by
  rw[e,Tu,Tt,hp.perm.length_eq,T3,UB];lia
 by_cases h2:vs.toArray.size<2
 ·rw[TF h2,TF h2];refine Tr (Tw ?_);rw[StateT.run_pure];refine Tr (Tw ?_);dsimp only;have eo:(arrOf (SortSt.mk' general' (vs.toArray.zip vs.toArray) #[] 7 none)).map (·.2)=List.toArray ((List.toArray (List.range vs.length)).toList.map fun i=>vs.getD i .none):=by
   show(vs.toArray.zip vs.toArray).map (·.2)=_;apply Array.toList_inj.mp;simp only[Array.toList_map,Array.toList_zip,Wz];have a1:(vs.zip vs).map (·.2)=vs:=by
    rw[List.map_snd_zip];exact TB _
   rw[a1];apply Wc;intro i;by_cases hi:i<vs.length
   ·simp[hi]
   ·simp[hi]
  refine Tr (seqEpoch_at P5 rfl (Tr (listUpdate_at P5 rfl ?_ (Ug _) (fits (qH _) eo))));simp only[WQ,UR,Wg];refine Tw (fin _ (qH _) ?_ _ eo);intro i j x y;have:i=j:=by lia
  rw[this];exact Vb _
 ·rw[TJ h2,TJ h2];have RN:2<=vs.length:=by lia
  refine Tr (Kv RN h6 k6 _ ?_);refine Tr (VS (kat_run (ks:=vs) (vs:=vs) (Q:=fun J6 s'=>∃p,POk vs.length p/\bq key p vs.length/\arrOf J6=p.map (kas_item (vs.toArray.zip vs.toArray))/\failedOf J6=none/\s'={s with heap:=h6})
   (G:=fun p s'=>POk vs.length p/\bq key p vs.length/\s'={s with heap:=h6}) rfl RN L8 (fun p J6 s' hz RO hf hg=>⟨p,hg.1,hg.2.1,RO,hf,hg.2.2⟩)
   (Ag (n:=vs.length) (O:=O) (κ:=key) (Good:=fun s'=>s'={s with heap:=h6}) (fun i j hi hj Q s' g k=>?_) (by lia) rfl fun p s' hp g hs=>⟨hp,hs,g⟩)) (fun r s' hq=>?_) fun _ _ e=>e)
  ·subst g;exact MB i j hi hj h6 k6 Q (k _ rfl)
  ·obtain⟨p,hp,hs,RO,hf,rfl⟩:=hq;have eo:=kat_snds (ks:=vs) (vs:=vs) rfl RO;refine Tr (seqEpoch_at P5 rfl (Tr (listUpdate_at P5 rfl ?_ (Ug _) (fits hp eo))));rw[hf];simp only[WQ,UR,Wg];exact Tw (fin p hp hs _ eo)
theorem ja{O:KeyOrd}{key:Nat->O.α}{kd:SortKind}{l:Addr}{vs:List Value}{Q:Value->Shared->Prop}(hl:s.heap.IsList l vs.toArray)(L8:vs.length<64)
  (Kv:2<=vs.length->∀(A':Around) (E':Value->Shared->Prop) (h':Heap),(∀b o,s.heap.get? b=some o->h'.get? b=some o)->∀Q:SortKind->Shared->Prop,Q kd {s with heap:=h'}->wpAny (model prog w) A' (keyKind' vs.toArray) Q E' {s with heap:=h'})
  (MB:∀i j,i<vs.length->j<vs.length->∀(h':Heap),(∀b o,s.heap.get? b=some o->h'.get? b=some o)->∀C:Bool->Shared->Prop,C (O.blt (key i) (key j)) {s with heap:=h'}->kas_ask prog w A.in1.in1 kd vs i j C {s with heap:=h'})
  (h:∀p h' e,POk vs.length p->bq key p vs.length->h'.get? (s.heap.objs.size+1)=some (seqObj "list" (List.toArray (p.toList.map fun i=>vs.getD i .none)) e)->(∀b o,s.heap.get? b=some o->h'.get? b=some o)->Q (.ref (s.heap.objs.size+1)) {s with heap:=h'}):
  wpAny (model prog w) A (call (.builtin "sorted") [.ref l]) Q E s:=by
 refine VM kind_sorted plain_sorted entry_sorted (args_sorted1 _) ?_;unfold Builtin.«sorted»;refine Tr (m:=checkCount "sorted" 1 1 _) (Tw (Tr (collect_list hl (Tr (X3 ?_ (by rw[UB];lia))) (by rw[UB];lia))));have zz:((s.heap.push (seqObj "list" #[] 0)).update s.heap.objs.size (Obj.mapSeq (·++vs.toArray))).objs.size=s.heap.objs.size+1:=by rw[Heap.size_update,size_push']
 generalize e5:(s.heap.push (seqObj "list" #[] 0)).update s.heap.objs.size (Obj.mapSeq (·++vs.toArray))=h5 at zz ⊢;have k5:∀b o,s.heap.get? b=some o->(h5.push (seqObj "list" vs.toArray 0)).get? b=some o:=fun b o e=>by
  rw[<-e5];exact Heap.get?_push_of_some _ ((Heap.get?_update_other _ _ (U1 (TU (TH e)))).trans (Heap.get?_push_of_some _ e))
 have hL:(h5.push (seqObj "list" vs.toArray 0)).get? (s.heap.objs.size+1)=some (seqObj "list" vs.toArray 0):=by
  rw[<-zz];exact Heap.get?_push_size _ rfl
 have ne:∀b o,s.heap.get? b=some o->b≠s.heap.objs.size+1:=fun b o e=>TU (WS (TH e))
 show wpAny _ _ _ _ _ {s with heap:=h5.push (seqObj "list" vs.toArray 0)};rw[zz];refine Tr (U4 (UC slot_list_sort ⟨_,hL,rfl⟩ entry_list_sort (iC (key:=key) (kd:=kd) hL L8 (fun h2 h' kk Q' q=>Kv h2 _ _ h' (fun b o e=>kk b o (ne b o e) (k5 b o e)) Q' q)
  (fun i j hi hj h' kk C q=>MB i j hi hj h' (fun b o e=>kk b o (ne b o e) (k5 b o e)) C q) fun p h' hp hs ⟨e,he⟩ kk=>⟨_,rfl,?_⟩) (args_list_sort _)))
 exact Tw ⟨_,rfl,h p h' e hp hs he fun b o q=>kk b o (ne b o q) (k5 b o q)⟩
end
def intO:KeyOrd where
 α:=Int
 blt a b:=decide (a<b)
 irrefl a:=by simp
 trans a b c h1 h2:=by simp only[TQ] at *;lia
 negTrans a b c h:=by simp only[TQ] at *;lia
 total a b h1 h2:=by simp only[UE] at *;lia
abbrev GA:KeyOrd:=strKind.toKeyOrd
noncomputable def px:KeyOrd where
 α:=Key
 blt a b:=match a,b with
  | .inl i,.inl j=>decide (i<j)
  | .inr x,.inr y=>decide (x.cps.toList<y.cps.toList)
  | .inl _,.inr _=>true
  | .inr _,.inl _=>false
 irrefl a:=by
  cases a with
  |inl i=>simp
  |inr x=>simpa using List.lt_irrefl x.cps.toList
 trans a b c h1 h2:=by
  cases a <;> cases b <;> cases c <;> simp_all
  ·lia
  ·exact List.lt_trans h1 h2
 negTrans a b c h:=by
  cases a <;> cases b <;> cases c <;> simp_all
  ·lia
  ·rename_i x y z;by_cases q:x.cps.toList<y.cps.toList
   ·exact .inl q
   ·exact .inr (List.lt_of_le_of_lt (WZ.mp q) h)
 total a b h1 h2:=by
  cases a <;> cases b <;> simp_all
  ·lia
  ·rename_i x y;have e:x.cps.toList=y.cps.toList:=List.le_antisymm (by first|exact h2|exact WZ.mp h2) (by first|exact h1|exact WZ.mp h1);rw[<-nM x,<-nM y,e]
def dE:List Key->List Key->Bool
 |[],[]=>false
 |[],_::_=>true
 |_::_,[]=>false
 |a::r,b::t=>if a=b then dE r t else px.blt a b
theorem hW:∀a:List Key,dE a a=false
 |[]=>rfl
 |a::r=>by
  show(if a=a then dE r r else _)=false;rw[TF rfl];exact hW r
theorem Ah{a b:Key}(h:px.blt a b=true):a≠b:=by
 rintro rfl;have:=px.irrefl a;rw[h]at this;cases this
theorem gE:∀a b c:List Key,dE a b=true->dE b c=true->dE a c=true
 |[],[],_,h,_=>by cases h
 |[],_::_,[],_,h=>by cases h
 |[],_::_,_::_,_,_=>rfl
 |_::_,[],_,h,_=>by cases h
 |_::_,_::_,[],_,h=>by cases h
 |a::r,b::t,c::u,h1,h2=>by
  have h1:(if a=b then dE r t else px.blt a b)=true:=h1;have h2:(if b=c then dE t u else px.blt b c)=true:=h2;show(if a=c then dE r u else px.blt a c)=true;by_cases e1:a=b
  ·by_cases e2:b=c
   ·rw[TF e1]at h1;rw[TF e2]at h2;rw[TF (e1.trans e2)];exact gE r t u h1 h2
   ·rw[TJ e2]at h2;rw[e1,TJ e2];exact h2
  ·rw[TJ e1]at h1;by_cases e2:b=c
   ·rw[<-e2,TJ e1];exact h1
   ·rw[TJ e2]at h2;have h3:=px.trans a b c h1 h2;rw[TJ (Ah h3)];exact h3
theorem gG:∀a b:List Key,dE a b=false->dE b a=false->a=b
 |[],[],_,_=>rfl
 |[],_::_,h,_=>by cases h
 |_::_,[],_,h=>by cases h
 |a::r,b::t,h1,h2=>by
  have h1:(if a=b then dE r t else px.blt a b)=false:=h1;have h2:(if b=a then dE t r else px.blt b a)=false:=h2;by_cases e:a=b
  ·rw[TF e]at h1;rw[TF e.symm]at h2;rw[e,gG r t h1 h2]
  ·rw[TJ e]at h1;rw[TJ (U1 e)]at h2;exact absurd (px.total a b h1 h2) e
theorem xv(a b c:List Key)(h:dE a c=true):dE a b=true\/dE b c=true:=by
 cases e:dE a b with
 |true=>exact .inl rfl
 |false=>
  refine .inr ?_;cases e2:dE b a with
  |true=>exact gE b a c e2 h
  |false=>
   rw[<-gG a b e e2];exact h
def EM:KeyOrd where
 α:=List Key
 blt:=dE
 irrefl:=hW
 trans:=gE
 negTrans:=xv
 total:=gG
section
variable{O:KeyOrd}
def sR(p:Array Nat)(xs:List V):List V:=p.toList.map fun i=>xs.getD i .non
theorem lj{α:Type}(xs:List α)(d:α):((List.range xs.length).map fun i=>xs.getD i d)=xs:=by
 apply Wc;intro i;by_cases hi:i<xs.length
 ·simp[hi]
 ·simp[hi]
theorem jT{α:Type}{p:Array Nat}{xs:List α}(d:α)(hp:POk xs.length p):(p.toList.map fun i=>xs.getD i d).Perm xs:=by
 have:=hp.perm.map (fun i=>xs.getD i d)
 rwa [lj]at this
theorem gH{α:Type}{p:Array Nat}{xs:List α}(d:α)(key:α->O.α)(hp:POk xs.length p)(hs:bq (O:=O) (fun i=>key (xs.getD i d)) p xs.length):(p.toList.map fun i=>xs.getD i d).Pairwise fun a b=>O.kle (key a) (key b):=by
 rw[VN];intro i j hi hj M3;have hsz:=hp.size;have M1:i<p.size:=by simpa using hi
 have Oz:j<p.size:=by simpa using hj
 have h:=hs i j (Xi M3) (by lia);unfold kk at h;simp only[List.getElem_map,Array.getElem_toList];have e1:p.getD i 0=p[i]:=by simp[Array.getD,M1]
 have e2:p.getD j 0=p[j]:=by simp[Array.getD,Oz]
 rw[e1,e2]at h;exact h
theorem vals_pick{xs:List V}{us:List Value}(r:Vals xs us):∀l:List Nat,(∀i∈l,i<xs.length)->Vals (l.map fun i=>xs.getD i .non) (l.map fun i=>us.getD i .none)
 |[],_=>.nil
 |i::l,h=>by
  refine .cons ?_ (vals_pick r l fun j hj=>h j (Tx _ hj));have hi:=h i Ts;have e1:xs[i]?=some (xs.getD i .non):=by rw[bG _ _ _ hi];exact List.getElem?_eq_getElem hi
  obtain⟨u,hu,ru⟩:=r.get e1;have e2:us.getD i .none=u:=by rw[List.getD_eq_getElem?_getD,hu];rfl
  show L2.RelV (xs.getD i .non) (us.getD i .none);rw[e2];exact ru
theorem jU{xs:List V}{us:List Value}{p:Array Nat}(r:Vals xs us)(hp:POk xs.length p):Vals (sR p xs) (p.toList.map fun i=>us.getD i .none):=
 vals_pick r _ fun i hi=>Uq.mp (hp.perm.mem_iff.mp hi)
end
section
variable{X:Cx}
theorem iE{pr:List (Addr×Obj)}{s:Shared}{σ:L2.St}{H:Hp}{h':Heap}{ys:List V}{us:List Value}{e:Nat}{D:Addr}(I:Inv X pr σ H s)(kk:∀b o,s.heap.get? b=some o->h'.get? b=some o)(hD:s.heap.objs.size<=D)
  (ho:h'.get? D=some (seqObj "list" (List.toArray us) e)) (r:Vals ys us) (hz:ys.length<=sizeLine):Inv X pr σ (upd H D (.lst ys)) {s with heap:=h'}:=
 I.laid (t':=s.toks) kk hD ⟨hz,us,e,r,ho⟩
theorem jK(hc:X.calm=true):dJ X (.builtin "sorted") (fun vs H Q=>∃(p:Addr) (ns:List Int),vs=[.ref p]/\SqL X.K H p (ns.map V.int)/\ns.length<64/\∀(D:Addr) (ms:List Int),H D=none->ms.Perm ns->ms.Pairwise (·<=·)->Q (.ref D) (upd H D (.lst (ms.map V.int)))):=by
 intro pr s σ H vs us Q I r h;obtain⟨p,ns,rfl,hp,L8,q⟩:=h;obtain⟨u,rfl,r1⟩:=fN r;cases r1;obtain⟨ws,rv,pl,hz⟩:=I.list hp;have hl:=rv.length;rw[Tt]at hl;have isI:∀v∈ws,∃n t,v=.int n t:=fun v hv=>by
  obtain⟨i,hi⟩:=Uv.mp hv;obtain⟨t,e⟩:=hV rv hi;exact⟨_,t,e⟩
 refine ja (O:=intO) (key:=fun i=>ns.getD i 0) (kd:=oneType') pl.isList (by lia) (fun h2 A' E' h' kk Q' q'=>?_) (fun i j hi hj h' kk C q'=>?_) fun pp h' e Kd hs he kk=>?_
 ·refine kas_kind h2 (T:=.type "int") (fun v hv=>?_) (by decide) (by decide) q';obtain⟨n,t,rfl⟩:=isI v hv;exact fun A Q E s _ q=>VE (Xz s n t) q
 ·unfold kas_ask;have e1:ws[i]?=some (ws.getD i .none):=by rw[bG _ _ _ hi];exact List.getElem?_eq_getElem hi
  have e2:ws[j]?=some (ws.getD j .none):=by rw[bG _ _ _ hj];exact List.getElem?_eq_getElem hj
  obtain⟨t,Pw⟩:=hV rv e1;obtain⟨t',OA⟩:=hV rv e2;rw[Pw,OA];exact kat_lt_int q'
 ·rw[<-hl]at Kd hs;have OB:POk (ns.map V.int).length pp:=by rw[Tt];exact Kd
  have eo:sR pp (ns.map V.int)=(pp.toList.map fun i=>ns.getD i 0).map V.int:=by
   unfold sR;rw[TZ];refine Ur fun i hi=>?_
   have hi:=Uq.mp (Kd.perm.mem_iff.mp hi);show(ns.map V.int).getD i .non=V.int (ns.getD i 0);rw[bG _ _ _ (by rw[Tt];exact hi),bG _ _ _ hi];simp
  have hn:H (s.heap.objs.size+1)=none:=I.hok.fresh (Vl _);refine⟨.ref (s.heap.objs.size+1),_,iE I kk (Vl _) he (jU rv OB) ?_,rfl,?_⟩
  ·show(sR pp (ns.map V.int)).length<=sizeLine;rw[eo,Tt,Tt,Kd.perm.length_eq,T3,UB];lia
  ·rw[eo];refine q _ _ hn (jT 0 Kd) ?_;have:=gH (O:=intO) 0 (fun i:Int=>i) Kd hs;refine this.imp fun{a b} Ly=>?_
   have Ly:decide (b<a)=false:=Ly;have:=X4 Ly;lia
theorem pH{ls:List (List Nat)}{us:List Value}(r:Vals (ls.map fun l=>V.str (S l)) us){i:Nat}{v:Value}(h:us[i]?=some v):∃t,v=.str (S (ls.getD i [])) t:=by
 have hl:=r.length;rw[Tt]at hl;obtain⟨hi,_⟩:=List.getElem?_eq_some_iff.mp h;have e1:(ls.map fun l=>V.str (S l))[i]?=some (.str (S (ls.getD i []))):=by
  rw[List.getElem?_map,List.getElem?_eq_getElem (by lia),bG _ _ _ (by lia)];rfl
 obtain⟨u,hu,t,rfl⟩:=r.get e1;rw[h]at hu;exact⟨t,TX hu⟩
theorem jL(hc:X.calm=true):dJ X (.builtin "sorted") (fun vs H Q=>∃(p:Addr) (ls:List (List Nat)),vs=[.ref p]/\SqL X.K H p (ls.map fun l=>V.str (S l))/\ls.length<64/\∀(D:Addr) (ms:List (List Nat)),H D=none->ms.Perm ls->ms.Pairwise (fun a b=>¬ b<a)->Q (.ref D) (upd H D (.lst (ms.map fun l=>V.str (S l))))):=by
 intro pr s σ H vs us Q I r h;obtain⟨p,ls,rfl,hp,L8,q⟩:=h;obtain⟨u,rfl,r1⟩:=fN r;cases r1;obtain⟨ws,rv,pl,hz⟩:=I.list hp;have hl:=rv.length;rw[Tt]at hl;refine ja (O:=GA) (key:=fun i=>ls.getD i []) (kd:=oneType') pl.isList (by lia) (fun h2 A' E' h' kk Q' q'=>?_) (fun i j hi hj h' kk C q'=>?_) fun pp h' e Kd hs he kk=>?_
 ·refine kas_kind h2 (T:=.type "str") (fun v hv=>?_) (by decide) (by decide) q';obtain⟨i,hi⟩:=Uv.mp hv;obtain⟨t,rfl⟩:=pH rv hi;exact fun A Q E s _ q=>VE (Xy s _ t) q
 ·unfold kas_ask;have e1:ws[i]?=some (ws.getD i .none):=by rw[bG _ _ _ hi];exact List.getElem?_eq_getElem hi
  have e2:ws[j]?=some (ws.getD j .none):=by rw[bG _ _ _ hj];exact List.getElem?_eq_getElem hj
  obtain⟨t,Pw⟩:=pH rv e1;obtain⟨t',OA⟩:=pH rv e2;rw[Pw,OA];refine kas_lt_str ?_;rw[dr,dr];exact q'
 ·rw[<-hl]at Kd hs;have OB:POk (ls.map fun l=>V.str (S l)).length pp:=by rw[Tt];exact Kd
  have eo:sR pp (ls.map fun l=>V.str (S l))=(pp.toList.map fun i=>ls.getD i []).map fun l=>V.str (S l):=by
   unfold sR;rw[TZ];refine Ur fun i hi=>?_
   have hi:=Uq.mp (Kd.perm.mem_iff.mp hi);show(ls.map fun l=>V.str (S l)).getD i .non=V.str (S (ls.getD i []));rw[bG _ _ _ (by rw[Tt];exact hi),bG _ _ _ hi];simp
  have hn:H (s.heap.objs.size+1)=none:=I.hok.fresh (Vl _);refine⟨.ref (s.heap.objs.size+1),_,iE I kk (Vl _) he (jU rv OB) ?_,rfl,?_⟩
  ·show(sR pp (ls.map fun l=>V.str (S l))).length<=sizeLine;rw[eo,Tt,Tt,Kd.perm.length_eq,T3,UB];lia
  ·rw[eo];refine q _ _ hn (jT [] Kd) ?_;have:=gH (O:=GA) [] (fun l:List Nat=>l) Kd hs;refine this.imp fun{a b} Ly=>?_
   have Ly:decide (b<a)=false:=Ly;exact X4 Ly
end
def kinds(k:List Key):List Bool:=k.map fun x=>x.isLeft
section
variable{prog:Program}{w:World}{A:Around}{s:Shared}
theorem uM(a b:Key):RE (kV a) (kV b)=decide (a=b):=by
 cases a <;> cases b <;> (rw[T5];simp[kV,RE])
theorem jV(a:Key):xj (kV a)=true:=by cases a <;> rfl
theorem CT{a b:Key}{u v:Value}{top:Bool}{Q:Bool->Shared->Prop}(ra:L2.RelV (kV a) u)(rb:L2.RelV (kV b) v)(hk:a.isLeft=b.isLeft)(q:Q (px.blt a b) s):wpAny (model prog w) A (oneLt' top u v) Q (fun _ _=>False) s:=by
 cases a with
 |inl i=>
  cases b with
  |inr _=>cases hk
  |inl j=>
   obtain⟨t,rfl⟩:=ra;obtain⟨t',rfl⟩:=rb;cases top with
   |true=>exact kat_lt_int (E:=fun _ _=>False) q
   |false=>exact kat_one _ _ (lt_int q)
 |inr x=>
  cases b with
  |inl _=>cases hk
  |inr y=>
   obtain⟨t,rfl⟩:=ra;obtain⟨t',rfl⟩:=rb;cases top with
   |true=>exact oneLt_str q
   |false=>exact kat_one _ _ (lt_str q)
theorem j9{Q:Bool->Shared->Prop}:∀(k1 k2:List Key) (us ws:List Value) (i:Nat),Vals (k1.map kV) us->Vals (k2.map kV) ws->kinds k1=kinds k2->Q (dE k1 k2) s->KatLex prog w A true false Q (us.zip ws) i s
 |[],[],_,_,_,.nil,.nil,_,q=>q
 |[],_::_,_,_,_,_,_,h,_=>by cases h
 |_::_,[],_,_,_,_,_,h,_=>by cases h
 |a::r,b::t,u::us,v::ws,i,.cons ru rus,.cons rv rvs,h,q=>by
  have h1:a.isLeft=b.isLeft:=(Vj h).1;have h2:kinds r=kinds t:=(Vj h).2;have q:Q (if a=b then dE r t else px.blt a b) s:=q;refine kat_cons (yK (A:=A) (s:=s) ru rv (jV a) (jV b) prog w _ _ ?_);rw[uM];by_cases e:a=b
  ·rw[TF e]at q;rw[T9 e];exact kat_yes (j9 r t us ws (i+1) rus rvs h2 q)
  ·rw[TJ e]at q;rw[T4 e];exact kat_no (CT ru rv h1 q)
end
section
variable{X:Cx}{pr:List (Addr×Obj)}{σ:L2.St}{H:Hp}{s:Shared}
theorem nQ(I:Inv X pr σ H s){a:Addr}{xs:List V}(h:SqT X.K H a xs):∃(us:List Value) (o:Obj) (n:Nat),Vals xs us/\s.heap.get? a=some o/\o.cls=.type "tuple"/\o.data=.seq us.toArray n:=by
 obtain⟨us,r,pl,_⟩:=I.tuple h;obtain⟨o,ho,oc,n,od⟩:=pl;exact⟨us,o,n,r,ho,oc,od⟩
theorem me{al:List (Addr×List Key)}{us:List Value}(r:Vals (al.map fun a=>V.ref a.1) us){i:Nat}(h:i<al.length):us.getD i .none=.ref (al.getD i (0,[])).1:=by
 have e1:(al.map fun a=>V.ref a.1)[i]?=some (.ref (al.getD i (0,[])).1):=by
  rw[List.getElem?_map,List.getElem?_eq_getElem h,bG _ _ _ h];rfl
 obtain⟨u,hu,ru⟩:=r.get e1;rw[List.getD_eq_getElem?_getD,hu];exact ru
theorem qI{al:List (Addr×List Key)}{us:List Value}{h':Heap}(I:Inv X pr σ H s)(kk:∀b o,s.heap.get? b=some o->h'.get? b=some o)(top:Bool):
  (r:Vals (al.map fun a=>V.ref a.1) us)->(∀a∈al,SqT X.K H a.1 (a.2.map kV)/\∃t,kinds a.2=top::t)->∃fs:List Value,KatTups h' us fs/\fs.length=al.length/\∀v∈fs,∀M:Model,Looks M h' (typeOf v) (.type (if top then "int" else "str")):=by
 induction al generalizing us with
 |nil=>
  intro r _;cases r;exact⟨[],trivial,rfl,fun v hv=>by cases hv⟩
 |cons a al ih=>
  intro r h;cases r with
  |cons ra rs=>
   cases ra;obtain⟨fs,t1,t2,t3⟩:=ih rs fun b hb=>h b (Tx _ hb)
   obtain⟨ha,kt,hk⟩:=h a Ts;obtain⟨ws,o,n,rv,ho,oc,od⟩:=nQ I ha;cases e2:a.2 with
   |nil=>rw[e2]at hk;cases hk
   |cons k ks=>
    rw[e2]at rv hk;have SG:k.isLeft=top:=(Vj hk).1;cases rv with
    | @cons _ f _ fr rf rfs=>
     refine⟨f::fs,KatTups.cons (kk _ _ ho) oc od (by simp) t1,by simp[t2],fun v hv M=>?_⟩;rcases TK.mp hv with rfl|hv
     ·cases k with
      |inl i=>
       obtain⟨t,rfl⟩:=rf;have:top=true:=SG.symm;subst this;exact fun A Q E s _ q=>VE (Xz s _ t) q
      |inr x=>
       obtain⟨t,rfl⟩:=rf;have:top=false:=SG.symm;subst this;exact fun A Q E s _ q=>VE (Xy s _ t) q
     ·exact t3 v hv M
end
section
variable{X:Cx}
theorem jM(hc:X.calm=true):dJ X (.builtin "sorted") (fun vs H Q=>∃(p:Addr) (al:List (Addr×List Key)) (top:Bool) (t:List Bool),vs=[.ref p]/\SqL X.K H p (al.map fun a=>V.ref a.1)/\(∀a∈al,SqT X.K H a.1 (a.2.map kV)/\kinds a.2=top::t)/\al.length<64/\
  ∀(D:Addr) (ms:List (Addr×List Key)),H D=none->ms.Perm al->ms.Pairwise (fun a b=>dE b.2 a.2=false)->Q (.ref D) (upd H D (.lst (ms.map fun a=>V.ref a.1)))):=by
 intro pr s σ H vs us Q I r h;obtain⟨p,al,top,kt,rfl,hp,Ld,L8,q⟩:=h;obtain⟨u,rfl,r1⟩:=fN r;cases r1;obtain⟨ws,rv,pl,hz⟩:=I.list hp;have hl:=rv.length;rw[Tt]at hl;refine ja (O:=EM) (key:=fun i=>(al.getD i (0,[])).2) (kd:=tuples' true) pl.isList (by lia) (fun h2 A' E' h' kk Q' q'=>?_) (fun i j hi hj h' kk C q'=>?_) fun pp h' e Kd hs he kk=>?_
 ·obtain⟨fs,t1,t2,t3⟩:=qI I kk top rv fun a ha=>⟨(Ld a ha).1,kt,(Ld a ha).2⟩
  refine kat_kind (T:=.type (if top then "int" else "str")) t1 (by lia) (fun v hv=>t3 v hv _) (by simp) ?_;have:((Value.type (if top then "int" else "str")) != Value.type "tuple")=true:=by cases top <;> decide
  rw[this];exact q'
 ·unfold kas_ask;have M1:i<al.length:=by lia
  have Oz:j<al.length:=by lia
  rw[me rv M1,me rv Oz];have mi:al.getD i (0,[])∈al:=by rw[bG _ _ _ M1];exact VB _
  have mj:al.getD j (0,[])∈al:=by rw[bG _ _ _ Oz];exact VB _
  obtain⟨u1,o1,n1,r1,g1,_,d1⟩:=nQ I (Ld _ mi).1;obtain⟨u2,o2,n2,r2,g2,_,d2⟩:=nQ I (Ld _ mj).1;have ek:kinds (al.getD i (0,[])).2=kinds (al.getD j (0,[])).2:=by rw[(Ld _ mi).2,(Ld _ mj).2]
  have el:u1.length=u2.length:=by
   have a1:=r1.length;have a2:=r2.length;have a3:=UP List.length ek;simp only[kinds,Tt]at a1 a2 a3;lia
  refine kat_lt (kk _ _ g1) d1 (kk _ _ g2) d2 ?_;have ef:decide (u1.toArray.size<u2.toArray.size)=false:=by simp[el]
  rw[ef];exact j9 _ _ _ _ 0 r1 r2 ek q'
 ·rw[<-hl]at Kd hs;have OB:POk (al.map fun a=>V.ref a.1).length pp:=by rw[Tt];exact Kd
  have eo:sR pp (al.map fun a=>V.ref a.1)=(pp.toList.map fun i=>al.getD i (0,[])).map fun a=>V.ref a.1:=by
   unfold sR;rw[TZ];refine Ur fun i hi=>?_
   have hi:=Uq.mp (Kd.perm.mem_iff.mp hi);show(al.map fun a=>V.ref a.1).getD i .non=V.ref (al.getD i (0,[])).1;rw[bG _ _ _ (by rw[Tt];exact hi),bG _ _ _ hi];simp
  have hn:H (s.heap.objs.size+1)=none:=I.hok.fresh (Vl _);refine⟨.ref (s.heap.objs.size+1),_,iE I kk (Vl _) he (jU rv OB) ?_,rfl,?_⟩
  ·show(sR pp (al.map fun a=>V.ref a.1)).length<=sizeLine;rw[eo,Tt,Tt,Kd.perm.length_eq,T3,UB];lia
  ·rw[eo];refine q _ _ hn (jT (0,[]) Kd) ?_;exact gH (O:=EM) (0,[]) (fun a:Addr×List Key=>a.2) Kd hs
end
end NX
namespace L2
open PySem PySem.Spec PyProof.Rows
section
variable{κ:Type}[DecidableEq κ]
def nR(kvs:List (κ×V))(k:κ):Option V:=(kvs.find? fun kv=>decide (kv.1=k)).map (·.2)
def jN(kvs:List (κ×V))(k:κ)(v:V):List (κ×V):=
 if(kvs.any fun kv=>decide (kv.1=k))=true then kvs.map (fun kv=>if kv.1=k then(kv.1,v) else kv) else kvs++[(k,v)]
theorem mf{p:κ×V}{r:List (κ×V)}{k:κ}(e:p.1=k):nR (p::r) k=some p.2:=by simp[nR,List.find?_cons,e]
theorem ml{p:κ×V}{r:List (κ×V)}{k:κ}(e:¬ p.1=k):nR (p::r) k=nR r k:=by simp[nR,List.find?_cons,e]
theorem qJ(k:κ):∀kvs:List (κ×V),(kvs.any fun kv=>decide (kv.1=k))=(nR kvs k).isSome
 |[]=>rfl
 |p::r=>by
  rw[X5];by_cases e:p.1=k
  ·simp only[mf e,T9 e,Bool.true_or,Option.isSome_some]
  ·rw[ml e,T4 e,Bool.false_or];exact qJ k r
theorem hX(kvs:List (κ×V))(k:κ)(v:V):(jN kvs k v).length<=kvs.length+1:=by
 unfold jN;split
 ·rw[Tt];lia
 ·rw[Ua,TN,US];lia
theorem RelO.isSome_eq{o:Option V}{u:Option Value}(r:RelO o u):o.isSome=u.isSome:=by
 cases o with
 |none=>cases u with
  |none=>rfl
  |some _=>exact(show False from r).elim
 |some _=>cases u with
  |none=>exact(show False from r).elim
  |some _=>rfl
theorem KV.val{kvs:List (κ×V)}{vs:List (κ×Value)}(r:KV kvs vs)(k:κ):RelO (nR kvs k) (valueAt vs k):=by
 unfold KV at r;induction r with
 |nil=>exact True.intro
 | @cons p q ps qs h t ih=>
  obtain⟨h1,h2⟩:=h;by_cases e:p.1=k
  ·have e':q.1=k:=h1.symm.trans e;have b:valueAt (q::qs) k=some q.2:=by simp[valueAt,List.find?_cons,e']
   rw[mf e,b];exact h2
  ·have e':¬ q.1=k:=fun z=>e (h1.trans z)
   have b:valueAt (q::qs) k=valueAt qs k:=by simp[valueAt,List.find?_cons,e']
   rw[ml e,b];exact ih
theorem KV.any{kvs:List (κ×V)}{vs:List (κ×Value)}(r:KV kvs vs)(k:κ):(kvs.any fun kv=>decide (kv.1=k))=vs.any fun kv=>decide (kv.1=k):=by
 unfold KV at r;induction r with
 |nil=>rfl
 |cons h t ih=>rw[X5,X5,ih,h.1]
theorem KV.repl{kvs:List (κ×V)}{vs:List (κ×Value)}(r:KV kvs vs)(k:κ){y:V}{u:Value}(ry:RelV y u):
  KV (kvs.map fun kv=>if kv.1=k then(kv.1,y) else kv) (vs.map fun kv=>if kv.1=k then(kv.1,u) else kv):=by
 unfold KV at r ⊢;induction r with
 |nil=>exact .nil
 | @cons p q ps qs h t ih=>
  rw[TR,TR];refine .cons ?_ ih;obtain⟨h1,h2⟩:=h;by_cases e:p.1=k
  ·rw[TF e,TF (h1.symm.trans e)];exact⟨h1,ry⟩
  ·rw[TJ e,TJ (fun z=>e (h1.trans z))];exact⟨h1,h2⟩
theorem KV.put{kvs:List (κ×V)}{vs:List (κ×Value)}(r:KV kvs vs)(k:κ){y:V}{u:Value}(ry:RelV y u):KV (jN kvs k y) (stored vs k u):=by
 unfold jN stored;rw[r.any k];by_cases e:(vs.any fun kv=>decide (kv.1=k))=true
 ·rw[TF e,TF e];exact r.repl k ry
 ·rw[TJ e,TJ e];exact Paired.snoc r ⟨rfl,ry⟩
theorem KV.length{kvs:List (κ×V)}{vs:List (κ×Value)}(r:KV kvs vs):kvs.length=vs.length:=Wt r
end
theorem kV_is{P:Program}{w:World}{k:Key}{u:Value}(r:RelV (kV k) u):(mixKind P w).is k u=true:=by
 cases k with
 |inl i=>obtain⟨t,e⟩:=(show ∃t,u=Value.int i t from r);subst e;exact pC P w i t
 |inr x=>obtain⟨t,e⟩:=(show ∃t,u=Value.str x t from r);subst e;exact pD P w x t
theorem nS{P:Program}{w:World}:∀{ks:List Key}{us:List Value},Vals (ks.map kV) us->ItemsAre (mixKind P w) ks us
 |[],_,r=>by rw[Ut]at r;cases r;exact .nil
 |k::ks,_,r=>by
  rw[TR]at r;cases r with
  |cons h t=>exact .cons (kV_is h) (nS t)
abbrev KT(H:Hp):List (List Key×V)->List (List Key×Addr×Value)->Prop:=Paired fun p q=>p.1=q.1/\H q.2.1=some (.tup (p.1.map kV))/\RelV p.2 q.2.2
theorem KT.val{H:Hp}{kvs:List (List Key×V)}{xs:List (List Key×Addr×Value)}(r:KT H kvs xs)(k:List Key):RelO (nR kvs k) ((atKey xs k).map (·.2)):=by
 induction r with
 |nil=>exact True.intro
 | @cons p q ps qs h t ih=>
  obtain⟨h1,_,h2⟩:=h;by_cases e:p.1=k
  ·have e':q.1=k:=h1.symm.trans e;have b:atKey (q::qs) k=some q.2:=by simp[atKey,List.find?_cons,e']
   rw[mf e,b];exact h2
  ·have e':¬ q.1=k:=fun z=>e (h1.trans z)
   have b:atKey (q::qs) k=atKey qs k:=by simp[atKey,List.find?_cons,e']
   rw[ml e,b];exact ih
theorem KT.repl{H:Hp}{kvs:List (List Key×V)}{xs:List (List Key×Addr×Value)}(r:KT H kvs xs)(k:List Key){y:V}{u:Value}(ry:RelV y u):
  KT H (kvs.map fun kv=>if kv.1=k then(kv.1,y) else kv) (xs.map (putAt k u)):=by
 induction r with
 |nil=>exact .nil
 | @cons p q ps qs h t ih=>
  rw[TR,TR];refine .cons ?_ ih;obtain⟨h1,h2,h3⟩:=h;unfold putAt;by_cases e:p.1=k
  ·rw[TF e,TF (h1.symm.trans e)];exact⟨h1,h2,ry⟩
  ·rw[TJ e,TJ (fun z=>e (h1.trans z))];exact⟨h1,h2,h3⟩
theorem KT.put{H:Hp}{kvs:List (List Key×V)}{xs:List (List Key×Addr×Value)}(r:KT H kvs xs)(k:List Key){b:Addr}{y:V}{u:Value}(hb:H b=some (.tup (k.map kV)))(ry:RelV y u):
  KT H (jN kvs k y) (storedH xs k b u):=by
 have e:(kvs.any fun kv=>decide (kv.1=k))=(atKey xs k).isSome:=by
  rw[qJ,(r.val k).isSome_eq,WT]
 unfold jN storedH;rw[e];by_cases q:(atKey xs k).isSome=true
 ·rw[TF q,TF q];exact r.repl k ry
 ·rw[TJ q,TJ q];exact Paired.snoc r ⟨rfl,hb,ry⟩
theorem KT.keeps{H H':Hp}{kvs:List (List Key×V)}{xs:List (List Key×Addr×Value)}(r:KT H kvs xs)(ht:∀b ys,H b=some (.tup ys)->H' b=some (.tup ys)):KT H' kvs xs:=
 Paired.mapP r fun _ _ z=>⟨z.1,ht _ _ z.2.1,z.2.2⟩
section
variable{P:Program}{w:World}{H:Hp}{h:Heap}{a:Addr}
theorem CU{u:HO}(ok:HOk P w H h)(e:Rd H a u):ObjOk P w H h a u:=e.ok ok
theorem sS{kvs:List (Key×V)}(ok:HOk P w H h)(e:Rd H a (.dK kvs)):kvs.length<=sizeLine/\(a==sysModules)=false/\∃vs,KV kvs vs/\h.DictOf (mixKind P w) a vs:=
 show ObjOk P w H h a (.dK kvs) from CU ok e
theorem CV{kvs:List (Key×V)}(ok:HOk P w H h)(e:H a=some (.dK kvs)):kvs.length<=sizeLine/\(a==sysModules)=false/\∃vs,KV kvs vs/\h.DictOf (mixKind P w) a vs:=sS ok (.inl e)
theorem nU{ks:List Key}(ok:HOk P w H h)(e:H a=some (.tup (ks.map kV))):(tupleKind (mixKind P w)).is h ks a:=by
 obtain⟨_,Ic,r,o,h1,h2,⟨n,h3⟩,_⟩:=(show ObjOk P w H h a (.tup (ks.map kV)) from ok a _ e)
 exact⟨o,Ic.toArray,n,h1,h2,h3,by simpa using nS r⟩
theorem uN{kvs:List (List Key×V)}(ok:HOk P w H h)(e:Rd H a (.dT kvs)):kvs.length<=sizeLine/\(a==sysModules)=false/\
  ∃xs,KT H kvs xs/\h.DictOfH (tupleKind (mixKind P w)) a xs:=by
 obtain⟨z,y,xs,r,o,es,ep,h1,h2,h3,h4,h5⟩:=(show ObjOk P w H h a (.dT kvs) from CU ok e)
 refine⟨z,y,xs,r,o,es,ep,h1,h2,h3,h4,fun x hx=>?_,h5⟩;have all:∀{l:List (List Key×V)}{m:List (List Key×Addr×Value)},KT H l m->∀x∈m,(tupleKind (mixKind P w)).is h x.1 x.2.1:=by
  intro l m q;induction q with
  |nil=>intro x hx;exact nomatch hx
  | @cons p q ps qs hq t ih=>
   intro x hx;rcases TK.mp hx with e|hx
   ·subst e;exact nU ok (by rw[<-hq.1];exact hq.2.1)
   ·exact ih x hx
 exact all r x hx
theorem Fx{kvs:List (List Key×V)}(ok:HOk P w H h)(e:H a=some (.dT kvs)):kvs.length<=sizeLine/\(a==sysModules)=false/\
  ∃xs,KT H kvs xs/\h.DictOfH (tupleKind (mixKind P w)) a xs:=uN ok (.inl e)
end
def DGet(H:Hp)(a:Addr)(y:V)(r:Option V):Prop:=
 (∃kvs k,Rd H a (.dK kvs)/\y=kV k/\r=nR kvs k)\/∃kvs k b,Rd H a (.dT kvs)/\y=.ref b/\H b=some (.tup (k.map kV))/\r=nR kvs k
def DPut(H:Hp)(a:Addr)(y v:V)(H':Hp):Prop:=
 (∃kvs k,H a=some (.dK kvs)/\y=kV k/\kvs.length<sizeLine/\H'=upd H a (.dK (jN kvs k v)))\/
 ∃kvs k b,H a=some (.dT kvs)/\y=.ref b/\H b=some (.tup (k.map kV))/\kvs.length<sizeLine/\H'=upd H a (.dT (jN kvs k v))
theorem DGet.k{H:Hp}{a:Addr}{kvs:List (Key×V)}{k:Key}(e:H a=some (.dK kvs)):DGet H a (kV k) (nR kvs k):=.inl ⟨kvs,k,.inl e,rfl,rfl⟩
theorem DGet.t{H:Hp}{a b:Addr}{kvs:List (List Key×V)}{k:List Key}(e:H a=some (.dT kvs))(eb:H b=some (.tup (k.map kV))):DGet H a (.ref b) (nR kvs k):=.inr ⟨kvs,k,b,.inl e,rfl,eb,rfl⟩
theorem DPut.k{H:Hp}{a:Addr}{kvs:List (Key×V)}{k:Key}{v:V}(e:H a=some (.dK kvs))(hl:kvs.length<sizeLine):DPut H a (kV k) v (upd H a (.dK (jN kvs k v))):=.inl ⟨kvs,k,e,rfl,hl,rfl⟩
theorem DPut.t{H:Hp}{a b:Addr}{kvs:List (List Key×V)}{k:List Key}{v:V}(e:H a=some (.dT kvs))(eb:H b=some (.tup (k.map kV)))(hl:kvs.length<sizeLine):
  DPut H a (.ref b) v (upd H a (.dT (jN kvs k v))):=.inr ⟨kvs,k,b,e,rfl,eb,hl,rfl⟩
section
variable{X:Cx}{pr:List (Addr×Obj)}{σ:St}{H:Hp}{s:Shared}{a:Addr}{y v:V}{u r:Value}{o:Option V}{A:Around}{E:Value->Shared->Prop}
theorem Inv.big(I:Inv X pr σ H s):sysModules<s.heap.objs.size:=by
 have h:mainGlobals<s.heap.objs.size:=(I.mod.glob.keeps I.bk).lt;exact Nat.lt_trans (by decide) h
theorem uO{Q:Value->Shared->Prop}(hu:A.units+1<cLine)(I:Inv X pr σ H s)(g:DGet H a y (some v))(ry:RelV y u)(h:∀w' s',Inv X pr σ H s'->RelV v w'->Q w' s'):
  wpAny (model X.prog X.w) A (getItem (.ref a) u) Q E s:=by
 rcases g with⟨kvs,k,e,ey,l⟩|⟨kvs,k,b,e,ey,eb,l⟩
 ·subst ey;obtain⟨z,hd,vs,rel,dd⟩:=sS I.hok e;obtain⟨w',hw,L5⟩:=RelO.some_of (v:=v) (o:=valueAt vs k) (by rw[l];exact rel.val k);exact wpAny_getItem_of (kV_is ry) dd.mapOf hw (h w' _ (I.tok _) L5)
 ·subst ey;cases(show u=Value.ref b from ry);obtain⟨z,hd,xs,rel,dd⟩:=uN I.hok e;obtain⟨w',hw,L5⟩:=RelO.some_of (v:=v) (o:=(atKey xs k).map (·.2)) (by rw[l];exact rel.val k);obtain⟨p,hp,Ob⟩:=Uh.mp hw;refine wpAny_getItem_heap (V0 hu) (nU I.hok eb) dd hp ?_;rw[Ob];exact h w' _ (I.tok _) L5
theorem Hw{Q:Value->Shared->Prop}(hu:A.units+1<cLine)(I:Inv X pr σ H s)(g:DGet H a y o)(ry:RelV y u)(h:∀s',Inv X pr σ H s'->Q (.bool o.isSome) s'):
  wpAny (model X.prog X.w) A (compareOp .In u (.ref a)) Q E s:=by
 rcases g with⟨kvs,k,e,ey,l⟩|⟨kvs,k,b,e,ey,eb,l⟩
 ·subst ey;obtain⟨z,hd,vs,rel,dd⟩:=sS I.hok e;refine wpAny_in_of (kV_is ry) hd dd.mapOf ?_;rw[<-(rel.val k).isSome_eq,<-l];exact h _ (I.tok _)
 ·subst ey;cases(show u=Value.ref b from ry);obtain⟨z,hd,xs,rel,dd⟩:=uN I.hok e;refine wpAny_in_heap (V0 hu) (nU I.hok eb) hd dd ?_;have q:=(rel.val k).isSome_eq;rw[WT]at q;rw[<-q,<-l];exact h _ (I.tok _)
theorem Ai{Q:Value->Shared->Prop}(hu:A.units+1<cLine)(I:Inv X pr σ H s)(g:DGet H a y o)(ry:RelV y u)(h:∀s',Inv X pr σ H s'->Q (.bool (!o.isSome)) s'):
  wpAny (model X.prog X.w) A (compareOp .NotIn u (.ref a)) Q E s:=by
 rcases g with⟨kvs,k,e,ey,l⟩|⟨kvs,k,b,e,ey,eb,l⟩
 ·subst ey;obtain⟨z,hd,vs,rel,dd⟩:=sS I.hok e;refine wpAny_notIn_of (kV_is ry) hd dd.mapOf ?_;rw[<-(rel.val k).isSome_eq,<-l];exact h _ (I.tok _)
 ·subst ey;cases(show u=Value.ref b from ry);obtain⟨z,hd,xs,rel,dd⟩:=uN I.hok e;refine wpAny_notIn_heap (V0 hu) (nU I.hok eb) hd dd ?_;have q:=(rel.val k).isSome_eq;rw[WT]at q;rw[<-q,<-l];exact h _ (I.tok _)
theorem pI{h':Heap}{t':Nat}{ob:HO}(I:Inv X pr σ H s)(mu:PF (H a))(hs:Heap.SameBut a s.heap h')(he:∃q,h'.get? a=some q)(new:ObjOk X.prog X.w (upd H a ob) h' a ob):
  Inv X pr σ (upd H a ob) {s with heap:=h',toks:=t'}:=
 I.write (x:=a) (e:=a) mu (.inl rfl) (fun b q hb z=>(hs.2 b hb).trans z) he new
theorem yS{P:Program}{w:World}{H':Hp}{h':Heap}{kvs:List (Key×V)}{vs:List (Key×Value)}(z:kvs.length<=sizeLine)(hd:(a==sysModules)=false)(rel:KV kvs vs)(dd:h'.DictOf (mixKind P w) a vs):
  ObjOk P w H' h' a (.dK kvs):=⟨z,hd,vs,rel,dd⟩
theorem uP{H':Hp}{Q:Unit->Shared->Prop}(hu:A.units+1<cLine)(I:Inv X pr σ H s)(g:DPut H a y v H')(ry:RelV y u)(rv:RelV v r)(h:∀s',Inv X pr σ H' s'->Q () s'):
  wpAny (model X.prog X.w) A (setItem (.ref a) u r) Q E s:=by
 rcases g with⟨kvs,k,e,ey,l,eH⟩|⟨kvs,k,b,e,ey,eb,l,eH⟩
 ·subst ey eH;obtain⟨z,hd,vs,rel,dd⟩:=CV I.hok e;have hz:vs.length<=sizeLine:=by rw[<-rel.length];exact z
  have hl:(jN kvs k v).length<=sizeLine:=by have:=hX kvs k v;lia
  refine wpAny_setItem_pairs (hsz:=hz) (kV_is ry) dd fun h' Ng hs=>h _ ?_
  have he:∃q,h'.get? a=some q:=let⟨q,_,_,hq,_⟩:=Ng;⟨q,hq⟩
  exact pI I (by rw[e];exact True.intro) hs he (yS hl hd (rel.put k rv) Ng)
 ·subst ey eH;cases(show u=Value.ref b from ry);obtain⟨z,hd,xs,rel,dd⟩:=Fx I.hok e;have hz:xs.length<=sizeLine:=by rw[<-Wt rel];exact z
  have hl:(jN kvs k v).length<=sizeLine:=by have:=hX kvs k v;lia
  refine wpAny_setItem_heap (hsz:=hz) (V0 hu) (nU I.hok eb) dd fun h' Ng hs=>h _ ?_
  obtain⟨q,es,ep,hq,h2,h3,h4,_,h5⟩:=Ng;refine pI I (by rw[e];exact True.intro) hs ⟨q,hq⟩ ⟨hl,hd,_,(rel.put k eb rv).keeps fun c ys ec=>?_,q,es,ep,hq,h2,h3,h4,h5⟩;rw[aE (EV ec e (fun z=>nomatch z))];exact ec
end
section
variable{X:Cx}{pr:List (Addr×Obj)}{σ:St}{H:Hp}{s:Shared}{a:Addr}{kvs:List (Key×V)}{k:Key}{u:Value}{A:Around}{E:Value->Shared->Prop}
end
def NoSl(i:Expr):Prop:=∀ov iv,subscripted i false ov iv=operate [ov,iv] (getItem ov iv)
theorem Aj{prog:Program}{w:World}{A:Around}{E:Value->Shared->Prop}{s:Shared}{env:Env}{value slice:Expr}{pos:Pos}{T id:String}{Q:Value->Shared->Prop}
  (hl:typeLookup (.type T) "__getitem__" = pure (some (.builtin id))) (hs:NoSl slice)
  (h:wpAny (model prog w) A (eval value env) (fun o s₁=>wpAny (model prog w) A (eval slice env) (fun i s₂=>s₂.TypeIs o T/\wpAny (model prog w) A (getItem o i) Q E s₂) E s₁) E s):
  wpAny (model prog w) A (eval (.Subscript value slice pos) env) Q E s:=by
 refine Subscript_ (VS h (fun o s₁ h₁=>VS h₁ (fun i s₂ h₂=>?_) fun _ _ x=>x) fun _ _ x=>x);obtain⟨hT,h₂⟩:=h₂;unfold subscriptTail;refine Tr ?_;rw[getitemInPython_of_ne hT.not_modules];refine Tr (Xp hT hl ?_);have fin:wpAny (model prog w) A (subscripted slice false o i) (fun r s₃=>wpAny (model prog w) A (letTemporaryGo value o r >>= fun _=>pure r) Q E s₃) E s₂:=by
  rw[hs o i];exact wpAny_operating (VS h₂ (fun r s₃ h₃=>Tr (wpAny_letTemporaryGo (Tw h₃))) fun _ _ x=>x)
 first
  |exact Tw (Tr fin)
  |exact Tr (Tw (Tr fin))
  |exact Tr fin
theorem pJ{X:Cx}{pr:List (Addr×Obj)}{σ:St}{H:Hp}{s:Shared}{a:Addr}{y:V}{o:Option V}(I:Inv X pr σ H s)(g:DGet H a y o):s.TypeIs (.ref a) "dict":=by
 rcases g with⟨kvs,k,e,_,_⟩|⟨kvs,k,b,e,_,_,_⟩
 ·obtain⟨_,_,vs,_,dd⟩:=sS I.hok e;exact dd.typeIs
 ·obtain⟨_,_,xs,_,dd⟩:=uN I.hok e;exact dd.typeIs
def Fy(td ty:TE):TE:=fun σ H Q=>td σ H fun x H1=>ty σ H1 fun y H2=>∃a v,x=.ref a/\DGet H2 a y (some v)/\Q v H2
def Fz(td ty tv:TE):TS:=fun D σ H=>tv σ H fun v H1=>td σ H1 fun x H2=>ty σ H2 fun y H3=>∃a H4,x=.ref a/\DPut H3 a y v H4/\D.nx σ H4
section
variable{X:Cx}{o i e value:Expr}{pos pos' tpos:Pos}{td ty tv:TE}
theorem Ak(hu:X.A.units+1<cLine)(ho:PE X o td)(hi:PE X i ty)(hs:NoSl i):PE X (.Subscript o i pos) (Fy td ty):=by
 intro pr s σ H Q I h;refine Aj PySem.F.slot_dict_getitem.lookup hs (Iw (ho pr s σ H _ I h) fun u s1 ⟨x,H1,I1,rx,q1⟩=>Iw (hi pr s1 σ H1 _ I1 q1) fun iv s2 IB=>?_);obtain⟨y,H2,I2,ry,a,v,ex,g,q2⟩:=IB;subst ex;obtain rfl:u=Value.ref a:=rx;exact⟨pJ I2 g,uO hu I2 g ry fun w' s3 I3 L5=>⟨v,H2,I3,L5,q2⟩⟩
theorem Al(hu:X.A.units+1<cLine)(ho:PE X o td)(hi:PE X i ty)(hv:PE X value tv)(hs:swapsWith value (some (.Subscript o i pos')) pos.line X.env=pure false):
  PS X (.Assign [.Subscript o i pos'] value pos) (Fz td ty tv):=by
 intro pr s σ H D I h;refine wpAny_Assign_Subscript (Iw (hv pr s σ H _ I h) fun r s1 ⟨v,H1,I1,rv,q1⟩=>Iw (ho pr s1 σ H1 _ I1 q1) fun u s2 ⟨x,H2,I2,rx,q2⟩=>Iw (hi pr s2 σ H2 _ I2 q2) fun iv s3 ⟨y,H3,I3,ry,a,H4,ex,g,q3⟩=>?_) hs;subst ex;obtain rfl:u=Value.ref a:=rx;exact uP hu I3 g ry rv fun s4 I4=>⟨σ,H4,I4,q3⟩
end
theorem dk_empty{P:Program}{w:World}{H:Hp}(h:Heap)(hb:sysModules<h.objs.size):ObjOk P w H (h.push {cls:=.type "dict",data:=.dict #[]}) h.objs.size (.dK []):=
 ⟨Ug _,UW.mpr (U1 (TU hb)),[],.nil,Heap.DictOf.new h⟩
section
variable{X:Cx}{pos:Pos}
end
def tPairs:List (TE×TE)->St->Hp->(List (V×V)->Hp->Prop)->Prop
 |[],_,H,Q=>Q [] H
 |(tk,tv)::r,σ,H,Q=>tk σ H fun x H1=>tv σ H1 fun y H2=>tPairs r σ H2 fun ps H3=>Q ((x,y)::ps) H3
abbrev VV:List (V×V)->List (Value×Value)->Prop:=Paired fun p q=>RelV p.1 q.1/\RelV p.2 q.2
def Q5(X:Cx)(pos:Pos)(keys:List (Option Expr))(values:List Expr)(Nh:List (TE×TE)):Prop:=
 ∀(pr:List (Addr×Obj)) (s:Shared) (σ:St) (H:Hp) (Q:List (V×V)->Hp->Prop),Inv X pr σ H s->tPairs Nh σ H Q->
  wpAny (model X.prog X.w) X.A (evalPairs (pairTrees keys values X.env pos)) (fun vs s'=>∃ps H',Inv X pr σ H' s'/\VV ps vs/\Q ps H') X.xe s
theorem Am{X:Cx}{pos:Pos}:Q5 X pos [] [] []:=fun pr s σ H Q I h=>pairTrees_nil_walk ⟨[],H,I,.nil,h⟩
theorem xw{X:Cx}{pos:Pos}{k v:Expr}{ks:List (Option Expr)}{vs:List Expr}{tk tv:TE}{Nh:List (TE×TE)}(hk:PE X k tk)(hv:PE X v tv)(hr:Q5 X pos ks vs Nh):
  Q5 X pos (some k::ks) (v::vs) ((tk,tv)::Nh):=fun pr s σ H Q I h=>
 pairTrees_cons_walk (Iw (hk pr s σ H _ I h) fun u s1 ⟨x,H1,I1,rx,q1⟩=>Iw (hv pr s1 σ H1 _ I1 q1) fun w2 s2 ⟨y,H2,I2,ry,q2⟩=>
  Iw (hr pr s2 σ H2 _ I2 q2) fun ws s3 ⟨ps,H3,I3,rel,q3⟩=>⟨(x,y)::ps,H3,I3,.cons ⟨rx,ry⟩ rel,q3⟩)
def nV(kvs more:List (Key×V)):List (Key×V):=more.foldl (fun acc kv=>jN acc kv.1 kv.2) kvs
theorem KV.merge:∀{more:List (Key×V)}{rs:List (Key×Value)}{kvs:List (Key×V)}{vs:List (Key×Value)},KV more rs->KV kvs vs->KV (nV kvs more) (merged vs rs):=by
 intro more rs kvs vs r;unfold KV at r;induction r generalizing kvs vs with
 |nil=>intro q;exact q
 | @cons p q ps qs h t ih=>
  intro r0;have e:KV (jN kvs p.1 p.2) (stored vs q.1 q.2):=by
   have:=r0.put p.1 h.2;rw[<-h.1];exact this
  exact ih e
theorem iF:∀(more kvs:List (Key×V)),(nV kvs more).length<=kvs.length+more.length
 |[],kvs=>by show kvs.length<=kvs.length+0;lia
 |p::r,kvs=>by
  have h1:=iF r (jN kvs p.1 p.2);have h2:=hX kvs p.1 p.2;show(nV (jN kvs p.1 p.2) r).length<=_;rw[TN];lia
theorem lB{P:Program}{w:World}:∀{kvs:List (Key×V)}{ws:List (Value×Value)},VV (kvs.map fun kv=>(kV kv.1,kv.2)) ws->∃rs,Carries (mixKind P w) ws rs/\KV kvs rs
 |[],_,r=>by rw[Ut]at r;cases r;exact⟨[],True.intro,.nil⟩
 |p::kvs,_,r=>by
  rw[TR]at r;cases r with
  | @cons a b as bs h t=>
   obtain⟨rs,c,q⟩:=lB (P:=P) (w:=w) t;obtain⟨b1,b2⟩:=b;exact⟨(p.1,b2)::rs,⟨kV_is h.1,rfl,c⟩,.cons ⟨rfl,h.2⟩ q⟩
def FA(Nh:List (TE×TE)):TE:=fun σ H Q=>∀p,H p=none->tPairs Nh σ (upd H p (.dK [])) fun ps H2=>H2 p=some (.dK [])/\∃kvs:List (Key×V),ps=kvs.map (fun kv=>(kV kv.1,kv.2))/\kvs.length<=15/\Q (.ref p) (upd H2 p (.dK (nV [] kvs)))
theorem An{X:Cx}{pos:Pos}{keys:List (Option Expr)}{values:List Expr}{Nh:List (TE×TE)}(h:Q5 X pos keys values Nh)(My:keys.all (·.isSome)=true)(hl:keys.length=values.length)(h0:keys≠[])
  (h15:keys.length<=15):PE X (.Dict keys values pos) (FA Nh):=by
 intro pr s σ H Q I q;have hn:=I.hok.fresh (TB s.heap.objs.size);have I1:=I.laid (a:=s.heap.objs.size) (o:=.dK []) (h':=s.heap.push {cls:=.type "dict",data:=.dict #[]}) (t':=s.toks) (fun _ _ q=>Heap.get?_push_of_some _ q) (TB _) (dk_empty s.heap I.big);refine wpAny_Dict_walk (knd:=mixKind X.prog X.w) My hl h0 h15 (Iw (h pr _ σ _ _ I1 (q _ hn)) fun ws s2 IB=>?_);obtain⟨ps,H2,I2,rel,e,kvs,ep,lk,q2⟩:=IB;subst ep;obtain⟨rs,c,rk⟩:=lB (P:=X.prog) (w:=X.w) rel;obtain⟨z,hd,vs0,r0,dd⟩:=CV I2.hok e;cases r0;refine⟨rs,c,dd,fun h' Ng hs=>⟨.ref s.heap.objs.size,_,?_,rfl,q2⟩⟩;have hz:(nV [] kvs).length<=sizeLine:=by
  have h1:=iF kvs [];rw[US]at h1;rw[UB];lia
 have he:∃q,h'.get? s.heap.objs.size=some q:=let⟨q,_,_,hq,_⟩:=Ng;⟨q,hq⟩
 exact pI I2 (by rw[e];exact True.intro) hs he (yS hz hd (rk.merge .nil) Ng)
section
variable{X:Cx}{pr:List (Addr×Obj)}{σ:St}{H:Hp}{s:Shared}{a:Addr}{y d:V}{u r:Value}{o:Option V}{A:Around}{E:Value->Shared->Prop}
end
section
variable{X:Cx}{o e f:Expr}{apos Iy:Pos}{td ty tx:TE}
end
section
variable{X:Cx}{pr:List (Addr×Obj)}{σ:St}{H:Hp}{s:Shared}{a:Addr}{kvs:List (Key×V)}{A:Around}{E:Value->Shared->Prop}
end
section
variable{X:Cx}{pr:List (Addr×Obj)}{σ:St}{H:Hp}{s:Shared}{a:Addr}{y:V}{u:Value}{A:Around}{E:Value->Shared->Prop}
end
section
variable{κ:Type}[DecidableEq κ]
end
end L2
namespace NX
open PySem PySem.Spec PyProof.Rows L2
def RawD(h:Heap)(d:Addr)(es:Array DictEntry)(ep:Nat):Prop:=∃o,h.get? d=some o/\o.ExactDict/\o.data=.dict es ep
theorem RawD.at{h h':Heap}{d:Addr}{es:Array DictEntry}{ep:Nat}(x:RawD h d es ep)(e:∀o,h.get? d=some o->h'.get? d=some o):RawD h' d es ep:=by
 obtain⟨o,g,r⟩:=x;exact⟨o,e o g,r⟩
section
variable{prog:Program}{w:World}{A:Around}{E:Value->Shared->Prop}{s:Shared}{d it:Addr}{es:Array DictEntry}{ep i:Nat}
theorem jW(x:RawD s.heap d es ep):s.TypeIs (.ref d) "dict":=by
 obtain⟨o,g,ex,_⟩:=x;exact⟨o,g,ex.1⟩
theorem xx{Q:Value->Shared->Prop}(nm:(d==sysModules)=false)(x:RawD s.heap d es ep)
  (q:Q (.ref s.heap.objs.size) {s with heap:=s.heap.push {cls:=.type "dict_keyiterator",data:=.fields #[.ref d,.int 0 0,.int es.size 0,.int ep 0]}}):wpAny (model prog w) A (pyIter (.ref d)) Q E s:=by
 have ty:=jW x;obtain⟨o,g,ex,dat⟩:=x;refine wpAny_pyIter_slot ty F.slot_dict_iter (UC F.slot_dict_iter ty F.entry_dict_iter (Tr ?_) (F.args_dict_iter_1 _));refine Tr (wpAny_notOrdered_dict ty (Tw ?_));show wpAny _ _ (Builtin.Dict.showsAll d >>= fun _=>_) _ _ s;have ns:Builtin.Dict.showsAll d=pure ():=by
  unfold Builtin.Dict.showsAll;rw[nm];rfl
 rw[ns];refine Tr (Tw (Tr (Wd g dat (Tr (Xq g dat (Tr (Uy (Tw ⟨_,rfl,"dict_keyiterator",_,⟨_,Heap.get?_push_size _ rfl,rfl⟩,F.slot_dict_keyiterator_next.lookup,?_⟩))))))));exact q
theorem xy{Q:Option Value->Shared->Prop}{e:DictEntry}(hit:s.heap.IsKeyIter it d i es.size ep)(x:RawD s.heap d es ep)(hx:es[i]?=some e)
  (q:∀h',h'.IsKeyIter it d (i+1) es.size ep->Heap.SameBut it s.heap h'->Q (some e.key) {s with heap:=h'}):wpAny (model prog w) A (pyNext (.ref it)) Q E s:=by
 have ti:=hit.typeIs;obtain⟨o,g,oc,od⟩:=hit;obtain⟨ob,gd,_,dat⟩:=x;have IQ:i<es.size:=(Array.getElem?_eq_some_iff.mp hx).1;unfold pyNext;refine Tr (WY (wpAny_callSpecial?_slot (name:=Str.ofString "__next__") ti U5 (UC U5 ti Wn
  (Tr (Tw (Tr (Tr ?_)))) (Wj _))))
 refine Tr (U2 ti (Tw (Tr (wpAny_fieldsOf g od ?_))));have L0:Builtin.Dict_items.ownsTuple "dict_keyiterator" = false:=by decide
 simp only[L0,UR,Wg];show wpAny _ _ (if(Value.ref d==Value.none)=true then _ else _) _ _ s;have nz:¬ ((Value.ref d==Value.none)=true):=Tz;rw[TJ nz];refine Tr (Tw (Tr (Wd gd dat ?_)));rw[TJ (by simp)];refine Tr (Tw (Tr (Xq gd dat ?_)));rw[TJ (by simp)];refine Tw ?_;simp only[TJ (show ¬ ((i:Int)<0) by lia),UD,hx];refine Tr (Tr (U2 ti (Tw (Tr (wpAny_isOneOf_keyiter ti ?_)))));show wpAny _ _ (setField (.ref it) 1 (rawInt ((i:Int)+1)) >>= fun _=>_) _ _ s;refine Tr (WM g od (by simp) ?_);have nx:(s.heap.update it (Obj.mapFields fun y=>y.setIfInBounds 1 (rawInt ((i:Int)+1)))).IsKeyIter it d (i+1) es.size ep:=
  ⟨_,Heap.get?_update_self _ g (Obj.isFreed_of_fields (VZ od _)),(Obj.cls_mapFields ..).trans oc,(VZ od _).trans (by simp[rawInt])⟩
 refine Tr (U4 (Tr (wpAny_isOneOf_keyiter (s:={s with heap:=s.heap.update it (Obj.mapFields fun y=>y.setIfInBounds 1 (rawInt ((i:Int)+1)))}) nx.typeIs ?_)));show wpAny _ _ (pure e.key) _ _ _;exact Tw (Tw ⟨_,rfl,Tw (q _ nx (VQ ..))⟩)
theorem Ao{Q:Option Value->Shared->Prop}(hh:A.handled=none)(hit:s.heap.IsKeyIter it d i es.size ep)(x:RawD s.heap d es ep)(hx:es[i]?=none)
  (q:∀h',Heap.ExtBut it s.heap h'->Q none {s with heap:=h'}):wpAny (model prog w) A (pyNext (.ref it)) Q E s:=by
 have ti:=hit.typeIs;obtain⟨o,g,oc,od⟩:=hit;obtain⟨ob,gd,_,dat⟩:=x;unfold pyNext;refine Tr (WY (wpAny_callSpecial?_slot (name:=Str.ofString "__next__") ti U5 (UC U5 ti Wn
  (Tr (Tw (Tr (Tr ?_)))) (Wj _))))
 refine Tr (U2 ti (Tw (Tr (wpAny_fieldsOf g od ?_))));have L0:Builtin.Dict_items.ownsTuple "dict_keyiterator" = false:=by decide
 simp only[L0,UR,Wg];show wpAny _ _ (if(Value.ref d==Value.none)=true then _ else _) _ _ s;have nz:¬ ((Value.ref d==Value.none)=true):=Tz;rw[TJ nz];refine Tr (Tw (Tr (Wd gd dat ?_)));rw[TJ (by simp)];refine Tr (Tw (Tr (Xq gd dat ?_)));rw[TJ (by simp)];refine Tw ?_;simp only[TJ (show ¬ ((i:Int)<0) by lia),UD,hx];refine Tr (Tr (U2 ti (Tw ?_)));show wpAny _ _ (setField (.ref it) 0 .none >>= fun _=>_) _ _ s;refine Tr (WM g od (by simp) ?_);show wpAny _ _ (newExc (.type "StopIteration") [] >>= fun _=>_) _ _ _;refine Tr ?_;simp only[newExc,newTuple];refine Tr (Uy (Tr (m:=firstArgMember _ _) (wpAny_of_eq (a:=Value.none) (by first|rfl|(simp only[firstArgMember];rfl)) (Uy ?_ (by size_fits)))) (by size_fits));simp only[raiseNew];refine Tr (wpAny_handled ?_);rw[show A.in1.handled=none from hh];refine Tr (Tw (wpAny_throw ?_));refine Tr (W4 (b:=true) (T:="StopIteration") ⟨_,Heap.get?_push_size _ rfl,rfl⟩ isSubtype_stop ?_);exact Tw (q _ (((VQ ..).extBut.push _).push _))
theorem uQ(hh:A.handled=none)(I:Addr)(ne:d≠I):Walks prog w A I [I,d] [I] es.size (fun i v=>∃e,es[i]?=some e/\v=e.key) (fun i h=>h.IsKeyIter I d i es.size ep/\RawD h d es ep) where
 sub:=fun b hb=>by
  rw[TY]at hb;rw[hb];exact Ts
 frame:=fun _ _ _ st hk=>⟨st.1.at fun o e=>hk I Ts o e,st.2.at fun o e=>hk d (Tx _ Ts) o e⟩
 item:=fun i s Q E hi st hQ=>by
  refine xy st.1 st.2 (Array.getElem?_eq_getElem hi) fun h' it' sb=>?_
  exact hQ _ h' s.toks ⟨_,Array.getElem?_eq_getElem hi,rfl⟩ ⟨it',st.2.at fun o e=>sb.extBut d o ne e⟩ fun b o hb e=>sb.extBut b o (fun z=>hb (by rw[z];exact Ts)) e
 done:=fun s Q E st hQ=>Ao hh st.1 st.2 (Array.getElem?_eq_none (TB _)) fun h' ext=>hQ h' s.toks fun b o hb e=>ext b o (fun z=>hb (by rw[z];exact Ts)) e
 self:=fun _ _ _ _ st hQ=>wpAny_pyIter_keyiter st.1 hQ
theorem Ap(nm:(d==sysModules)=false):PySem.W.KdlSrc prog w "dict" d d es.size (fun i v=>∃e,es[i]?=some e/\v=e.key) (fun h=>RawD h d es ep) where
 type:=fun _ x=>jW x
 there:=fun _ x=>by
  obtain⟨o,g,_⟩:=x;exact⟨TH g,TH g⟩
 keep:=fun _ _ x hk=>x.at fun o e=>hk d (.inl rfl) o e
 notList:=by decide
 notTuple:=by decide
 hint:=fun _ _ _ _ x q=>PySem.W.kdl_hint_dict (jW x) q
 iter:=fun _ s hh x=>⟨_,_,(fun _ _ q=>xx nm x q),uQ hh _ (by obtain⟨o,g,_⟩:=x;exact TU (TH g)),⟨⟨_,Heap.get?_push_size _ rfl,rfl,rfl⟩,x.at fun o e=>Heap.get?_push_of_some _ e⟩⟩
end
end NX
namespace NX
open PySem PySem.W PySem.Spec PyProof.Rows L2
section
variable{prog:Program}{w:World}{A:Around}{E:Value->Shared->Prop}{s:Shared}
theorem sT{O:KeyOrd}{key:Nat->O.α}{kd:SortKind}{l:Addr}{vs:List Value}{Q:Value->Shared->Prop}
  (hcol:∀Q':List Value->Shared->Prop,(∀h' tk,(∀b o,s.heap.get? b=some o->h'.get? b=some o)->Q' vs {s with heap:=h',toks:=tk})->wpAny (model prog w) A.in1 (collect (.ref l)) Q' E s) (L8:vs.length<64)
  (Kv:2<=vs.length->∀(A':Around) (E':Value->Shared->Prop) (s':Shared),(∀b o,s.heap.get? b=some o->s'.heap.get? b=some o)->∀Q:SortKind->Shared->Prop,Q kd s'->wpAny (model prog w) A' (keyKind' vs.toArray) Q E' s')
  (MB:∀i j,i<vs.length->j<vs.length->∀s':Shared,(∀b o,s.heap.get? b=some o->s'.heap.get? b=some o)->∀C:Bool->Shared->Prop,C (O.blt (key i) (key j)) s'->kas_ask prog w A.in1.in1 kd vs i j C s')
  (h:∀(p:Array Nat) (h5 h':Heap) (tk e:Nat),POk vs.length p->bq key p vs.length->(∀b o,s.heap.get? b=some o->h5.get? b=some o)->(∀b o,h5.get? b=some o->h'.get? b=some o)->h'.get? h5.objs.size=some (seqObj "list" (List.toArray (p.toList.map fun i=>vs.getD i .none)) e)->Q (.ref h5.objs.size) {s with heap:=h',toks:=tk}):
  wpAny (model prog w) A (call (.builtin "sorted") [.ref l]) Q E s:=by
 refine VM kind_sorted plain_sorted entry_sorted (args_sorted1 _) ?_;unfold Builtin.«sorted»;refine Tr (m:=checkCount "sorted" 1 1 _) (Tw (Tr (hcol _ fun h5 tk k5=>?_)));refine Tr (X3 ?_ (by rw[UB];lia));have k6:∀b o,s.heap.get? b=some o->(h5.push (seqObj "list" vs.toArray 0)).get? b=some o:=fun b o e=>Heap.get?_push_of_some _ (k5 b o e)
 have hL:(h5.push (seqObj "list" vs.toArray 0)).get? h5.objs.size=some (seqObj "list" vs.toArray 0):=Heap.get?_push_size _ rfl;have SH:∀b o,s.heap.get? b=some o->b<h5.objs.size:=fun b o e=>TH (k5 b o e)
 show wpAny _ _ _ _ _ {s with heap:=h5.push (seqObj "list" vs.toArray 0),toks:=tk};refine Tr (U4 (UC slot_list_sort ⟨_,hL,rfl⟩ entry_list_sort (iC (key:=key) (kd:=kd) hL L8 (fun h2 h' kk Q' q=>Kv h2 _ _ _ (fun b o e=>kk b o (TU (SH b o e)) (k6 b o e)) Q' q)
  (fun i j hi hj h' kk C q=>MB i j hi hj _ (fun b o e=>kk b o (TU (SH b o e)) (k6 b o e)) C q) fun p h' hp hs ⟨e,he⟩ kk=>⟨_,rfl,?_⟩) (args_list_sort _)))
 exact Tw ⟨_,rfl,h p h5 h' tk e hp hs k5 (fun b o q=>kk b o (TU (TH q)) (Heap.get?_push_of_some _ q)) he⟩
end
section
variable{X:Cx}{pr:List (Addr×Obj)}{σ:L2.St}{H:Hp}{s:Shared}
theorem Aq{H:Hp}{kvs:List (List Key×V)}{xs:List (List Key×Addr×Value)}(r:KT H kvs xs):xs.map (·.1)=kvs.map (·.1):=by
 induction r with
 |nil=>rfl
 |cons hq _ ih=>rw[TR,TR,ih,hq.1]
theorem FC{H:Hp}{kvs:List (List Key×V)}{xs:List (List Key×Addr×Value)}(r:KT H kvs xs):∀y∈xs,H y.2.1=some (.tup (y.1.map kV)):=by
 induction r with
 |nil=>exact fun y hy=>nomatch hy
 |cons hq _ ih=>
  intro y hy;rcases TK.mp hy with rfl|hy
  ·rw[<-hq.1];exact hq.2.1
  ·exact ih y hy
theorem Ar(I:Inv X pr σ H s){a:Addr}{kvs:List (List Key×V)}(h:Rd H a (.dT kvs)):(a==sysModules)=false/\∃(al:List (Addr×List Key)) (es:Array DictEntry) (ep:Nat),
  RawD s.heap a es ep/\es.toList.map (·.key)=al.map (fun x=>Value.ref x.1)/\al.map (·.2)=kvs.map (·.1)/\∀x∈al,H x.1=some (.tup (x.2.map kV)):=by
 obtain⟨_,nm,xs,r,o,es,ep,h1,h2,h3,h4,_⟩:=h.ok I.hok;refine⟨nm,xs.map fun x=>(x.2.1,x.1),es,ep,⟨o,h1,h2,h3⟩,?_,?_,?_⟩
 ·rw[h4,TZ,TZ];rfl
 ·rw[TZ];exact Aq r
 ·intro x hx;obtain⟨y,hy,rfl⟩:=UH.mp hx;exact FC r y hy
theorem ll(hc:X.calm=true):dJ X (.builtin "sorted") (fun vs H Q=>∃(p:Addr) (kvs:List (List Key×V)) (top:Bool) (t:List Bool),vs=[.ref p]/\Rd H p (.dT kvs)/\(∀kv∈kvs,kinds kv.1=top::t)/\kvs.length<64/\
  ∀(D:Addr) (ms:List (Addr×List Key)),H D=none->(∀a∈ms,H a.1=some (.tup (a.2.map kV)))->(ms.map (·.2)).Perm (kvs.map (·.1))->ms.Pairwise (fun a b=>dE b.2 a.2=false)->Q (.ref D) (upd H D (.lst (ms.map fun a=>V.ref a.1)))):=by
 intro pr s σ H vs us Q I r h;obtain⟨p,kvs,top,kt,rfl,hp,hk,L8,q⟩:=h;obtain⟨u,rfl,r1⟩:=fN r;cases r1;obtain⟨nm,al,es,ep,raw,MC,Q6,OC⟩:=Ar I hp;have My:al.length=kvs.length:=by
  have:=UP List.length Q6;simpa using this
 have Ld:∀a∈al,SqT X.K H a.1 (a.2.map kV)/\kinds a.2=top::kt:=fun a ha=>by
  refine⟨SqT.of (OC a ha),?_⟩;have:a.2∈kvs.map (·.1):=by rw[<-Q6];exact UH.mpr ⟨a,ha,rfl⟩
  obtain⟨kv,Kn,e⟩:=UH.mp this;rw[<-e];exact hk kv Kn
 have rv:Vals (al.map fun a=>V.ref a.1) (al.map fun a=>Value.ref a.1):=by
  clear MC Q6 OC My Ld;induction al with
  |nil=>exact .nil
  |cons a al ih=>exact .cons rfl ih
 have hl:(al.map fun a=>Value.ref a.1).length=al.length:=Tt ..;refine sT (O:=EM) (key:=fun i=>(al.getD i (0,[])).2) (kd:=tuples' true) (vs:=al.map fun a=>Value.ref a.1) (fun Q' hq=>?_) (by lia) (fun h2 A' E' s' kk Q' q'=>?_) (fun i j hi hj s' kk C q'=>?_) fun pp h5 h' tk e Kd hs k5 k' he=>?_
 ·refine kdu_collect (Ap nm) (I.ok.hd hc) raw (by have:=UP List.length MC;simp only[Tt,UA]at this;rw[UB];lia) fun h' tk acc kk J8=>?_
  have ea:acc.toList=al.map fun a=>Value.ref a.1:=by
   rw[<-MC];apply Wc;intro j;rw[List.getElem?_map,Array.getElem?_toList,Array.getElem?_toList];cases hj:acc[j]? with
   |none=>
    have:es[j]?=none:=by
     rw[Array.getElem?_eq_none_iff]at hj ⊢;rw[<-J8.1];exact hj
    rw[this];rfl
   |some v=>
    obtain⟨en,h1,h2⟩:=J8.2 j v hj;rw[h1,h2];rfl
  have:=hq h' tk kk;rw[<-ea]at this;exact this
 ·obtain⟨fs,t1,t2,t3⟩:=qI (h':=s'.heap) I kk top rv fun a ha=>⟨(Ld a ha).1,kt,(Ld a ha).2⟩
  refine kat_kind (T:=.type (if top then "int" else "str")) t1 (by lia) (fun v hv=>t3 v hv _) (by simp) ?_;have:((Value.type (if top then "int" else "str")) != Value.type "tuple")=true:=by cases top <;> decide
  rw[this];exact q'
 ·unfold kas_ask;have M1:i<al.length:=by lia
  have Oz:j<al.length:=by lia
  rw[me rv M1,me rv Oz];have mi:al.getD i (0,[])∈al:=by rw[bG _ _ _ M1];exact VB _
  have mj:al.getD j (0,[])∈al:=by rw[bG _ _ _ Oz];exact VB _
  obtain⟨u1,o1,n1,r1,g1,_,d1⟩:=nQ I (Ld _ mi).1;obtain⟨u2,o2,n2,r2,g2,_,d2⟩:=nQ I (Ld _ mj).1;have ek:kinds (al.getD i (0,[])).2=kinds (al.getD j (0,[])).2:=by rw[(Ld _ mi).2,(Ld _ mj).2]
  have el:u1.length=u2.length:=by
   have a1:=r1.length;have a2:=r2.length;have a3:=UP List.length ek;simp only[kinds,Tt]at a1 a2 a3;lia
  refine kat_lt (kk _ _ g1) d1 (kk _ _ g2) d2 ?_;have ef:decide (u1.toArray.size<u2.toArray.size)=false:=by simp[el]
  rw[ef];exact j9 _ _ _ _ 0 r1 r2 ek q'
 ·rw[hl]at Kd hs;have OB:POk (al.map fun a=>V.ref a.1).length pp:=by rw[Tt];exact Kd
  have eo:sR pp (al.map fun a=>V.ref a.1)=(pp.toList.map fun i=>al.getD i (0,[])).map fun a=>V.ref a.1:=by
   unfold sR;rw[TZ];refine Ur fun i hi=>?_
   have hi:=Uq.mp (Kd.perm.mem_iff.mp hi);show(al.map fun a=>V.ref a.1).getD i .non=V.ref (al.getD i (0,[])).1;rw[bG _ _ _ (by rw[Tt];exact hi),bG _ _ _ hi];simp
  have I5:Inv X pr σ H {s with heap:=h5,toks:=tk}:=I.kept k5;have hn:H h5.objs.size=none:=I5.hok.fresh (TB _);refine⟨.ref h5.objs.size,_,iE (s:={s with heap:=h5,toks:=tk}) I5 k' (TB _) he (jU rv OB) ?_,rfl,?_⟩
  ·show(sR pp (al.map fun a=>V.ref a.1)).length<=sizeLine;rw[eo,Tt,Tt,Kd.perm.length_eq,T3,UB];lia
  ·rw[eo];have pm:=jT (0,[]) Kd;refine q _ _ hn (fun a ha=>OC a (pm.mem_iff.mp ha)) ?_ ?_
   ·rw[<-Q6];exact pm.map _
   ·exact gH (O:=EM) (0,[]) (fun a:Addr×List Key=>a.2) Kd hs
end
end NX
namespace NX
open PySem PySem.Spec PyProof.Rows L2
section
open PySem.SeqAt
open PySem.AutoSeq1 (wpAny_loadPart')
open PySem.MeetsSeq PySem.MeetsSeq2 PySem.MeetsSeq3
theorem qK{A:Around}{s:Shared}{a c:Key}{u v:Value}(ra:RelV (kV a) u)(rc:RelV (kV c) v):EqAt A s u v (decide (a=c)):=by
 have h:=yK (A:=A) (s:=s) ra rc (jV a) (jV c);rw[uM]at h;exact h
theorem xA{prog:Program}{w:World}{A:Around}{E:Value->Shared->Prop}{s:Shared}{Q:Value->Shared->Prop}{a c:Key}{u v:Value}(ra:RelV (kV a) u)(rc:RelV (kV c) v)(hk:a.isLeft=c.isLeft)(h:Q (.bool (px.blt a c)) s):
  wpAny (model prog w) A (richCompare .Lt u v) Q E s:=by
 cases a with
 |inl i=>
  cases c with
  |inr _=>cases hk
  |inl j=>
   obtain⟨t,rfl⟩:=ra;obtain⟨t',rfl⟩:=rc;exact(PyProof.Rows.lt_int h:wpAny (model prog w) A (compareOp .Lt (.int i t) (.int j t')) Q E s)
 |inr x=>
  cases c with
  |inl _=>cases hk
  |inr y=>
   obtain⟨t,rfl⟩:=ra;obtain⟨t',rfl⟩:=rc;exact(PyProof.Rows.lt_str h:wpAny (model prog w) A (compareOp .Lt (.str x t) (.str y t')) Q E s)
theorem xB{prog:Program}{w:World}{A:Around}{E:Value->Shared->Prop}{s:Shared}{Q:Value->Shared->Prop}{a c:Key}{u v:Value}(ra:RelV (kV a) u)(rc:RelV (kV c) v)(hk:a.isLeft=c.isLeft)(h:Q (.bool (!px.blt a c)) s):
  wpAny (model prog w) A (richCompare .GtE u v) Q E s:=by
 cases a with
 |inl i=>
  cases c with
  |inr _=>cases hk
  |inl j=>
   obtain⟨t,rfl⟩:=ra;obtain⟨t',rfl⟩:=rc;refine(PyProof.Rows.ge_int ?_:wpAny (model prog w) A (compareOp .GtE (.int i t) (.int j t')) Q E s);have e:(!px.blt (.inl i) (.inl j))=decide (j<=i):=by
    show(!decide (i<j))=decide (j<=i);rw[T5];simp
   rw[e]at h;exact h
 |inr x=>
  cases c with
  |inl _=>cases hk
  |inr y=>
   obtain⟨t,rfl⟩:=ra;obtain⟨t',rfl⟩:=rc;exact(PySem.P.ge_str h:wpAny (model prog w) A (compareOp .GtE (.str x t) (.str y t')) Q E s)
theorem nW(a c:Key)(r t:List Key):dE (a::r) (c::t)=if a=c then dE r t else px.blt a c:=rfl
theorem mn(l b:Addr)(items Je:Array Value)(n n2:Nat)(dd LR:Option Addr)(sl LS:Array (Option Value))(ks js:List Key)(hi:Vals (ks.map kV) items.toList)(hj:Vals (js.map kV) Je.toList)(hk:kinds ks=kinds js):
  Meets (Builtin.«tuple.__lt__» ⟨[.ref l,.ref b],[]⟩)
   (fun _ R s=>s.heap.get? l=some {cls:=.type "tuple",dict:=dd,data:=.seq items n,slots:=sl}/\s.heap.get? b=some {cls:=.type "tuple",dict:=LR,data:=.seq Je n2,slots:=LS}/\R (.ok (.ret (.bool (dE ks js)))) s):=
 .of_wp fun prog w A R s h=>by
  obtain⟨hp,g,d,tk,os⟩:=s;obtain⟨hl,hb,h⟩:=h;have f2:=WU;have z1:items.size=ks.length:=by have:=hi.length;simp at this;lia
  have z2:Je.size=js.length:=by have:=hj.length;simp at this;lia
  have z3:ks.length=js.length:=by have:=UP List.length hk;simpa[kinds] using this
  wp_walk using wpAny_loadPart' hl,wpAny_loadPart' hb,W5 _ (fun eC b s'=>b.1=none/\s'=⟨hp,g,d,tk,os⟩/\∃(vs ws:List Value) (JM Ke:List Key),eC=vs.zip ws/\
   Vals (JM.map kV) vs/\Vals (Ke.map kV) ws/\kinds JM=kinds Ke/\R (.ok (.ret (.bool (dE JM Ke)))) ⟨hp,g,d,tk,os⟩) _
  case turn=>
   rintro⟨y,x⟩ eC b s' ⟨OD,rfl,vs,ws,JM,Ke,hz,Ni,OE,Le,hR⟩;cases JM with
   |nil=>
    cases Ni;rw[List.zip_nil_left]at hz;cases hz
   |cons a JM=>
    cases Ke with
    |nil=>cases Le
    |cons c Ke=>
     cases Ni with
     | @cons _ va _ KH ra hvi'=>
      cases OE with
      | @cons _ vc _ MD rc hwi'=>
       rw[UI]at hz;injection hz with hyx hrest;injection hyx with hy hx;subst hy hx;have RP:a.isLeft=c.isLeft:=(Vj Le).1;have P6:kinds JM=kinds Ke:=(Vj Le).2;rw[nW]at hR;have he:=qK (A:=A.in1) (s:=⟨hp,g,d,tk,os⟩) ra rc;refine Tr (he prog w _ _ ?_);by_cases hac:a=c
       ·rw[TF hac]at hR;rw[T9 hac]
        wp_walk
        exact⟨rfl,rfl,_,_,_,_,hrest,hvi',hwi',P6,hR⟩
       ·rw[TJ hac]at hR;rw[T4 hac];have RQ:=fun E Q=>xA (prog:=prog) (w:=w) (A:=A.in1) (E:=E) (s:=⟨hp,g,d,tk,os⟩) (Q:=Q) ra rc RP
        wp_walk using RQ
        exact⟨_,rfl,by simpa using hR⟩
  case fin=>
   rintro⟨b1,b2⟩ s' ⟨OD,rfl,vs,ws,JM,Ke,hz,Ni,OE,Le,hR⟩;simp only at OD;subst OD;have hv:dE JM Ke=decide (items.size<Je.size):=by
    cases JM with
    |nil=>
     cases Ke with
     |nil=>exact(T4 (by lia)).symm
     |cons c Ke=>cases Le
    |cons a JM=>
     cases Ke with
     |nil=>cases Le
     |cons c Ke=>
      cases Ni;cases OE;rw[UI]at hz;cases hz
   rw[hv]at hR
   wp_walk
   exact⟨_,rfl,by simpa[Builtin.Tuple.tupleCompareSizes] using hR⟩
  case h=>
   exact⟨rfl,rfl,items.toList,Je.toList,ks,js,rfl,hi,hj,hk,h⟩
theorem mq(l b:Addr)(items Je:Array Value)(n n2:Nat)(dd LR:Option Addr)(sl LS:Array (Option Value))(ks js:List Key)(hi:Vals (ks.map kV) items.toList)(hj:Vals (js.map kV) Je.toList)(hk:kinds ks=kinds js):
  Meets (Builtin.«tuple.__ge__» ⟨[.ref l,.ref b],[]⟩)
   (fun _ R s=>s.heap.get? l=some {cls:=.type "tuple",dict:=dd,data:=.seq items n,slots:=sl}/\s.heap.get? b=some {cls:=.type "tuple",dict:=LR,data:=.seq Je n2,slots:=LS}/\R (.ok (.ret (.bool (!dE ks js)))) s):=
 .of_wp fun prog w A R s h=>by
  obtain⟨hp,g,d,tk,os⟩:=s;obtain⟨hl,hb,h⟩:=h;have f2:=WU;have z1:items.size=ks.length:=by have:=hi.length;simp at this;lia
  have z2:Je.size=js.length:=by have:=hj.length;simp at this;lia
  have z3:ks.length=js.length:=by have:=UP List.length hk;simpa[kinds] using this
  wp_walk using wpAny_loadPart' hl,wpAny_loadPart' hb,W5 _ (fun eC b s'=>b.1=none/\s'=⟨hp,g,d,tk,os⟩/\∃(vs ws:List Value) (JM Ke:List Key),eC=vs.zip ws/\
   Vals (JM.map kV) vs/\Vals (Ke.map kV) ws/\kinds JM=kinds Ke/\R (.ok (.ret (.bool (!dE JM Ke)))) ⟨hp,g,d,tk,os⟩) _
  case turn=>
   rintro⟨y,x⟩ eC b s' ⟨OD,rfl,vs,ws,JM,Ke,hz,Ni,OE,Le,hR⟩;cases JM with
   |nil=>
    cases Ni;rw[List.zip_nil_left]at hz;cases hz
   |cons a JM=>
    cases Ke with
    |nil=>cases Le
    |cons c Ke=>
     cases Ni with
     | @cons _ va _ KH ra hvi'=>
      cases OE with
      | @cons _ vc _ MD rc hwi'=>
       rw[UI]at hz;injection hz with hyx hrest;injection hyx with hy hx;subst hy hx;have RP:a.isLeft=c.isLeft:=(Vj Le).1;have P6:kinds JM=kinds Ke:=(Vj Le).2;rw[nW]at hR;have he:=qK (A:=A.in1) (s:=⟨hp,g,d,tk,os⟩) ra rc;refine Tr (he prog w _ _ ?_);by_cases hac:a=c
       ·rw[TF hac]at hR;rw[T9 hac]
        wp_walk
        exact⟨rfl,rfl,_,_,_,_,hrest,hvi',hwi',P6,hR⟩
       ·rw[TJ hac]at hR;rw[T4 hac];have RQ:=fun E Q=>xB (prog:=prog) (w:=w) (A:=A.in1) (E:=E) (s:=⟨hp,g,d,tk,os⟩) (Q:=Q) ra rc RP
        wp_walk using RQ
        exact⟨_,rfl,by simpa using hR⟩
  case fin=>
   rintro⟨b1,b2⟩ s' ⟨OD,rfl,vs,ws,JM,Ke,hz,Ni,OE,Le,hR⟩;simp only at OD;subst OD;have hv:(!dE JM Ke)=decide (Je.size<=items.size):=by
    cases JM with
    |nil=>
     cases Ke with
     |nil=>exact(T9 (by lia)).symm
     |cons c Ke=>cases Le
    |cons a JM=>
     cases Ke with
     |nil=>cases Le
     |cons c Ke=>
      cases Ni;cases OE;rw[UI]at hz;cases hz
   rw[hv]at hR
   wp_walk
   exact⟨_,rfl,by simpa[Builtin.Tuple.tupleCompareSizes] using hR⟩
  case h=>
   exact⟨rfl,rfl,items.toList,Je.toList,ks,js,rfl,hi,hj,hk,h⟩
end
section
variable{X:Cx}
def GC(K:W.Frag)(neg:Bool):R2:=fun x y H Q=>∃a b ks js,x=.ref a/\y=.ref b/\SqT K H a (ks.map kV)/\SqT K H b (js.map kV)/\kinds ks=kinds js/\Q (.bl (if neg then !dE ks js else dE ks js)) H
theorem CW(hu:X.A.units<cLine):IZ X (compareOp .Lt) (GC X.K false):=by
 intro pr s σ H x y v u Q I rx ry h;obtain⟨a,b,ks,js,rfl,rfl,ha,hb,hk,q⟩:=h;cases rx;cases ry;obtain⟨Ic,r1,p1,_⟩:=I.tuple ha;obtain⟨Lv,r2,p2,_⟩:=I.tuple hb;obtain⟨⟨cls,dd,data,sl⟩,ho,hc,n,hd⟩:=id p1;obtain⟨⟨M8,LR,data2,LS⟩,JR,Lc,n2,hd2⟩:=id p2;simp only at hc hd Lc hd2;subst hc hd Lc hd2;exact richCompare_meets_room (op:=.Lt) ⟨_,ho,rfl⟩ ⟨_,JR,rfl⟩ PySem.F.slot_tuple_lt PySem.F.entry_tuple_lt (PySem.F.args_tuple_lt_2 _ _) (mn a b _ _ n n2 dd LR sl LS ks js (by simpa using r1) (by simpa using r2) hk)
  ⟨ho,JR,show Value.bool (dE ks js)≠Value.notImplemented/\EP X pr σ Q (.bool (dE ks js)) s from⟨(fun x=>nomatch x),⟨.bl (dE ks js),H,I,rfl,q⟩⟩⟩ hu
theorem CY(hu:X.A.units<cLine):IZ X (compareOp .GtE) (GC X.K true):=by
 intro pr s σ H x y v u Q I rx ry h;obtain⟨a,b,ks,js,rfl,rfl,ha,hb,hk,q⟩:=h;cases rx;cases ry;obtain⟨Ic,r1,p1,_⟩:=I.tuple ha;obtain⟨Lv,r2,p2,_⟩:=I.tuple hb;obtain⟨⟨cls,dd,data,sl⟩,ho,hc,n,hd⟩:=id p1;obtain⟨⟨M8,LR,data2,LS⟩,JR,Lc,n2,hd2⟩:=id p2;simp only at hc hd Lc hd2;subst hc hd Lc hd2;exact richCompare_meets_room (op:=.GtE) ⟨_,ho,rfl⟩ ⟨_,JR,rfl⟩ PySem.F.slot_tuple_ge PySem.F.entry_tuple_ge (PySem.F.args_tuple_ge_2 _ _) (mq a b _ _ n n2 dd LR sl LS ks js (by simpa using r1) (by simpa using r2) hk)
  ⟨ho,JR,show Value.bool (!dE ks js)≠Value.notImplemented/\EP X pr σ Q (.bool (!dE ks js)) s from⟨(fun x=>nomatch x),⟨.bl (!dE ks js),H,I,rfl,q⟩⟩⟩ hu
end
section
variable{prog:Program}{w:World}{A:Around}{E:Value->Shared->Prop}{s:Shared}
end
section
variable{X:Cx}{pr:List (Addr×Obj)}{σ:L2.St}{H:Hp}{s:Shared}{scope:Scope}{N:List Str}{ix:List (Option Nat)}{fp:List Addr}
end
section
variable{X:Cx}{scope:Scope}{N:List Str}{ix:List (Option Nat)}{tg iter elt:Expr}{ifs:List Expr}{pos:Pos}{wi:TI}{g:TG}{tc:TT}{te:TE}
end
end NX
namespace PV
open PySem L2 NX
inductive D where
 |non|bl (b:Bool)|int (i:Int)|str (l:List Nat)|tup (ds:List D)|lst (ds:List D)|dct (tk:Bool) (ks vs:List D)
inductive O where
 |f|l (c:O)|t (cs:List O)|d|pin (p:Addr) (c:O)
abbrev R:=O×D
abbrev Env:=List (Option R)
inductive Res(α:Type) where
 |ok (a:α)|exc (c:List Nat)|bad
def kD:Key->D
 | .inl i=>.int i
 | .inr x=>.str x.cps.toList
def isM:HO->Bool
 | .lst _=>true
 | .dK _=>true
 | .dT _=>true
 |_=>false
def isT:HO->Bool
 | .tup _=>true
 | .frz _ (.tup _)=>true
 |_=>false
def sU:Key->Prop
 | .inl _=>True
 | .inr x=>x.cps.toList.length<=sizeLine
def DictO(o:HO)(tk:Bool)(ks:List D)(xs:List V):Prop:=match tk with
 |true=>∃kvs:List (List Key×V),o=.dT kvs/\ks=kvs.map (fun kv=>D.tup (kv.1.map kD))/\xs=kvs.map (·.2)/\∀kv∈kvs,∀k∈kv.1,sU k
 |false=>∃kvs:List (Key×V),o=.dK kvs/\ks=kvs.map (fun kv=>kD kv.1)/\xs=kvs.map (·.2)/\∀kv∈kvs,sU kv.1
mutual
noncomputable def Rep(K:W.Frag)(G:Hp):D->V->Prop
 | .non,v=>v=.non
 | .bl b,v=>v=.bl b
 | .int i,v=>v=.int i
 | .str l,v=>v=.str (S l)/\l.length<=sizeLine
 | .tup ds,v=>∃p xs,v=.ref p/\G p=some (.tup xs)/\Reps K G ds xs
 | .lst ds,v=>∃p xs,v=.ref p/\SqL K G p xs/\Reps K G ds xs
 | .dct tk ks vs,v=>∃p xs o,v=.ref p/\Rd G p o/\DictO o tk ks xs/\Reps K G vs xs
noncomputable def Reps(K:W.Frag)(G:Hp):List D->List V->Prop
 |[],xs=>xs=[]
 |d::ds,xs=>∃y ys,xs=y::ys/\Rep K G d y/\Reps K G ds ys
end
def AllO(P:D->V->List Addr->Prop):List D->List V->List Addr->Prop
 |[],xs,fp=>xs=[]/\fp=[]
 |d::ds,xs,fp=>∃y ys a b,xs=y::ys/\fp=a++b/\P d y a/\AllO P ds ys b
mutual
noncomputable def RepO(K:W.Frag)(G H:Hp):O->D->V->List Addr->Prop
 | .f,d,v,fp=>Rep K G d v/\fp=[]
 | .l c,.lst ds,v,fp=>∃p xs Ie,v=.ref p/\H p=some (.lst xs)/\fp=p::Ie/\AllO (RepO K G H c) ds xs Ie
 | .t cs,.tup ds,v,fp=>∃p xs,v=.ref p/\G p=some (.tup xs)/\RepT K G H cs ds xs fp
 | .d,.dct tk ks vs,v,fp=>∃p xs o,v=.ref p/\H p=some o/\DictO o tk ks xs/\fp=[p]/\Reps K G vs xs
 | .pin p c,d,v,fp=>v=.ref p/\RepO K G H c d v fp
 |_,_,_,_=>False
noncomputable def RepT(K:W.Frag)(G H:Hp):List O->List D->List V->List Addr->Prop
 |[],[],xs,fp=>xs=[]/\fp=[]
 |c::cs,d::ds,xs,fp=>∃y ys a b,xs=y::ys/\fp=a++b/\RepO K G H c d y a/\RepT K G H cs ds ys b
 |_,_,_,_=>False
end
section
variable{K:W.Frag}{G G' H H':Hp}
theorem Rd.mono{p:Addr}{u:HO}(h:Same G G')(r:Rd G p u):Rd G' p u:=by
 rcases r with r|⟨o,r⟩
 ·exact .inl (h _ _ r)
 ·exact .inr ⟨o,h _ _ r⟩
theorem gJ{p:Addr}{xs:List V}(h:Same G G')(r:SqL K G p xs):SqL K G' p xs:=r.elim (fun r=>.inl (Rd.mono h r)) .inr
theorem bP{p:Addr}{xs:List V}(h:Same G G')(r:SqT K G p xs):SqT K G' p xs:=r.elim (fun r=>.inl (Rd.mono h r)) .inr
mutual
theorem Rep.mono(h:Same G G'):∀{d:D}{v:V},Rep K G d v->Rep K G' d v
 | .non,_,r=>by simpa only[Rep] using r
 | .bl _,_,r=>by simpa only[Rep] using r
 | .int _,_,r=>by simpa only[Rep] using r
 | .str _,_,r=>by simpa only[Rep] using r
 | .tup ds,_,r=>by
  simp only[Rep]at r ⊢;obtain⟨p,xs,e,q,rs⟩:=r;exact⟨p,xs,e,h _ _ q,Reps.mono h rs⟩
 | .lst ds,_,r=>by
  simp only[Rep]at r ⊢;obtain⟨p,xs,e,q,rs⟩:=r;exact⟨p,xs,e,gJ h q,Reps.mono h rs⟩
 | .dct tk ks vs,_,r=>by
  simp only[Rep]at r ⊢;obtain⟨p,xs,o,e,q,dd,rs⟩:=r;exact⟨p,xs,o,e,Rd.mono h q,dd,Reps.mono h rs⟩
theorem Reps.mono(h:Same G G'):∀{ds:List D}{xs:List V},Reps K G ds xs->Reps K G' ds xs
 |[],_,r=>by simpa only[Reps] using r
 |d::ds,_,r=>by
  simp only[Reps]at r ⊢;obtain⟨y,ys,e,r1,r2⟩:=r;exact⟨y,ys,e,Rep.mono h r1,Reps.mono h r2⟩
end
theorem AllO.imp{P P':D->V->List Addr->Prop}:∀{ds:List D}{xs:List V}{fp:List Addr},(∀d v a,(∀p∈a,p∈fp)->P d v a->P' d v a)->AllO P ds xs fp->AllO P' ds xs fp
 |[],_,_,_,r=>r
 |d::ds,xs,fp,h,r=>by
  obtain⟨y,ys,a,b,e1,e2,p,q⟩:=r;subst e2;exact⟨y,ys,a,b,e1,rfl,h _ _ _ (fun p hp=>TC _ hp) p,AllO.imp (fun d v c hc=>h d v c fun p hp=>Tv _ (hc p hp)) q⟩
mutual
theorem RepO.step(h:Same G G'):∀{o:O}{d:D}{v:V}{fp:List Addr},(∀p∈fp,H' p=H p)->RepO K G H o d v fp->RepO K G' H' o d v fp
 | .f,d,v,fp,hk,r=>by
  simp only[RepO]at r ⊢;exact⟨Rep.mono h r.1,r.2⟩
 | .pin p c,d,v,fp,hk,r=>by
  simp only[RepO]at r ⊢;exact⟨r.1,RepO.step h hk r.2⟩
 | .l c,.lst ds,v,fp,hk,r=>by
  simp only[RepO]at r ⊢;obtain⟨p,xs,Ie,e,q,e2,a⟩:=r;subst e2;exact⟨p,xs,Ie,e,(hk p Ts).trans q,rfl,AllO.imp (fun d v c hc=>RepO.step h fun z hz=>hk z (Tx _ (hc z hz))) a⟩
 | .t cs,.tup ds,v,fp,hk,r=>by
  simp only[RepO]at r ⊢;obtain⟨p,xs,e,q,a⟩:=r;exact⟨p,xs,e,h _ _ q,RepT.step h hk a⟩
 | .d,.dct tk ks vs,v,fp,hk,r=>by
  simp only[RepO]at r ⊢;obtain⟨p,xs,o,e,q,dd,e2,rs⟩:=r;subst e2;exact⟨p,xs,o,e,(hk p Ts).trans q,dd,rfl,Reps.mono h rs⟩
 | .l _,.non,_,_,_,r | .l _,.bl _,_,_,_,r | .l _,.int _,_,_,_,r | .l _,.str _,_,_,_,r | .l _,.tup _,_,_,_,r | .l _,.dct _ _ _,_,_,_,r=>by simp only[RepO]at r
 | .t _,.non,_,_,_,r | .t _,.bl _,_,_,_,r | .t _,.int _,_,_,_,r | .t _,.str _,_,_,_,r | .t _,.lst _,_,_,_,r | .t _,.dct _ _ _,_,_,_,r=>by simp only[RepO]at r
 | .d,.non,_,_,_,r | .d,.bl _,_,_,_,r | .d,.int _,_,_,_,r | .d,.str _,_,_,_,r | .d,.tup _,_,_,_,r | .d,.lst _,_,_,_,r=>by simp only[RepO]at r
theorem RepT.step(h:Same G G'):∀{cs:List O}{ds:List D}{xs:List V}{fp:List Addr},(∀p∈fp,H' p=H p)->RepT K G H cs ds xs fp->RepT K G' H' cs ds xs fp
 |[],[],_,_,_,r=>by simpa only[RepT] using r
 |c::cs,d::ds,xs,fp,hk,r=>by
  simp only[RepT]at r ⊢;obtain⟨y,ys,a,b,e1,e2,r1,r2⟩:=r;subst e2;exact⟨y,ys,a,b,e1,rfl,RepO.step h (fun p hp=>hk p (TC _ hp)) r1,RepT.step h (fun p hp=>hk p (Tv _ hp)) r2⟩
 |[],_::_,_,_,_,r=>by simp only[RepT]at r
 |_::_,[],_,_,_,r=>by simp only[RepT]at r
end
theorem AllO.frozen{P:D->V->List Addr->Prop}:∀{ds:List D}{xs:List V}{fp:List Addr},(∀d v a,(∀p∈a,p∈fp)->P d v a->Rep K G' d v)->AllO P ds xs fp->Reps K G' ds xs
 |[],_,_,_,r=>by simp only[Reps];exact r.1
 |d::ds,xs,fp,h,r=>by
  obtain⟨y,ys,a,b,e1,e2,p,q⟩:=r;subst e2;simp only[Reps];exact⟨y,ys,e1,h _ _ _ (fun p hp=>TC _ hp) p,AllO.frozen (fun d v c hc=>h d v c fun p hp=>Tv _ (hc p hp)) q⟩
mutual
theorem RepO.frozen(h:Same G G'):∀{o:O}{d:D}{v:V}{fp:List Addr},(∀p∈fp,∀u,H p=some u->G' p=some u)->RepO K G H o d v fp->Rep K G' d v
 | .f,d,v,fp,hk,r=>by
  simp only[RepO]at r;exact Rep.mono h r.1
 | .pin p c,d,v,fp,hk,r=>by
  simp only[RepO]at r;exact RepO.frozen h hk r.2
 | .l c,.lst ds,v,fp,hk,r=>by
  simp only[RepO]at r;simp only[Rep];obtain⟨p,xs,Ie,e,q,e2,a⟩:=r;subst e2;exact⟨p,xs,e,SqL.of (hk p Ts _ q),AllO.frozen (fun d v c hc=>RepO.frozen h fun z hz=>hk z (Tx _ (hc z hz))) a⟩
 | .t cs,.tup ds,v,fp,hk,r=>by
  simp only[RepO]at r;simp only[Rep];obtain⟨p,xs,e,q,a⟩:=r;exact⟨p,xs,e,h _ _ q,RepT.frozen h hk a⟩
 | .d,.dct tk ks vs,v,fp,hk,r=>by
  simp only[RepO]at r;simp only[Rep];obtain⟨p,xs,o,e,q,dd,e2,rs⟩:=r;subst e2;exact⟨p,xs,o,e,.inl (hk p Ts _ q),dd,Reps.mono h rs⟩
 | .l _,.non,_,_,_,r | .l _,.bl _,_,_,_,r | .l _,.int _,_,_,_,r | .l _,.str _,_,_,_,r | .l _,.tup _,_,_,_,r | .l _,.dct _ _ _,_,_,_,r=>by simp only[RepO]at r
 | .t _,.non,_,_,_,r | .t _,.bl _,_,_,_,r | .t _,.int _,_,_,_,r | .t _,.str _,_,_,_,r | .t _,.lst _,_,_,_,r | .t _,.dct _ _ _,_,_,_,r=>by simp only[RepO]at r
 | .d,.non,_,_,_,r | .d,.bl _,_,_,_,r | .d,.int _,_,_,_,r | .d,.str _,_,_,_,r | .d,.tup _,_,_,_,r | .d,.lst _,_,_,_,r=>by simp only[RepO]at r
theorem RepT.frozen(h:Same G G'):∀{cs:List O}{ds:List D}{xs:List V}{fp:List Addr},(∀p∈fp,∀u,H p=some u->G' p=some u)->RepT K G H cs ds xs fp->Reps K G' ds xs
 |[],[],_,_,_,r=>by simp only[RepT]at r;simp only[Reps];exact r.1
 |c::cs,d::ds,xs,fp,hk,r=>by
  simp only[RepT]at r;simp only[Reps];obtain⟨y,ys,a,b,e1,e2,r1,r2⟩:=r;subst e2;exact⟨y,ys,e1,RepO.frozen h (fun p hp=>hk p (TC _ hp)) r1,RepT.frozen h (fun p hp=>hk p (Tv _ hp)) r2⟩
 |[],_::_,_,_,_,r=>by simp only[RepT]at r
 |_::_,[],_,_,_,r=>by simp only[RepT]at r
end
theorem AllO.live{P:D->V->List Addr->Prop}:∀{ds:List D}{xs:List V}{fp:List Addr},(∀d v a,P d v a->∀p∈a,∃u,H p=some u)->AllO P ds xs fp->∀p∈fp,∃u,H p=some u
 |[],_,_,_,r=>by rw[r.2];intro p hp;cases hp
 |d::ds,xs,fp,h,r=>by
  obtain⟨y,ys,a,b,e1,e2,p,q⟩:=r;subst e2;intro z hz;rcases Ue.mp hz with hz|hz
  ·exact h _ _ _ p z hz
  ·exact AllO.live h q z hz
mutual
theorem RepO.live:∀{o:O}{d:D}{v:V}{fp:List Addr},RepO K G H o d v fp->∀p∈fp,∃u,H p=some u
 | .f,d,v,fp,r=>by
  simp only[RepO]at r;rw[r.2];intro p hp;cases hp
 | .pin p c,d,v,fp,r=>by
  simp only[RepO]at r;exact RepO.live r.2
 | .l c,.lst ds,v,fp,r=>by
  simp only[RepO]at r;obtain⟨p,xs,Ie,e,q,e2,a⟩:=r;subst e2;intro z hz;rcases TK.mp hz with rfl|hz
  ·exact⟨_,q⟩
  ·exact AllO.live (fun d v a=>RepO.live) a z hz
 | .t cs,.tup ds,v,fp,r=>by
  simp only[RepO]at r;obtain⟨p,xs,e,q,a⟩:=r;exact RepT.live a
 | .d,.dct tk ks vs,v,fp,r=>by
  simp only[RepO]at r;obtain⟨p,xs,o,e,q,dd,e2,rs⟩:=r;subst e2;intro z hz;rw[TY]at hz;exact⟨_,hz▸q⟩
 | .l _,.non,_,_,r | .l _,.bl _,_,_,r | .l _,.int _,_,_,r | .l _,.str _,_,_,r | .l _,.tup _,_,_,r | .l _,.dct _ _ _,_,_,r=>by simp only[RepO]at r
 | .t _,.non,_,_,r | .t _,.bl _,_,_,r | .t _,.int _,_,_,r | .t _,.str _,_,_,r | .t _,.lst _,_,_,r | .t _,.dct _ _ _,_,_,r=>by simp only[RepO]at r
 | .d,.non,_,_,r | .d,.bl _,_,_,r | .d,.int _,_,_,r | .d,.str _,_,_,r | .d,.tup _,_,_,r | .d,.lst _,_,_,r=>by simp only[RepO]at r
theorem RepT.live:∀{cs:List O}{ds:List D}{xs:List V}{fp:List Addr},RepT K G H cs ds xs fp->∀p∈fp,∃u,H p=some u
 |[],[],_,_,r=>by
  simp only[RepT]at r;rw[r.2];intro p hp;cases hp
 |c::cs,d::ds,xs,fp,r=>by
  simp only[RepT]at r;obtain⟨y,ys,a,b,e1,e2,r1,r2⟩:=r;subst e2;intro z hz;rcases Ue.mp hz with hz|hz
  ·exact RepO.live r1 z hz
  ·exact RepT.live r2 z hz
 |[],_::_,_,_,r=>by simp only[RepT]at r
 |_::_,[],_,_,r=>by simp only[RepT]at r
end
theorem DictO.isM{o:HO}{tk:Bool}{ks:List D}{xs:List V}(h:DictO o tk ks xs):PV.isM o=true:=by
 cases tk with
 |true=>
  obtain⟨kvs,e,_⟩:=h;rw[e];rfl
 |false=>
  obtain⟨kvs,e,_⟩:=h;rw[e];rfl
theorem AllO.mut{P:D->V->List Addr->Prop}:∀{ds:List D}{xs:List V}{fp:List Addr},(∀d v a,P d v a->∀p∈a,∃u,H p=some u/\isM u=true)->AllO P ds xs fp->∀p∈fp,∃u,H p=some u/\isM u=true
 |[],_,_,_,r=>by rw[r.2];intro p hp;cases hp
 |d::ds,xs,fp,h,r=>by
  obtain⟨y,ys,a,b,e1,e2,p,q⟩:=r;subst e2;intro z hz;rcases Ue.mp hz with hz|hz
  ·exact h _ _ _ p z hz
  ·exact AllO.mut h q z hz
mutual
theorem RepO.mut:∀{o:O}{d:D}{v:V}{fp:List Addr},RepO K G H o d v fp->∀p∈fp,∃u,H p=some u/\isM u=true
 | .f,d,v,fp,r=>by
  simp only[RepO]at r;rw[r.2];intro p hp;cases hp
 | .pin p c,d,v,fp,r=>by
  simp only[RepO]at r;exact RepO.mut r.2
 | .l c,.lst ds,v,fp,r=>by
  simp only[RepO]at r;obtain⟨p,xs,Ie,e,q,e2,a⟩:=r;subst e2;intro z hz;rcases TK.mp hz with rfl|hz
  ·exact⟨_,q,rfl⟩
  ·exact AllO.mut (fun d v a=>RepO.mut) a z hz
 | .t cs,.tup ds,v,fp,r=>by
  simp only[RepO]at r;obtain⟨p,xs,e,q,a⟩:=r;exact RepT.mut a
 | .d,.dct tk ks vs,v,fp,r=>by
  simp only[RepO]at r;obtain⟨p,xs,o,e,q,dd,e2,rs⟩:=r;subst e2;intro z hz;rw[TY]at hz;exact⟨_,hz▸q,dd.isM⟩
 | .l _,.non,_,_,r | .l _,.bl _,_,_,r | .l _,.int _,_,_,r | .l _,.str _,_,_,r | .l _,.tup _,_,_,r | .l _,.dct _ _ _,_,_,r=>by simp only[RepO]at r
 | .t _,.non,_,_,r | .t _,.bl _,_,_,r | .t _,.int _,_,_,r | .t _,.str _,_,_,r | .t _,.lst _,_,_,r | .t _,.dct _ _ _,_,_,r=>by simp only[RepO]at r
 | .d,.non,_,_,r | .d,.bl _,_,_,r | .d,.int _,_,_,r | .d,.str _,_,_,r | .d,.tup _,_,_,r | .d,.lst _,_,_,r=>by simp only[RepO]at r
theorem RepT.mut:∀{cs:List O}{ds:List D}{xs:List V}{fp:List Addr},RepT K G H cs ds xs fp->∀p∈fp,∃u,H p=some u/\isM u=true
 |[],[],_,_,r=>by
  simp only[RepT]at r;rw[r.2];intro p hp;cases hp
 |c::cs,d::ds,xs,fp,r=>by
  simp only[RepT]at r;obtain⟨y,ys,a,b,e1,e2,r1,r2⟩:=r;subst e2;intro z hz;rcases Ue.mp hz with hz|hz
  ·exact RepO.mut r1 z hz
  ·exact RepT.mut r2 z hz
 |[],_::_,_,_,r=>by simp only[RepT]at r
 |_::_,[],_,_,r=>by simp only[RepT]at r
end
noncomputable def RepE(K:W.Frag)(G H:Hp):Env->List (Option V)->List Addr->Prop
 |[],vs,fp=>vs=[]/\fp=[]
 |e::es,vs,fp=>∃y ys,vs=y::ys/\match e with
  |none=>RepE K G H es ys fp
  |some r=>∃v a b,y=some v/\fp=a++b/\RepO K G H r.1 r.2 v a/\RepE K G H es ys b
theorem RepE.step(h:Same G G'):∀{es:Env}{vs:List (Option V)}{fp:List Addr},(∀p∈fp,H' p=H p)->RepE K G H es vs fp->RepE K G' H' es vs fp
 |[],_,_,_,r=>r
 |none::es,vs,fp,hk,r=>by
  obtain⟨y,ys,e,r⟩:=r;exact⟨y,ys,e,RepE.step h hk r⟩
 |some r::es,vs,fp,hk,q=>by
  obtain⟨y,ys,e,v,a,b,e1,e2,r1,r2⟩:=q;subst e2;exact⟨y,ys,e,v,a,b,e1,rfl,RepO.step h (fun p hp=>hk p (TC _ hp)) r1,RepE.step h (fun p hp=>hk p (Tv _ hp)) r2⟩
theorem RepE.live:∀{es:Env}{vs:List (Option V)}{fp:List Addr},RepE K G H es vs fp->∀p∈fp,∃u,H p=some u
 |[],_,_,r=>by
  rw[r.2];intro p hp;cases hp
 |none::es,vs,fp,r=>by
  obtain⟨y,ys,e,r⟩:=r;exact RepE.live r
 |some r::es,vs,fp,q=>by
  obtain⟨y,ys,e,v,a,b,e1,e2,r1,r2⟩:=q;subst e2;intro z hz;rcases Ue.mp hz with hz|hz
  ·exact r1.live z hz
  ·exact RepE.live r2 z hz
theorem RepE.mut:∀{es:Env}{vs:List (Option V)}{fp:List Addr},RepE K G H es vs fp->∀p∈fp,∃u,H p=some u/\isM u=true
 |[],_,_,r=>by
  rw[r.2];intro p hp;cases hp
 |none::es,vs,fp,r=>by
  obtain⟨y,ys,e,r⟩:=r;exact RepE.mut r
 |some r::es,vs,fp,q=>by
  obtain⟨y,ys,e,v,a,b,e1,e2,r1,r2⟩:=q;subst e2;intro z hz;rcases Ue.mp hz with hz|hz
  ·exact r1.mut z hz
  ·exact RepE.mut r2 z hz
theorem RepE.length:∀{es:Env}{vs:List (Option V)}{fp:List Addr},RepE K G H es vs fp->vs.length=es.length
 |[],_,_,r=>by rw[r.1];rfl
 |none::es,vs,fp,r=>by
  obtain⟨y,ys,e,r⟩:=r;rw[e,TN,TN,RepE.length r]
 |some r::es,vs,fp,q=>by
  obtain⟨y,ys,e,v,a,b,e1,e2,r1,r2⟩:=q;rw[e,TN,TN,RepE.length r2]
theorem RepE.take:∀{es:Env}{vs:List (Option V)}{fp:List Addr}{i:Nat}{r:R},RepE K G H es vs fp->es[i]?=some (some r)->
  ∃v a b,vs[i]?=some (some v)/\RepO K G H r.1 r.2 v a/\RepE K G H (es.set i none) vs b/\fp.Perm (a++b)
 |[],_,_,_,_,_,e=>by simp at e
 |none::es,vs,fp,0,r,q,e=>by simp at e
 |some r'::es,vs,fp,0,r,q,e=>by
  obtain⟨y,ys,e0,v,a,b,e1,e2,r1,r2⟩:=q;simp at e;subst e;subst e0;subst e1;exact⟨v,a,b,rfl,r1,⟨some v,ys,rfl,r2⟩,by rw[e2]⟩
 |none::es,vs,fp,i+1,r,q,e=>by
  obtain⟨y,ys,e0,q⟩:=q;obtain⟨v,a,b,g1,g2,g3,g4⟩:=RepE.take q (i:=i) (r:=r) (by simpa using e);subst e0;exact⟨v,a,b,by simpa using g1,g2,⟨y,ys,rfl,g3⟩,g4⟩
 |some r'::es,vs,fp,i+1,r,q,e=>by
  obtain⟨y,ys,e0,v',a',b',e1,e2,r1,r2⟩:=q;obtain⟨v,a,b,g1,g2,g3,g4⟩:=RepE.take r2 (i:=i) (r:=r) (by simpa using e);subst e0;refine⟨v,a,a'++b,by simpa using g1,g2,⟨y,ys,rfl,v',a',b,e1,rfl,r1,g3⟩,?_⟩;rw[e2];refine(Xs a' g4).trans ?_;rw[<-Ul,<-Ul];exact Xf b Xt
theorem RepE.put:∀{es:Env}{vs:List (Option V)}{b:List Addr}{i:Nat}{r:R}{v:V}{a:List Addr},RepE K G H es vs b->es[i]?=some none->RepO K G H r.1 r.2 v a->
  ∃fp,RepE K G H (es.set i (some r)) (vs.set i (some v)) fp/\fp.Perm (a++b)
 |[],_,_,_,_,_,_,_,e,_=>by simp at e
 |none::es,vs,b,0,r,v,a,q,e,ro=>by
  obtain⟨y,ys,e0,q⟩:=q;subst e0;exact⟨a++b,⟨some v,ys,rfl,v,a,b,rfl,rfl,ro,q⟩,.refl _⟩
 |some r'::es,vs,b,0,r,v,a,q,e,ro=>by simp at e
 |none::es,vs,b,i+1,r,v,a,q,e,ro=>by
  obtain⟨y,ys,e0,q⟩:=q;obtain⟨fp,g1,g2⟩:=RepE.put q (i:=i) (r:=r) (by simpa using e) ro;subst e0;exact⟨fp,⟨y,_,rfl,g1⟩,g2⟩
 |some r'::es,vs,b,i+1,r,v,a,q,e,ro=>by
  obtain⟨y,ys,e0,v',a',b',e1,e2,r1,r2⟩:=q;obtain⟨fp,g1,g2⟩:=RepE.put r2 (i:=i) (r:=r) (by simpa using e) ro;subst e0;refine⟨a'++fp,⟨y,_,rfl,v',a',fp,e1,rfl,r1,g1⟩,?_⟩;rw[e2];refine(Xs a' g2).trans ?_;rw[<-Ul,<-Ul];exact Xf b' Xt
structure Rel(K:W.Frag)(G H:Hp)(es:Env)(vs:List (Option V))(fp:List Addr):Prop where
 rep:RepE K G H es vs fp
 nd:fp.Nodup
 gn:∀p∈fp,G p=none
 gh:Same G H
structure Step(G H:Hp)(fp:List Addr)(G' H':Hp)(Ie:List Addr):Prop where
 gg:Same G G'
 keep:∀q u,H q=some u->q∉fp->H' q=some u
 fpn:∀q∈Ie,q∈fp\/H q=none
 gnew:∀q u,G' q=some u->G q=some u\/q∈fp\/H q=none\/isT u=true/\H q=some u
 there:∀q u,H q=some u->∃u',H' q=some u'
theorem Step.refl{fp:List Addr}:Step G H fp G H fp:=⟨.refl _,fun _ _ h _=>h,fun _ h=>.inl h,fun _ _ h=>.inl h,fun _ u h=>⟨u,h⟩⟩
theorem Step.trans{G1 H1 G2 H2:Hp}{fp IA IL:List Addr}(a:Step G H fp G1 H1 IA)(b:Step G1 H1 IA G2 H2 IL):Step G H fp G2 H2 IL:=by
 refine⟨a.gg.trans b.gg,fun q u h n=>?_,fun q hq=>?_,fun q u hq=>?_,fun q u h=>?_⟩
 ·refine b.keep q u (a.keep q u h n) fun hq=>?_
  rcases a.fpn q hq with z|z
  ·exact n z
  ·rw[z]at h;cases h
 ·rcases b.fpn q hq with z|z
  ·exact a.fpn q z
  ·cases e:H q with
   |none=>exact .inr rfl
   |some u=>
    obtain⟨u',e'⟩:=a.there q u e;rw[z]at e';cases e'
 ·rcases b.gnew q u hq with z|z|z|⟨t,z⟩
  ·exact a.gnew q u z
  ·exact .inr ((a.fpn q z).imp_right .inl)
  ·cases e:H q with
   |none=>exact .inr (.inr (.inl rfl))
   |some u=>
    obtain⟨u',e'⟩:=a.there q u e;rw[z]at e';cases e'
  ·cases e:H q with
   |none=>exact .inr (.inr (.inl rfl))
   |some u2=>
    by_cases hf:q∈fp
    ·exact .inr (.inl hf)
    ·rw[a.keep q u2 e hf]at z;cases z;exact .inr (.inr (.inr ⟨t,rfl⟩))
 ·obtain⟨u',h'⟩:=a.there q u h;exact b.there q u' h'
theorem Step.perm{fp fq Ie P7:List Addr}(a:Step G H fp G' H' Ie)(h:∀q,q∈fp<->q∈fq)(h':∀q∈P7,q∈Ie):Step G H fq G' H' P7:=
 ⟨a.gg,fun q u e n=>a.keep q u e fun z=>n ((h q).mp z),fun q hq=>(a.fpn q (h' q hq)).imp_left (h q).mp,fun q u e=>(a.gnew q u e).imp_right (Or.imp_left (h q).mp),a.there⟩
theorem Step.wide{fp fq Ie P7:List Addr}(a:Step G H fp G' H' Ie)(h:∀q∈fp,q∈fq)(h':∀q∈P7,q∈Ie\/q∈fq):Step G H fq G' H' P7:=
 ⟨a.gg,fun q u e n=>a.keep q u e fun z=>n (h q z),fun q hq=>(h' q hq).elim (fun z=>(a.fpn q z).imp_left (h q)) .inl,fun q u e=>(a.gnew q u e).imp_right (Or.imp_left (h q)),a.there⟩
theorem Rel.perm{es:Env}{vs:List (Option V)}{fp fq:List Addr}(r:RepE K G H es vs fq)(nd:fp.Nodup)(gn:∀p∈fp,G p=none)(gh:Same G H)(h:fp.Perm fq):Rel K G H es vs fq:=
 ⟨r,h.nodup_iff.mp nd,fun p hp=>gn p (h.mem_iff.mpr hp),gh⟩
theorem Rel.frame{r:R}{v:V}{es:Env}{vs:List (Option V)}{fp:List Addr}(q:Rel K G H (some r::es) (some v::vs) fp):
  ∃a b,fp=a++b/\RepO K G H r.1 r.2 v a/\Rel K G H es vs b/\∀(G' H':Hp) (Lb:Env) (KH:List (Option V)) (b':List Addr),Step G H b G' H' b'->Rel K G' H' Lb KH b'->
   Rel K G' H' (some r::Lb) (some v::KH) (a++b')/\Step G H (a++b) G' H' (a++b'):=by
 obtain⟨y,ys,e,v',a,b,e1,e2,r1,r2⟩:=q.rep;cases e;cases e1;subst e2;have nd:=Ub.mp q.nd;refine⟨a,b,rfl,r1,⟨r2,nd.2.1,fun p hp=>q.gn p (Tv _ hp),q.gh⟩,fun G' H' Lb KH b' st k=>?_⟩;have nb:∀p∈a,p∉b:=fun p hp hb=>nd.2.2 p hp p hb rfl
 have same:∀p∈a,H' p=H p:=fun p hp=>by
  obtain⟨u,hu⟩:=r1.live p hp;rw[hu];exact st.keep p u hu (nb p hp)
 refine⟨⟨⟨some v,KH,rfl,v,a,b',rfl,rfl,r1.step st.gg same,k.rep⟩,?_,fun p hp=>?_,k.gh⟩,st.wide (fun p hp=>Tv _ hp) fun p hp=>?_⟩
 ·rw[Ub];refine⟨nd.1,k.nd,fun p hp z hz e=>?_⟩;subst e;obtain⟨u,hu⟩:=r1.live p hp;rcases st.fpn p hz with z|z
  ·exact nb p hp z
  ·rw[z]at hu;cases hu
 ·rcases Ue.mp hp with hp|hp
  ·cases e:G' p with
   |none=>rfl
   |some u=>
    exfalso;obtain⟨u',hu⟩:=r1.live p hp;rcases st.gnew p u e with z|z|z|⟨t,z⟩
    ·rw[q.gn p (TC _ hp)]at z;cases z
    ·exact nb p hp z
    ·rw[z]at hu;cases hu
    ·obtain⟨u2,h2,hm⟩:=r1.mut p hp;rw[z]at h2;cases h2;cases u with
     |tup _=>cases hm
     |frz _ _=>cases hm
     |_=>cases t
  ·exact k.gn p hp
 ·rcases Ue.mp hp with hp|hp
  ·exact .inr (TC _ hp)
  ·exact .inl hp
theorem Rel.freeze{r:R}{v:V}{es:Env}{vs:List (Option V)}{fp:List Addr}(q:Rel K G H (some r::es) (some v::vs) fp):
  ∃G' b,Rep K G' r.2 v/\Rel K G' H es vs b/\Step G H fp G' H b:=by
 obtain⟨y,ys,e,v',a,b,e1,e2,r1,r2⟩:=q.rep;cases e;cases e1;subst e2;have nd:=Ub.mp q.nd;have nb:∀p∈a,p∉b:=fun p hp hb=>nd.2.2 p hp p hb rfl
 have hg:Same G (fun p=>if p∈a then H p else G p):=fun p u e=>by
  show(if p∈a then H p else G p)=some u;by_cases hp:p∈a
  ·rw[TF hp];exact q.gh p u e
  ·rw[TJ hp];exact e
 refine⟨fun p=>if p∈a then H p else G p,b,r1.frozen hg fun p hp u e=>?_,⟨r2.step hg fun _ _=>rfl,nd.2.1,fun p hp=>?_,fun p u e=>?_⟩,⟨hg,fun _ _ e _=>e,fun p hp=>.inl (Tv _ hp),fun p u e=>?_,fun _ u e=>⟨u,e⟩⟩⟩
 ·show(if p∈a then H p else G p)=some u;rw[TF hp];exact e
 ·show(if p∈a then H p else G p)=none;rw[TJ (fun z=>nb p z hp)];exact q.gn p (Tv _ hp)
 ·have e:(if p∈a then H p else G p)=some u:=e;by_cases hp:p∈a
  ·rw[TF hp]at e;exact e
  ·rw[TJ hp]at e;exact q.gh p u e
 ·have e:(if p∈a then H p else G p)=some u:=e;by_cases hp:p∈a
  ·exact .inr (.inl (TC _ hp))
  ·rw[TJ hp]at e;exact .inl e
end
section
variable{K:W.Frag}{G G' H H':Hp}{es:Env}{vs:List (Option V)}{fp:List Addr}
theorem qL:∀{ds:List D}{xs:List V}{fp:List Addr},AllO (RepO K G H .f) ds xs fp<->Reps K G ds xs/\fp=[]
 |[],xs,fp=>by simp only[AllO,Reps]
 |d::ds,xs,fp=>by
  simp only[AllO,Reps,RepO];constructor
  ·rintro⟨y,ys,a,b,e1,e2,⟨r,e3⟩,q⟩;obtain⟨q1,q2⟩:=qL.mp q;subst e3;subst q2;exact⟨⟨y,ys,e1,r,q1⟩,e2⟩
  ·rintro⟨⟨y,ys,e1,r,q1⟩,e⟩;exact⟨y,ys,[],[],e1,e,⟨r,rfl⟩,qL.mpr ⟨q1,rfl⟩⟩
theorem fS{d:D}{v:V}{a:List Addr}:RepO K G H .f d v a<->Rep K G d v/\a=[]:=by simp only[RepO]
theorem ka{ds:List D}{v:V}{a:List Addr}:RepO K G H (.l .f) (.lst ds) v a<->∃p xs,v=.ref p/\H p=some (.lst xs)/\a=[p]/\Reps K G ds xs:=by
 rw[RepO];constructor
 ·rintro⟨p,xs,b,e,q,e2,r⟩;obtain⟨r',eb⟩:=qL.mp r;subst eb;exact⟨p,xs,e,q,e2,r'⟩
 ·rintro⟨p,xs,e,q,e2,r⟩;exact⟨p,xs,[],e,q,e2,qL.mpr ⟨r,rfl⟩⟩
theorem Reps.length:∀{ds:List D}{xs:List V},Reps K G ds xs->xs.length=ds.length
 |[],xs,r=>by simp only[Reps]at r;rw[r];rfl
 |d::ds,xs,r=>by
  simp only[Reps]at r;obtain⟨y,ys,e,_,q⟩:=r;rw[e,TN,TN,Reps.length q]
theorem Reps.get:∀{ds:List D}{xs:List V}{i:Nat}{d:D},Reps K G ds xs->ds[i]?=some d->∃v,xs[i]?=some v/\Rep K G d v
 |[],_,_,_,_,e=>by simp at e
 |d'::ds,xs,0,d,r,e=>by
  simp only[Reps]at r;obtain⟨y,ys,e1,q,_⟩:=r;simp at e;subst e;exact⟨y,by rw[e1];rfl,q⟩
 |d'::ds,xs,i+1,d,r,e=>by
  simp only[Reps]at r;obtain⟨y,ys,e1,_,q⟩:=r;obtain⟨v,a,b⟩:=Reps.get q (i:=i) (d:=d) (by simpa using e);exact⟨v,by rw[e1];simpa using a,b⟩
theorem Reps.app:∀{ds es:List D}{xs ys:List V},Reps K G ds xs->Reps K G es ys->Reps K G (ds++es) (xs++ys)
 |[],_,_,_,r,q=>by simp only[Reps]at r;rw[r];exact q
 |d::ds,es,xs,ys,r,q=>by
  simp only[Reps]at r;obtain⟨z,zs,e,r1,r2⟩:=r;rw[e];simp only[Vg,Reps];exact⟨z,_,rfl,r1,r2.app q⟩
theorem Reps.one{d:D}{v:V}(r:Rep K G d v):Reps K G [d] [v]:=by
 simp only[Reps];exact⟨v,[],rfl,r,rfl⟩
theorem Reps.nil:Reps K G [] []:=by simp only[Reps]
theorem Reps.cons{d:D}{v:V}{ds:List D}{xs:List V}(r:Rep K G d v)(q:Reps K G ds xs):Reps K G (d::ds) (v::xs):=by
 simp only[Reps];exact⟨v,xs,rfl,r,q⟩
theorem Reps.cons_iff{d:D}{v:V}{ds:List D}{xs:List V}:Reps K G (d::ds) (v::xs)<->Rep K G d v/\Reps K G ds xs:=by
 simp only[Reps];constructor
 ·rintro⟨y,ys,e,r,q⟩;cases e;exact⟨r,q⟩
 ·rintro⟨r,q⟩;exact⟨v,xs,rfl,r,q⟩
theorem Reps.take:∀{ds:List D}{xs:List V}(n:Nat),Reps K G ds xs->Reps K G (ds.take n) (xs.take n)
 |_,_,0,_=>by rw[XI,XI];exact Reps.nil
 |[],xs,n+1,r=>by simp only[Reps]at r;rw[r];exact Reps.nil
 |d::ds,xs,n+1,r=>by
  simp only[Reps]at r;obtain⟨y,ys,e,r1,r2⟩:=r;rw[e,XO,XO];exact .cons r1 (r2.take n)
theorem Reps.drop:∀{ds:List D}{xs:List V}(n:Nat),Reps K G ds xs->Reps K G (ds.drop n) (xs.drop n)
 |_,_,0,r=>r
 |[],xs,n+1,r=>by simp only[Reps]at r;rw[r];exact Reps.nil
 |d::ds,xs,n+1,r=>by
  simp only[Reps]at r;obtain⟨y,ys,e,r1,r2⟩:=r;rw[e,XQ,XQ];exact r2.drop n
theorem Reps.set:∀{ds:List D}{xs:List V}(n:Nat) {d:D}{v:V},Reps K G ds xs->Rep K G d v->Reps K G (ds.set n d) (xs.set n v)
 |[],xs,n,d,v,r,q=>by simp only[Reps]at r;rw[r];exact Reps.nil
 |d'::ds,xs,0,d,v,r,q=>by
  simp only[Reps]at r;obtain⟨y,ys,e,r1,r2⟩:=r;rw[e];exact .cons q r2
 |d'::ds,xs,n+1,d,v,r,q=>by
  simp only[Reps]at r;obtain⟨y,ys,e,r1,r2⟩:=r;rw[e];exact .cons r1 (r2.set n q)
theorem Reps.ofAll{ds:List D}{xs:List V}(hl:xs.length=ds.length)(h:∀(i:Nat) (d:D) (v:V),ds[i]?=some d->xs[i]?=some v->Rep K G d v):Reps K G ds xs:=by
 induction ds generalizing xs with
 |nil=>simp only[Reps];exact Ux hl
 |cons d ds ih=>
  cases xs with
  |nil=>simp at hl
  |cons v xs=>exact .cons (h 0 d v rfl rfl) (ih (by simpa using hl) fun i d v a b=>h (i+1) d v (by simpa using a) (by simpa using b))
theorem Step.cut{fq:List Addr}(h:∀q∈fq,q∈fp):Step G H fp G H fq:=⟨.refl _,fun _ _ e _=>e,fun q hq=>.inl (h q hq),fun _ _ e=>.inl e,fun _ u e=>⟨u,e⟩⟩
theorem Rel.drop{r:R}{y:Option V}(q:Rel K G H (some r::es) (y::vs) fp):∃b,Rel K G H es vs b/\Step G H fp G H b:=by
 obtain⟨y,ys,e,v',a,b,e1,e2,r1,r2⟩:=q.rep;cases e;cases e1;subst e2;have nd:=Ub.mp q.nd;exact⟨b,⟨r2,nd.2.1,fun p hp=>q.gn p (Tv _ hp),q.gh⟩,Step.cut fun p hp=>Tv _ hp⟩
theorem Rel.top{r:R}{v:V}(q:Rel K G H (some r::es) (some v::vs) fp):Rep K H r.2 v:=by
 obtain⟨y,ys,e,v',a,b,e1,e2,r1,r2⟩:=q.rep;cases e;cases e1;exact r1.frozen q.gh fun p hp u e=>e
theorem Rel.out{i:Nat}{r:R}(q:Rel K G H es vs fp)(e:es[i]?=some (some r)):∃v fq,vs[i]?=some (some v)/\Rel K G H (some r::es.set i none) (some v::vs) fq/\Step G H fp G H fq/\Step G H fq G H fp:=by
 obtain⟨v,a,b,e1,r1,r2,pm⟩:=q.rep.take e;exact⟨v,a++b,e1,Rel.perm ⟨some v,vs,rfl,v,a,b,rfl,rfl,r1,r2⟩ q.nd q.gn q.gh pm,Step.cut fun p hp=>pm.mem_iff.mpr hp,Step.cut fun p hp=>pm.mem_iff.mp hp⟩
theorem Rel.view{i:Nat}{r:R}(q:Rel K G H es vs fp)(e:es[i]?=some (some r)):∃v,vs[i]?=some (some v)/\Rep K H r.2 v:=by
 obtain⟨v,fq,e1,r1,_⟩:=q.out e;exact⟨v,e1,r1.top⟩
theorem mr{α:Type}{l:List α}{i:Nat}{x:α}(h:l[i]?=some x):l.set i x=l:=by
 apply Wc;intro j;by_cases e:i=j
 ·subst e;rw[List.getElem?_set_self (List.getElem?_eq_some_iff.mp h).1,h]
 ·rw[List.getElem?_set_ne e]
theorem Rel.store{i:Nat}{r:R}{v:V}(q:Rel K G H (some r::es) (some v::vs) fp)(hi:i<es.length):∃fq,Rel K G H (es.set i (some r)) (vs.set i (some v)) fq/\Step G H fp G H fq:=by
 obtain⟨y,ys,e,v',a,b,e1,e2,r1,r2⟩:=q.rep;cases e;cases e1;subst e2;obtain⟨c,hc⟩:∃c,es[i]?=some c:=⟨_,List.getElem?_eq_getElem hi⟩
 have nd:=Ub.mp q.nd;have key:∃b',RepE K G H (es.set i none) vs b'/\(∀p∈b',p∈b)/\b'.Nodup:=by
  cases c with
  |none=>exact⟨b,by rw[mr hc];exact r2,fun _ h=>h,nd.2.1⟩
  |some r'=>
   obtain⟨v2,a2,b2,_,_,g,pm⟩:=r2.take hc;refine⟨b2,g,fun p hp=>pm.mem_iff.mpr (Tv _ hp),?_⟩;exact(Ub.mp (pm.nodup_iff.mp nd.2.1)).2.1
 obtain⟨b',g,sub,ndb⟩:=key;obtain⟨fq,g2,pm⟩:=g.put (i:=i) (r:=r) (v:=v) (by rw[List.getElem?_set_self hi]) r1;rw[Vk]at g2;have OF:(a++b').Nodup:=by
  rw[Ub];exact⟨nd.1,ndb,fun p hp z hz=>nd.2.2 p hp z (sub z hz)⟩
 refine⟨fq,Rel.perm g2 OF (fun p hp=>?_) q.gh pm.symm,Step.cut fun p hp=>?_⟩
 ·refine q.gn p ?_;rcases Ue.mp hp with hp|hp
  ·exact TC _ hp
  ·exact Tv _ (sub p hp)
 ·rcases Ue.mp (pm.mem_iff.mp hp) with hp|hp
  ·exact TC _ hp
  ·exact Tv _ (sub p hp)
theorem Rel.back{i:Nat}{r:R}{v:V}(q:Rel K G H (some r::es) (some v::vs) fp)(hi:i<es.length)(hv:vs[i]?=some (some v)):∃fq,Rel K G H (es.set i (some r)) vs fq/\Step G H fp G H fq:=by
 obtain⟨fq,g,st⟩:=q.store hi;rw[mr hv]at g;exact⟨fq,g,st⟩
theorem Rel.freezeAt{i:Nat}{r:R}(q:Rel K G H es vs fp)(e:es[i]?=some (some r)):∃v G' fq,vs[i]?=some (some v)/\Rep K G' r.2 v/\Rel K G' H (es.set i (some (.f,r.2))) vs fq/\Step G H fp G' H fq:=by
 obtain⟨v,fq,ev,g,st,_⟩:=q.out e;obtain⟨G',b,rv,g2,Ii⟩:=g.freeze;have g3:Rel K G' H (some (.f,r.2)::es.set i none) (some v::vs) b:=by
  refine⟨⟨some v,vs,rfl,v,[],b,rfl,rfl,?_,g2.rep⟩,g2.nd,g2.gn,g2.gh⟩;exact fS.mpr ⟨rv,rfl⟩
 obtain⟨fz,g4,JB⟩:=g3.back (i:=i) (by rw[Uw];exact(List.getElem?_eq_some_iff.mp e).1) ev;rw[Vk]at g4;exact⟨v,G',fz,ev,rv,g4,st.trans (Ii.trans JB)⟩
theorem Rel.push{d:D}{v:V}(q:Rel K G H es vs fp)(r:Rep K G d v):Rel K G H (some (.f,d)::es) (some v::vs) fp:=by
 refine⟨⟨some v,vs,rfl,v,[],fp,rfl,rfl,?_,q.rep⟩,q.nd,q.gn,q.gh⟩;exact fS.mpr ⟨r,rfl⟩
theorem Rel.newF{p:Addr}{u:HO}(q:Rel K G H es vs fp)(hp:H p=none):Rel K (upd G p u) (upd H p u) es vs fp/\Step G H fp (upd G p u) (upd H p u) fp:=by
 have gp:G p=none:=by
  cases e:G p with
  |none=>rfl
  |some o=>rw[q.gh p o e]at hp;cases hp
 have np:p∉fp:=fun z=>by
  obtain⟨u,e⟩:=q.rep.live p z;rw[hp]at e;cases e
 have sg:Same G (upd G p u):=fun b o e=>by rw[aE (a9 e gp)];exact e
 have sh:Same H (upd H p u):=fun b o e=>by rw[aE (a9 e hp)];exact e
 refine⟨⟨q.rep.step sg fun z hz=>aE fun e=>np (e▸hz),q.nd,fun z hz=>?_,fun b o e=>?_⟩,⟨sg,fun b o e _=>sh b o e,fun _ h=>.inl h,fun b o e=>?_,fun b o e=>⟨o,sh b o e⟩⟩⟩
 ·have:z≠p:=fun e=>np (e▸hz)
  rw[aE this];exact q.gn z hz
 ·by_cases hb:b=p
  ·subst hb;rw[aV]at e ⊢;exact e
  ·rw[aE hb]at e ⊢;exact q.gh b o e
 ·by_cases hb:b=p
  ·subst hb;exact .inr (.inr (.inl hp))
  ·rw[aE hb]at e;exact .inl e
theorem Rel.newL{p:Addr}{ds:List D}{xs:List V}(q:Rel K G H es vs fp)(hp:H p=none)(r:Reps K G ds xs):
  Rel K G (upd H p (.lst xs)) (some (.l .f,.lst ds)::es) (some (.ref p)::vs) (p::fp)/\Step G H fp G (upd H p (.lst xs)) (p::fp):=by
 have gp:G p=none:=by
  cases e:G p with
  |none=>rfl
  |some o=>rw[q.gh p o e]at hp;cases hp
 have np:p∉fp:=fun z=>by
  obtain⟨u,e⟩:=q.rep.live p z;rw[hp]at e;cases e
 have sh:Same H (upd H p (.lst xs)):=fun b o e=>by rw[aE (a9 e hp)];exact e
 refine⟨⟨⟨some (.ref p),vs,rfl,.ref p,[p],fp,rfl,rfl,ka.mpr ⟨p,xs,rfl,aV,rfl,r⟩,q.rep.step (.refl _) fun z hz=>aE fun e=>np (e▸hz)⟩,Ui.mpr ⟨np,q.nd⟩,fun z hz=>?_,fun b o e=>?_⟩,
  ⟨.refl _,fun b o e _=>sh b o e,fun b hb=>?_,fun b o e=>.inl e,fun b o e=>⟨o,sh b o e⟩⟩⟩
 ·rcases TK.mp hz with rfl|hz
  ·exact gp
  ·exact q.gn z hz
 ·exact sh b o (q.gh b o e)
 ·rcases TK.mp hb with rfl|hb
  ·exact .inr hp
  ·exact .inl hb
theorem Rel.chg{i:Nat}{ds ds':List D}(q:Rel K G H es vs fp)(e:es[i]?=some (some (.l .f,.lst ds))):∃p xs,vs[i]?=some (some (.ref p))/\H p=some (.lst xs)/\Reps K G ds xs/\
  ∀JK,Reps K G ds' JK->∃fq,Rel K G (upd H p (.lst JK)) (es.set i (some (.l .f,.lst ds'))) vs fq/\Step G H fp G (upd H p (.lst JK)) fq:=by
 obtain⟨v,fq,ev,g,st,J6⟩:=q.out e;obtain⟨y,ys,e0,v',a,b,e1,e2,r1,r2⟩:=g.rep;cases e0;cases e1;obtain⟨p,xs,e3,hp,e4,rs⟩:=ka.mp r1;subst e3;subst e4;subst e2;have nd:=Ui.mp (show(p::b).Nodup from g.nd);refine⟨p,xs,ev,hp,rs,fun JK Ko=>?_⟩;have g2:Rel K G (upd H p (.lst JK)) (some (.l .f,.lst ds')::es.set i none) (some (.ref p)::vs) (p::b):=by
  refine⟨⟨some (.ref p),vs,rfl,.ref p,[p],b,rfl,rfl,ka.mpr ⟨p,JK,rfl,aV,rfl,Ko⟩,r2.step (.refl _) fun z hz=>aE fun e=>nd.1 (e▸hz)⟩,g.nd,g.gn,fun z o ez=>?_⟩;have:z≠p:=fun w=>by
   subst w;rw[g.gn z Ts]at ez;cases ez
  rw[aE this];exact g.gh z o ez
 have RS:Step G H (p::b) G (upd H p (.lst JK)) (p::b):=by
  refine⟨.refl _,fun z o ez nz=>?_,fun z hz=>.inl hz,fun z o ez=>.inl ez,fun z o ez=>?_⟩
  ·have:z≠p:=fun w=>nz (by rw[w];exact Ts)
   rw[aE this];exact ez
  ·by_cases w:z=p
   ·subst w;exact⟨_,aV⟩
   ·exact⟨o,by rw[aE w];exact ez⟩
 obtain⟨fz,g3,IK⟩:=g2.back (i:=i) (by rw[Uw];exact(List.getElem?_eq_some_iff.mp e).1) ev;rw[Vk]at g3;exact⟨fz,g3,st.trans (RS.trans IK)⟩
end
mutual
noncomputable def flatD:D->Bool
 | .tup ds=>flatDs ds
 | .lst _=>false
 | .dct _ _ _=>false
 |_=>true
noncomputable def flatDs:List D->Bool
 |[]=>true
 |d::ds=>flatD d&&flatDs ds
end
mutual
noncomputable def aQ:O->D->Bool
 | .f,d=>flatD d
 | .l c,.lst ds=>ds.all (aQ c)
 | .t cs,.tup ds=>nX cs ds
 | .d,.dct _ _ vs=>flatDs vs
 | .pin _ c,d=>aQ c d
 |_,_=>false
noncomputable def nX:List O->List D->Bool
 |[],[]=>true
 |c::cs,d::ds=>aQ c d&&nX cs ds
 |_,_=>false
end
def frz:Option R->Option R:=Option.map fun r=>(.f,r.2)
theorem cU:∀ds,flatDs ds=ds.all flatD
 |[]=>rfl
 |d::ds=>by rw[flatDs,Vz,cU ds]
section
variable{K:W.Frag}{G G' G2 G3 H H' H2:Hp}{es:Env}{vs:List (Option V)}{fp:List Addr}
mutual
theorem Rep.flat(h:∀p u,isT u=true->G2 p=some u->G3 p=some u):∀{d:D}{v:V},flatD d=true->Rep K G2 d v->Rep K G3 d v
 | .non,_,_,r=>by simpa only[Rep] using r
 | .bl _,_,_,r=>by simpa only[Rep] using r
 | .int _,_,_,r=>by simpa only[Rep] using r
 | .str _,_,_,r=>by simpa only[Rep] using r
 | .tup ds,_,e,r=>by
  simp only[Rep]at r ⊢;simp only[flatD]at e;obtain⟨p,xs,ev,q,rs⟩:=r;exact⟨p,xs,ev,h _ _ rfl q,Reps.flat h e rs⟩
 | .lst ds,_,e,r=>by simp only[flatD]at e;cases e
 | .dct _ _ _,_,e,r=>by simp only[flatD]at e;cases e
theorem Reps.flat(h:∀p u,isT u=true->G2 p=some u->G3 p=some u):∀{ds:List D}{xs:List V},flatDs ds=true->Reps K G2 ds xs->Reps K G3 ds xs
 |[],_,_,r=>by simpa only[Reps] using r
 |d::ds,_,e,r=>by
  simp only[Reps]at r ⊢;simp only[flatDs,TM]at e;obtain⟨y,ys,ev,r1,r2⟩:=r;exact⟨y,ys,ev,Rep.flat h e.1 r1,Reps.flat h e.2 r2⟩
end
theorem AllO.clean{P P':D->V->List Addr->Prop}{c:D->Bool}:∀{ds:List D}{xs:List V}{fp:List Addr},(∀d v a,c d=true->P d v a->P' d v a)->ds.all c=true->AllO P ds xs fp->AllO P' ds xs fp
 |[],_,_,_,_,r=>r
 |d::ds,xs,fp,h,e,r=>by
  obtain⟨y,ys,a,b,e1,e2,p,q⟩:=r;rw[Vz,TM]at e;exact⟨y,ys,a,b,e1,e2,h _ _ _ e.1 p,AllO.clean h e.2 q⟩
mutual
theorem RepO.clean(h:∀p u,isT u=true->G2 p=some u->G3 p=some u):∀{o:O}{d:D}{v:V}{fp:List Addr},aQ o d=true->RepO K G2 H o d v fp->RepO K G3 H o d v fp
 | .f,d,v,fp,e,r=>by
  simp only[RepO]at r ⊢;simp only[aQ]at e;exact⟨r.1.flat h e,r.2⟩
 | .pin p c,d,v,fp,e,r=>by
  simp only[RepO]at r ⊢;simp only[aQ]at e;exact⟨r.1,RepO.clean h e r.2⟩
 | .l c,.lst ds,v,fp,e,r=>by
  rw[RepO]at r ⊢;rw[aQ]at e;obtain⟨p,xs,Ie,ev,q,e2,a⟩:=r;exact⟨p,xs,Ie,ev,q,e2,AllO.clean (fun d v a=>RepO.clean h) e a⟩
 | .t cs,.tup ds,v,fp,e,r=>by
  rw[RepO]at r ⊢;rw[aQ]at e;obtain⟨p,xs,ev,q,a⟩:=r;exact⟨p,xs,ev,h _ _ rfl q,RepT.clean h e a⟩
 | .d,.dct tk ks vs,v,fp,e,r=>by
  rw[RepO]at r ⊢;rw[aQ]at e;obtain⟨p,xs,o,ev,q,dd,e2,rs⟩:=r;exact⟨p,xs,o,ev,q,dd,e2,rs.flat h e⟩
 | .l _,.non,_,_,_,r | .l _,.bl _,_,_,_,r | .l _,.int _,_,_,_,r | .l _,.str _,_,_,_,r | .l _,.tup _,_,_,_,r | .l _,.dct _ _ _,_,_,_,r=>by simp only[RepO]at r
 | .t _,.non,_,_,_,r | .t _,.bl _,_,_,_,r | .t _,.int _,_,_,_,r | .t _,.str _,_,_,_,r | .t _,.lst _,_,_,_,r | .t _,.dct _ _ _,_,_,_,r=>by simp only[RepO]at r
 | .d,.non,_,_,_,r | .d,.bl _,_,_,_,r | .d,.int _,_,_,_,r | .d,.str _,_,_,_,r | .d,.tup _,_,_,_,r | .d,.lst _,_,_,_,r=>by simp only[RepO]at r
theorem RepT.clean(h:∀p u,isT u=true->G2 p=some u->G3 p=some u):∀{cs:List O}{ds:List D}{xs:List V}{fp:List Addr},nX cs ds=true->RepT K G2 H cs ds xs fp->RepT K G3 H cs ds xs fp
 |[],[],_,_,_,r=>by simpa only[RepT] using r
 |c::cs,d::ds,xs,fp,e,r=>by
  rw[RepT]at r ⊢;rw[nX,TM]at e;obtain⟨y,ys,a,b,e1,e2,r1,r2⟩:=r;exact⟨y,ys,a,b,e1,e2,RepO.clean h e.1 r1,RepT.clean h e.2 r2⟩
 |[],_::_,_,_,_,r=>by simp only[RepT]at r
 |_::_,[],_,_,_,r=>by simp only[RepT]at r
end
theorem RepE.frz(h:Same G G'):∀{es:Env}{vs:List (Option V)}{fp:List Addr},(∀p∈fp,∀u,H p=some u->G' p=some u)->RepE K G H es vs fp->RepE K G' H' (es.map PV.frz) vs []
 |[],_,_,_,r=>⟨r.1,rfl⟩
 |none::es,vs,fp,hk,r=>by
  obtain⟨y,ys,e,r⟩:=r;exact⟨y,ys,e,RepE.frz h hk r⟩
 |some r::es,vs,fp,hk,q=>by
  obtain⟨y,ys,e,v,a,b,e1,e2,r1,r2⟩:=q;subst e2;exact⟨y,ys,e,v,[],[],e1,rfl,fS.mpr ⟨r1.frozen h (fun p hp=>hk p (TC _ hp)),rfl⟩,RepE.frz h (fun p hp=>hk p (Tv _ hp)) r2⟩
theorem RepE.rep(h:Same G G'):∀{es:Env}{vs:List (Option V)}{fp:List Addr}{i:Nat}{r:R}{v:V},(∀p∈fp,∀u,H p=some u->G' p=some u)->RepE K G H es vs fp->es[i]?=some (some r)->vs[i]?=some (some v)->Rep K G' r.2 v:=fun{es vs fp i r v} hk q e ev=>by
 obtain⟨v',a,b,e1,r1,_,pm⟩:=q.take e;rw[ev]at e1;cases e1;exact r1.frozen h fun p hp=>hk p (pm.mem_iff.mpr (TC _ hp))
theorem Rel.lend(q:Rel K G H es vs fp):∃G1,Same G G1/\Same G1 H/\(∀(i:Nat) (r:R) (v:V),es[i]?=some (some r)->vs[i]?=some (some v)->Rep K G1 r.2 v)/\
  RepE K G1 H (es.map PV.frz) vs []/\
  ∀(H2 G2:Hp) (IL:List Addr) (r:R) (v:V),Step G1 H [] G2 H2 IL->Rel K G2 H2 [some r] [some v] IL->
   (aQ r.1 r.2=true->∃G3 JE,Step G H fp G3 H2 JE/\Rel K G3 H2 (some r::es) (some v::vs) JE)/\
   ∃G3 JE,Step G H fp G3 H2 JE/\Rel K G3 H2 (some r::es.map PV.frz) (some v::vs) JE:=by
 have hg:Same G (fun p=>if p∈fp then H p else G p):=fun p u e=>by
  show(if p∈fp then H p else G p)=some u;by_cases hp:p∈fp
  ·rw[TF hp];exact q.gh p u e
  ·rw[TJ hp];exact e
 have hh:Same (fun p=>if p∈fp then H p else G p) H:=fun p u e=>by
  have e:(if p∈fp then H p else G p)=some u:=e;by_cases hp:p∈fp
  ·rw[TF hp]at e;exact e
  ·rw[TJ hp]at e;exact q.gh p u e
 have hk:∀p∈fp,∀u,H p=some u->(fun p=>if p∈fp then H p else G p) p=some u:=fun p hp u e=>by
  show(if p∈fp then H p else G p)=some u;rw[TF hp];exact e
 refine⟨fun p=>if p∈fp then H p else G p,hg,hh,fun i r v e ev=>q.rep.rep hg hk e ev,q.rep.frz hg hk,fun H2 G2 IL r v st k=>?_⟩;obtain⟨y,ys,e0,v',a,b,e1,e2,r1,r2⟩:=k.rep;cases e0;cases e1;obtain⟨_,e3⟩:=r2;subst e3;rw[T7]at e2;subst e2;have fresh:∀p∈IL,H p=none:=fun p hp=>by
  rcases st.fpn p hp with z|z
  ·cases z
  ·exact z
 have kept:∀p∈fp,H2 p=H p:=fun p hp=>by
  obtain⟨u,hu⟩:=q.rep.live p hp;rw[hu];exact st.keep p u hu (by simp)
 refine⟨fun cl=>?_,⟨G2,IL,⟨hg.trans st.gg,fun p u e n=>st.keep p u e (by simp),fun p hp=>.inr (fresh p hp),fun p u e=>?_,st.there⟩,?_⟩⟩
 ·have apart:∀p∈IL,p∉fp:=fun p hp hf=>by
   obtain⟨u,hu⟩:=q.rep.live p hf;rw[fresh p hp]at hu;cases hu
  have g3:Same G (fun p=>if p∈fp then none else G2 p):=fun p u e=>by
   show(if p∈fp then none else G2 p)=some u;rw[TJ (fun z=>by rw[q.gn p z]at e;cases e)];exact st.gg p u (hg p u e)
  refine⟨fun p=>if p∈fp then none else G2 p,IL++fp,⟨g3,fun p u e n=>st.keep p u e (by simp),fun p hp=>?_,fun p u e=>?_,st.there⟩,⟨⟨some v,vs,rfl,v,IL,fp,rfl,rfl,r1.clean (fun p u t e=>?_) cl,q.rep.step g3 kept⟩,?_,fun p hp=>?_,fun p u e=>?_⟩⟩
  ·rcases Ue.mp hp with hp|hp
   ·exact .inr (fresh p hp)
   ·exact .inl hp
  ·have e:(if p∈fp then none else G2 p)=some u:=e;by_cases hp:p∈fp
   ·rw[TF hp]at e;cases e
   ·rw[TJ hp]at e;rcases st.gnew p u e with z|z|z
    ·have z:(if p∈fp then H p else G p)=some u:=z;rw[TJ hp]at z;exact .inl z
    ·cases z
    ·exact .inr (.inr z)
  ·show(if p∈fp then none else G2 p)=some u;by_cases hp:p∈fp
   ·exfalso;obtain⟨u',hu,hm⟩:=q.rep.mut p hp;have:=st.gg p u' (hk p hp u' hu);rw[e]at this;cases this;cases u with
    |lst _=>cases t
    |dK _=>cases t
    |dT _=>cases t
    |_=>cases hm
   ·rw[TJ hp];exact e
  ·rw[Ub];exact⟨k.nd,q.nd,fun p hp z hz e=>apart p hp (e▸hz)⟩
  ·show(if p∈fp then none else G2 p)=none;by_cases hf:p∈fp
   ·rw[TF hf]
   ·rw[TJ hf];rcases Ue.mp hp with hp|hp
    ·exact k.gn p hp
    ·exact absurd hp hf
  ·have e:(if p∈fp then none else G2 p)=some u:=e;by_cases hp:p∈fp
   ·rw[TF hp]at e;cases e
   ·rw[TJ hp]at e;exact k.gh p u e
 ·rcases st.gnew p u e with z|z|z
  ·have z:(if p∈fp then H p else G p)=some u:=z;by_cases hp:p∈fp
   ·exact .inr (.inl hp)
   ·rw[TJ hp]at z;exact .inl z
  ·cases z
  ·exact .inr (.inr z)
 ·refine⟨⟨some v,vs,rfl,v,IL,[],rfl,(T7 _).symm,r1,q.rep.frz (hg.trans st.gg) fun p hp u e=>st.gg p u (hk p hp u e)⟩,k.nd,k.gn,k.gh⟩
end
end PV
namespace PV
open PySem PySem.Spec PyProof.Rows L2 NX
def Res.bind{α β:Type}:Res α->(α->Res β)->Res β
 | .ok a,f=>f a
 | .exc c,_=>.exc c
 | .bad,_=>.bad
inductive BindOk{α β:Type}(x:Res α)(f:α->Res β)(b:β):Prop
 |mk (a:α) (h:x=.ok a) (k:f a=.ok b):BindOk x f b
theorem au{α β:Type}{x:Res α}{f:α->Res β}{b:β}(h:x.bind f=.ok b):BindOk x f b:=by
 cases x with
 |ok a=>exact⟨a,rfl,h⟩
 |exc c=>cases h
 |bad=>cases h
inductive Opd where
 |val (d:D)|var (i:Nat)
def OpdOk(K:W.Frag)(G:Hp)(σ:L2.St):Opd->V->Prop
 | .val d,v=>Rep K G d v
 | .var i,v=>σ[i]?=some (some v)
theorem OpdOk.mono{K:W.Frag}{G G':Hp}{σ:L2.St}{o:Opd}{v:V}(h:Same G G')(r:OpdOk K G σ o v):OpdOk K G' σ o v:=by
 cases o with
 |val d=>exact Rep.mono h r
 |var i=>exact r
def lC(K:W.Frag)(G:Hp)(σ:L2.St):List Opd->List V->Prop
 |[],vs=>vs=[]
 |o::os,vs=>∃y ys,vs=y::ys/\OpdOk K G σ o y/\lC K G σ os ys
def sV:O->Bool
 | .f=>true
 | .l .f=>true
 | .d=>true
 | .pin _ .f=>true
 | .pin _ (.l .f)=>true
 | .pin _ .d=>true
 |_=>false
def JC(env:PV.Env):Opd->Res D
 | .val d=>.ok d
 | .var i=>match env[i]? with
  |some (some r)=>if sV r.1 then .ok r.2 else .bad
  |_=>.bad
def sW(env:PV.Env):Opd->Res D
 | .val d=>.ok d
 | .var i=>match env[i]? with
  |some (some r)=>.ok r.2
  |_=>.bad
def m9(env:PV.Env):List Opd->Res (List D)
 |[]=>.ok []
 |o::os=>(JC env o).bind fun d=>(m9 env os).bind fun ds=>.ok (d::ds)
def iG(env:PV.Env):List Opd->Res (List D)
 |[]=>.ok []
 |o::os=>(sW env o).bind fun d=>(iG env os).bind fun ds=>.ok (d::ds)
def Vw(K:W.Frag)(G H:Hp):D->V->Prop
 | .lst ds,v=>∃p xs,v=.ref p/\SqL K H p xs/\Reps K G ds xs
 | .dct tk ks vs,v=>∃p xs o,v=.ref p/\Rd H p o/\DictO o tk ks xs/\Reps K G vs xs
 |d,v=>Rep K G d v
def Oc(K:W.Frag)(G H:Hp):List D->List V->Prop
 |[],vs=>vs=[]
 |d::ds,vs=>∃y ys,vs=y::ys/\Vw K G H d y/\Oc K G H ds ys
section
variable{K:W.Frag}{G G' H H':Hp}{es:PV.Env}{σ:L2.St}{fp:List Addr}
theorem Vw.of{d:D}{v:V}(gh:Same G H)(r:Rep K G d v):Vw K G H d v:=by
 cases d with
 |lst ds=>
  rw[Rep]at r;obtain⟨p,xs,e,q,rs⟩:=r;exact⟨p,xs,e,gJ gh q,rs⟩
 |dct tk ks vs=>
  rw[Rep]at r;obtain⟨p,xs,o,e,q,dd,rs⟩:=r;exact⟨p,xs,o,e,PV.Rd.mono gh q,dd,rs⟩
 |_=>exact r
theorem Vw.rep{d:D}{v:V}(gh:Same G H)(r:Vw K G H d v):Rep K H d v:=by
 cases d with
 |lst ds=>
  obtain⟨p,xs,e,q,rs⟩:=r;rw[Rep];exact⟨p,xs,e,q,rs.mono gh⟩
 |dct tk ks vs=>
  obtain⟨p,xs,o,e,q,dd,rs⟩:=r;rw[Rep];exact⟨p,xs,o,e,q,dd,rs.mono gh⟩
 |non=>exact Rep.mono gh r
 |bl b=>exact Rep.mono gh r
 |int i=>exact Rep.mono gh r
 |str l=>exact Rep.mono gh r
 |tup ds=>exact Rep.mono gh r
theorem RepO.vw0{o:O}{d:D}{v:V}{a:List Addr}(gh:Same G H)(hs:o=.f\/o=.l .f\/o=.d)(r:RepO K G H o d v a):Vw K G H d v:=by
 rcases hs with rfl|rfl|rfl
 ·exact Vw.of gh (fS.mp r).1
 ·cases d with
  |lst ds=>
   obtain⟨p,xs,e,q,_,rs⟩:=ka.mp r;exact⟨p,xs,e,SqL.of q,rs⟩
  |_=>simp only[RepO]at r
 ·cases d with
  |dct tk ks vs=>
   rw[RepO]at r;obtain⟨p,xs,o,e,q,dd,_,rs⟩:=r;exact⟨p,xs,o,e,.inl q,dd,rs⟩
  |_=>simp only[RepO]at r
theorem RepO.vw{o:O}{d:D}{v:V}{a:List Addr}(gh:Same G H)(hs:sV o=true)(r:RepO K G H o d v a):Vw K G H d v:=by
 unfold sV at hs;split at hs
 ·exact r.vw0 gh (.inl rfl)
 ·exact r.vw0 gh (.inr (.inl rfl))
 ·exact r.vw0 gh (.inr (.inr rfl))
 ·rw[RepO]at r;exact r.2.vw0 gh (.inl rfl)
 ·rw[RepO]at r;exact r.2.vw0 gh (.inr (.inl rfl))
 ·rw[RepO]at r;exact r.2.vw0 gh (.inr (.inr rfl))
 ·cases hs
theorem Rel.vw{o:Opd}{v:V}{d:D}(q:Rel K G H es σ fp)(k:OpdOk K G σ o v)(e:JC es o=.ok d):Vw K G H d v:=by
 cases o with
 |val d'=>
  cases e;exact Vw.of q.gh k
 |var i=>
  unfold JC at e;dsimp only at e;split at e
  ·rename_i r hr;split at e
   ·rename_i hs;cases e;obtain⟨v',a,b,ev,r1,_⟩:=q.rep.take hr;have k:σ[i]?=some (some v):=k;rw[k]at ev;cases ev;exact r1.vw q.gh hs
   ·cases e
  ·cases e
theorem Rel.vwA{o:Opd}{v:V}{d:D}(q:Rel K G H es σ fp)(k:OpdOk K G σ o v)(e:sW es o=.ok d):Rep K H d v:=by
 cases o with
 |val d'=>
  cases e;exact Rep.mono q.gh k
 |var i=>
  unfold sW at e;dsimp only at e;split at e
  ·rename_i r hr;cases e;obtain⟨v',ev,r1⟩:=q.view hr;have k:σ[i]?=some (some v):=k;rw[k]at ev;cases ev;exact r1
  ·cases e
theorem Rel.vws(q:Rel K G H es σ fp):∀{os:List Opd}{vs:List V}{ds:List D},lC K G σ os vs->m9 es os=.ok ds->Oc K G H ds vs
 |[],_,_,k,e=>by
  cases e;exact k
 |o::os,_,_,⟨y,ys,e0,k1,k2⟩,e=>by
  unfold m9 at e;obtain⟨d,e1,e⟩:=au e;obtain⟨ds,e2,e⟩:=au e;cases e;exact⟨y,ys,e0,q.vw k1 e1,Rel.vws q k2 e2⟩
theorem iH{G1:Hp}(gg:Same G G1)(ht:∀(i:Nat) (r:R) (v:V),es[i]?=some (some r)->σ[i]?=some (some v)->Rep K G1 r.2 v):∀{os:List Opd}{vs:List V}{ds:List D},lC K G σ os vs->iG es os=.ok ds->Reps K G1 ds vs
 |[],_,_,k,e=>by
  cases e;have k:_=_:=k;rw[k];exact Reps.nil
 |o::os,_,_,⟨y,ys,e0,k1,k2⟩,e=>by
  unfold iG at e;obtain⟨d,e1,e⟩:=au e;obtain⟨ds,e2,e⟩:=au e;cases e;rw[e0];refine .cons ?_ (iH gg ht k2 e2);cases o with
  |val d'=>
   cases e1;exact Rep.mono gg k1
  |var i=>
   unfold sW at e1;dsimp only at e1;split at e1
   ·rename_i r hr;cases e1;exact ht i r y hr k1
   ·cases e1
end
abbrev FX:=PV.Env->Res (R×PV.Env)
abbrev FO:=PV.Env->Res (Opd×PV.Env)
abbrev FOs:=PV.Env->Res (List Opd×PV.Env)
abbrev FT:=PV.Env->Res (Bool×PV.Env)
inductive Out where
 |nx (env:PV.Env)|rt (r:R)|bk (env:PV.Env)|ct (env:PV.Env)
abbrev FS:=PV.Env->Res Out
inductive tQ(K:W.Frag)(f:FX)(σ:L2.St)(H:Hp)(Q:VK):Prop
 |mk:∀G env fp r env',Rel K G H env σ fp->f env=.ok (r,env')->(∀v H' G' Ie,Step G H fp G' H' Ie->Rel K G' H' (some r::env') (some v::σ) Ie->Q v H')->tQ K f σ H Q
inductive tO(K:W.Frag)(f:FO)(σ:L2.St)(H:Hp)(Q:VK):Prop
 |mk:∀G env fp o env',Rel K G H env σ fp->f env=.ok (o,env')->(∀v H' G' Ie,Step G H fp G' H' Ie->Rel K G' H' env' σ Ie->OpdOk K G' σ o v->Q v H')->tO K f σ H Q
inductive tOs(K:W.Frag)(f:FOs)(σ:L2.St)(H:Hp)(Q:List V->Hp->Prop):Prop
 |mk:∀G env fp o env',Rel K G H env σ fp->f env=.ok (o,env')->(∀v H' G' Ie,Step G H fp G' H' Ie->Rel K G' H' env' σ Ie->lC K G' σ o v->Q v H')->tOs K f σ H Q
inductive tQT(K:W.Frag)(f:FT)(σ:L2.St)(H:Hp)(Q:Bool->Hp->Prop):Prop
 |mk:∀G env fp b env',Rel K G H env σ fp->f env=.ok (b,env')->(∀H' G' Ie,Step G H fp G' H' Ie->Rel K G' H' env' σ Ie->Q b H')->tQT K f σ H Q
inductive Mode where
 |plain|mut
def GD(md:Mode)(K:W.Frag)(G H:Hp)(r:R)(v:V)(fp:List Addr):Prop:=match md with
 | .plain=>Rel K G H [some r] [some v] fp
 | .mut=>∃o d p c d0,r=(.t [o,.pin p c],.tup [d,d0])/\Rel K G H [some (o,d),some (.pin p c,d0)] [some v,some (.ref p)] fp
noncomputable def OutOk{md:Mode}(K:W.Frag)(G H:Hp)(fp:List Addr)(Dd:Ends):Res Out->Prop
 | .ok (.nx env')=>∀σ' H' G' Ie,Step G H fp G' H' Ie->Rel K G' H' env' σ' Ie->Dd.nx σ' H'
 | .ok (.bk env')=>∀σ' H' G' Ie,Step G H fp G' H' Ie->Rel K G' H' env' σ' Ie->Dd.bk σ' H'
 | .ok (.ct env')=>∀σ' H' G' Ie,Step G H fp G' H' Ie->Rel K G' H' env' σ' Ie->Dd.ct σ' H'
 | .ok (.rt r)=>∀v H' G' Ie,Step G H fp G' H' Ie->GD md K G' H' r v Ie->Dd.rt v H'
 |_=>False
inductive tQS{md:Mode}(K:W.Frag)(g:FS)(Dd:Ends)(σ:L2.St)(H:Hp):Prop
 |mk:∀G env fp,Rel K G H env σ fp->OutOk (md:=md) K G H fp Dd (g env)->tQS (md:=md) K g Dd σ H
def QE(X:Cx)(e:Expr)(f:FX):Prop:=PE X e (tQ X.K f)
def QO(X:Cx)(e:Expr)(f:FO):Prop:=PE X e (tO X.K f)
def Lq(X:Cx)(es:List Expr)(f:FOs):Prop:=PA X es (tOs X.K f)
def QT(X:Cx)(e:Expr)(f:FT):Prop:=PT X e (tQT X.K f)
def QW(X:Cx)(e:Expr)(f:FT):Prop:=PW X e (tQT X.K f)
def QS{md:Mode}(X:Cx)(st:Stmt)(g:FS):Prop:=PS X st (tQS (md:=md) X.K g)
def L9{md:Mode}(X:Cx)(st:List Stmt)(g:FS):Prop:=PSs X st (tQS (md:=md) X.K g)
theorem bE{X:Cx}{e:Expr}{t t':TE}(h:PE X e t)(k:∀σ H Q,t' σ H Q->t σ H Q):PE X e t':=fun pr s σ H Q I w=>h pr s σ H Q I (k σ H Q w)
theorem qM{X:Cx}{e:Expr}{t t':TT}(h:PT X e t)(k:∀σ H Q,t' σ H Q->t σ H Q):PT X e t':=fun pr s σ H Q I w=>h pr s σ H Q I (k σ H Q w)
theorem yT{X:Cx}{e:Expr}{t t':TT}(h:PW X e t)(k:∀σ H Q,t' σ H Q->t σ H Q):PW X e t':=fun wh pr s σ H Q I w=>h wh pr s σ H Q I (k σ H Q w)
theorem qN{X:Cx}{e:List Expr}{t t':TA}(h:PA X e t)(k:∀σ H Q,t' σ H Q->t σ H Q):PA X e t':=fun pos pr s σ H Q I w=>h pos pr s σ H Q I (k σ H Q w)
theorem eL{X:Cx}{e:Stmt}{t t':TS}(h:PS X e t)(k:∀D σ H,t' D σ H->t D σ H):PS X e t':=fun pr s σ H D I w=>h pr s σ H D I (k D σ H w)
theorem uR{X:Cx}{e:List Stmt}{t t':TS}(h:PSs X e t)(k:∀D σ H,t' D σ H->t D σ H):PSs X e t':=fun pr s σ H D I w=>h pr s σ H D I (k D σ H w)
theorem OutOk.imp{md:Mode}{K:W.Frag}{G H G1 H1:Hp}{fp IA:List Addr}{Dd P8:Ends}{r:Res Out}(st:Step G H fp G1 H1 IA)(h:OutOk (md:=md) K G H fp Dd r)(n:∀σ H,Dd.nx σ H->P8.nx σ H)(b:∀σ H,Dd.bk σ H->P8.bk σ H)(c:∀σ H,Dd.ct σ H->P8.ct σ H)(t:∀v H,Dd.rt v H->P8.rt v H):OutOk (md:=md) K G1 H1 IA P8 r:=by
 match r,h with
 | .ok (.nx env'),h=>exact fun σ' H' G' Ie s q=>n _ _ (h σ' H' G' Ie (st.trans s) q)
 | .ok (.bk env'),h=>exact fun σ' H' G' Ie s q=>b _ _ (h σ' H' G' Ie (st.trans s) q)
 | .ok (.ct env'),h=>exact fun σ' H' G' Ie s q=>c _ _ (h σ' H' G' Ie (st.trans s) q)
 | .ok (.rt r),h=>exact fun v H' G' Ie s q=>t _ _ (h v H' G' Ie (st.trans s) q)
theorem OutOk.after{md:Mode}{K:W.Frag}{G H G1 H1:Hp}{fp IA:List Addr}{Dd:Ends}{r:Res Out}(st:Step G H fp G1 H1 IA)(h:OutOk (md:=md) K G H fp Dd r):OutOk (md:=md) K G1 H1 IA Dd r:=h.imp st (fun _ _ z=>z) (fun _ _ z=>z) (fun _ _ z=>z) fun _ _ z=>z
def aF(d:D):FX:=fun env=>.ok ((.f,d),env)
def fz:O->O
 | .pin p .f=>.pin p .f
 |_=>.f
def aR(i:Nat):FX:=fun env=>match env[i]? with
 |some (some r)=>.ok ((.f,r.2),env.set i (some (fz r.1,r.2)))
 |_=>.bad
def nY(i:Nat):FX:=fun env=>match env[i]? with
 |some (some r)=>.ok (r,env.set i none)
 |_=>.bad
def aq(f:FX):FO:=fun env=>(f env).bind fun p=>.ok (.val p.1.2,p.2)
def aw(i:Nat):FO:=fun env=>match env[i]? with
 |some (some _)=>.ok (.var i,env)
 |_=>.bad
def aG:FOs:=fun env=>.ok ([],env)
def ag(f:FO)(g:FOs):FOs:=fun env=>(f env).bind fun p=>(g p.2).bind fun q=>.ok (p.1::q.1,q.2)
section
variable{X:Cx}
theorem qO{e:Expr}{v:V}{d:D}(h:PE X e (tC v))(r:∀G,Rep X.K G d v):QE X e (aF d):=bE h fun σ H Q Ip=>by
 obtain⟨G,env,fp,rr,env',rel,e,k⟩:=Ip;cases e;exact k v H G fp .refl (rel.push (r G))
theorem ah{i j pos}:QE X (.Constant (.int i) j pos) (aF (.int i)):=qO B9 fun G=>by rw[Rep]
theorem As{i j pos}:QE X (.Constant (.bool i) j pos) (aF (.bl i)):=qO EW fun G=>by rw[Rep]
theorem d5{j pos}:QE X (.Constant .none j pos) (aF .non):=qO Ca fun G=>by rw[Rep]
theorem gZ{x j pos}{l:List Nat}(h:x=S l)(hl:l.length<=1000):QE X (.Constant (.str x) j pos) (aF (.str l)):=qO Cb fun G=>by
 rw[Rep,h];exact⟨rfl,by rw[line_eq];lia⟩
theorem aD{i:Nat}{e:Expr}(h:PE X e (ud i)):QE X e (aR i):=bE h fun σ H Q Ip=>by
 obtain⟨G,env,fp,rr,env',rel,e,k⟩:=Ip;unfold aR at e;split at e
 ·rename_i r hr;cases e;by_cases hf:fz r.1=.f
  ·obtain⟨v,G',fq,ev,rv,II,st⟩:=rel.freezeAt hr;rw[hf]at k;exact⟨v,ev,k v H G' fq st (II.push rv)⟩
  ·have hp:∃p,r.1=.pin p .f:=by
    unfold fz at hf;split at hf
    ·rename_i p hp;exact⟨p,hp⟩
    ·exact absurd rfl hf
   obtain⟨p,hp⟩:=hp;obtain⟨v,a,b,ev,r1,_,_⟩:=rel.rep.take hr;rw[hp,RepO]at r1;have es:env.set i (some (fz r.1,r.2))=env:=by
    refine mr ?_;rw[hr,hp];show some (some r)=some (some (.pin p .f,r.2));rw[<-hp]
   rw[es]at k;exact⟨v,ev,k v H G fp .refl (rel.push (fS.mp r1.2).1)⟩
 ·cases e
theorem kc{i:Nat}{e:Expr}(h:PE X e (ud i)):QE X e (nY i):=bE h fun σ H Q Ip=>by
 obtain⟨G,env,fp,rr,env',rel,e,k⟩:=Ip;unfold nY at e;split at e
 ·rename_i r hr;cases e;obtain⟨v,fq,ev,II,st,_⟩:=rel.out hr;exact⟨v,ev,k v H G fq st II⟩
 ·cases e
theorem aa{e:Expr}{f:FX}(h:QE X e f):QO X e (aq f):=bE h fun σ H Q Ip=>by
 obtain⟨G,env,fp,o,env',rel,e,k⟩:=Ip;obtain⟨⟨r,H0⟩,e1,e⟩:=au e;cases e;refine⟨G,env,fp,r,H0,rel,e1,fun v H' G' Ie st II=>?_⟩;obtain⟨G2,b,rv,Ia,Ii⟩:=II.freeze;exact k v H' G2 b (st.trans Ii) Ia rv
theorem ae{i:Nat}{e:Expr}(h:PE X e (ud i)):QO X e (aw i):=bE h fun σ H Q Ip=>by
 obtain⟨G,env,fp,o,env',rel,e,k⟩:=Ip;unfold aw at e;split at e
 ·rename_i r hr;cases e;obtain⟨v,ev,_⟩:=rel.view hr;exact⟨v,ev,k v H G fp .refl rel ev⟩
 ·cases e
theorem ax:Lq X [] aG:=qN nu fun σ H Q Ip=>by
 obtain⟨G,env,fp,o,env',rel,e,k⟩:=Ip;cases e;exact k [] H G fp .refl rel rfl
theorem af{e:Expr}{es:List Expr}{f:FO}{g:FOs}(h:QO X e f)(hs:Lq X es g)(L1:starEach (e::es) X.env=(false,eval e X.env)::starEach es X.env:=by rfl):Lq X (e::es) (ag f g):=
 qN (fQ h hs L1) fun σ H Q Ip=>by
  obtain⟨G,env,fp,o,env',rel,e,k⟩:=Ip;obtain⟨⟨o1,H0⟩,e1,e⟩:=au e;obtain⟨⟨os,Il⟩,e2,e⟩:=au e;cases e;exact⟨G,env,fp,o1,H0,rel,e1,fun v H1 G1 IA Iu Ib Jv=>⟨G1,H0,IA,os,Il,Ib,e2,fun vs H2 G2 IL Ii Ia Ma=>k _ H2 G2 IL (Iu.trans Ii) Ia ⟨v,vs,rfl,Jv.mono Ii.gg,Ma⟩⟩⟩
def aA(g:D->D->Res R)(fa fb:FO):FX:=fun env=>(fa env).bind fun p=>(fb p.2).bind fun q=>(JC q.2 p.1).bind fun a=>(JC q.2 q.1).bind fun b=>(g a b).bind fun r=>.ok (r,q.2)
def cj(g:D->D->Res R)(fa fb:FO):FX:=fun env=>(fa env).bind fun p=>(fb p.2).bind fun q=>(sW q.2 p.1).bind fun a=>(sW q.2 q.1).bind fun b=>(g a b).bind fun r=>.ok (r,q.2)
structure Goes(K:W.Frag)(H:Hp)(G:Hp)(fp:List Addr)(es:PV.Env)(vs:L2.St)(r:R)(Q:VK):Prop where
 rel:Rel K G H es vs fp
 i4:∀v H' G' Ie,Step G H fp G' H' Ie->Rel K G' H' (some r::es) (some v::vs) Ie->Q v H'
inductive rG(K:W.Frag)(g:D->D->Res R)(x:V)(y:V)(H:Hp)(Q:VK):Prop
 |mk:∀G fp es vs a b r,Goes K H G fp es vs r Q->Vw K G H a x->Vw K G H b y->g a b=.ok r->rG K g x y H Q
inductive rGA(K:W.Frag)(g:D->D->Res R)(x:V)(y:V)(H:Hp)(Q:VK):Prop
 |mk:∀G fp es vs a b r,Goes K H G fp es vs r Q->Rep K H a x->Rep K H b y->g a b=.ok r->rGA K g x y H Q
variable{a b c:Expr}{fa fb fc:FO}{pos:Pos}{g g':D->D->Res R}
theorem qP{σ:L2.St}{H:Hp}{Q:VK}(h:tQ X.K (aA g fa fb) σ H Q):Pp (rG X.K g) (tO X.K fa) (tO X.K fb) σ H Q:=by
 obtain⟨G,env,fp,r,env',rel,e,k⟩:=h;obtain⟨⟨oa,e1⟩,ha,e⟩:=au e;obtain⟨⟨ob,e2⟩,hb,e⟩:=au e;obtain⟨da,Nj,e⟩:=au e;obtain⟨db,Kl,e⟩:=au e;obtain⟨r',hr,e⟩:=au e;cases e;exact⟨G,env,fp,oa,e1,rel,ha,fun x H1 G1 IA Iu Ib Jv=>⟨G1,e1,IA,ob,e2,Ib,hb,fun y H2 G2 IL Ii Ia Ma=>
  ⟨G2,IL,e2,σ,da,db,r,⟨Ia,fun v H' G' Ie st II=>k v H' G' Ie (Iu.trans (Ii.trans st)) II⟩,Ia.vw (Jv.mono Ii.gg) Nj,Ia.vw Ma Kl,hr⟩⟩⟩
theorem uS{σ:L2.St}{H:Hp}{Q:VK}(h:tQ X.K (cj g fa fb) σ H Q):Pp (rGA X.K g) (tO X.K fa) (tO X.K fb) σ H Q:=by
 obtain⟨G,env,fp,r,env',rel,e,k⟩:=h;obtain⟨⟨oa,e1⟩,ha,e⟩:=au e;obtain⟨⟨ob,e2⟩,hb,e⟩:=au e;obtain⟨da,Nj,e⟩:=au e;obtain⟨db,Kl,e⟩:=au e;obtain⟨r',hr,e⟩:=au e;cases e;exact⟨G,env,fp,oa,e1,rel,ha,fun x H1 G1 IA Iu Ib Jv=>⟨G1,e1,IA,ob,e2,Ib,hb,fun y H2 G2 IL Ii Ia Ma=>
  ⟨G2,IL,e2,σ,da,db,r,⟨Ia,fun v H' G' Ie st II=>k v H' G' Ie (Iu.trans (Ii.trans st)) II⟩,Ia.vwA (Jv.mono Ii.gg) Nj,Ia.vwA Ma Kl,hr⟩⟩⟩
theorem aI{op:Operator}(ho:IZ X (binaryOp op) (rG X.K g))(ha:QO X a fa)(hb:QO X b fb):QE X (.BinOp a op b pos) (aA g fa fb):=bE (Fc ho ha hb) fun _ _ _=>qP
theorem CZ{op:CmpOp}(ho:IZ X (compareOp op) (rG X.K g))(ha:QO X a fa)(hb:QO X b fb)(hm:behindInMarks op b=false):QE X (.Compare a [op] [b] pos) (aA g fa fb):=bE (ur ho ha hb hm) fun _ _ _=>qP
theorem pK{op:CmpOp}(ho:IZ X (compareOp op) (rGA X.K g))(ha:QO X a fa)(hb:QO X b fb)(hm:behindInMarks op b=false):QE X (.Compare a [op] [b] pos) (cj g fa fb):=bE (ur ho ha hb hm) fun _ _ _=>uS
def IU(f:FX):FT:=fun env=>(f env).bind fun p=>match p.1.2 with
 | .bl k=>.ok (k,p.2)
 |_=>.bad
theorem Au{f:FX}{σ:L2.St}{H:Hp}{Q:Bool->Hp->Prop}(h:tQT X.K (IU f) σ H Q):tQ X.K f σ H fun x H'=>∃k,x=.bl k/\Q k H':=by
 obtain⟨G,env,fp,k,env',rel,e,q⟩:=h;obtain⟨⟨⟨o,d⟩,H0⟩,e1,e⟩:=au e;dsimp only at e;split at e
 ·cases e;refine⟨G,env,fp,_,_,rel,e1,fun v H' G' Ie st II=>?_⟩;have hv:=II.top;rw[show((o,D.bl k):R).2=D.bl k from rfl,Rep]at hv;obtain⟨b,Ia,Ii⟩:=II.drop;exact⟨k,hv,q H' G' b (st.trans Ii) Ia⟩
 ·cases e
theorem lD{e:Expr}{f:FX}(h:QE X e f)(he:∀whole,isTrue e X.env whole=(do let v <-whole;standAt e.pos;holding [v] (truthy v)):=by intro _;rfl):QT X e (IU f):=qM (Cc h he) fun _ _ _=>Au
theorem jw{op:CmpOp}(ho:IZ X (compareOp op) (rG X.K g))(ha:QO X a fa)(hb:QO X b fb)(hm:behindInMarks op b=false):QT X (.Compare a [op] [b] pos) (IU (aA g fa fb)):=
 qM (uu ho ha hb hm) fun _ _ _ h=>qP (Au h)
theorem a7{op:CmpOp}(ho:IZ X (compareOp op) (rGA X.K g))(ha:QO X a fa)(hb:QO X b fb)(hm:behindInMarks op b=false):QT X (.Compare a [op] [b] pos) (IU (cj g fa fb)):=
 qM (uu ho ha hb hm) fun _ _ _ h=>uS (Au h)
def yU(f g:FT):FT:=fun env=>(f env).bind fun p=>if p.1 then g p.2 else .ok (false,p.2)
def OG(f g:FT):FT:=fun env=>(f env).bind fun p=>if p.1 then .ok (true,p.2) else g p.2
def Av(f:FT):FT:=fun env=>(f env).bind fun p=>.ok (!p.1,p.2)
variable{ga gb:FT}{eC:List Expr}
theorem jb(h:QT X a ga):QW X (.BoolOp .And [a] pos) ga:=zy h
theorem yV(h:QT X a ga):QW X (.BoolOp .Or [a] pos) ga:=Cd h
theorem lE(h:QT X a ga)(h2:QW X (.BoolOp .And (b::eC) pos) gb):QW X (.BoolOp .And (a::b::eC) pos) (yU ga gb):=yT (Ce h h2) fun σ H Q Ip=>by
 obtain⟨G,env,fp,k,env',rel,e,q⟩:=Ip;obtain⟨⟨k1,H0⟩,e1,e⟩:=au e;refine⟨G,env,fp,k1,H0,rel,e1,fun H1 G1 IA Iu Ib=>?_⟩;dsimp only at e;cases k1 with
 |true=>exact⟨G1,H0,IA,k,env',Ib,e,fun H2 G2 IL Ii Ia=>q H2 G2 IL (Iu.trans Ii) Ia⟩
 |false=>
  cases e;exact q H1 G1 IA Iu Ib
theorem uT(h:QT X a ga)(h2:QW X (.BoolOp .Or (b::eC) pos) gb):QW X (.BoolOp .Or (a::b::eC) pos) (OG ga gb):=yT (EX h h2) fun σ H Q Ip=>by
 obtain⟨G,env,fp,k,env',rel,e,q⟩:=Ip;obtain⟨⟨k1,H0⟩,e1,e⟩:=au e;refine⟨G,env,fp,k1,H0,rel,e1,fun H1 G1 IA Iu Ib=>?_⟩;dsimp only at e;cases k1 with
 |false=>exact⟨G1,H0,IA,k,env',Ib,e,fun H2 G2 IL Ii Ia=>q H2 G2 IL (Iu.trans Ii) Ia⟩
 |true=>
  cases e;exact q H1 G1 IA Iu Ib
theorem QW.qt{e:Expr}{f:FT}(h:QW X e f):QT X e f:=h.pt
theorem nZ(h:QT X a ga):QT X (.UnaryOp .Not a pos) (Av ga):=qM (Cf h) fun σ H Q Ip=>by
 obtain⟨G,env,fp,k,env',rel,e,q⟩:=Ip;obtain⟨⟨k1,H0⟩,e1,e⟩:=au e;cases e;exact⟨G,env,fp,k1,H0,rel,e1,fun H1 G1 IA Iu Ib=>q H1 G1 IA Iu Ib⟩
def FD(f g:FX):FX:=fun env=>(f env).bind fun p=>match p.1.2 with
 | .bl true=>g p.2
 | .bl false=>.ok ((.f,.bl false),p.2)
 |_=>.bad
def eOr(f g:FX):FX:=fun env=>(f env).bind fun p=>match p.1.2 with
 | .bl true=>.ok ((.f,.bl true),p.2)
 | .bl false=>g p.2
 |_=>.bad
def HV(f:FX):FX:=fun env=>(f env).bind fun p=>match p.1.2 with
 | .bl k=>.ok ((.f,.bl (!k)),p.2)
 |_=>.bad
def eIf(c:FT)(f g:FX):FX:=fun env=>(c env).bind fun p=>if p.1 then f p.2 else g p.2
variable{ea eb:FX}
theorem C0{op}(h:QE X a ea):QE X (.BoolOp op [a] pos) ea:=Cg h
theorem cK{K:W.Frag}{G:Hp}(k:Bool):Rep K G (.bl k) (.bl k):=by rw[Rep]
theorem bM{K:W.Frag}{G:Hp}(k:Int):Rep K G (.int k) (.int k):=by rw[Rep]
theorem mw{K:W.Frag}{G:Hp}:Rep K G .non .non:=by rw[Rep]
theorem hZ{K:W.Frag}{G:Hp}{l:List Nat}(h:l.length<=sizeLine):Rep K G (.str l) (.str (S l)):=by
 rw[Rep];exact⟨rfl,h⟩
theorem c7{K:W.Frag}{G:Hp}{k:Bool}{v:V}(h:Rep K G (.bl k) v):v=.bl k:=by rw[Rep]at h;exact h
theorem bH{K:W.Frag}{G:Hp}{k:Int}{v:V}(h:Rep K G (.int k) v):v=.int k:=by rw[Rep]at h;exact h
theorem cp{K:W.Frag}{G:Hp}{v:V}(h:Rep K G .non v):v=.non:=by rw[Rep]at h;exact h
theorem bA{K:W.Frag}{G:Hp}{l:List Nat}{v:V}(h:Rep K G (.str l) v):v=.str (S l)/\l.length<=sizeLine:=by rw[Rep]at h;exact h
inductive OfT(K:W.Frag)(G:Hp)(l:List D)(v:V):Prop
 |mk (p:Addr) (xs:List V) (e:v=.ref p) (q:SqT K G p xs) (r:Reps K G l xs):OfT K G l v
inductive OfL(K:W.Frag)(G:Hp)(l:List D)(v:V):Prop
 |mk (p:Addr) (xs:List V) (e:v=.ref p) (q:SqL K G p xs) (r:Reps K G l xs):OfL K G l v
theorem bB{K:W.Frag}{G:Hp}{l:List D}{v:V}(h:Rep K G (.tup l) v):OfT K G l v:=by
 rw[Rep]at h;obtain⟨p,xs,e,q,r⟩:=h;exact⟨p,xs,e,SqT.of q,r⟩
theorem uU{K:W.Frag}{G:Hp}{l:List D}{v:V}(h:Rep K G (.tup l) v):∃p xs,v=.ref p/\G p=some (.tup xs)/\Reps K G l xs:=by rw[Rep]at h;exact h
theorem bI{K:W.Frag}{G:Hp}{l:List D}{v:V}(h:Rep K G (.lst l) v):OfL K G l v:=by
 rw[Rep]at h;obtain⟨p,xs,e,q,r⟩:=h;exact⟨p,xs,e,q,r⟩
theorem br{K:W.Frag}{G H:Hp}{k:Int}{v:V}(h:Vw K G H (.int k) v):v=.int k:=bH (K:=K) (G:=G) h
theorem fF{K:W.Frag}{G H:Hp}{l:List Nat}{v:V}(h:Vw K G H (.str l) v):v=.str (S l)/\l.length<=sizeLine:=bA (K:=K) (G:=G) h
theorem g0{K:W.Frag}{G H:Hp}{l:List D}{v:V}(h:Vw K G H (.tup l) v):OfT K G l v:=bB (K:=K) (G:=G) h
theorem C1(h:QE X a ea)(h2:QE X (.BoolOp .And (b::eC) pos) eb):QE X (.BoolOp .And (a::b::eC) pos) (FD ea eb):=bE (Ci h h2) fun σ H Q Ip=>by
 obtain⟨G,env,fp,r,env',rel,e,q⟩:=Ip;obtain⟨⟨⟨o,d⟩,H0⟩,e1,e⟩:=au e;refine⟨G,env,fp,_,H0,rel,e1,fun v H1 G1 IA Iu Ib=>?_⟩;have hv:=Ib.top;obtain⟨b',Ia,Ii⟩:=Ib.drop;dsimp only at e hv;split at e
 ·exact⟨true,c7 hv,EL ⟨G1,H0,b',r,env',Ia,e,fun v H2 G2 IL IK IH=>q v H2 G2 IL (Iu.trans (Ii.trans IK)) IH⟩⟩
 ·cases e;exact⟨false,c7 hv,iteF (q _ H1 G1 b' (Iu.trans Ii) (Ia.push (cK _)))⟩
 ·cases e
noncomputable def GF(g g':D->D->Res R)(fa fb fc:FO):FX:=fun env=>(fa env).bind fun p=>(fb p.2).bind fun q=>(JC q.2 p.1).bind fun a=>(JC q.2 q.1).bind fun b=>(g a b).bind fun r=>match r with
 |(.f,.bl true)=>(fc q.2).bind fun t=>(JC t.2 q.1).bind fun b=>(JC t.2 t.1).bind fun c=>(g' b c).bind fun r=>.ok (r,t.2)
 |(.f,.bl false)=>.ok ((.f,.bl false),q.2)
 |_=>.bad
inductive rC(K:W.Frag)(g:List D->Res R)(xs:List V)(H:Hp)(Q:VK):Prop
 |mk:∀G fp es vs ds r,Goes K H G fp es vs r Q->Oc K G H ds xs->g ds=.ok r->rC K g xs H Q
def aX(g:List D->Res R)(fs:FOs):FX:=fun env=>(fs env).bind fun p=>(m9 p.2 p.1).bind fun ds=>(g ds).bind fun r=>.ok (r,p.2)
theorem pL{gg:List D->Res R}{fs:FOs}{σ:L2.St}{H:Hp}{Q:VK}(h:tQ X.K (aX gg fs) σ H Q):RC (rC X.K gg) (tOs X.K fs) σ H Q:=by
 obtain⟨G,env,fp,r,env',rel,e,k⟩:=h;obtain⟨⟨os,e1⟩,ha,e⟩:=au e;obtain⟨ds,hd,e⟩:=au e;obtain⟨r',hr,e⟩:=au e;cases e;exact⟨G,env,fp,os,e1,rel,ha,fun vs H1 G1 IA Iu Ib Jv=>⟨G1,IA,e1,σ,ds,r,⟨Ib,fun v H' G' Ie st II=>k v H' G' Ie (Iu.trans st) II⟩,Ib.vws Jv hd,hr⟩⟩
variable{x:Str}{p:Pos}{e:Expr}{es:List Expr}{gg:List D->Res R}{fs:FOs}{id T:String}
theorem a8(hc:dJ X (.builtin id) (rC X.K gg))(hg:Gl X x)(hm:X.mg x=none)(hv:bootBuiltins x=some (.builtin id))(ha:Lq X (e::es) fs)(hn:x≠"__name__":=by decide)(Kl:(x==("__debug__" : Str))=false:=by decide)
  (he:starEach (e::es) X.env=(false,eval e X.env)::starEach es X.env:=by rfl) (JJ:(backTo pos (starEach es X.env)).any (·.1)=false:=by rfl):QE X (.Call (.Name x p) (e::es) [] pos) (aX gg fs):=
 bE (qB hc hg hm hv ha hn Kl he JJ) fun _ _ _=>pL
theorem bo(hc:dJ X (.type T) (rC X.K gg))(hg:Gl X x)(hm:X.mg x=none)(hv:bootBuiltins x=some (.type T))(ha:Lq X (e::es) fs)(hn:x≠"__name__":=by decide)(Kl:(x==("__debug__" : Str))=false:=by decide)
  (he:starEach (e::es) X.env=(false,eval e X.env)::starEach es X.env:=by rfl) (JJ:(backTo pos (starEach es X.env)).any (·.1)=false:=by rfl):QE X (.Call (.Name x p) (e::es) [] pos) (aX gg fs):=
 bE (ux hc hg hm hv ha hn Kl he JJ) fun _ _ _=>pL
inductive spF(K:W.Frag)(F:List D->Res R)(vs:List V)(H:Hp)(Q:VK)(zz:XK):Prop
 |mk:∀G ds r,Same G H->Reps K G ds vs->F ds=.ok r->(∀v H' G' Ie,Step G H [] G' H' Ie->Rel K G' H' [some r] [some v] Ie->Q v H')->spF K F vs H Q zz
def dM(F:List D->Res R)(fs:FOs):FX:=fun env=>(fs env).bind fun p=>(iG p.2 p.1).bind fun ds=>(F ds).bind fun r=>.ok (r,if aQ r.1 r.2 then p.2 else p.2.map frz)
theorem aZ{F:List D->Res R}{k:Nat}(C:Ct X.prog X.w X.K X.mg X.base x k (spF X.K F))(hr:Room k X.A)(hg:Gl X x)(ha:Lq X (e::es) fs)(Kl:(x==("__debug__" : Str))=false:=by decide)
  (he:starEach (e::es) X.env=(false,eval e X.env)::starEach es X.env:=by rfl) (JJ:(backTo pos (starEach es X.env)).any (·.1)=false:=by rfl):QE X (.Call (.Name x p) (e::es) [] pos) (dM F fs):=
 bE (z5 C hr hg ha Kl he JJ) fun σ H Q Ip=>by
  obtain⟨G,env,fp,r,env',rel,e,k⟩:=Ip;obtain⟨⟨os,e1⟩,ha,e⟩:=au e;obtain⟨ds,hd,e⟩:=au e;obtain⟨r',hr,e⟩:=au e;refine⟨G,env,fp,os,e1,rel,ha,fun vs H1 G1 IA Iu Ib Jv=>?_⟩;show spF X.K F (vs++[]) H1 Q _;rw[T7];obtain⟨G2,Nk,OH,Kp,_,Kw⟩:=Ib.lend;refine⟨G2,ds,r',OH,iH Nk Kp Jv hd,hr,fun v H' G' Ie st II=>?_⟩;obtain⟨k1,k2⟩:=Kw H' G' Ie r' v st II;by_cases hc:aQ r'.1 r'.2=true
  ·rw[TF hc]at e;cases e;obtain⟨G3,JE,IK,IH⟩:=k1 hc;exact k v H' G3 JE (Iu.trans IK) IH
  ·rw[TJ hc]at e;cases e;obtain⟨G3,JE,IK,IH⟩:=k2;exact k v H' G3 JE (Iu.trans IK) IH
end
def sSeq(g1 g2:FS):FS:=fun env=>(g1 env).bind fun o=>match o with
 | .nx e=>g2 e
 |o=>.ok o
def cu:FS:=fun env=>.ok (.nx env)
def uV:FS:=fun _=>.bad
def b5(i:Nat)(f:FX):FS:=fun env=>(f env).bind fun p=>if i<p.2.length then .ok (.nx (p.2.set i (some p.1))) else .bad
def jc(f:FX):FS:=fun env=>(f env).bind fun p=>.ok (.nx p.2)
def eY(f:FX):FS:=fun env=>(f env).bind fun p=>.ok (.rt p.1)
def Jt(c:FT)(g h:FS):FS:=fun env=>(c env).bind fun p=>if p.1 then g p.2 else h p.2
section
variable{md:Mode}{X:Cx}{st:Stmt}{SI:List Stmt}{g h:FS}{f:FX}{c:FT}{pos:Pos}{e:Expr}
theorem bh:L9 (md:=md) X [] cu:=uR zH fun D σ H ⟨G,env,fp,rel,k⟩=>k σ H G fp .refl rel
theorem aB(a:QS (md:=md) X st g):L9 (md:=md) X [st] g:=zI a
theorem ao(a:QS (md:=md) X st g)(b:L9 (md:=md) X SI h):L9 (md:=md) X (st::SI) (sSeq g h):=uR (w9 a b) fun D σ H Ip=>by
 obtain⟨G,env,fp,rel,k⟩:=Ip;refine⟨G,env,fp,rel,?_⟩;have k:OutOk X.K G H fp D ((g env).bind fun o=>match o with | .nx e=>h e|o=>.ok o):=k;match q:g env,k with
 | .ok (.nx H0),k=>exact fun σ1 H1 G1 IA Iu Ib=>⟨G1,H0,IA,Ib,OutOk.after Iu k⟩
 | .ok (.bk H0),k=>exact k
 | .ok (.ct H0),k=>exact k
 | .ok (.rt r),k=>exact k
theorem qQ:QS (md:=md) X st uV:=eL xa fun D σ H ⟨G,env,fp,rel,k⟩=>k
theorem uW{K:W.Frag}{G H:Hp}{fp:List Addr}{D:Ends}{i:Nat}{env:PV.Env}{σ:L2.St}(rel:Rel K G H env σ fp)(k:OutOk (md:=md) K G H fp D (b5 i f env)):tQ K f σ H fun v H'=>D.nx (σ.set i (some v)) H':=by
 unfold b5 at k;match q:f env,k with
 | .ok (r,H0),k=>
  have k:OutOk K G H fp D (if i<H0.length then .ok (.nx (H0.set i (some r))) else .bad):=k;by_cases hi:i<H0.length
  ·rw[TF hi]at k;refine⟨G,env,fp,r,H0,rel,q,fun v H1 G1 IA Iu Ib=>?_⟩;obtain⟨fq,Ia,Ii⟩:=Ib.store hi;exact k _ H1 G1 fq (Iu.trans Ii) Ia
  ·rw[TJ hi]at k;exact k.elim
theorem aK{i:Nat}{x:Str}{pos':Pos}(hN:X.N.Nodup)(hi:X.N[i]?=some x)(hx:Loc X.env.scope x)(he:QE X e f)(hs:swapsWith e (some (.Name x pos')) pos.line X.env=pure false:=by rfl)(hf:X.fn x=true\/X.env.scope.names.lookup x=some .local:=by first|exact .inl rfl|exact .inr rfl|assumption):
  QS (md:=md) X (.Assign [.Name x pos'] e pos) (b5 i f):=eL (Cp (i:=i) hN hi hx he hs hf) fun D σ H ⟨G,env,fp,rel,k⟩=>uW rel k
theorem eZ(he:QE X e f)(hs:swapsWith e none pos.line X.env=pure false:=by rfl):QS (md:=md) X (.Expr e pos) (jc f):=eL (zJ he hs) fun D σ H Ip=>by
 obtain⟨G,env,fp,rel,k⟩:=Ip;unfold jc at k;match q:f env,k with
 | .ok (r,H0),k=>
  refine⟨G,env,fp,r,H0,rel,q,fun v H1 G1 IA Iu Ib=>?_⟩;obtain⟨b,Ia,Ii⟩:=Ib.drop;exact k _ H1 G1 b (Iu.trans Ii) Ia
theorem Rel.only{K:W.Frag}{G H:Hp}{r:R}{v:V}{es:PV.Env}{vs:L2.St}{fp:List Addr}(q:Rel K G H (some r::es) (some v::vs) fp):∃a,Rel K G H [some r] [some v] a/\Step G H fp G H a:=by
 obtain⟨y,ys,e,v',a,b,e1,e2,r1,r2⟩:=q.rep;cases e;cases e1;subst e2;have nd:=Ub.mp q.nd;exact⟨a,⟨⟨some v,[],rfl,v,a,[],rfl,(T7 _).symm,r1,rfl,rfl⟩,nd.1,fun p hp=>q.gn p (TC _ hp),q.gh⟩,Step.cut fun p hp=>TC _ hp⟩
theorem bu(he:QE X e f):QS (md:=.plain) X (.Return (some e) pos) (eY f):=eL (yG he) fun D σ H Ip=>by
 obtain⟨G,env,fp,rel,k⟩:=Ip;unfold eY at k;match q:f env,k with
 | .ok (r,H0),k=>
  refine⟨G,env,fp,r,H0,rel,q,fun v H1 G1 IA Iu Ib=>?_⟩;obtain⟨b,Ia,Ii⟩:=Ib.only;exact k _ H1 G1 b (Iu.trans Ii) Ia
theorem Rel.nilF{K:W.Frag}{G H:Hp}{es:PV.Env}{vs:L2.St}{fp:List Addr}(q:Rel K G H es vs fp):Rel K G H [] [] []:=⟨⟨rfl,rfl⟩,Vm,(fun _ h=>nomatch h),q.gh⟩
theorem c8{a b:List Stmt}{ct:Expr}(hc:QT X ct c)(ha:L9 (md:=md) X a g)(hb:L9 (md:=md) X b h):QS (md:=md) X (.If ct a b pos) (Jt c g h):=eL (E5 hc ha hb) fun D σ H Ip=>by
 obtain⟨G,env,fp,rel,k⟩:=Ip;unfold Jt at k;match q:c env,k with
 | .ok (true,H0),k=>exact⟨G,env,fp,true,H0,rel,q,fun H1 G1 IA Iu Ib=>EL ⟨G1,H0,IA,Ib,OutOk.after Iu k⟩⟩
 | .ok (false,H0),k=>exact⟨G,env,fp,false,H0,rel,q,fun H1 G1 IA Iu Ib=>iteF ⟨G1,H0,IA,Ib,OutOk.after Iu k⟩⟩
def dt(c:FT)(g:FS):Nat->FS
 | 0,_=>.bad
 |n+1,env=>(c env).bind fun p=>if p.1 then(g p.2).bind fun o=>match o with
  | .nx e=>dt c g n e
  | .ct e=>dt c g n e
  | .bk e=>.ok (.nx e)
  | .rt r=>.ok (.rt r)
  else .ok (.nx p.2)
theorem qR{ct:Expr}{body:List Stmt}(n:Nat)(hp:PassesOwn (model X.prog X.w) X.A X.env X.xe)(hc:QT X ct c)(hb:L9 (md:=md) X body g):QS (md:=md) X (.While ct body [] pos) (dt c g n):=
 eL (xc hp hc hb) fun D σ H Ip=>by
  obtain⟨G,env,fp,rel,k⟩:=Ip;refine⟨fun m σ' H'=>∃G' env' Ie,Rel X.K G' H' env' σ' Ie/\OutOk X.K G' H' Ie D (dt c g m env'),⟨n,G,env,fp,rel,k⟩,?_⟩;rintro m σ1 H1 ⟨G1,H0,IA,Ib,k1⟩;cases m with
  |zero=>exact k1.elim
  |succ m=>
   unfold dt at k1;match q:c H0,k1 with
   | .ok (false,Il),k1=>exact⟨G1,H0,IA,false,Il,Ib,q,fun H2 G2 IL Ii Ia=>iteF (k1 _ H2 G2 IL Ii Ia)⟩
   | .ok (true,Il),k1=>
    refine⟨G1,H0,IA,true,Il,Ib,q,fun H2 G2 IL Ii Ia=>EL ?_⟩;refine⟨fun σ' H'=>∃G' env' Ie,Rel X.K G' H' env' σ' Ie/\OutOk X.K G' H' Ie D (dt c g m env'),fun σ' H' z=>⟨m,VA _,z⟩,G2,Il,IL,Ia,?_⟩;have k2:OutOk X.K G1 H1 IA D ((g Il).bind fun o=>match o with | .nx e=>dt c g m e | .ct e=>dt c g m e | .bk e=>.ok (.nx e) | .rt r=>.ok (.rt r)):=k1;match q2:g Il,k2 with
    | .ok (.nx e),k2=>exact fun σ' H' G' Ie st rel=>⟨G',e,Ie,rel,OutOk.after (Ii.trans st) k2⟩
    | .ok (.ct e),k2=>exact fun σ' H' G' Ie st rel=>⟨G',e,Ie,rel,OutOk.after (Ii.trans st) k2⟩
    | .ok (.bk e),k2=>exact fun σ' H' G' Ie st rel=>k2 σ' H' G' Ie (Ii.trans st) rel
    | .ok (.rt r),k2=>exact fun v H' G' Ie st rel=>k2 v H' G' Ie (Ii.trans st) rel
def Walk(K:W.Frag)(G:Hp)(J:It)(ds:List D):Prop:=∀G' H' es vs fp,Same G G'->Rel K G' H' es vs fp->∀i:Nat,
 (∀d,ds[i]?=some d->J.go i H'/\∀x H2,J.yld i H' x H2->∃G2,Rep K G2 d x/\Rel K G2 H2 es vs fp/\Step G' H' fp G2 H2 fp)/\(i=ds.length->J.stop i H')
abbrev FI:=PV.Env->Res (List D×PV.Env)
inductive tQI(K:W.Frag)(f:FI)(σ:L2.St)(H:Hp)(R:It->Hp->Prop):Prop
 |mk:∀G env fp ds env',Rel K G H env σ fp->f env=.ok (ds,env')->(∀J H' G' Ie,Step G H fp G' H' Ie->Rel K G' H' env' σ Ie->Walk K G' J ds->R J H')->tQI K f σ H R
def QI(X:Cx)(tg e:Expr)(f:FI):Prop:=PI X tg e (tQI X.K f)
theorem iI{X:Cx}{tg e:Expr}{t t':TI}(h:PI X tg e t)(k:∀σ H R,t' σ H R->t σ H R):PI X tg e t':=fun pr s σ H R I w=>h pr s σ H R I (k σ H R w)
abbrev FG:=D->PV.Env->Res PV.Env
inductive tQG(K:W.Frag)(a:FG)(v:V)(σ:L2.St)(H:Hp)(Q:L2.St->Hp->Prop):Prop
 |mk:∀G env fp d env',Rel K G H env σ fp->Rep K G d v->a d env=.ok env'->(∀σ' G' Ie,Step G H fp G' H Ie->Rel K G' H env' σ' Ie->Q σ' H)->tQG K a v σ H Q
def QG(X:Cx)(tg:Expr)(a:FG):Prop:=PG X tg (tQG X.K a)
def aH(i:Nat):FG:=fun d env=>if i<env.length then .ok (env.set i (some (.f,d))) else .bad
theorem yW{X:Cx}{tg:Expr}{t t':TG}(h:PG X tg t)(k:∀v σ H Q,t' v σ H Q->t v σ H Q):PG X tg t':=fun pr s σ H v u Q I r w=>h pr s σ H v u Q I r (k v σ H Q w)
theorem uX{X:Cx}{tg:List Expr}{t t':N6}(h:Ol X tg t)(k:∀v σ H Q,t' v σ H Q->t v σ H Q):Ol X tg t':=fun pr s σ H v u Q I r w=>h pr s σ H v u Q I r (k v σ H Q w)
theorem aN{i:Nat}{x:Str}(hN:X.N.Nodup)(hi:X.N[i]?=some x)(hx:Loc X.env.scope x)(hf:X.fn x=true\/X.env.scope.names.lookup x=some .local:=by first|exact .inl rfl|exact .inr rfl|assumption):QG X (.Name x pos) (aH i):=
 yW (zL (i:=i) hN hi hx hf) fun v σ H Q Ip=>by
  obtain⟨G,env,fp,d,env',rel,r,e,k⟩:=Ip;unfold aH at e;split at e
  ·rename_i hl;cases e;obtain⟨fq,Ia,Ii⟩:=(rel.push r).store hl;exact k _ G fq Ii Ia
  ·cases e
abbrev Nl:=List D->PV.Env->Res PV.Env
inductive tQGs(K:W.Frag)(a:Nl)(vs:List V)(σ:L2.St)(H:Hp)(Q:L2.St->Hp->Prop):Prop
 |mk:∀G env fp ds env',Rel K G H env σ fp->Reps K G ds vs->a ds env=.ok env'->(∀σ' G' Ie,Step G H fp G' H Ie->Rel K G' H env' σ' Ie->Q σ' H)->tQGs K a vs σ H Q
def Q7(X:Cx)(tg:List Expr)(a:Nl):Prop:=Ol X tg (tQGs X.K a)
def fT:Nl:=fun ds env=>match ds with
 |[]=>.ok env
 |_=>.bad
def bg(a:FG)(b:Nl):Nl:=fun ds env=>match ds with
 |d::ds=>(a d env).bind fun e=>b ds e
 |_=>.bad
theorem ia:Q7 X [] fT:=uX zM fun vs σ H Q Ip=>by
 obtain⟨G,env,fp,ds,env',rel,r,e,k⟩:=Ip;cases ds with
 |nil=>
  cases e;rw[Reps]at r;exact⟨r,k σ G fp .refl rel⟩
 |cons d ds=>cases e
theorem bK{tg:Expr}{Mb:List Expr}{a:FG}{b:Nl}(h1:QG X tg a)(h2:Q7 X Mb b)(hs:(assignEach (tg::Mb) X.env).map (·.2)=assign tg X.env::(assignEach Mb X.env).map (·.2):=by rfl):Q7 X (tg::Mb) (bg a b):=
 uX (xb h1 h2 hs) fun vs σ H Q Ip=>by
  obtain⟨G,env,fp,ds,env',rel,r,e,k⟩:=Ip;cases ds with
  |nil=>cases e
  |cons d ds=>
   rw[Reps]at r;obtain⟨y,ys,ev,r1,r2⟩:=r;obtain⟨H0,e1,e2⟩:=au e;exact⟨y,ys,ev,G,env,fp,d,H0,rel,r1,e1,fun σ1 G1 IA Iu Ib=>⟨G1,H0,IA,ds,env',Ib,r2.mono Iu.gg,e2,fun σ2 G2 IL Ii Ia=>k σ2 G2 IL (Iu.trans Ii) Ia⟩⟩
def ng(n:Nat)(a:Nl):FG:=fun d env=>match d with
 | .tup ds=>if ds.length=n then a ds env else .bad
 |_=>.bad
theorem ke{Mb:List Expr}{k n:Nat}{a:Nl}(hc:X.calm=true)(h:Q7 X Mb a)(hn:(assignEach Mb X.env).length=n:=by rfl)(L1:(assignEach Mb X.env).findIdx? (·.1)=none:=by rfl):QG X (.Tuple Mb k pos) (ng n a):=
 yW (Cn hc h hn L1) fun v σ H Q Ip=>by
  obtain⟨G,env,fp,d,env',rel,r,e,k⟩:=Ip;unfold ng at e;split at e
  ·rename_i ds;split at e
   ·rename_i hl;obtain⟨p,xs,ev,sq,rs⟩:=bB r;exact⟨p,xs,ev,bP rel.gh sq,rs.length.trans hl,G,env,fp,ds,env',rel,rs,e,k⟩
   ·cases e
  ·cases e
def d6(a:FG)(g:FS):List D->FS
 |[],env=>.ok (.nx env)
 |d::ds,env=>(a d env).bind fun e=>(g e).bind fun o=>match o with
  | .nx e=>d6 a g ds e
  | .ct e=>d6 a g ds e
  | .bk e=>.ok (.nx e)
  | .rt r=>.ok (.rt r)
def pM(f:FI)(a:FG)(g:FS):FS:=fun env=>(f env).bind fun p=>d6 a g p.1 p.2
theorem fG{tg iter:Expr}{body:List Stmt}{fi:FI}{a:FG}(hp:PassesOwn (model X.prog X.w) X.A X.env X.xe)(hc:X.calm=true)(hi:QI X tg iter fi)(hg:QG X tg a)(hb:L9 (md:=md) X body g)(hs:∀x,foldedSetIterable iter X.env x=pure x:=by intro _;rfl):QS (md:=md) X (.For tg iter body [] pos) (pM fi a g):=
 eL (yH hp hc hi hg hb hs) fun D σ H Ip=>by
  obtain⟨G,env,fp,rel,k⟩:=Ip;unfold pM at k;match q:fi env,k with
  | .ok (ds,H0),k=>
   refine⟨G,env,fp,ds,H0,rel,q,fun J H1 G1 IA Iu Ib wk=>?_⟩;have k:OutOk X.K G H fp D (d6 a g ds H0):=k;refine⟨fun i m σ' H'=>m=ds.length-i/\i<=ds.length/\∃G' env' Ie,Same G1 G'/\Rel X.K G' H' env' σ' Ie/\OutOk X.K G' H' Ie D (d6 a g (ds.drop i) env'),⟨_,rfl,Ug _,G1,H0,IA,.refl _,Ib,OutOk.after Iu k⟩,?_⟩;rintro i m σ2 H2 ⟨rfl,hi,G2,Il,IL,gg,Ia,k2⟩;obtain⟨w1,w2⟩:=wk G2 H2 _ _ _ gg Ia i;by_cases IQ:i<ds.length
   ·have hd:ds[i]?=some ds[i]:=List.getElem?_eq_getElem IQ;obtain⟨go,yl⟩:=w1 _ hd;rw[UZ IQ]at k2;refine .inr ⟨go,fun σ' H'=>∃G' env' Ie,Same G1 G'/\Rel X.K G' H' env' σ' Ie/\OutOk X.K G' H' Ie D (d6 a g (ds.drop (i+1)) env'),fun σ' H' z=>⟨ds.length-(i+1),by lia,rfl,IQ,z⟩,fun x H3 y=>?_⟩;obtain⟨G3,rx,IH,IK⟩:=yl x H3 y;unfold d6 at k2;match q3:a ds[i] Il,k2 with
    | .ok IX,k2=>
     refine⟨G3,Il,IL,ds[i],IX,IH,rx,q3,fun σ4 G4 OI JB Jk=>⟨G4,IX,OI,Jk,?_⟩⟩;have k3:OutOk X.K G2 H2 IL D ((g IX).bind fun o=>match o with | .nx e=>d6 a g (ds.drop (i+1)) e | .ct e=>d6 a g (ds.drop (i+1)) e | .bk e=>.ok (.nx e) | .rt r=>.ok (.rt r)):=k2;match q4:g IX,k3 with
     | .ok (.nx e),k3=>exact fun σ' H' G' Ie st rel=>⟨G',e,Ie,gg.trans (IK.gg.trans (JB.gg.trans st.gg)),rel,OutOk.after (IK.trans (JB.trans st)) k3⟩
     | .ok (.ct e),k3=>exact fun σ' H' G' Ie st rel=>⟨G',e,Ie,gg.trans (IK.gg.trans (JB.gg.trans st.gg)),rel,OutOk.after (IK.trans (JB.trans st)) k3⟩
     | .ok (.bk e),k3=>exact fun σ' H' G' Ie st rel=>k3 σ' H' G' Ie (IK.trans (JB.trans st)) rel
     | .ok (.rt r),k3=>exact fun v H' G' Ie st rel=>k3 v H' G' Ie (IK.trans (JB.trans st)) rel
   ·have e:i=ds.length:=by lia
    subst e;rw[W6]at k2;exact .inl ⟨w2 rfl,k2 σ2 H2 G2 IL .refl Ia⟩
def C2(f:FX):FI:=fun env=>(f env).bind fun p=>match p.1.2 with
 | .lst ds=>.ok (ds,p.2)
 |_=>.bad
def iJ(f:FX):FI:=fun env=>(f env).bind fun p=>match p.1.2 with
 | .tup ds=>.ok (ds,p.2)
 |_=>.bad
variable{tg l:Expr}
theorem og{K:W.Frag}{G:Hp}{a:Addr}{xs:List V}{ds:List D}(sq:SqL K G a xs)(rs:Reps K G ds xs):Walk K G (Po K a) ds:=by
 intro G' H' es vs fp gg rel i;have JN:SqL K H' a xs:=gJ rel.gh (gJ gg sq);refine⟨fun d hd=>?_,fun e=>⟨xs,JN,by rw[rs.length];lia⟩⟩;obtain⟨x,hx,rx⟩:=rs.get hd;refine⟨⟨xs,x,JN,hx⟩,fun y H2 ⟨e,hy⟩=>?_⟩;subst e;have:=hy xs JN;rw[hx]at this;cases this;exact⟨G',Rep.mono gg rx,rel,.refl⟩
theorem xC{K:W.Frag}{G:Hp}{a:Addr}{xs:List V}{ds:List D}(sq:SqT K G a xs)(rs:Reps K G ds xs):Walk K G (Rx K a) ds:=by
 intro G' H' es vs fp gg rel i;have JN:SqT K H' a xs:=bP rel.gh (bP gg sq);refine⟨fun d hd=>?_,fun e=>⟨xs,JN,by rw[rs.length];lia⟩⟩;obtain⟨x,hx,rx⟩:=rs.get hd;refine⟨⟨xs,x,JN,hx⟩,fun y H2 ⟨e,hy⟩=>?_⟩;subst e;have:=hy xs JN;rw[hx]at this;cases this;exact⟨G',Rep.mono gg rx,rel,.refl⟩
theorem Aw(h:QE X l f):QI X tg l (C2 f):=iI (uf h) fun σ H R Ip=>by
 obtain⟨G,env,fp,ds,env',rel,e,k⟩:=Ip;obtain⟨⟨⟨o,d⟩,H0⟩,e1,e⟩:=au e;dsimp only at e;split at e
 ·cases e;refine⟨G,env,fp,_,_,rel,e1,fun v H1 G1 IA Iu Ib=>?_⟩;obtain⟨G2,b,rv,Ia,Ii⟩:=Ib.freeze;obtain⟨p,xs,ev,sq,rs⟩:=bI rv;exact⟨p,ev,⟨xs,gJ Ia.gh sq⟩,k _ H1 G2 b (Iu.trans Ii) Ia (og sq rs)⟩
 ·cases e
theorem kg(h:QE X l f):QI X tg l (iJ f):=iI (Cr h) fun σ H R Ip=>by
 obtain⟨G,env,fp,ds,env',rel,e,k⟩:=Ip;obtain⟨⟨⟨o,d⟩,H0⟩,e1,e⟩:=au e;dsimp only at e;split at e
 ·cases e;refine⟨G,env,fp,_,_,rel,e1,fun v H1 G1 IA Iu Ib=>?_⟩;obtain⟨G2,b,rv,Ia,Ii⟩:=Ib.freeze;obtain⟨p,xs,ev,sq,rs⟩:=bB rv;exact⟨p,ev,⟨xs,bP Ia.gh sq⟩,k _ H1 G2 b (Iu.trans Ii) Ia (xC sq rs)⟩
 ·cases e
def iK(f:FX):FI:=fun env=>(f env).bind fun p=>match p.1.2 with
 | .str l=>.ok (l.map fun c=>.str [c],p.2)
 |_=>.bad
theorem kh(h:QE X l f):QI X tg l (iK f):=iI (CN h) fun σ H R Ip=>by
 obtain⟨G,env,fp,ds,env',rel,e,k⟩:=Ip;obtain⟨⟨⟨o,d⟩,H0⟩,e1,e⟩:=au e;dsimp only at e;split at e
 ·rename_i cs;cases e;refine⟨G,env,fp,_,_,rel,e1,fun v H1 G1 IA Iu Ib=>?_⟩;obtain⟨G2,b,rv,Ia,Ii⟩:=Ib.freeze;obtain⟨ev,hl⟩:=bA rv;refine⟨cs,ev,k _ H1 G2 b (Iu.trans Ii) Ia fun G' H' es vs Ie gg II i=>⟨fun d hd=>?_,fun e=>?_⟩⟩
  ·rw[List.getElem?_map]at hd;cases hc:cs[i]? with
   |none=>rw[hc]at hd;cases hd
   |some c=>
    rw[hc]at hd;cases hd;refine⟨(List.getElem?_eq_some_iff.mp hc).1,fun x H2 ⟨e1,e2⟩=>?_⟩;subst e1;refine⟨G',?_,II,.refl⟩;rw[e2];show Rep X.K G' (.str [c]) (.str (S [cs.getD i 0]));rw[List.getD_eq_getElem?_getD,hc];exact hZ (by rw[line_eq];simp)
  ·rw[Tt]at e;exact e
 ·cases e
def c9(f:FO):FI:=fun env=>(f env).bind fun p=>(JC p.2 p.1).bind fun d=>match d with
 | .int j=>if -4611686018427387904<=j/\j<4611686018427387904 then .ok ((List.range j.toNat).map fun(k:Nat)=>D.int (k:Int),p.2) else .bad
 |_=>.bad
theorem lF{K:W.Frag}{G:Hp}(lo:Int)(n:Nat):Walk K G (PL lo n) ((List.range n).map fun(k:Nat)=>D.int (lo+(k:Int))):=by
 intro G' H' es vs fp gg rel i;refine⟨fun d hd=>?_,fun e=>?_⟩
 ·rw[List.getElem?_map]at hd;cases hc:(List.range n)[i]? with
  |none=>rw[hc]at hd;cases hd
  |some c=>
   rw[hc]at hd;cases hd;obtain⟨h1,h2⟩:=List.getElem?_eq_some_iff.mp hc;rw[T3]at h1;rw[WK]at h2;subst h2;refine⟨h1,fun x H2 ⟨e1,e2⟩=>?_⟩;subst e1;exact⟨G',by rw[e2];exact bM _,rel,.refl⟩
 ·rw[Tt,T3]at e;exact Yv e.symm
theorem du{a:Expr}{fa:FO}{p pos:Pos}(hg:Gl X "range")(hm:X.mg "range" = none)(ha:QO X a fa)(hs:starEach [a] X.env=[(false,eval a X.env)]:=by rfl):QI X tg (.Call (.Name "range" p) [a] [] pos) (c9 fa):=
 iI (ug hg hm (af ha ax hs) hs) fun σ H R Ip=>by
  obtain⟨G,env,fp,ds,env',rel,e,k⟩:=Ip;obtain⟨⟨o,H0⟩,e1,e⟩:=au e;obtain⟨d,e2,e⟩:=au e;dsimp only at e;split at e
  ·rename_i j;split at e
   ·rename_i hj;cases e;refine⟨G,env,fp,[o],_,rel,by show(fa env).bind _=_;rw[e1];rfl,fun vs H1 G1 IA Iu Ib Jv=>?_⟩;obtain⟨y,ys,ev,k1,k2⟩:=Jv;have k2:ys=[]:=k2;subst k2;have hv:=br (Ib.vw k1 e2);subst hv;refine⟨j,ev,by lia,by lia,k _ H1 G1 IA Iu Ib ?_⟩;have w:=lF (K:=X.K) (G:=G1) 0 j.toNat
    simpa using w
   ·cases e
  ·cases e
noncomputable def pN(fs:FOs):FI:=fun env=>(fs env).bind fun p=>(m9 p.2 p.1).bind fun d=>match d with
 |[.int i,.int j]=>if(-4611686018427387904<=i/\i<4611686018427387904)/\-4611686018427387904<=j/\j<4611686018427387904 then .ok ((List.range (j-i).toNat).map fun(k:Nat)=>D.int (i+(k:Int)),p.2) else .bad
 |_=>.bad
theorem uY{a b:Expr}{fs:FOs}{p pos:Pos}(hg:Gl X "range")(hm:X.mg "range" = none)(ha:Lq X [a,b] fs)(hs:starEach [a,b] X.env=[(false,eval a X.env),(false,eval b X.env)]:=by rfl)(L3:starEach [b] X.env=[(false,eval b X.env)]:=by rfl):
  QI X tg (.Call (.Name "range" p) [a,b] [] pos) (pN fs):=
 iI (uh hg hm ha hs L3) fun σ H R Ip=>by
  obtain⟨G,env,fp,ds,env',rel,e,k⟩:=Ip;obtain⟨⟨o,H0⟩,e1,e⟩:=au e;obtain⟨d,e2,e⟩:=au e;dsimp only at e;split at e
  ·rename_i i j;split at e
   ·rename_i hj;cases e;refine⟨G,env,fp,o,_,rel,e1,fun vs H1 G1 IA Iu Ib Jv=>?_⟩;obtain⟨y,ys,ev,v1,z,zs,P9,v2,e3⟩:=Ib.vws Jv e2;have e3:zs=[]:=e3;subst e3;have h1:=br v1;have h2:=br v2;subst h1;subst h2;subst P9;exact⟨i,j,ev,⟨by lia,by lia,by lia,by lia⟩,k _ H1 G1 IA Iu Ib (lF i _)⟩
   ·cases e
  ·cases e
def jd(k:Bool):D->Res (List D)
 | .lst ds=>if k then .ok ds else .bad
 | .tup ds=>if k then .bad else .ok ds
 |_=>.bad
def sX(k1 k2:Bool)(fs:FOs):FI:=fun env=>(fs env).bind fun p=>match p.1 with
 |[.val d1,.val d2]=>(jd k1 d1).bind fun a=>(jd k2 d2).bind fun b=>.ok ((a.zip b).map fun z=>D.tup [z.1,z.2],p.2)
 |_=>.bad
theorem qS{K:W.Frag}{G:Hp}{k:Bool}{d:D}{ds:List D}{v:V}(e:jd k d=.ok ds)(r:Rep K G d v):∃p xs,v=.ref p/\(if k then SqL K G p xs else SqT K G p xs)/\Reps K G ds xs:=by
 cases d with
 |lst es=>
  cases k with
  |true=>
   cases e;obtain⟨p,xs,e1,q,rs⟩:=bI r;exact⟨p,xs,e1,q,rs⟩
  |false=>cases e
 |tup es=>
  cases k with
  |true=>cases e
  |false=>
   cases e;obtain⟨p,xs,e1,q,rs⟩:=bB r;exact⟨p,xs,e1,q,rs⟩
 |_=>cases e
theorem mx{K:W.Frag}{G G':Hp}{k:Bool}{p:Addr}{xs:List V}(h:Same G G')(r:if k then SqL K G p xs else SqT K G p xs):if k then SqL K G' p xs else SqT K G' p xs:=by
 cases k with
 |true=>exact gJ h r
 |false=>exact bP h r
theorem xD{K:W.Frag}{G:Hp}{k1 k2:Bool}{p1 p2:Addr}{xs ys:List V}{as bs:List D}(s1:if k1 then SqL K G p1 xs else SqT K G p1 xs)(s2:if k2 then SqL K G p2 ys else SqT K G p2 ys)(r1:Reps K G as xs)(r2:Reps K G bs ys):
  Walk K G (RK K k1 k2 p1 p2) ((as.zip bs).map fun z=>D.tup [z.1,z.2]):=by
 intro G' H' es vs fp gg rel i;have g1:=mx (gg.trans rel.gh) s1;have g2:=mx (gg.trans rel.gh) s2;refine⟨fun d hd=>?_,fun e=>⟨xs,ys,g1,g2,?_⟩⟩
 ·rw[List.getElem?_map]at hd;cases hz:(as.zip bs)[i]? with
  |none=>rw[hz]at hd;cases hd
  |some z=>
   rw[hz]at hd;cases hd;obtain⟨h1,h2⟩:=List.getElem?_zip_eq_some.mp hz;obtain⟨x,hx,rx⟩:=r1.get h1;obtain⟨y,hy,ry⟩:=r2.get h2;refine⟨⟨xs,ys,x,y,g1,g2,hx,hy⟩,fun v H2 ⟨T,hT,ev,hh⟩=>?_⟩;have e2:=hh xs ys x y g1 g2 hx hy;subst e2;obtain⟨Ia,Ii⟩:=rel.newF (u:=.tup [x,y]) hT;refine⟨_,?_,Ia,Ii⟩;rw[Rep];exact⟨T,[x,y],ev,aV,.cons (Rep.mono (gg.trans Ii.gg) rx) (.one (Rep.mono (gg.trans Ii.gg) ry))⟩
 ·rw[Tt,V1]at e;rw[r1.length,r2.length];exact e
theorem qT(k1 k2:Bool){Mb:List Expr}{kt:Nat}{pt:Pos}{e1 e2:Expr}{fs:FOs}{p pos:Pos}(hg:Gl X "zip")(hm:X.mg "zip" = none)(ha:Lq X [e1,e2] fs)(he:starEach [e1,e2] X.env=(false,eval e1 X.env)::starEach [e2] X.env:=by rfl)(JJ:(backTo pos (starEach [e2] X.env)).any (·.1)=false:=by rfl):
  QI X (.Tuple Mb kt pt) (.Call (.Name "zip" p) [e1,e2] [] pos) (sX k1 k2 fs):=
 iI (CS k1 k2 hg hm ha he JJ) fun σ H R Ip=>by
  obtain⟨G,env,fp,ds,env',rel,e,k⟩:=Ip;obtain⟨⟨o,H0⟩,e1,e⟩:=au e;dsimp only at e;split at e
  ·rename_i d1 d2;obtain⟨a,ea,e⟩:=au e;obtain⟨b,eb,e⟩:=au e;cases e;refine⟨G,env,fp,_,_,rel,e1,fun vs H1 G1 IA Iu Ib Jv=>?_⟩;obtain⟨y,ys,ev,v1,z,zs,P9,v2,e3⟩:=Jv;have e3:zs=[]:=e3;subst e3;obtain⟨p1,xs1,ep1,q1,r1⟩:=qS ea v1;obtain⟨p2,Px,ep2,q2,r2⟩:=qS eb v2;subst ep1;subst ep2;subst P9;exact⟨p1,p2,xs1,Px,ev,mx Ib.gh q1,mx Ib.gh q2,k _ H1 G1 IA Iu Ib (xD q1 q2 r1 r2)⟩
  ·cases e
end
def fBody(np nn:Nat)(g:FS):List D->Res R:=fun ds=>if ds.length=np then(g (ds.map (fun d=>some (O.f,d))++List.replicate nn none)).bind fun o=>match o with
 | .rt r=>.ok r
 | .nx _=>.ok (.f,.non)
 |_=>.bad
 else .bad
theorem fU{K:W.Frag}{G H:Hp}(n:Nat):∀{ds:List D}{vs:List V},Reps K G ds vs->RepE K G H (ds.map (fun d=>some (O.f,d))++List.replicate n none) (vs.map some++List.replicate n none) []
 |[],vs,r=>by
  rw[Reps]at r;subst r;show RepE K G H (List.replicate n none) (List.replicate n none) [];induction n with
  |zero=>exact⟨rfl,rfl⟩
  |succ n ih=>exact⟨none,_,rfl,ih⟩
 |d::ds,vs,r=>by
  rw[Reps]at r;obtain⟨y,ys,e,r1,r2⟩:=r;subst e;exact⟨some y,_,rfl,y,[],[],rfl,rfl,fS.mpr ⟨r1,rfl⟩,fU n r2⟩
theorem dO{P:Program}{w:World}{K:W.Frag}{mg:Str->Option Value}{base:Heap}{x:Str}{st:Stmt}{N ps:List Str}{k:Nat}{g:FS}(Df:Def K mg x st)(sc:FnScope N ps (defScope st))
  (hb:∀(kV doc pm:Value) (an:Option Addr) (ID ct:Value) (us:List Value),us.length=ps.length->bindArgs (PySem.W.fnOf x x (eD st) (cQ st) (defScope st) .none kV doc pm an ID ct) ⟨us,[]⟩=pure (ps.zip us))
  (body:∀(f:Addr) (ID:Value) (A:Around) (outer:List PySem.Env) (s:Shared) (H:Hp) (E:XK),Room k (A.deeper (envOfC x (defScope st) s.heap.objs.size f ID))->L9 (md:=.plain) (wR L6 P w K mg base N x (defScope st) f ID A outer s H E).nox (cQ st) g):
  Ct P w K mg base x (k+1) (spF K (fBody ps.length (N.length-ps.length) g)):=by
 obtain⟨f,fd,F,m⟩:=Df;refine⟨f,fd,ps,F.ok sc (fun vs H Q E h=>?_) (fun ID A outer s H vs Q E hr h=>?_),m,F.kp,F.binds hb⟩
 ·obtain⟨G,ds,r,_,rs,e,_⟩:=h;unfold fBody at e;split at e
  ·rename_i hl;rw[rs.length,hl]
  ·cases e
 ·obtain⟨G,ds,r,gh,rs,e,q⟩:=h;unfold fBody at e;split at e
  ·rename_i hl;refine⟨_,body f ID A outer s H E hr,G,ds.map (fun d=>some (O.f,d))++List.replicate (N.length-ps.length) none,[],⟨?_,Vm,(fun _ h=>nomatch h),gh⟩,?_⟩
   ·have:=fU (K:=K) (G:=G) (H:=H) (N.length-ps.length) rs;unfold L2.jJ;rw[rs.length,hl];exact this
   ·obtain⟨o,eo,e⟩:=au e;rw[eo];cases o with
    |rt r'=>
     cases e;exact fun v H' G' Ie st rel=>q v H' G' Ie st rel
    |nx env'=>
     cases e;exact fun σ' H' G' Ie st rel=>q .non H' G' [] (st.trans (Step.cut fun _ h=>nomatch h)) (rel.nilF.push mw)
    |bk env'=>cases e
    |ct env'=>cases e
  ·cases e
def dP(ix:List (Option Nat))(env:PV.Env):PV.Env:=ix.map fun j=>j.bind fun j=>match env[j]? with
 |some (some r)=>some (O.f,r.2)
 |_=>none
def fH:FT:=fun env=>.ok (true,env)
def dv(a:FG)(c:FT)(f:FX):List D->PV.Env->Res (List D)
 |[],_=>.ok []
 |d::ds,env=>(a d env).bind fun e=>(c e).bind fun p=>if p.1 then(f p.2).bind fun q=>(dv a c f ds q.2).bind fun rs=>.ok (q.1.2::rs) else dv a c f ds p.2
def dw(fi:FI)(ix:List (Option Nat))(a:FG)(c:FT)(f:FX):FX:=fun env=>(fi env).bind fun p=>(dv a c f p.1 (dP ix p.2)).bind fun ds=>if ds.length<=sizeLine then .ok ((.l .f,.lst ds),if flatDs ds then p.2 else p.2.map frz) else .bad
theorem my:∀ds,ds.all (aQ .f)=flatDs ds
 |[]=>rfl
 |d::ds=>by rw[Vz,flatDs,my ds,aQ]
theorem fV{K:W.Frag}{G1 H:Hp}{es:PV.Env}{σ:L2.St}(ht:∀(i:Nat) (r:R) (v:V),es[i]?=some (some r)->σ[i]?=some (some v)->Rep K G1 r.2 v)(hv:∀(i:Nat) (r:R),es[i]?=some (some r)->∃v,σ[i]?=some (some v)):
  ∀ix:List (Option Nat),RepE K G1 H (dP ix es) (lz ix σ) []
 |[]=>⟨rfl,rfl⟩
 |none::ix=>⟨none,_,rfl,fV ht hv ix⟩
 |some j::ix=>by
  show RepE K G1 H ((match es[j]? with|some (some r)=>some (O.f,r.2)|_=>none)::dP ix es) ((σ[j]?).bind id::lz ix σ) [];cases e:es[j]? with
  |none=>exact⟨_,_,rfl,fV ht hv ix⟩
  |some r=>
   cases r with
   |none=>exact⟨_,_,rfl,fV ht hv ix⟩
   |some r=>
    obtain⟨v,ev⟩:=hv j r e;refine⟨_,_,rfl,v,[],[],?_,rfl,fS.mpr ⟨ht j r v e ev,rfl⟩,fV ht hv ix⟩;rw[ev];rfl
section
variable{md:Mode}{X:Cx}{scope:Scope}{N:List Str}{tg iter elt:Expr}{ifs:List Expr}{pos:Pos}{fi:FI}{a:FG}{c:FT}{f:FX}
def Q8(X:Cx)(ifs:List Expr)(c:FT):Prop:=Pt X ifs (tQT X.K c)
theorem cv:Q8 X [] fH:=fun pr s σ H Q I Ip=>by
 obtain⟨G,env,fp,b,env',rel,e,k⟩:=Ip;cases e;exact z7 pr s σ H Q I (k H G fp .refl rel)
theorem Ax{t:Expr}(h:QT X t c):Q8 X [t] c:=z8 h
end
section
variable{X:Cx}
inductive rCatS(K:W.Frag)(x:V)(y:V)(H:Hp)(Q:VK):Prop
 |mk:∀l b xs zs,x=.ref l->y=.ref b->SqL K H l xs->SqL K H b zs->xs.length+zs.length<=sizeLine->(∀p,H p=none->Q (.ref p) (upd H p (.lst (xs++zs))))->rCatS K x y H Q
theorem Ay:IZ X (binaryOp .Add) (rCatS X.K):=by
 intro pr s σ H x y v u Q I rx ry h;obtain⟨l,b,xs,zs,rfl,rfl,hH,hB,hz,q⟩:=h;cases rx;cases ry;obtain⟨Ic,r1,p1,_⟩:=I.list hH;obtain⟨Lv,r2,p2,_⟩:=I.list hB;have l1:=r1.length;have l2:=r2.length;obtain⟨⟨cls,dd,data,sl⟩,ho,hc,n,hd⟩:=id p1.isList;obtain⟨⟨M8,LR,data2,LS⟩,JR,Lc,n2,hd2⟩:=id p2.isList;simp only at hc hd Lc hd2;subst hc hd Lc hd2;have e:Ic.toArray++Lv.toArray=(Ic++Lv).toArray:=by simp
 refine Xk ⟨_,ho,rfl⟩ ⟨_,JR,rfl⟩ noFill_list_add seq_list_add PySem.F.slot_list_add PySem.F.entry_list_add (PySem.F.args_list_add_2 _ _) (list_addW l b Ic.toArray Lv.toArray n n2 dd LR sl LS (by rw[Tu,Tu];lia)) ⟨ho,JR,?_⟩;rw[e];exact⟨.ref _,_,I.lnew (t':=s.toks) (r1.append r2) (by rw[Ua];lia),rfl,q _ I.fresh⟩
end
noncomputable def addD:D->D->Res R
 | .int i,.int j=>.ok (.f,.int (i+j))
 | .str a,.str b=>if a.length+b.length<=sizeLine then .ok (.f,.str (a++b)) else .bad
 | .lst a,.lst b=>if a.length+b.length<=sizeLine then .ok (.l .f,.lst (a++b)) else .bad
 | .tup a,.tup b=>if a≠[]/\a.length+b.length<=sizeLine then .ok (.f,.tup (a++b)) else .bad
 |_,_=>.bad
section
variable{X:Cx}
theorem mz{K:W.Frag}{G H:Hp}{fp:List Addr}{es:PV.Env}{vs:L2.St}{ds:List D}{xs:List V}{p:Addr}(rel:Rel K G H es vs fp)(hp:H p=none)(r:Reps K G ds xs):
  ∃G',Rel K G' (upd H p (.tup xs)) (some (.f,.tup ds)::es) (some (.ref p)::vs) fp/\Step G H fp G' (upd H p (.tup xs)) fp:=by
 obtain⟨Ia,Ii⟩:=rel.newF (u:=.tup xs) hp;refine⟨_,Ia.push ?_,Ii⟩;rw[Rep];exact⟨p,xs,rfl,aV,r.mono Ii.gg⟩
theorem C3:IZ X (binaryOp .Add) (rG X.K addD):=by
 rintro pr s σ H x y v u Q I rx ry ⟨G,fp,es,vs,a,b,r,⟨rel,k⟩,va,vb,e⟩;unfold addD at e;split at e
 ·rename_i i j;cases e;cases br va;cases br vb;exact Cs pr s σ H _ _ v u Q I rx ry ⟨i,j,rfl,rfl,k _ H G fp .refl (rel.push (bM _))⟩
 ·rename_i i j;split at e
  ·rename_i hl;cases e;obtain⟨e1,h1⟩:=fF va;obtain⟨e2,h2⟩:=fF vb;subst e1;subst e2;refine sH pr s σ H _ _ v u Q I rx ry ⟨_,_,rfl,rfl,by rw[lh,lh];exact hl,?_⟩;rw[Fq];exact k _ H G fp .refl (rel.push (hZ (by rw[Ua];exact hl)))
  ·cases e
 ·rename_i i j;split at e
  ·rename_i hl;cases e;obtain⟨p,xs,e1,h1,r1⟩:=va;obtain⟨p2,Px,e2,h2,r2⟩:=vb;subst e1;subst e2;refine Ay pr s σ H _ _ v u Q I rx ry ⟨p,p2,xs,Px,rfl,rfl,h1,h2,by rw[r1.length,r2.length];exact hl,fun q hq=>?_⟩;obtain⟨Ia,Ii⟩:=rel.newL hq (r1.app r2);exact k _ _ G _ Ii Ia
  ·cases e
 ·rename_i i j;split at e
  ·rename_i hl;cases e;obtain⟨p,xs,e1,h1,r1⟩:=g0 va;obtain⟨p2,Px,e2,h2,r2⟩:=g0 vb;subst e1;subst e2;have hx:xs≠[]:=fun z=>hl.1 (Ux (by rw[<-r1.length,z];rfl))
   refine zV pr s σ H _ _ v u Q I rx ry ⟨p,p2,xs,Px,rfl,rfl,bP rel.gh h1,bP rel.gh h2,hx,by rw[r1.length,r2.length];exact hl.2,fun z=>?_,fun z q hq=>?_⟩
   ·have:j=[]:=Ux (by rw[<-r2.length,z];rfl);subst this;rw[T7]at k;exact k _ H G fp .refl (rel.push va)
   ·obtain⟨G',Ia,Ii⟩:=mz rel hq (r1.app r2);exact k _ _ G' _ Ii Ia
  ·cases e
 ·cases e
def wU:D->D->Res R
 | .int i,.int j=>.ok (.f,.int (i-j))
 |_,_=>.bad
theorem lG:IZ X (binaryOp .Sub) (rG X.K wU):=by
 rintro pr s σ H x y v u Q I rx ry ⟨G,fp,es,vs,a,b,r,⟨rel,k⟩,va,vb,e⟩;unfold wU at e;split at e
 ·rename_i i j;cases e;cases br va;cases br vb;exact Cu pr s σ H _ _ v u Q I rx ry ⟨i,j,rfl,rfl,k _ H G fp .refl (rel.push (bM _))⟩
 ·cases e
def dy(i:Int):Bool:=decide (-(2 ^ 64)<i/\i<2 ^ 64)
def FF:D->D->Res R
 | .int i,.int j=>if dy i||dy j then .ok (.f,.int (i*j)) else .bad
 |_,_=>.bad
theorem C4:IZ X (binaryOp .Mult) (rG X.K FF):=by
 rintro pr s σ H x y v u Q I rx ry ⟨G,fp,es,vs,a,b,r,⟨rel,k⟩,va,vb,e⟩;unfold FF at e;split at e
 ·rename_i i j;split at e
  ·rename_i hc;cases e;cases br va;cases br vb;have hc:CMul i j:=by
    rw[Xm]at hc;exact hc.imp Vs Vs
   exact Cv pr s σ H _ _ v u Q I rx ry ⟨i,j,rfl,rfl,hc,k _ H G fp .refl (rel.push (bM _))⟩
  ·cases e
 ·cases e
def dF:D->D->Res R
 | .int i,.int j=>if 0<j/\j<1073741824 then .ok (.f,.int (i / j)) else .bad
 |_,_=>.bad
theorem cM:IZ X (binaryOp .FloorDiv) (rG X.K dF):=by
 rintro pr s σ H x y v u Q I rx ry ⟨G,fp,es,vs,a,b,r,⟨rel,k⟩,va,vb,e⟩;unfold dF at e;split at e
 ·rename_i i j;split at e
  ·rename_i hc;cases e;cases br va;cases br vb;exact zN pr s σ H _ _ v u Q I rx ry ⟨i,j,rfl,rfl,hc,k _ H G fp .refl (rel.push (bM _))⟩
  ·cases e
 ·cases e
def fI:D->D->Res R
 | .int i,.int j=>if 0<j then .ok (.f,.int (i%j)) else .bad
 |_,_=>.bad
theorem bU:IZ X (binaryOp .Mod) (rG X.K fI):=by
 rintro pr s σ H x y v u Q I rx ry ⟨G,fp,es,vs,a,b,r,⟨rel,k⟩,va,vb,e⟩;unfold fI at e;split at e
 ·rename_i i j;split at e
  ·rename_i hc;cases e;cases br va;cases br vb;exact Cw pr s σ H _ _ v u Q I rx ry ⟨i,j,rfl,rfl,hc,k _ H G fp .refl (rel.push (bM _))⟩
  ·cases e
 ·cases e
def xE:D->D->Res R
 | .int i,.int j=>if 0<=j/\j<=1000000/\i.natAbs<2 ^ 64 then .ok (.f,.int (i ^ j.toNat)) else .bad
 |_,_=>.bad
theorem yX:IZ X (binaryOp .Pow) (rG X.K xE):=by
 rintro pr s σ H x y v u Q I rx ry ⟨G,fp,es,vs,a,b,r,⟨rel,k⟩,va,vb,e⟩;unfold xE at e;split at e
 ·rename_i i j;split at e
  ·rename_i hc;cases e;cases br va;cases br vb;exact Cy pr s σ H _ _ v u Q I rx ry ⟨i,j,rfl,rfl,hc,k _ H G fp .refl (rel.push (bM _))⟩
  ·cases e
 ·cases e
def Pu:D->D->Res R
 | .int i,.int j=>.ok (.f,.bl (decide (i<j)))
 | .str a,.str b=>.ok (.f,.bl (decide (a<b)))
 |_,_=>.bad
theorem FH:IZ X (compareOp .Lt) (rG X.K Pu):=by
 rintro pr s σ H x y v u Q I rx ry ⟨G,fp,es,vs,a,b,r,⟨rel,k⟩,va,vb,e⟩;unfold Pu at e;split at e
 ·rename_i i j;cases e;cases br va;cases br vb;exact Ff pr s σ H _ _ v u Q I rx ry ⟨i,j,rfl,rfl,k _ H G fp .refl (rel.push (cK _))⟩
 ·rename_i i j;cases e;obtain⟨e1,h1⟩:=fF va;obtain⟨e2,h2⟩:=fF vb;subst e1;subst e2;refine uo pr s σ H _ _ v u Q I rx ry ⟨_,_,rfl,rfl,?_⟩;rw[dr,dr];exact k _ H G fp .refl (rel.push (cK _))
 ·cases e
def leD:D->D->Res R
 | .int i,.int j=>.ok (.f,.bl (decide (i<=j)))
 | .str a,.str b=>.ok (.f,.bl (!decide (b<a)))
 |_,_=>.bad
def OJ:D->D->Res R
 | .int i,.int j=>.ok (.f,.bl (decide (j<i)))
 |_,_=>.bad
theorem Az:IZ X (compareOp .Gt) (rG X.K OJ):=by
 rintro pr s σ H x y v u Q I rx ry ⟨G,fp,es,vs,a,b,r,⟨rel,k⟩,va,vb,e⟩;unfold OJ at e;split at e
 ·rename_i i j;cases e;cases br va;cases br vb;exact Fg pr s σ H _ _ v u Q I rx ry ⟨i,j,rfl,rfl,k _ H G fp .refl (rel.push (cK _))⟩
 ·cases e
def RT:D->D->Res R
 | .int i,.int j=>.ok (.f,.bl (decide (j<=i)))
 |_,_=>.bad
theorem FJ:IZ X (compareOp .GtE) (rG X.K RT):=by
 rintro pr s σ H x y v u Q I rx ry ⟨G,fp,es,vs,a,b,r,⟨rel,k⟩,va,vb,e⟩;unfold RT at e;split at e
 ·rename_i i j;cases e;cases br va;cases br vb;exact Fh pr s σ H _ _ v u Q I rx ry ⟨i,j,rfl,rfl,k _ H G fp .refl (rel.push (cK _))⟩
 ·cases e
end
abbrev FDs:=PV.Env->Res (List D×PV.Env)
inductive tDs(K:W.Frag)(f:FDs)(σ:L2.St)(H:Hp)(Q:List V->Hp->Prop):Prop
 |mk:∀G env fp ds env',Rel K G H env σ fp->f env=.ok (ds,env')->(∀vs H' G' Ie,Step G H fp G' H' Ie->Rel K G' H' env' σ Ie->Reps K G' ds vs->Q vs H')->tDs K f σ H Q
def Qa(X:Cx)(es:List Expr)(f:FDs):Prop:=PA X es (tDs X.K f)
def bC:FDs:=fun env=>.ok ([],env)
def az(f:FX)(g:FDs):FDs:=fun env=>(f env).bind fun p=>(g p.2).bind fun q=>.ok (p.1.2::q.1,q.2)
section
variable{X:Cx}
theorem aM:Qa X [] bC:=qN nu fun σ H Q Ip=>by
 obtain⟨G,env,fp,o,env',rel,e,k⟩:=Ip;cases e;exact k [] H G fp .refl rel .nil
theorem av{e:Expr}{es:List Expr}{f:FX}{g:FDs}(h:QE X e f)(hs:Qa X es g)(L1:starEach (e::es) X.env=(false,eval e X.env)::starEach es X.env:=by rfl):Qa X (e::es) (az f g):=
 qN (fQ h hs L1) fun σ H Q Ip=>by
  obtain⟨G,env,fp,o,env',rel,e,k⟩:=Ip;obtain⟨⟨r,H0⟩,e1,e⟩:=au e;obtain⟨⟨ds,Il⟩,e2,e⟩:=au e;cases e;refine⟨G,env,fp,r,H0,rel,e1,fun v H1 G1 IA Iu Ib=>?_⟩;obtain⟨G2,b,rv,Ia,Ii⟩:=Ib.freeze;exact⟨G2,H0,b,ds,Il,Ia,e2,fun vs H3 G3 JE IK IH rs=>k _ H3 G3 JE (Iu.trans (Ii.trans IK)) IH (.cons (Rep.mono IK.gg rv) rs)⟩
def eW(fs:FDs):FX:=fun env=>(fs env).bind fun p=>if p.1.length<=1000 then .ok ((.f,.tup p.1),p.2) else .bad
def tX(fs:FDs):FX:=fun env=>(fs env).bind fun p=>if p.1.length<=1000 then .ok ((.l .f,.lst p.1),p.2) else .bad
variable{es:List Expr}{fs:FDs}{pos:Pos}
theorem bF{x1}(h:Qa X es fs):QE X (.Tuple es x1 pos) (eW fs):=bE (yI h) fun σ H Q Ip=>by
 obtain⟨G,env,fp,r,env',rel,e,k⟩:=Ip;obtain⟨⟨ds,H0⟩,e1,e⟩:=au e;dsimp only at e;split at e
 ·rename_i hl;cases e;refine⟨G,env,fp,ds,env',rel,e1,fun vs H1 G1 IA Iu Ib rs=>⟨by rw[rs.length,line_eq];lia,fun p hp=>?_⟩⟩;obtain⟨G2,Ia,Ii⟩:=mz Ib hp rs;exact k _ _ G2 _ (Iu.trans Ii) Ia
 ·cases e
theorem g5(h:Qa X es fs):QE X (.List es pos) (tX fs):=bE (CA h) fun σ H Q Ip=>by
 obtain⟨G,env,fp,r,env',rel,e,k⟩:=Ip;obtain⟨⟨ds,H0⟩,e1,e⟩:=au e;dsimp only at e;split at e
 ·rename_i hl;cases e;refine⟨G,env,fp,ds,env',rel,e1,fun vs H1 G1 IA Iu Ib rs=>⟨by rw[rs.length,line_eq];lia,fun p hp=>?_⟩⟩;obtain⟨Ia,Ii⟩:=Ib.newL hp rs;exact k _ _ G1 _ (Iu.trans Ii) Ia
 ·cases e
noncomputable def Ih:D->D->Res R
 | .lst ds,.int i=>match Ju ds i with
  |some d=>.ok (.f,d)
  |none=>.bad
 | .tup ds,.int i=>match Ju ds i with
  |some d=>.ok (.f,d)
  |none=>.bad
 | .str l,.int i=>match Ju l i with
  |some c=>.ok (.f,.str [c])
  |none=>.bad
 |_,_=>.bad
theorem qU{K:W.Frag}{G:Hp}{ds:List D}{xs:List V}{i:Int}{d:D}(r:Reps K G ds xs)(e:Ju ds i=some d):∃v,Ju xs i=some v/\Rep K G d v:=by
 unfold Ju at e ⊢;rw[r.length];cases hn:ixN ds.length i with
 |none=>rw[hn]at e;cases e
 |some j=>
  rw[hn]at e;exact r.get e
theorem FK:PU X (rG X.K Ih):=by
 rintro value slice pr s σ H x y v u Q I rx ry ⟨G,fp,es,vs,a,b,r,⟨rel,k⟩,va,vb,e⟩ hs;unfold Ih at e;split at e
 ·rename_i ds i;split at e
  ·rename_i d hd;cases e;obtain⟨p,xs,ev,sq,rs⟩:=va;subst ev;cases br vb;obtain⟨w',hw,L5⟩:=qU rs hd;exact zW value slice pr s σ H _ _ v u Q I rx ry ⟨p,xs,i,w',rfl,rfl,sq,hw,k _ H G fp .refl (rel.push L5)⟩ hs
  ·cases e
 ·rename_i ds i;split at e
  ·rename_i d hd;cases e;obtain⟨p,xs,ev,sq,rs⟩:=g0 va;subst ev;cases br vb;obtain⟨w',hw,L5⟩:=qU rs hd;exact CF value slice pr s σ H _ _ v u Q I rx ry ⟨p,xs,i,w',rfl,rfl,bP rel.gh sq,hw,k _ H G fp .refl (rel.push L5)⟩ hs
  ·cases e
 ·rename_i l i;split at e
  ·rename_i c hc;cases e;obtain⟨ev,hl⟩:=fF va;subst ev;cases br vb;refine CG value slice pr s σ H _ _ v u Q I rx ry ⟨_,i,c,rfl,rfl,by rw[lh];exact hl,by rw[dr];exact hc,?_⟩ hs;exact k _ H G fp .refl (rel.push (hZ (l:=[c]) (by rw[line_eq];simp)))
  ·cases e
 ·cases e
variable{a b:Expr}{fa fb:FO}
theorem aP(ha:QO X a fa)(hb:QO X b fb)(hs:uB b:=by exact fun _ _=>rfl):QE X (.Subscript a b pos) (aA Ih fa fb):=bE (Fn FK ha hb hs) fun _ _ _=>qP
abbrev FP:=PV.Env->Res (Option Int×PV.Env)
inductive tQP(K:W.Frag)(f:FP)(σ:L2.St)(H:Hp)(Q:Option Int->Hp->Prop):Prop
 |mk:∀G env fp i env',Rel K G H env σ fp->f env=.ok (i,env')->(∀H' G' Ie,Step G H fp G' H' Ie->Rel K G' H' env' σ Ie->Q i H')->tQP K f σ H Q
def QP(X:Cx)(e:Option Expr)(f:FP):Prop:=PO X e (tQP X.K f)
def oh:FP:=fun env=>.ok (none,env)
def je(f:FX):FP:=fun env=>(f env).bind fun p=>match p.1.2 with
 | .int i=>.ok (some i,p.2)
 |_=>.bad
theorem yY{X:Cx}{e:Option Expr}{t t':TO}(h:PO X e t)(k:∀σ H Q,t' σ H Q->t σ H Q):PO X e t':=fun pr s σ H Q I w=>h pr s σ H Q I (k σ H Q w)
theorem jg:QP X none oh:=yY zT fun σ H Q Ip=>by
 obtain⟨G,env,fp,i,env',rel,e,k⟩:=Ip;cases e;exact k H G fp .refl rel
theorem dQ{e:Expr}{f:FX}(h:QE X e f):QP X (some e) (je f):=yY (zU h) fun σ H Q Ip=>by
 obtain⟨G,env,fp,i,env',rel,e,k⟩:=Ip;obtain⟨⟨⟨o,d⟩,H0⟩,e1,e⟩:=au e;dsimp only at e;split at e
 ·rename_i j;cases e;refine⟨G,env,fp,_,_,rel,e1,fun v H1 G1 IA Iu Ib=>?_⟩;have hv:=Ib.top;obtain⟨b,Ia,Ii⟩:=Ib.drop;exact⟨j,bH hv,k H1 G1 b (Iu.trans Ii) Ia⟩
 ·cases e
def iL{α:Type}(xs:List α)(lo hi:Option Int):List α:=(xs.drop (HT.sIx xs.length 0 lo)).take (HT.sIx xs.length xs.length hi-HT.sIx xs.length 0 lo)
noncomputable def Qb(k:D)(lo hi:Option Int):Res R:=match k with
 | .lst ds=>.ok (.l .f,.lst (iL ds lo hi))
 | .tup ds=>if ¬ (HT.sIx ds.length 0 lo=0/\HT.sIx ds.length ds.length hi=ds.length) then .ok (.f,.tup (iL ds lo hi)) else .bad
 | .str l=>.ok (.f,.str (iL l lo hi))
 |_=>.bad
def eSl(fa:FO)(lo hi:FP):FX:=fun env=>(fa env).bind fun p=>(lo p.2).bind fun q=>(hi q.2).bind fun t=>(JC t.2 p.1).bind fun d=>(Qb d q.1 t.1).bind fun r=>.ok (r,t.2)
theorem qV{K:W.Frag}{G:Hp}{ds:List D}{xs:List V}{lo hi:Option Int}(r:Reps K G ds xs):Reps K G (iL ds lo hi) (yJ xs lo hi):=by
 unfold iL yJ;rw[r.length];exact(r.drop _).take _
theorem AB{α:Type}(xs:List α)(lo hi:Option Int):(iL xs lo hi).length<=xs.length:=by
 unfold iL;rw[Ud,UK];lia
inductive rSl(K:W.Frag)(x:V)(lo:Option Int)(hi:Option Int)(H:Hp)(Q:VK):Prop
 |mk:∀G fp es vs d r,Goes K H G fp es vs r Q->Vw K G H d x->Qb d lo hi=.ok r->rSl K x lo hi H Q
theorem C5:Oo X (rSl X.K):=by
 rintro pr s σ H x v vl vu lo hi sl Q I rx hs pl pu ⟨G,fp,es,vs,d,r,⟨rel,k⟩,vd,e⟩;unfold Qb at e;split at e
 ·rename_i ds;cases e;obtain⟨p,xs,ev,sq,rs⟩:=vd;subst ev;refine zX pr s σ H _ v vl vu lo hi sl Q I rx hs pl pu ⟨p,xs,rfl,sq,fun q hq=>?_⟩;obtain⟨Ia,Ii⟩:=rel.newL hq (qV (lo:=lo) (hi:=hi) rs);exact k _ _ G _ Ii Ia
 ·rename_i ds;split at e
  ·rename_i hw;cases e;obtain⟨p,xs,ev,sq,rs⟩:=g0 vd;subst ev;refine CD pr s σ H _ v vl vu lo hi sl Q I rx hs pl pu ⟨p,xs,rfl,bP rel.gh sq,by rw[rs.length];exact hw,fun q hq=>?_⟩;obtain⟨G2,Ia,Ii⟩:=mz rel hq (qV (lo:=lo) (hi:=hi) rs);exact k _ _ G2 _ Ii Ia
  ·cases e
 ·rename_i l;cases e;obtain⟨ev,hl⟩:=fF vd;subst ev;exact CM pr s σ H _ v vl vu lo hi sl Q I rx hs pl pu ⟨l,rfl,hl,k _ H G fp .refl (rel.push (hZ (l:=CL l lo hi) (Uc (AB l lo hi) hl)))⟩
 ·cases e
def pO(env:PV.Env)(i:Nat):Bool:=match env[i]? with
 |some (some (_,.lst _))=>true
 |_=>false
theorem qW{K:W.Frag}{G H:Hp}{es:PV.Env}{σ:L2.St}{fp:List Addr}{i:Nat}(rel:Rel K G H es σ fp)(h:pO es i=true):∃v,σ[i]?=some (some v)/\RF K "list" v H:=by
 unfold pO at h;split at h
 ·rename_i o ds hr;obtain⟨v,ev,rv⟩:=rel.view hr;obtain⟨p,xs,e,sq,_⟩:=bI rv;subst e;exact⟨_,ev,.inl ⟨rfl,xs,sq⟩⟩
 ·cases h
def uZ(i:Nat)(f:FX):FX:=fun env=>if pO env i then(f env).bind fun p=>match p.2[i]? with
 |some (some (.l .f,.lst ds))=>if ds.length<sizeLine then .ok ((.f,.non),p.2.set i (some (.l .f,.lst (ds++[p.1.2])))) else .bad
 |_=>.bad
 else .bad
theorem dA{i:Nat}{o e:Expr}{f:FX}{apos Iy:Pos}(ho:PE X o (ud i))(he:QE X e f)
  (Jq:attributeBase o "append" X.env (eval o X.env)=eval o X.env:=by rfl)
  (Kc:((backTo Iy (starEach [e] X.env)).all (fun x=>!x.1)&&(backToKw Iy (keywordEach [] X.env)).all (fun x=>x.1.isSome)&&decide ([e].length+([]:List Keyword).length+(if([]:List Keyword).isEmpty then 0 else 1)<30))=true:=by rfl)
  (Jr:(apos.endLine==Iy.line)=true:=by rfl) (hs:starEach [e] X.env=(false,eval e X.env)::starEach [] X.env:=by rfl) (IV:(backTo Iy (starEach [] X.env)).any (·.1)=false:=by rfl):
  QE X (.Call (.Attribute o "append" apos) [e] [] Iy) (uZ i f):=by
 refine bE (xk V2 PySem.F.slot_list_append PySem.F.type_list_append nK ho (av he aM hs) Jq Kc Jr hs IV) fun σ H Q IB=>?_
 obtain⟨G,env,fp,r,env',rel,e,k⟩:=IB;unfold uZ at e;split at e
 ·rename_i Mt;obtain⟨v,ev,ty⟩:=qW rel Mt;obtain⟨⟨r1,H0⟩,e1,e⟩:=au e;dsimp only at e;split at e
  ·rename_i ds Na;split at e
   ·rename_i hl;cases e;refine⟨v,ev,ty,G,env,fp,[r1.2],H0,rel,by show(f env).bind _=_;rw[e1];rfl,fun vs H1 G1 IA Iu Ib rs=>?_⟩;rw[Reps]at rs;obtain⟨y,ys,RU,ry,rn⟩:=rs;rw[Reps]at rn;subst rn;obtain⟨p,xs,ep,hp,M4,cg⟩:=Ib.chg (ds':=ds++[r1.2]) Na;rw[ev]at ep;cases ep;obtain⟨fq,Ia,Ii⟩:=cg (xs++[y]) (M4.app (.one ry));exact⟨p,xs,y,rfl,RU,hp,by rw[M4.length];exact hl,k _ _ G1 fq (Iu.trans Ii) (Ia.push mw)⟩
   ·cases e
  ·cases e
 ·cases e
def FL:List D->Res R
 |[.lst ds]=>.ok (.f,.int ds.length)
 |[.tup ds]=>.ok (.f,.int ds.length)
 |[.str l]=>.ok (.f,.int l.length)
 |_=>.bad
theorem nh{K:W.Frag}{G H:Hp}{d:D}{xs:List V}(h:Oc K G H [d] xs):∃v,xs=[v]/\Vw K G H d v:=by
 obtain⟨y,ys,e,v1,e2⟩:=h;have e2:ys=[]:=e2;subst e2;exact⟨y,e,v1⟩
theorem Hx{K:W.Frag}{G H:Hp}{d d':D}{xs:List V}(h:Oc K G H [d,d'] xs):∃v w,xs=[v,w]/\Vw K G H d v/\Vw K G H d' w:=by
 obtain⟨y,ys,e,v1,h2⟩:=h;obtain⟨z,e2,v2⟩:=nh h2;subst e2;exact⟨y,z,e,v1,v2⟩
theorem C6:dJ X (.builtin "len") (rC X.K FL):=by
 rintro pr s σ H xs us Q I rx ⟨G,fp,es,vs,ds,r,⟨rel,k⟩,vd,e⟩;unfold FL at e;split at e
 ·rename_i ds;cases e;obtain⟨v,ev,p,ys,ep,sq,rs⟩:=nh vd;subst ev;subst ep;refine ju pr s σ H _ us Q I rx ⟨p,ys,rfl,.inl sq,?_⟩;rw[rs.length];exact k _ H G fp .refl (rel.push (bM _))
 ·rename_i ds;cases e;obtain⟨v,ev,vt⟩:=nh vd;obtain⟨p,ys,ep,sq,rs⟩:=g0 vt;subst ev;subst ep;refine ju pr s σ H _ us Q I rx ⟨p,ys,rfl,.inr (bP rel.gh sq),?_⟩;rw[rs.length];exact k _ H G fp .refl (rel.push (bM _))
 ·rename_i l;cases e;obtain⟨v,ev,vt⟩:=nh vd;obtain⟨ep,hl⟩:=fF vt;subst ev;subst ep;refine nH pr s σ H _ us Q I rx ⟨S l,rfl,by rw[lh];exact hl,?_⟩;rw[lh];exact k _ H G fp .refl (rel.push (bM _))
 ·cases e
def pP:List D->Res R
 |[.lst ds]=>.ok (.l .f,.lst ds)
 |[.tup ds]=>.ok (.l .f,.lst ds)
 |_=>.bad
theorem mB:dJ X (.type "list") (rC X.K pP):=by
 rintro pr s σ H xs us Q I rx ⟨G,fp,es,vs,ds,r,⟨rel,k⟩,vd,e⟩;unfold pP at e;split at e
 ·rename_i ds;cases e;obtain⟨v,ev,p,ys,ep,sq,rs⟩:=nh vd;subst ev;subst ep;refine jv pr s σ H _ us Q I rx ⟨p,ys,rfl,.inl sq,fun q hq=>?_⟩;obtain⟨Ia,Ii⟩:=rel.newL hq rs;exact k _ _ G _ Ii Ia
 ·rename_i ds;cases e;obtain⟨v,ev,vt⟩:=nh vd;obtain⟨p,ys,ep,sq,rs⟩:=g0 vt;subst ev;subst ep;refine jv pr s σ H _ us Q I rx ⟨p,ys,rfl,.inr (bP rel.gh sq),fun q hq=>?_⟩;obtain⟨Ia,Ii⟩:=rel.newL hq rs;exact k _ _ G _ Ii Ia
 ·cases e
def cV:List D->Res R
 |[.lst ds]=>.ok (.f,.tup ds)
 |[.tup ds]=>.ok (.f,.tup ds)
 |_=>.bad
theorem cD:dJ X (.type "tuple") (rC X.K cV):=by
 rintro pr s σ H xs us Q I rx ⟨G,fp,es,vs,ds,r,⟨rel,k⟩,vd,e⟩;unfold cV at e;split at e
 ·rename_i ds;cases e;obtain⟨v,ev,p,ys,ep,sq,rs⟩:=nh vd;subst ev;subst ep;refine iz pr s σ H _ us Q I rx ⟨p,ys,rfl,.inl ⟨sq,fun q hq=>?_⟩⟩;obtain⟨G2,Ia,Ii⟩:=mz rel hq rs;exact k _ _ G2 _ Ii Ia
 ·rename_i ds;cases e;obtain⟨v,ev,vt⟩:=nh vd;obtain⟨p,ys,ep,sq,rs⟩:=g0 vt;subst ev;subst ep;exact iz pr s σ H _ us Q I rx ⟨p,ys,rfl,.inr ⟨bP rel.gh sq,k _ H G fp .refl (rel.push vt)⟩⟩
 ·cases e
def oi:List D->Option (List Bool)
 |[]=>some []
 | .bl b::ds=>(oi ds).map (b:: ·)
 |_=>none
def dH:List D->Option (List Int)
 |[]=>some []
 | .int b::ds=>(dH ds).map (b:: ·)
 |_=>none
theorem lH{K:W.Frag}{G:Hp}:∀{ds:List D}{bs:List Bool}{xs:List V},oi ds=some bs->Reps K G ds xs->xs=bs.map V.bl
 |[],_,_,e,r=>by
  cases e;rw[Reps]at r;exact r
 | .bl b::ds,_,_,e,r=>by
  rw[oi,Uh]at e;obtain⟨bs,e1,e2⟩:=e;subst e2;rw[Reps]at r;obtain⟨y,ys,e3,r1,r2⟩:=r;rw[e3,c7 r1,lH e1 r2];rfl
 | .non::_,_,_,e,_ | .int _::_,_,_,e,_ | .str _::_,_,_,e,_ | .tup _::_,_,_,e,_ | .lst _::_,_,_,e,_ | .dct _ _ _::_,_,_,e,_=>by simp[oi]at e
theorem ib{K:W.Frag}{G:Hp}:∀{ds:List D}{bs:List Int}{xs:List V},dH ds=some bs->Reps K G ds xs->xs=bs.map V.int
 |[],_,_,e,r=>by
  cases e;rw[Reps]at r;exact r
 | .int b::ds,_,_,e,r=>by
  rw[dH,Uh]at e;obtain⟨bs,e1,e2⟩:=e;subst e2;rw[Reps]at r;obtain⟨y,ys,e3,r1,r2⟩:=r;rw[e3,bH r1,ib e1 r2];rfl
 | .non::_,_,_,e,_ | .bl _::_,_,_,e,_ | .str _::_,_,_,e,_ | .tup _::_,_,_,e,_ | .lst _::_,_,_,e,_ | .dct _ _ _::_,_,_,e,_=>by simp[dH]at e
theorem sY(ns:List Int):dH (ns.map D.int)=some ns:=by
 induction ns with
 |nil=>rfl
 |cons n ns ih=>rw[TR,dH,ih];rfl
theorem u0(ns:List Bool):oi (ns.map D.bl)=some ns:=by
 induction ns with
 |nil=>rfl
 |cons n ns ih=>rw[TR,oi,ih];rfl
def oj:D->Option (List D)
 | .lst ds=>some ds
 | .tup ds=>some ds
 |_=>none
theorem ve{K:W.Frag}{G H:Hp}{d:D}{ds:List D}{v:V}(gh:Same G H)(e:oj d=some ds)(h:Vw K G H d v):∃p xs,v=.ref p/\(SqL K H p xs\/SqT K H p xs)/\Reps K G ds xs:=by
 cases d with
 |lst es=>
  cases e;obtain⟨p,xs,ev,sq,rs⟩:=h;exact⟨p,xs,ev,.inl sq,rs⟩
 |tup es=>
  cases e;obtain⟨p,xs,ev,sq,rs⟩:=bB h;exact⟨p,xs,ev,.inr (bP gh sq),rs⟩
 |_=>cases e
def C7:List D->Res R
 |[d]=>match(oj d).bind oi with
  |some bs=>.ok (.f,.bl (bs.all id))
  |none=>.bad
 |_=>.bad
theorem xF(bs:List Bool):(bs.map V.bl).all Fs=true:=by
 rw[U7,T8];intro b _;rfl
theorem AD(bs:List Bool):(bs.map V.bl).all CO=bs.all id:=by
 rw[U7];rfl
theorem C8(hc:X.calm=true):dJ X (.builtin "all") (rC X.K C7):=by
 rintro pr s σ H xs us Q I rx ⟨G,fp,es,vs,ds,r,⟨rel,k⟩,vd,e⟩;unfold C7 at e;split at e
 ·rename_i d;split at e
  ·rename_i bs hb;cases e;obtain⟨l,hl,hb⟩:=Uj.mp hb;obtain⟨v,ev,vt⟩:=nh vd;obtain⟨p,ys,ep,sq,rs⟩:=ve rel.gh hl vt;have:=lH hb rs;subst this;subst ev;subst ep;refine xp hc pr s σ H _ us Q I rx ⟨p,_,rfl,sq,xF bs,?_⟩;rw[AD];exact k _ H G fp .refl (rel.push (cK _))
  ·cases e
 ·cases e
def maxD:List D->Res R
 |[d]=>match(oj d).bind dH with
  |some (n::ns)=>.ok (.f,.int (sM (n::ns)))
  |_=>.bad
 |[.int i,.int j]=>.ok (.f,.int (if i<j then j else i))
 |_=>.bad
theorem om{K:W.Frag}{G H:Hp}{d:D}{ns:List Int}{v:V}(gh:Same G H)(hb:(oj d).bind dH=some ns)(vt:Vw K G H d v):∃p,v=.ref p/\(SqL K H p (ns.map V.int)\/SqT K H p (ns.map V.int)):=by
 obtain⟨l,hl,hb⟩:=Uj.mp hb;obtain⟨p,ys,ep,sq,rs⟩:=ve gh hl vt;have:=ib hb rs;subst this;exact⟨p,ep,sq⟩
end
mutual
noncomputable def Ig:D->D->Bool
 | .non,.non=>true
 | .bl a,.bl b=>a==b
 | .bl a,.int j=>(if a then 1 else 0)==j
 | .int i,.bl b=>i==(if b then 1 else 0)
 | .int i,.int j=>i==j
 | .str a,.str b=>a==b
 | .tup a,.tup b=>iw a b
 | .lst a,.lst b=>iw a b
 |_,_=>false
noncomputable def iw:List D->List D->Bool
 |[],[]=>true
 |a::as,b::bs=>Ig a b&&iw as bs
 |_,_=>false
end
mutual
noncomputable def plainD:Nat->D->Bool
 |n+1,.tup ds=>plainDs n ds
 |n+1,.lst ds=>plainDs n ds
 | 0,.tup _=>false
 | 0,.lst _=>false
 |_,.dct _ _ _=>false
 |_,_=>true
noncomputable def plainDs:Nat->List D->Bool
 |_,[]=>true
 |n,d::ds=>plainD n d&&plainDs n ds
end
theorem plainDs_mem:∀{n:Nat}{ds:List D},plainDs n ds=true->∀{i:Nat}{d:D},ds[i]?=some d->plainD n d=true
 |_,[],_,_,_,e=>by simp at e
 |n,a::ds,h,0,d,e=>by
  rw[plainDs,TM]at h;simp at e;rw[<-e];exact h.1
 |n,a::ds,h,i+1,d,e=>by
  rw[plainDs,TM]at h;exact plainDs_mem h.2 (i:=i) (by simpa using e)
theorem iM:∀{a b:List D},a.length≠b.length->iw a b=false
 |[],[],h=>absurd rfl h
 |[],_::_,_=>by simp only[iw]
 |_::_,[],_=>by simp only[iw]
 |x::xs,y::ys,h=>by
  rw[iw,iM (fun e=>h (by simp[e])),Wi]
theorem eQ:∀{a b:List D},a.length=b.length->(List.range a.length).all (fun j=>Ig (a.getD j .non) (b.getD j .non))=iw a b
 |[],[],_=>rfl
 |[],_::_,h=>by simp at h
 |_::_,[],h=>by simp at h
 |x::xs,y::ys,h=>by
  rw[iw,<-eQ (a:=xs) (b:=ys) (by simpa using h),TN,Xg,Vz,U7];rfl
section
variable{X:Cx}{pr:List (Addr×Obj)}{σ:L2.St}{H:Hp}{s:Shared}
theorem ki(I:Inv X pr σ H s){p:Addr}{xs ys:List V}(h:SqL X.K H p xs)(h':SqT X.K H p ys):False:=by
 obtain⟨us,_,p1,_⟩:=I.list h;obtain⟨ws,_,p2,_⟩:=I.tuple h';exact SeqAt.ne_of_list_tuple p1.isList (show s.heap.IsTuple p ws.toArray from p2) rfl
mutual
theorem kj(I:Inv X pr σ H s):∀(d e:D) (x:V) (n:Nat),plainD n d=true->Rep X.K H d x->Rep X.K H e x->d=e
 | .non,e,x,n,_,r,q=>by
  cases cp r;cases e with
  |non=>rfl
  |bl b=>cases c7 q
  |int i=>cases bH q
  |str l=>cases(bA q).1
  |tup l=>obtain⟨p,xs,ev,_⟩:=bB q;cases ev
  |lst l=>obtain⟨p,xs,ev,_⟩:=bI q;cases ev
  |dct tk ks vs=>rw[Rep]at q;obtain⟨p,xs,o,ev,_⟩:=q;cases ev
 | .bl b,e,x,n,_,r,q=>by
  cases c7 r;cases e with
  |non=>cases cp q
  |bl b=>cases c7 q;rfl
  |int i=>cases bH q
  |str l=>cases(bA q).1
  |tup l=>obtain⟨p,xs,ev,_⟩:=bB q;cases ev
  |lst l=>obtain⟨p,xs,ev,_⟩:=bI q;cases ev
  |dct tk ks vs=>rw[Rep]at q;obtain⟨p,xs,o,ev,_⟩:=q;cases ev
 | .int i,e,x,n,_,r,q=>by
  cases bH r;cases e with
  |non=>cases cp q
  |bl b=>cases c7 q
  |int i=>cases bH q;rfl
  |str l=>cases(bA q).1
  |tup l=>obtain⟨p,xs,ev,_⟩:=bB q;cases ev
  |lst l=>obtain⟨p,xs,ev,_⟩:=bI q;cases ev
  |dct tk ks vs=>rw[Rep]at q;obtain⟨p,xs,o,ev,_⟩:=q;cases ev
 | .str l,e,x,n,_,r,q=>by
  have hr:=(bA r).1;subst hr;cases e with
  |non=>cases cp q
  |bl b=>cases c7 q
  |int i=>cases bH q
  |str l'=>
   have hq:=(bA q).1;injection hq with hq;rw[S_inj hq]
  |tup l=>obtain⟨p,xs,ev,_⟩:=bB q;cases ev
  |lst l=>obtain⟨p,xs,ev,_⟩:=bI q;cases ev
  |dct tk ks vs=>rw[Rep]at q;obtain⟨p,xs,o,ev,_⟩:=q;cases ev
 | .tup l,e,x,n,h,r,q=>by
  obtain⟨p,xs,ev,sq,rs⟩:=bB r;subst ev;cases e with
  |non=>cases cp q
  |bl b=>cases c7 q
  |int i=>cases bH q
  |str l=>cases(bA q).1
  |tup l'=>
   obtain⟨p',JK,Kf,JN,Ko⟩:=bB q;cases Kf;have:=I.tuple_inj sq JN;subst this;cases n with
   |zero=>simp only[plainD]at h;cases h
   |succ n=>
    simp only[plainD]at h;rw[mC I l l' xs n h rs Ko]
  |lst l'=>
   obtain⟨p',JK,Kf,JN,Ko⟩:=bI q;cases Kf;exact(ki I JN sq).elim
  |dct tk ks vs=>
   exfalso;rw[Rep]at q;obtain⟨p',JK,o,Kf,rd,dd,_⟩:=q;cases Kf;obtain⟨Ic,_,ip,_⟩:=I.tuple sq;obtain⟨ob,ho,hc,_⟩:=ip;have Qc:=rd.ok I.hok;cases tk with
   |true=>
    obtain⟨kvs,eo,_⟩:=dd;subst eo;obtain⟨_,_,_,_,o2,_,_,JR,ex,_⟩:=Qc;rw[ho]at JR;cases JR;rw[ex.1]at hc;exact absurd hc (by decide)
   |false=>
    obtain⟨kvs,eo,_⟩:=dd;subst eo;obtain⟨_,_,_,_,o2,_,_,JR,ex,_⟩:=Qc;rw[ho]at JR;cases JR;rw[ex.1]at hc;exact absurd hc (by decide)
 | .lst l,e,x,n,h,r,q=>by
  obtain⟨p,xs,ev,sq,rs⟩:=bI r;subst ev;cases e with
  |non=>cases cp q
  |bl b=>cases c7 q
  |int i=>cases bH q
  |str l=>cases(bA q).1
  |tup l'=>
   obtain⟨p',JK,Kf,JN,Ko⟩:=bB q;cases Kf;exact(ki I sq JN).elim
  |lst l'=>
   obtain⟨p',JK,Kf,JN,Ko⟩:=bI q;cases Kf;have:=I.list_inj sq JN;subst this;cases n with
   |zero=>simp only[plainD]at h;cases h
   |succ n=>
    simp only[plainD]at h;rw[mC I l l' xs n h rs Ko]
  |dct tk ks vs=>
   exfalso;rw[Rep]at q;obtain⟨p',JK,o,Kf,rd,dd,_⟩:=q;cases Kf;obtain⟨Ic,_,ip,_⟩:=I.list sq;obtain⟨ob,_,ho,hc,_⟩:=ip;have Qc:=rd.ok I.hok;cases tk with
   |true=>
    obtain⟨kvs,eo,_⟩:=dd;subst eo;obtain⟨_,_,_,_,o2,_,_,JR,ex,_⟩:=Qc;rw[ho]at JR;cases JR;rw[ex.1]at hc;exact absurd hc (by decide)
   |false=>
    obtain⟨kvs,eo,_⟩:=dd;subst eo;obtain⟨_,_,_,_,o2,_,_,JR,ex,_⟩:=Qc;rw[ho]at JR;cases JR;rw[ex.1]at hc;exact absurd hc (by decide)
 | .dct _ _ _,_,_,n,h,_,_=>by cases n <;> (simp only[plainD]at h;cases h)
theorem mC(I:Inv X pr σ H s):∀(ds es:List D) (xs:List V) (n:Nat),plainDs n ds=true->Reps X.K H ds xs->Reps X.K H es xs->ds=es
 |[],es,xs,n,_,r,q=>by
  rw[Reps]at r;subst r;cases es with
  |nil=>rfl
  |cons e es=>
   rw[Reps]at q;obtain⟨y,ys,ev,_⟩:=q;cases ev
 |d::ds,es,xs,n,h,r,q=>by
  rw[Reps]at r;obtain⟨y,ys,ev,r1,r2⟩:=r;subst ev;rw[plainDs,TM]at h;cases es with
  |nil=>
   rw[Reps]at q;cases q
  |cons e es=>
   rw[Reps]at q;obtain⟨y',ys',ev,q1,q2⟩:=q;cases ev;rw[kj I d e y n h.1 r1 q1,mC I ds es ys n h.2 r2 q2]
end
mutual
theorem iN:∀(d:D) (n:Nat),plainD n d=true->Ig d d=true
 | .non,_,_=>by simp only[Ig]
 | .bl _,_,_=>by simp only[Ig,UT]
 | .int _,_,_=>by simp only[Ig,UT]
 | .str _,_,_=>by simp only[Ig,UT]
 | .tup ds,0,h=>by simp only[plainD]at h;cases h
 | .tup ds,n+1,h=>by simp only[plainD]at h;simp only[Ig];exact km ds n h
 | .lst ds,0,h=>by simp only[plainD]at h;cases h
 | .lst ds,n+1,h=>by simp only[plainD]at h;simp only[Ig];exact km ds n h
 | .dct _ _ _,n,h=>by cases n <;> (simp only[plainD]at h;cases h)
theorem km:∀(ds:List D) (n:Nat),plainDs n ds=true->iw ds ds=true
 |[],_,_=>by simp only[iw]
 |d::ds,n,h=>by
  rw[plainDs,TM]at h;rw[iw,iN d n h.1,km ds n h.2];rfl
end
open PySem.SeqAt
theorem bN{n:Nat}{tk:Bool}{ks vs:List D}(h:plainD n (.dct tk ks vs)=true):False:=by cases n <;> (simp only[plainD]at h;cases h)
mutual
theorem AE(I:Inv X pr σ H s):∀(d e:D) (x y:V) (v u:Value) (A:Around) (n:Nat),plainD n d=true->plainD n e=true->A.units+n<cLine->Rep X.K H d x->Rep X.K H e y->RelV x v->RelV y u->EqAt A s v u (Ig d e)
 | .non,e,x,y,v,u,A,n,h,h',hu,r,q,rx,ry=>by
  cases cp r;cases rx;cases e with
  |non=>cases cp q;cases ry;simp only[Ig];exact .same _
  |bl b=>cases c7 q;cases ry;simp only[Ig];exact .none_bool _
  |int i=>cases bH q;obtain⟨t,rfl⟩:=ry;simp only[Ig];exact .none_int _ _
  |str l=>cases(bA q).1;obtain⟨t,rfl⟩:=ry;simp only[Ig];exact .none_str _ _
  |tup l=>obtain⟨p,xs,rfl,sq,_⟩:=bB q;cases ry;obtain⟨Ic,_,ip,_⟩:=I.tuple sq;simp only[Ig];exact .none_tuple (show s.heap.IsTuple p Ic.toArray from ip) (by lia)
  |lst l=>obtain⟨p,xs,rfl,sq,_⟩:=bI q;cases ry;obtain⟨Ic,_,ip,_⟩:=I.list sq;simp only[Ig];exact .none_list ip.isList (by lia)
  |dct tk ks vs=>exact(bN h').elim
 | .bl b,e,x,y,v,u,A,n,h,h',hu,r,q,rx,ry=>by
  cases c7 r;cases rx;cases e with
  |non=>cases cp q;cases ry;simp only[Ig];exact .bool_none _
  |bl b=>cases c7 q;cases ry;simp only[Ig];exact .bool_bool _ _
  |int i=>cases bH q;obtain⟨t,rfl⟩:=ry;simp only[Ig];exact .bool_int _ _ _
  |str l=>cases(bA q).1;obtain⟨t,rfl⟩:=ry;simp only[Ig];exact .bool_str _ _ _
  |tup l=>obtain⟨p,xs,rfl,sq,_⟩:=bB q;cases ry;obtain⟨Ic,_,ip,_⟩:=I.tuple sq;simp only[Ig];exact .bool_tuple _ (show s.heap.IsTuple p Ic.toArray from ip) (by lia)
  |lst l=>obtain⟨p,xs,rfl,sq,_⟩:=bI q;cases ry;obtain⟨Ic,_,ip,_⟩:=I.list sq;simp only[Ig];exact .bool_list _ ip.isList (by lia)
  |dct tk ks vs=>exact(bN h').elim
 | .int b,e,x,y,v,u,A,n,h,h',hu,r,q,rx,ry=>by
  cases bH r;obtain⟨t0,rfl⟩:=rx;cases e with
  |non=>cases cp q;cases ry;simp only[Ig];exact .int_none _ _
  |bl b=>cases c7 q;cases ry;simp only[Ig];exact .int_bool _ _ _
  |int i=>cases bH q;obtain⟨t,rfl⟩:=ry;simp only[Ig];exact .int_int _ _ _ _
  |str l=>cases(bA q).1;obtain⟨t,rfl⟩:=ry;simp only[Ig];exact .int_str _ _ _ _
  |tup l=>obtain⟨p,xs,rfl,sq,_⟩:=bB q;cases ry;obtain⟨Ic,_,ip,_⟩:=I.tuple sq;simp only[Ig];exact .int_tuple _ _ (show s.heap.IsTuple p Ic.toArray from ip) (by lia)
  |lst l=>obtain⟨p,xs,rfl,sq,_⟩:=bI q;cases ry;obtain⟨Ic,_,ip,_⟩:=I.list sq;simp only[Ig];exact .int_list _ _ ip.isList (by lia)
  |dct tk ks vs=>exact(bN h').elim
 | .str b,e,x,y,v,u,A,n,h,h',hu,r,q,rx,ry=>by
  have hr:=(bA r).1;subst hr;obtain⟨t0,rfl⟩:=rx;cases e with
  |non=>cases cp q;cases ry;simp only[Ig];exact .str_none _ _
  |bl b=>cases c7 q;cases ry;simp only[Ig];exact .str_bool _ _ _
  |int i=>cases bH q;obtain⟨t,rfl⟩:=ry;simp only[Ig];exact .str_int _ _ _ _
  |str l=>
   have hq:=(bA q).1;subst hq;obtain⟨t,rfl⟩:=ry;have e1:(b==l)=(S b==S l):=by
    rw[T5,Us,Us];exact⟨fun z=>by rw[z],S_inj⟩
   simp only[Ig,e1];exact .str_str _ _ _ _
  |tup l=>obtain⟨p,xs,rfl,sq,_⟩:=bB q;cases ry;obtain⟨Ic,_,ip,_⟩:=I.tuple sq;simp only[Ig];exact .str_tuple _ _ (show s.heap.IsTuple p Ic.toArray from ip) (by lia)
  |lst l=>obtain⟨p,xs,rfl,sq,_⟩:=bI q;cases ry;obtain⟨Ic,_,ip,_⟩:=I.list sq;simp only[Ig];exact .str_list _ _ ip.isList (by lia)
  |dct tk ks vs=>exact(bN h').elim
 | .tup l,e,x,y,v,u,A,n,h,h',hu,r,q,rx,ry=>by
  have rr:=r;obtain⟨p,xs,ev,sq,rs⟩:=bB r;subst ev;cases rx;obtain⟨Ic,vl,ip,_⟩:=I.tuple sq;have ip:s.heap.IsTuple p Ic.toArray:=ip;cases e with
  |non=>cases cp q;cases ry;simp only[Ig];exact .tuple_none ip (by lia)
  |bl b=>cases c7 q;cases ry;simp only[Ig];exact .tuple_bool _ ip (by lia)
  |int i=>cases bH q;obtain⟨t,rfl⟩:=ry;simp only[Ig];exact .tuple_int _ _ ip (by lia)
  |str l=>cases(bA q).1;obtain⟨t,rfl⟩:=ry;simp only[Ig];exact .tuple_str _ _ ip (by lia)
  |tup l'=>
   obtain⟨p',JK,Kf,JN,Ko⟩:=bB q;subst Kf;cases ry;by_cases hp:p=p'
   ·subst hp;have hz:=kj I _ _ _ n h rr q;rw[<-hz,iN _ n h];exact .same _
   ·obtain⟨its',ME,J7,_⟩:=I.tuple JN;have J7:s.heap.IsTuple p' its'.toArray:=J7;cases n with
    |zero=>simp only[plainD]at h;cases h
    |succ n=>
     simp only[plainD]at h h';have l1:=vl.length;have l2:=ME.length;have l3:=rs.length;have l4:=Ko.length;have key:=RcAt.tuples (A:=A) (e:=fun j=>Ig (l.getD j .non) (l'.getD j .non)) ip J7 (by lia) fun j h1 h2=>by
      simp only[Tu]at h1 h2;have g1:l[j]?=some (l[j]'(by lia)):=List.getElem?_eq_getElem _;have g2:l'[j]?=some (l'[j]'(by lia)):=List.getElem?_eq_getElem _;obtain⟨w1,Lz,LA⟩:=rs.get g1;obtain⟨w2,MF,MG⟩:=Ko.get g2;obtain⟨u1,Kx,LB⟩:=vl.get Lz;obtain⟨u2,Lf,MH⟩:=ME.get MF;have q1:Ic.toArray[j]=u1:=by rw[List.getElem?_eq_getElem h1]at Kx;simpa using Kx
      have q2:its'.toArray[j]=u2:=by rw[List.getElem?_eq_getElem h2]at Lf;simpa using Lf
      rw[q1,q2,List.getD_eq_getElem?_getD,List.getD_eq_getElem?_getD,g1,g2];exact oq I l j _ g1 _ w1 w2 u1 u2 A.in1 n (plainDs_mem h g1) (plainDs_mem h' g2) (by show A.units+1+n<cLine;lia) LA MG LB MH
     simp only[Ig];have fin:((List.range (min Ic.toArray.size its'.toArray.size)).all (fun j=>Ig (l.getD j .non) (l'.getD j .non))&&Ic.toArray.size==its'.toArray.size)=iw l l':=by
      simp only[Tu];by_cases hl:l.length=l'.length
      ·rw[<-eQ hl,show min Ic.length its'.length=l.length by lia,show(Ic.length==its'.length)=true by rw[Us];lia,V3]
      ·rw[iM hl,show(Ic.length==its'.length)=false by rw[UW];lia,Wi]
     rw[<-fin];exact .of_refs hp key
  |lst l'=>obtain⟨p',JK,Kf,JN,_⟩:=bI q;subst Kf;cases ry;obtain⟨its',_,J7,_⟩:=I.list JN;simp only[Ig];exact .tuple_list ip J7.isList (by lia)
  |dct tk ks vs=>exact(bN h').elim
 | .lst l,e,x,y,v,u,A,n,h,h',hu,r,q,rx,ry=>by
  have rr:=r;obtain⟨p,xs,ev,sq,rs⟩:=bI r;subst ev;cases rx;obtain⟨Ic,vl,ip,_⟩:=I.list sq;have ip:=ip.isList;cases e with
  |non=>cases cp q;cases ry;simp only[Ig];exact .list_none ip (by lia)
  |bl b=>cases c7 q;cases ry;simp only[Ig];exact .list_bool _ ip (by lia)
  |int i=>cases bH q;obtain⟨t,rfl⟩:=ry;simp only[Ig];exact .list_int _ _ ip (by lia)
  |str l=>cases(bA q).1;obtain⟨t,rfl⟩:=ry;simp only[Ig];exact .list_str _ _ ip (by lia)
  |lst l'=>
   obtain⟨p',JK,Kf,JN,Ko⟩:=bI q;subst Kf;cases ry;by_cases hp:p=p'
   ·subst hp;have hz:=kj I _ _ _ n h rr q;rw[<-hz,iN _ n h];exact .same _
   ·obtain⟨its',ME,J7,_⟩:=I.list JN;have J7:=J7.isList;cases n with
    |zero=>simp only[plainD]at h;cases h
    |succ n=>
     simp only[plainD]at h h';have l1:=vl.length;have l2:=ME.length;have l3:=rs.length;have l4:=Ko.length;simp only[Ig];by_cases hl:l.length=l'.length
     ·have key:=RcAt.lists (A:=A) (e:=fun j=>Ig (l.getD j .non) (l'.getD j .non)) ip J7 (by simp only[Tu];lia) (by lia) fun j h1 h2=>by
       simp only[Tu]at h1 h2;have g1:l[j]?=some (l[j]'(by lia)):=List.getElem?_eq_getElem _;have g2:l'[j]?=some (l'[j]'(by lia)):=List.getElem?_eq_getElem _;obtain⟨w1,Lz,LA⟩:=rs.get g1;obtain⟨w2,MF,MG⟩:=Ko.get g2;obtain⟨u1,Kx,LB⟩:=vl.get Lz;obtain⟨u2,Lf,MH⟩:=ME.get MF;have q1:Ic.toArray[j]=u1:=by rw[List.getElem?_eq_getElem h1]at Kx;simpa using Kx
       have q2:its'.toArray[j]=u2:=by rw[List.getElem?_eq_getElem h2]at Lf;simpa using Lf
       rw[q1,q2,List.getD_eq_getElem?_getD,List.getD_eq_getElem?_getD,g1,g2];exact oq I l j _ g1 _ w1 w2 u1 u2 A.in1 n (plainDs_mem h g1) (plainDs_mem h' g2) (by show A.units+1+n<cLine;lia) LA MG LB MH
      rw[<-eQ hl,show l.length=Ic.toArray.size by simp only[Tu];lia];exact .of_refs hp key
     ·rw[iM hl];exact .of_refs hp (RcAt.lists_lengths ip J7 (by simp only[Tu,Zx];lia) (by lia))
  |tup l'=>obtain⟨p',JK,Kf,JN,_⟩:=bB q;subst Kf;cases ry;obtain⟨its',_,J7,_⟩:=I.tuple JN;simp only[Ig];exact .list_tuple ip (show s.heap.IsTuple p' its'.toArray from J7) (by lia)
  |dct tk ks vs=>exact(bN h').elim
 | .dct _ _ _,_,_,_,_,_,_,n,h,_,_,_,_,_,_=>(bN h).elim
theorem oq(I:Inv X pr σ H s):∀(ds:List D) (j:Nat) (d:D),ds[j]?=some d->∀(e:D) (x y:V) (v u:Value) (A:Around) (n:Nat),plainD n d=true->plainD n e=true->A.units+n<cLine->Rep X.K H d x->Rep X.K H e y->RelV x v->RelV y u->EqAt A s v u (Ig d e)
 |[],_,_,hj=>by simp at hj
 |d'::ds,0,d,hj=>by
  simp at hj;subst hj;exact AE I d'
 |d'::ds,j+1,d,hj=>oq I ds j d (by simpa using hj)
end
end
section
variable{X:Cx}
def JW(a b:D):Res R:=if plainD 40 a&&plainD 40 b then .ok (.f,.bl (Ig a b)) else .bad
def Lg(a b:D):Res R:=if plainD 40 a&&plainD 40 b then .ok (.f,.bl (!Ig a b)) else .bad
open PySem.SeqAt in
theorem C9{pr:List (Addr×Obj)}{σ:L2.St}{H:Hp}{s:Shared}(I:Inv X pr σ H s){d e:D}{x y:V}{v u:Value}{A:Around}(h:plainD 40 d=true)(h':plainD 40 e=true)(hu:A.units+64<cLine)(r:Rep X.K H d x)(q:Rep X.K H e y)(rx:RelV x v)(ry:RelV y u):
  RcAt A s v u (Ig d e)/\RcNeAt A s v u (!Ig d e):=by
 cases d with
 |non=>
  cases cp r;cases rx;cases e with
  |non=>cases cp q;cases ry;simp only[Ig];exact⟨.none_none,.none_none⟩
  |bl b=>cases c7 q;cases ry;simp only[Ig];exact⟨.none_bool _,.none_bool _⟩
  |int i=>cases bH q;obtain⟨t,rfl⟩:=ry;simp only[Ig];exact⟨.none_int _ _,.none_int _ _⟩
  |str l=>cases(bA q).1;obtain⟨t,rfl⟩:=ry;simp only[Ig];exact⟨.none_str _ _,.none_str _ _⟩
  |tup l=>obtain⟨p,xs,rfl,sq,_⟩:=bB q;cases ry;obtain⟨Ic,_,ip,_⟩:=I.tuple sq;simp only[Ig];exact⟨.none_tuple (show s.heap.IsTuple p Ic.toArray from ip) (by lia),.none_tuple (show s.heap.IsTuple p Ic.toArray from ip) (by lia)⟩
  |lst l=>obtain⟨p,xs,rfl,sq,_⟩:=bI q;cases ry;obtain⟨Ic,_,ip,_⟩:=I.list sq;simp only[Ig];exact⟨.none_list ip.isList (by lia),.none_list ip.isList (by lia)⟩
  |dct tk ks vs=>exact(bN h').elim
 |bl b=>
  cases c7 r;cases rx;cases e with
  |non=>cases cp q;cases ry;simp only[Ig];exact⟨.bool_none _,.bool_none _⟩
  |bl b=>cases c7 q;cases ry;simp only[Ig];exact⟨.bool_bool _ _,.bool_bool _ _⟩
  |int i=>cases bH q;obtain⟨t,rfl⟩:=ry;simp only[Ig];exact⟨.bool_int _ _ _,.bool_int _ _ _⟩
  |str l=>cases(bA q).1;obtain⟨t,rfl⟩:=ry;simp only[Ig];exact⟨.bool_str _ _ _,.bool_str _ _ _⟩
  |tup l=>obtain⟨p,xs,rfl,sq,_⟩:=bB q;cases ry;obtain⟨Ic,_,ip,_⟩:=I.tuple sq;simp only[Ig];exact⟨.bool_tuple _ (show s.heap.IsTuple p Ic.toArray from ip) (by lia),.bool_tuple _ (show s.heap.IsTuple p Ic.toArray from ip) (by lia)⟩
  |lst l=>obtain⟨p,xs,rfl,sq,_⟩:=bI q;cases ry;obtain⟨Ic,_,ip,_⟩:=I.list sq;simp only[Ig];exact⟨.bool_list _ ip.isList (by lia),.bool_list _ ip.isList (by lia)⟩
  |dct tk ks vs=>exact(bN h').elim
 |int b=>
  cases bH r;obtain⟨t0,rfl⟩:=rx;cases e with
  |non=>cases cp q;cases ry;simp only[Ig];exact⟨.int_none _ _,.int_none _ _⟩
  |bl b=>cases c7 q;cases ry;simp only[Ig];exact⟨.int_bool _ _ _,.int_bool _ _ _⟩
  |int i=>cases bH q;obtain⟨t,rfl⟩:=ry;simp only[Ig];exact⟨.int_int _ _ _ _,.int_int _ _ _ _⟩
  |str l=>cases(bA q).1;obtain⟨t,rfl⟩:=ry;simp only[Ig];exact⟨.int_str _ _ _ _,.int_str _ _ _ _⟩
  |tup l=>obtain⟨p,xs,rfl,sq,_⟩:=bB q;cases ry;obtain⟨Ic,_,ip,_⟩:=I.tuple sq;simp only[Ig];exact⟨.int_tuple _ _ (show s.heap.IsTuple p Ic.toArray from ip) (by lia),.int_tuple _ _ (show s.heap.IsTuple p Ic.toArray from ip) (by lia)⟩
  |lst l=>obtain⟨p,xs,rfl,sq,_⟩:=bI q;cases ry;obtain⟨Ic,_,ip,_⟩:=I.list sq;simp only[Ig];exact⟨.int_list _ _ ip.isList (by lia),.int_list _ _ ip.isList (by lia)⟩
  |dct tk ks vs=>exact(bN h').elim
 |str b=>
  have hr:=(bA r).1;subst hr;obtain⟨t0,rfl⟩:=rx;cases e with
  |non=>cases cp q;cases ry;simp only[Ig];exact⟨.str_none _ _,.str_none _ _⟩
  |bl b=>cases c7 q;cases ry;simp only[Ig];exact⟨.str_bool _ _ _,.str_bool _ _ _⟩
  |int i=>cases bH q;obtain⟨t,rfl⟩:=ry;simp only[Ig];exact⟨.str_int _ _ _ _,.str_int _ _ _ _⟩
  |str l=>
   have hq:=(bA q).1;subst hq;obtain⟨t,rfl⟩:=ry;have e1:(b==l)=(S b==S l):=by
    rw[T5,Us,Us];exact⟨fun z=>by rw[z],S_inj⟩
   simp only[Ig,e1];exact⟨.str_str _ _ _ _,.str_str _ _ _ _⟩
  |tup l=>obtain⟨p,xs,rfl,sq,_⟩:=bB q;cases ry;obtain⟨Ic,_,ip,_⟩:=I.tuple sq;simp only[Ig];exact⟨.str_tuple _ _ (show s.heap.IsTuple p Ic.toArray from ip) (by lia),.str_tuple _ _ (show s.heap.IsTuple p Ic.toArray from ip) (by lia)⟩
  |lst l=>obtain⟨p,xs,rfl,sq,_⟩:=bI q;cases ry;obtain⟨Ic,_,ip,_⟩:=I.list sq;simp only[Ig];exact⟨.str_list _ _ ip.isList (by lia),.str_list _ _ ip.isList (by lia)⟩
  |dct tk ks vs=>exact(bN h').elim
 |tup l=>
  obtain⟨p,xs,ev,sq,rs⟩:=bB r;subst ev;cases rx;obtain⟨Ic,vl,ip,_⟩:=I.tuple sq;have ip:s.heap.IsTuple p Ic.toArray:=ip;cases e with
  |non=>cases cp q;cases ry;simp only[Ig];exact⟨.tuple_none ip (by lia),.tuple_none ip (by lia)⟩
  |bl b=>cases c7 q;cases ry;simp only[Ig];exact⟨.tuple_bool _ ip (by lia),.tuple_bool _ ip (by lia)⟩
  |int i=>cases bH q;obtain⟨t,rfl⟩:=ry;simp only[Ig];exact⟨.tuple_int _ _ ip (by lia),.tuple_int _ _ ip (by lia)⟩
  |str l=>cases(bA q).1;obtain⟨t,rfl⟩:=ry;simp only[Ig];exact⟨.tuple_str _ _ ip (by lia),.tuple_str _ _ ip (by lia)⟩
  |tup l'=>
   obtain⟨p',JK,Kf,JN,Ko⟩:=bB q;subst Kf;cases ry;obtain⟨its',ME,J7,_⟩:=I.tuple JN;have J7:s.heap.IsTuple p' its'.toArray:=J7;simp only[plainD]at h h';have l1:=vl.length;have l2:=ME.length;have l3:=rs.length;have l4:=Ko.length;have el:∀j (h1:j<Ic.toArray.size) (h2:j<its'.toArray.size),EqAt A.in1 s Ic.toArray[j] its'.toArray[j] ((fun j=>Ig (l.getD j .non) (l'.getD j .non)) j):=fun j h1 h2=>by
    simp only[Tu]at h1 h2;have g1:l[j]?=some (l[j]'(by lia)):=List.getElem?_eq_getElem _;have g2:l'[j]?=some (l'[j]'(by lia)):=List.getElem?_eq_getElem _;obtain⟨w1,Lz,LA⟩:=rs.get g1;obtain⟨w2,MF,MG⟩:=Ko.get g2;obtain⟨u1,Kx,LB⟩:=vl.get Lz;obtain⟨u2,Lf,MH⟩:=ME.get MF;have q1:Ic.toArray[j]=u1:=by rw[List.getElem?_eq_getElem h1]at Kx;simpa using Kx
    have q2:its'.toArray[j]=u2:=by rw[List.getElem?_eq_getElem h2]at Lf;simpa using Lf
    dsimp only;rw[q1,q2,List.getD_eq_getElem?_getD,List.getD_eq_getElem?_getD,g1,g2];exact oq I l j _ g1 _ w1 w2 u1 u2 A.in1 39 (plainDs_mem h g1) (plainDs_mem h' g2) (by show A.units+1+39<cLine;lia) LA MG LB MH
   simp only[Ig];have fin:((List.range (min Ic.toArray.size its'.toArray.size)).all (fun j=>Ig (l.getD j .non) (l'.getD j .non))&&Ic.toArray.size==its'.toArray.size)=iw l l':=by
    simp only[Tu];by_cases hl:l.length=l'.length
    ·rw[<-eQ hl,show min Ic.length its'.length=l.length by lia,show(Ic.length==its'.length)=true by rw[Us];lia,V3]
    ·rw[iM hl,show(Ic.length==its'.length)=false by rw[UW];lia,Wi]
   rw[<-fin];exact⟨.tuples ip J7 (by lia) el,.tuples ip J7 (by lia) el⟩
  |lst l'=>obtain⟨p',JK,Kf,JN,_⟩:=bI q;subst Kf;cases ry;obtain⟨its',_,J7,_⟩:=I.list JN;simp only[Ig];exact⟨.tuple_list ip J7.isList (by lia),.tuple_list ip J7.isList (by lia)⟩
  |dct tk ks vs=>exact(bN h').elim
 |lst l=>
  obtain⟨p,xs,ev,sq,rs⟩:=bI r;subst ev;cases rx;obtain⟨Ic,vl,ip,_⟩:=I.list sq;have ip:=ip.isList;cases e with
  |non=>cases cp q;cases ry;simp only[Ig];exact⟨.list_none ip (by lia),.list_none ip (by lia)⟩
  |bl b=>cases c7 q;cases ry;simp only[Ig];exact⟨.list_bool _ ip (by lia),.list_bool _ ip (by lia)⟩
  |int i=>cases bH q;obtain⟨t,rfl⟩:=ry;simp only[Ig];exact⟨.list_int _ _ ip (by lia),.list_int _ _ ip (by lia)⟩
  |str l=>cases(bA q).1;obtain⟨t,rfl⟩:=ry;simp only[Ig];exact⟨.list_str _ _ ip (by lia),.list_str _ _ ip (by lia)⟩
  |lst l'=>
   obtain⟨p',JK,Kf,JN,Ko⟩:=bI q;subst Kf;cases ry;obtain⟨its',ME,J7,_⟩:=I.list JN;have J7:=J7.isList;simp only[plainD]at h h';have l1:=vl.length;have l2:=ME.length;have l3:=rs.length;have l4:=Ko.length;simp only[Ig];by_cases hl:l.length=l'.length
   ·have el:∀j (h1:j<Ic.toArray.size) (h2:j<its'.toArray.size),EqAt A.in1 s Ic.toArray[j] its'.toArray[j] ((fun j=>Ig (l.getD j .non) (l'.getD j .non)) j):=fun j h1 h2=>by
     simp only[Tu]at h1 h2;have g1:l[j]?=some (l[j]'(by lia)):=List.getElem?_eq_getElem _;have g2:l'[j]?=some (l'[j]'(by lia)):=List.getElem?_eq_getElem _;obtain⟨w1,Lz,LA⟩:=rs.get g1;obtain⟨w2,MF,MG⟩:=Ko.get g2;obtain⟨u1,Kx,LB⟩:=vl.get Lz;obtain⟨u2,Lf,MH⟩:=ME.get MF;have q1:Ic.toArray[j]=u1:=by rw[List.getElem?_eq_getElem h1]at Kx;simpa using Kx
     have q2:its'.toArray[j]=u2:=by rw[List.getElem?_eq_getElem h2]at Lf;simpa using Lf
     dsimp only;rw[q1,q2,List.getD_eq_getElem?_getD,List.getD_eq_getElem?_getD,g1,g2];exact oq I l j _ g1 _ w1 w2 u1 u2 A.in1 39 (plainDs_mem h g1) (plainDs_mem h' g2) (by show A.units+1+39<cLine;lia) LA MG LB MH
    rw[<-eQ hl,show l.length=Ic.toArray.size by simp only[Tu];lia];exact⟨.lists ip J7 (by simp only[Tu];lia) (by lia) el,.lists ip J7 (by simp only[Tu];lia) (by lia) el⟩
   ·rw[iM hl];exact⟨.lists_lengths ip J7 (by simp only[Tu,Zx];lia) (by lia),.lists_lengths ip J7 (by simp only[Tu,Zx];lia) (by lia)⟩
  |tup l'=>obtain⟨p',JK,Kf,JN,_⟩:=bB q;subst Kf;cases ry;obtain⟨its',_,J7,_⟩:=I.tuple JN;simp only[Ig];exact⟨.list_tuple ip (show s.heap.IsTuple p' its'.toArray from J7) (by lia),.list_tuple ip (show s.heap.IsTuple p' its'.toArray from J7) (by lia)⟩
  |dct tk ks vs=>exact(bN h').elim
 |dct tk ks vs=>exact(bN h).elim
theorem iO(hu:X.A.units+64<cLine):IZ X (compareOp .Eq) (rGA X.K JW):=by
 rintro pr s σ H x y v u Q I rx ry ⟨G,fp,es,vs,a,b,r,⟨rel,k⟩,va,vb,e⟩;unfold JW at e;split at e
 ·rename_i hp;cases e;rw[TM]at hp;exact(C9 I hp.1 hp.2 hu va vb rx ry).1 _ _ _ _ ⟨.bl _,H,I,rfl,k _ H G fp .refl (rel.push (cK _))⟩
 ·cases e
theorem sZ(hu:X.A.units+64<cLine):IZ X (compareOp .NotEq) (rGA X.K Lg):=by
 rintro pr s σ H x y v u Q I rx ry ⟨G,fp,es,vs,a,b,r,⟨rel,k⟩,va,vb,e⟩;unfold Lg at e;split at e
 ·rename_i hp;cases e;rw[TM]at hp;exact(C9 I hp.1 hp.2 hu va vb rx ry).2 _ _ _ _ ⟨.bl _,H,I,rfl,k _ H G fp .refl (rel.push (cK _))⟩
 ·cases e
def wV(a:D)(ds:List D):Bool:=ds.any fun d=>Ig d a
noncomputable def MI(a b:D):Res R:=match b with
 | .lst ds=>if plainD 40 a&&plainDs 40 ds then .ok (.f,.bl (wV a ds)) else .bad
 | .tup ds=>if plainD 40 a&&plainDs 40 ds then .ok (.f,.bl (wV a ds)) else .bad
 | .str l=>match a with
  | .str [c]=>.ok (.f,.bl (decide (c∈l)))
  |_=>.bad
 |_=>.bad
def B2(a b:D):Res R:=(MI a b).bind fun r=>match r.2 with
 | .bl k=>.ok (.f,.bl (!k))
 |_=>.bad
open PySem.SeqAt in
theorem qX{pr:List (Addr×Obj)}{σ:L2.St}{H:Hp}{s:Shared}(I:Inv X pr σ H s){a:D}{x:V}{v:Value}{A:Around}(h:plainD 40 a=true)(hu:A.units+64<cLine)(r:Rep X.K H a x)(rx:RelV x v):
  ∀(ds:List D) (xs:List V) (us:List Value),plainDs 40 ds=true->Reps X.K H ds xs->Vals xs us->∃e:Value->Bool,us.any e=wV a ds/\∀u∈us,EqAt A s u v (e u):=by
 classical
 intro ds xs us hp rs vl;refine⟨fun u=>decide (∃(j:Nat) (d:D),ds[j]?=some d/\us[j]?=some u/\Ig d a=true),?_,fun u RV=>?_⟩
 ·rw[T5,U3];unfold wV;rw[U3];constructor
  ·rintro⟨u,_,hd⟩;obtain⟨j,d,h1,_,h2⟩:=Vs hd;exact⟨d,T6 h1,h2⟩
  ·rintro⟨d,hd,h2⟩;obtain⟨j,hj⟩:=Uv.mp hd;obtain⟨w1,Lz,LA⟩:=rs.get hj;obtain⟨u1,Kx,LB⟩:=vl.get Lz;exact⟨u1,T6 Kx,T9 ⟨j,d,hj,Kx,h2⟩⟩
 ·obtain⟨j,hj⟩:=Uv.mp RV;have l1:=vl.length;have l2:=rs.length;have hjl:=(List.getElem?_eq_some_iff.mp hj).1;have g1:ds[j]?=some (ds[j]'(by lia)):=List.getElem?_eq_getElem _;obtain⟨w1,Lz,LA⟩:=rs.get g1;obtain⟨u1,Kx,LB⟩:=vl.get Lz;rw[hj]at Kx;cases Kx;have z:=AE I _ _ w1 x u v A 40 (plainDs_mem hp g1) h (by lia) LA r LB rx;have e:decide (∃(j:Nat) (d:D),ds[j]?=some d/\us[j]?=some u/\Ig d a=true)=Ig (ds[j]'(by lia)) a:=by
   rw[T5,TQ];constructor
   ·rintro⟨j2,d2,k1,k2,k3⟩;obtain⟨w2,MF,MG⟩:=rs.get k1;obtain⟨u2,Lf,MH⟩:=vl.get MF;rw[k2]at Lf;cases Lf;have:=LB.inj MH;subst this;rw[kj I _ _ _ 40 (plainDs_mem hp g1) LA MG];exact k3
   ·intro k3;exact⟨j,_,g1,hj,k3⟩
  show EqAt A s u v (decide (∃(j:Nat) (d:D),ds[j]?=some d/\us[j]?=some u/\Ig d a=true));rw[e];exact z
theorem ot(l:List Nat)(c:Nat):(!(Builtin.Str.occurrences (S l) (S [c]) 0 (S l).length 1).isEmpty)=decide (c∈l):=by
 have h:=PySem.StrLaws.found_one (S l) c;rw[dr]at h;exact h
theorem mD{e:Value->Bool}(us:List Value):us.toArray.any e=us.any e:=by simp
theorem FN(hu:X.A.units+65<cLine):IZ X (compareOp .In) (rGA X.K MI):=by
 rintro pr s σ H x y v u Q I rx ry ⟨G,fp,es,vs,a,b,r,⟨rel,k⟩,va,vb,e⟩;unfold MI at e;split at e
 ·rename_i ds;split at e
  ·rename_i hp;cases e;rw[TM]at hp;obtain⟨p,xs,ev,sq,rs⟩:=bI vb;subst ev;cases ry;obtain⟨Ic,vl,ip,_⟩:=I.list sq;obtain⟨ef,e1,e2⟩:=qX (A:=X.A.in1) I hp.1 (by show X.A.units+1+64<cLine;lia) va rx ds xs Ic hp.2 rs vl;refine SeqAt.in_listAt ef ip.isList (fun z hz=>e2 z (by simpa using hz)) ?_;rw[mD,e1];exact⟨.bl _,H,I,rfl,k _ H G fp .refl (rel.push (cK _))⟩
  ·cases e
 ·rename_i ds;split at e
  ·rename_i hp;cases e;rw[TM]at hp;obtain⟨p,xs,ev,sq,rs⟩:=bB vb;subst ev;cases ry;obtain⟨Ic,vl,ip,_⟩:=I.tuple sq;obtain⟨ef,e1,e2⟩:=qX (A:=X.A.in1) I hp.1 (by show X.A.units+1+64<cLine;lia) va rx ds xs Ic hp.2 rs vl;refine SeqAt.in_tupleAt ef (show s.heap.IsTuple p Ic.toArray from ip) (fun z hz=>e2 z (by simpa using hz)) ?_;rw[mD,e1];exact⟨.bl _,H,I,rfl,k _ H G fp .refl (rel.push (cK _))⟩
  ·cases e
 ·rename_i l;split at e
  ·rename_i c;cases e;obtain⟨e1,h1⟩:=bA va;obtain⟨e2,h2⟩:=bA vb;subst e1;subst e2;refine uq pr s σ H _ _ v u Q I rx ry ⟨_,_,rfl,rfl,?_⟩;rw[ot];exact k _ H G fp .refl (rel.push (cK _))
  ·cases e
 ·cases e
theorem Dc(hu:X.A.units+65<cLine):IZ X (compareOp .NotIn) (rGA X.K B2):=by
 rintro pr s σ H x y v u Q I rx ry ⟨G,fp,es,vs,a,b,r,⟨rel,k⟩,va,vb,e⟩;unfold B2 at e;obtain⟨r0,e0,e⟩:=au e;unfold MI at e0;split at e0
 ·rename_i ds;split at e0
  ·rename_i hp;cases e0;cases e;rw[TM]at hp;obtain⟨p,xs,ev,sq,rs⟩:=bI vb;subst ev;cases ry;obtain⟨Ic,vl,ip,_⟩:=I.list sq;obtain⟨ef,e1,e2⟩:=qX (A:=X.A.in1) I hp.1 (by show X.A.units+1+64<cLine;lia) va rx ds xs Ic hp.2 rs vl;refine SeqAt.notIn_listAt ef ip.isList (fun z hz=>e2 z (by simpa using hz)) ?_;rw[mD,e1];exact⟨.bl _,H,I,rfl,k _ H G fp .refl (rel.push (cK _))⟩
  ·cases e0
 ·rename_i ds;split at e0
  ·rename_i hp;cases e0;cases e;rw[TM]at hp;obtain⟨p,xs,ev,sq,rs⟩:=bB vb;subst ev;cases ry;obtain⟨Ic,vl,ip,_⟩:=I.tuple sq;obtain⟨ef,e1,e2⟩:=qX (A:=X.A.in1) I hp.1 (by show X.A.units+1+64<cLine;lia) va rx ds xs Ic hp.2 rs vl;refine SeqAt.notIn_tupleAt ef (show s.heap.IsTuple p Ic.toArray from ip) (fun z hz=>e2 z (by simpa using hz)) ?_;rw[mD,e1];exact⟨.bl _,H,I,rfl,k _ H G fp .refl (rel.push (cK _))⟩
  ·cases e0
 ·rename_i l;split at e0
  ·rename_i c;cases e0;cases e;obtain⟨e1,h1⟩:=bA va;obtain⟨e2,h2⟩:=bA vb;subst e1;subst e2;refine nr pr s σ H _ _ v u Q I rx ry ⟨_,_,rfl,rfl,?_⟩;rw[ot];exact k _ H G fp .refl (rel.push (cK _))
  ·cases e0
 ·cases e0
def Nm(a b:D):Res R:=match b with
 | .bl k=>.ok (.f,.bl (match a with | .bl j=>j==k|_=>false))
 | .non=>.ok (.f,.bl (match a with | .non=>true|_=>false))
 |_=>.bad
def isnO(a b:D):Res R:=(Nm a b).bind fun r=>match r.2 with
 | .bl k=>.ok (.f,.bl (!k))
 |_=>.bad
theorem qY{K:W.Frag}{H:Hp}{a b:D}{x y:V}{v u:Value}{r:R}(va:Rep K H a x)(vb:Rep K H b y)(rx:RelV x v)(ry:RelV y u)(e:Nm a b=.ok r):plainIs v u=true/\r=(.f,.bl (v==u)):=by
 unfold Nm at e;split at e
 ·rename_i k;cases e;cases c7 vb;cases ry;cases a with
  |non=>cases cp va;cases rx;exact⟨rfl,rfl⟩
  |bl j=>cases c7 va;cases rx;refine⟨rfl,?_⟩;cases j <;> cases k <;> rfl
  |int i=>cases bH va;obtain⟨t,rfl⟩:=rx;exact⟨rfl,rfl⟩
  |str l=>cases(bA va).1;obtain⟨t,rfl⟩:=rx;exact⟨rfl,rfl⟩
  |tup l=>obtain⟨p,xs,rfl,_⟩:=bB va;cases rx;exact⟨rfl,rfl⟩
  |lst l=>obtain⟨p,xs,rfl,_⟩:=bI va;cases rx;exact⟨rfl,rfl⟩
  |dct tk ks vs=>rw[Rep]at va;obtain⟨p,xs,o,rfl,_⟩:=va;cases rx;exact⟨rfl,rfl⟩
 ·cases e;cases cp vb;cases ry;cases a with
  |non=>cases cp va;cases rx;exact⟨rfl,rfl⟩
  |bl j=>cases c7 va;cases rx;exact⟨rfl,rfl⟩
  |int i=>cases bH va;obtain⟨t,rfl⟩:=rx;exact⟨rfl,rfl⟩
  |str l=>cases(bA va).1;obtain⟨t,rfl⟩:=rx;exact⟨rfl,rfl⟩
  |tup l=>obtain⟨p,xs,rfl,_⟩:=bB va;cases rx;exact⟨rfl,rfl⟩
  |lst l=>obtain⟨p,xs,rfl,_⟩:=bI va;cases rx;exact⟨rfl,rfl⟩
  |dct tk ks vs=>rw[Rep]at va;obtain⟨p,xs,o,rfl,_⟩:=va;cases rx;exact⟨rfl,rfl⟩
 ·cases e
theorem De:IZ X (compareOp .Is) (rGA X.K Nm):=by
 rintro pr s σ H x y v u Q I rx ry ⟨G,fp,es,vs,a,b,r,⟨rel,k⟩,va,vb,e⟩;obtain⟨h1,h2⟩:=qY va vb rx ry e;subst h2;exact wpAny_is_plain h1 ⟨.bl _,H,I,rfl,k _ H G fp .refl (rel.push (cK _))⟩
theorem kn:IZ X (compareOp .IsNot) (rGA X.K isnO):=by
 rintro pr s σ H x y v u Q I rx ry ⟨G,fp,es,vs,a,b,r,⟨rel,k⟩,va,vb,e⟩;obtain⟨r0,e0,e⟩:=au e;obtain⟨h1,h2⟩:=qY va vb rx ry e0;subst h2;cases e;exact wpAny_isNot_plain h1 ⟨.bl _,H,I,rfl,k _ H G fp .refl (rel.push (cK _))⟩
end
section
variable{X:Cx}
theorem vf(hc:X.calm=true):dJ X (.builtin "max") (rC X.K maxD):=by
 rintro pr s σ H xs us Q I rx ⟨G,fp,es,vs,ds,r,⟨rel,k⟩,vd,e⟩;unfold maxD at e;split at e
 ·rename_i d;split at e
  ·rename_i n ns hb;cases e;obtain⟨v,ev,vt⟩:=nh vd;obtain⟨p,ep,sq⟩:=om rel.gh hb vt;subst ev;subst ep;exact uI hc pr s σ H _ us Q I rx ⟨p,n::ns,rfl,sq,by simp,k _ H G fp .refl (rel.push (bM _))⟩
  ·cases e
 ·rename_i i j;cases e;obtain⟨v,w',ev,v1,v2⟩:=Hx vd;subst ev;cases br v1;cases br v2;obtain⟨u,u',rfl,⟨t,rfl⟩,t',rfl⟩:=zO rx;refine max_two_ints (I.ok.hd hc) fun h' tk kk=>?_
  have I2:Inv X pr σ H {s with heap:=h',toks:=tk}:=I.kept kk;refine⟨.int (if i<j then j else i),H,I2,?_,k _ H G fp .refl (rel.push (bM _))⟩;by_cases M3:i<j
  ·rw[TF M3,TF (show j>i from M3)];exact⟨_,rfl⟩
  ·rw[TJ M3,TJ (show ¬ j>i from M3)];exact⟨_,rfl⟩
 ·cases e
def AF(f g:FX):FX:=fun env=>(f env).bind fun p=>(g p.2).bind fun q=>match(oj p.1.2).bind dH,q.1.2 with
 |some ns,.int d=>.ok ((.f,.int (NX.maxD ns d)),q.2)
 |_,_=>.bad
theorem AG{e k:Expr}{f g:FX}{p pos L4:Pos}(hc:X.calm=true)(hg:Gl X "max")(hm:X.mg "max" = none)(he:QE X e f)(hk:QE X k g)(hs:starEach [e] X.env=[(false,eval e X.env)]:=by rfl):
  QE X (.Call (.Name "max" p) [e] [⟨some "default",k,L4⟩] pos) (AF f g):=bE (Ab hc hg hm he hk hs) fun σ H Q Ip=>by
 obtain⟨G,env,fp,r,env',rel,e,k⟩:=Ip;obtain⟨⟨r1,H0⟩,e1,e⟩:=au e;obtain⟨⟨r2,Il⟩,e2,e⟩:=au e;dsimp only at e;split at e
 ·rename_i ns d Pq hd;cases e;refine⟨G,env,fp,r1,H0,rel,e1,fun v H1 G1 IA Iu Ib=>?_⟩;obtain⟨G2,b,rv,Ia,Ii⟩:=Ib.freeze;refine⟨G2,H0,b,r2,_,Ia,e2,fun w' H3 G3 JE IK IH=>?_⟩;have hw:=IH.top;obtain⟨b3,Jk,JB⟩:=IH.drop;rw[hd]at hw;obtain⟨p',ep,sq⟩:=om Jk.gh Pq (Vw.of Jk.gh (Rep.mono IK.gg rv));subst ep;exact⟨p',ns,d,rfl,by rw[bH hw],sq,k _ H3 G3 b3 (Iu.trans (Ii.trans (IK.trans JB))) (Jk.push (bM _))⟩
 ·cases e
def HW:List D->Res R
 |[.bl b]=>.ok (.f,.int (if b then 1 else 0))
 |[.int i]=>.ok (.f,.int i)
 |_=>.bad
def pQ:D->String
 | .non=>"NoneType"
 | .bl _=>"bool"
 | .int _=>"int"
 | .str _=>"str"
 | .tup _=>"tuple"
 | .lst _=>"list"
 | .dct _ _ _=>"dict"
def xG(T:String)(d:D):Bool:=pQ d==T||(pQ d == "bool" && T == "int")
def Q9(T:String)(f:FO):FX:=fun env=>(f env).bind fun p=>(sW p.2 p.1).bind fun d=>.ok ((.f,.bl (xG T d)),p.2)
theorem Dg(K:W.Frag)(d:D){T:String}(hT:T = "int"\/T = "bool"\/T = "str"\/T = "list"\/T = "tuple"\/T = "dict"):PySem.W.kitOne K (.type (pQ d)) (.type T)=some (xG T d):=by
 rcases hT with rfl|rfl|rfl|rfl|rfl|rfl <;> cases d <;> (unfold PySem.W.kitOne PySem.W.kitCls PySem.W.subIn;kernel_rfl)
theorem xH:dJ X (.builtin "isinstance") (fun xs H Q=>∃d x T,xs=[x,.ty T]/\Rep X.K H d x/\(T = "int"\/T = "bool"\/T = "str"\/T = "list"\/T = "tuple"\/T = "dict")/\Q (.bl (xG T d)) H):=by
 intro pr s σ H xs us Q I r h;obtain⟨d,x,T,rfl,rd,hT,q⟩:=h;obtain⟨u,w',rfl,r1,r2⟩:=zO r;cases(show w'=Value.type T from r2);have e:=Dg X.K d hT;have fin:∀tk,EP X pr σ Q (.bool (xG T d)) {s with toks:=tk}:=fun tk=>⟨.bl (xG T d),H,I.tok tk,rfl,q⟩
 cases d with
 |non=>cases cp rd;cases(show u=Value.none from r1);exact Vc PySem.W.kitx_none I.kIn True.intro e (fun z=>nomatch z) fin
 |bl y=>cases c7 rd;cases(show u=Value.bool y from r1);exact Vc PySem.W.kitx_bool I.kIn True.intro e (fun z=>nomatch z) fin
 |int i=>cases bH rd;obtain⟨t,z⟩:=(show ∃t,u=Value.int i t from r1);cases z;exact Vc PySem.W.kitx_int I.kIn True.intro e (fun z=>nomatch z) fin
 |str l=>
  have hr:=(bA rd).1;subst hr;obtain⟨t,z⟩:=(show ∃t,u=Value.str (S l) t from r1)
  cases z;exact Vc PySem.W.kitx_str I.kIn True.intro e (fun z=>nomatch z) fin
 |lst l=>
  obtain⟨p,xs,ev,sq,_⟩:=bI rd;subst ev;cases(show u=Value.ref p from r1);obtain⟨Ic,_,ip,_⟩:=I.list sq;obtain⟨o,ho,hc,_⟩:=ip.isList;exact Vc PySem.W.kitx_list I.kIn ⟨o,ho,hc⟩ e (fun z=>nomatch z) fin
 |tup l=>
  obtain⟨p,xs,ev,sq,_⟩:=bB rd;subst ev;cases(show u=Value.ref p from r1);obtain⟨Ic,_,ip,_⟩:=I.tuple sq;obtain⟨o,ho,hc,_⟩:=ip;exact Vc PySem.W.kitx_tuple I.kIn ⟨o,ho,hc⟩ e (fun z=>nomatch z) fin
 |dct tk ks vs=>
  rw[Rep]at rd;obtain⟨p,xs,o,ev,hr,dd,_⟩:=rd;subst ev;cases(show u=Value.ref p from r1);have ok:=hr.ok I.hok;cases tk with
  |true=>
   obtain⟨kvs,eo,_⟩:=dd;subst eo;obtain⟨_,_,_,_,o2,_,_,JR,ex,_⟩:=ok;exact Vc PySem.W.kitx_dict I.kIn ⟨o2,JR,ex.1⟩ e (fun z=>nomatch z) fin
  |false=>
   obtain⟨kvs,eo,_⟩:=dd;subst eo;obtain⟨_,_,_,_,o2,_,_,JR,ex,_⟩:=ok;exact Vc PySem.W.kitx_dict I.kIn ⟨o2,JR,ex.1⟩ e (fun z=>nomatch z) fin
theorem Dh{T:String}{x:Str}{e:Expr}{f:FO}{p q pos:Pos}(hT:T = "int"\/T = "bool"\/T = "str"\/T = "list"\/T = "tuple"\/T = "dict")(he:QO X e f)(hg:Gl X "isinstance")(hm:X.mg "isinstance" = none)(Qd:Gl X x)(Qe:X.mg x=none)(hv2:bootBuiltins x=some (.type T))(hn:x≠"__name__":=by decide)(Kl:(x==("__debug__" : Str))=false:=by decide)
  (hs:starEach [e,.Name x q] X.env=(false,eval e X.env)::starEach [.Name x q] X.env:=by rfl) (L3:starEach [.Name x q] X.env=(false,eval (.Name x q) X.env)::starEach [] X.env:=by rfl) (JJ:(backTo pos (starEach [.Name x q] X.env)).any (·.1)=false:=by rfl):
  QE X (.Call (.Name "isinstance" p) [e,.Name x q] [] pos) (Q9 T f):=
 bE (qB xH hg hm lZ (fQ he (fQ (zx (v:=.ty T) Qd Qe hv2 rfl hn Kl) nu L3) hs) (by decide) (by decide) hs JJ) fun σ H Q Ip=>by
  obtain⟨G,env,fp,r,env',rel,e,k⟩:=Ip;obtain⟨⟨o,H0⟩,e1,e⟩:=au e;obtain⟨d,e2,e⟩:=au e;cases e;exact⟨G,env,fp,o,_,rel,e1,fun v H1 G1 IA Iu Ib Jv=>⟨d,v,T,rfl,Ib.vwA Jv e2,hT,k _ H1 G1 IA Iu (Ib.push (cK _))⟩⟩
def JO{α:Type}(f g:PV.Env->Res α):PV.Env->Res α:=fun env=>match f env with
 | .ok a=>.ok a
 |_=>g env
theorem yZ{α:Type}{f g:PV.Env->Res α}{env:PV.Env}{a:α}(h:JO f g env=.ok a):f env=.ok a\/g env=.ok a:=by
 unfold JO at h;split at h
 ·rename_i b hb;cases h;exact .inl hb
 ·exact .inr h
theorem vg{tg e:Expr}{f g:FI}(h:QI X tg e f)(h2:QI X tg e g):QI X tg e (JO f g):=fun pr s σ H R I Ip=>by
 obtain⟨G,env,fp,ds,env',rel,ee,k⟩:=Ip;rcases yZ ee with z|z
 ·exact h pr s σ H R I ⟨G,env,fp,ds,env',rel,z,k⟩
 ·exact h2 pr s σ H R I ⟨G,env,fp,ds,env',rel,z,k⟩
end
section
variable{α:Type}
def ins(lt:α->α->Bool)(x:α):List α->List α
 |[]=>[x]
 |y::ys=>if lt y x then y::ins lt x ys else x::y::ys
def aU(lt:α->α->Bool)(l:List α):List α:=l.foldr (ins lt) []
structure Ord(lt:α->α->Bool):Prop where
 irr:∀a,lt a a=false
 trans:∀a b c,lt a b=true->lt b c=true->lt a c=true
 tot:∀a b,lt a b=false->lt b a=false->a=b
theorem mE(lt:α->α->Bool)(x:α):∀l,(ins lt x l).Perm (x::l)
 |[]=>.refl _
 |y::ys=>by
  unfold ins;split
  ·exact(List.Perm.cons y (mE lt x ys)).trans (List.Perm.swap x y ys)
  ·exact .refl _
theorem dN(lt:α->α->Bool):∀l,(aU lt l).Perm l
 |[]=>.refl _
 |x::l=>(mE lt x _).trans (List.Perm.cons x (dN lt l))
theorem lI{lt:α->α->Bool}(o:Ord lt)(x:α):∀l:List α,l.Pairwise (fun a b=>lt b a=false)->(ins lt x l).Pairwise (fun a b=>lt b a=false)
 |[],_=>by simp[ins]
 |y::ys,h=>by
  rw[VC]at h;unfold ins;split
  ·rename_i hy;rw[VC];refine⟨fun z hz=>?_,lI o x ys h.2⟩;rcases TK.mp ((mE lt x ys).mem_iff.mp hz) with rfl|hz
   ·cases e:lt z y with
    |false=>rfl
    |true=>
     have:=o.trans y z y hy e;rw[o.irr]at this;cases this
   ·exact h.1 z hz
  ·rename_i hy;have hy:lt y x=false:=by simpa using hy
   rw[VC,VC];refine⟨fun z hz=>?_,h⟩;rcases TK.mp hz with rfl|M5
   ·exact hy
   ·cases e:lt z x with
    |false=>rfl
    |true=>
     exfalso;cases e2:lt x y with
     |true=>
      have:=o.trans z x y e e2;rw[h.1 z M5]at this;cases this
     |false=>
      have hxy:=o.tot x y e2 hy;rw[hxy,h.1 z M5]at e;cases e
theorem d7{lt:α->α->Bool}(o:Ord lt):∀l:List α,(aU lt l).Pairwise (fun a b=>lt b a=false)
 |[]=>.nil
 |x::l=>lI o x _ (d7 o l)
theorem ou{lt:α->α->Bool}(o:Ord lt):∀{a b:List α},a.Perm b->a.Pairwise (fun a b=>lt b a=false)->b.Pairwise (fun a b=>lt b a=false)->a=b
 |[],_,p,_,_=>p.nil_eq
 |x::xs,[],p,_,_=>absurd p.length_eq (by simp)
 |x::xs,y::ys,p,ha,hb=>by
  rw[VC]at ha hb;have hx:x∈y::ys:=p.mem_iff.mp Ts;have hy:y∈x::xs:=p.mem_iff.mpr Ts;have e:x=y:=by
   rcases TK.mp hx with e|hx
   ·exact e
   ·rcases TK.mp hy with e|hy
    ·exact e.symm
    ·exact o.tot x y (hb.1 x hx) (ha.1 y hy)
  subst e;rw[ou o p.cons_inv ha.2 hb.2]
theorem iP{lt:α->α->Bool}(o:Ord lt){l ms:List α}(p:ms.Perm l)(h:ms.Pairwise (fun a b=>lt b a=false)):ms=aU lt l:=ou o (p.trans (dN lt l).symm) h (d7 o l)
end
def ltI(a b:Int):Bool:=decide (a<b)
def Mc(a b:List Nat):Bool:=decide (a<b)
theorem AH:Ord ltI:=⟨fun a=>by simp[ltI],fun a b c=>by simp only[ltI,TQ];lia,fun a b=>by simp only[ltI,UE];lia⟩
theorem pR:Ord Mc:=by
 refine⟨fun a=>?_,fun a b c h1 h2=>?_,fun a b h1 h2=>?_⟩
 ·unfold Mc;rw[UE];exact List.lt_irrefl a
 ·unfold Mc at *;rw[TQ] at *;exact List.lt_trans h1 h2
 ·unfold Mc at *;rw[UE] at *;exact List.le_antisymm (WZ.mp h2) (WZ.mp h1)
theorem vh:Ord dE:=⟨hW,gE,gG⟩
def fJ:List D->Option (List (List Nat))
 |[]=>some []
 | .str b::ds=>(fJ ds).map (b:: ·)
 |_=>none
def ko:D->Option Key
 | .int i=>some (.inl i)
 | .str l=>some (.inr (S l))
 |_=>none
def e7:List D->Option (List Key)
 |[]=>some []
 |d::ds=>(ko d).bind fun k=>(e7 ds).map (k:: ·)
def e8:D->Option (List Key)
 | .tup ds=>e7 ds
 |_=>none
def jx:List D->Option (List (List Key))
 |[]=>some []
 |d::ds=>(e8 d).bind fun k=>(jx ds).map (k:: ·)
def kT(k:List Key):D:=.tup (k.map kD)
section
variable{K:W.Frag}{G:Hp}
theorem ic:∀{ds:List D}{bs:List (List Nat)}{xs:List V},fJ ds=some bs->Reps K G ds xs->xs=bs.map (fun l=>V.str (S l))/\∀l∈bs,l.length<=sizeLine
 |[],_,_,e,r=>by
  cases e;rw[Reps]at r;exact⟨r,fun _ h=>nomatch h⟩
 |d::ds,_,_,e,r=>by
  cases d with
  |str b=>
   rw[fJ,Uh]at e;obtain⟨bs,e1,e2⟩:=e;subst e2;rw[Reps]at r;obtain⟨y,ys,e3,r1,r2⟩:=r;obtain⟨h1,h2⟩:=ic e1 r2;obtain⟨h3,h4⟩:=bA r1;subst h3;refine⟨by rw[e3,h1];rfl,fun l hl=>?_⟩;rcases TK.mp hl with rfl|hl
   ·exact h4
   ·exact h2 l hl
  |_=>simp[fJ]at e
theorem gK{d:D}{k:Key}{v:V}(e:ko d=some k)(r:Rep K G d v):v=kV k/\d=kD k:=by
 cases d with
 |int i=>
  cases e;exact⟨bH r,rfl⟩
 |str l=>
  cases e;refine⟨(bA r).1,?_⟩;show D.str l=D.str (S l).cps.toList;rw[dr]
 |_=>cases e
theorem jy:∀{ds:List D}{ks:List Key}{xs:List V},e7 ds=some ks->Reps K G ds xs->xs=ks.map kV/\ds=ks.map kD
 |[],_,_,e,r=>by
  cases e;rw[Reps]at r;exact⟨r,rfl⟩
 |d::ds,_,_,e,r=>by
  rw[e7,Uj]at e;obtain⟨k,e1,e⟩:=e;rw[Uh]at e;obtain⟨ks,e2,e3⟩:=e;subst e3;rw[Reps]at r;obtain⟨y,ys,e4,r1,r2⟩:=r;obtain⟨h1,h2⟩:=gK e1 r1;obtain⟨h3,h4⟩:=jy e2 r2;rw[e4,h1,h2,h3,h4];exact⟨rfl,rfl⟩
theorem cR{d:D}{ks:List Key}{v:V}(e:e8 d=some ks)(r:Rep K G d v):∃p,v=.ref p/\G p=some (.tup (ks.map kV))/\d=kT ks:=by
 cases d with
 |tup ds=>
  obtain⟨p,xs,ev,g,rs⟩:=uU r;obtain⟨h1,h2⟩:=jy e rs;subst h1;exact⟨p,ev,g,by rw[h2];rfl⟩
 |_=>cases e
theorem kq:∀{ds:List D}{Ky:List (List Key)}{xs:List V},jx ds=some Ky->Reps K G ds xs->∃al:List (Addr×List Key),xs=al.map (fun a=>V.ref a.1)/\Ky=al.map (·.2)/\ds=al.map (fun a=>kT a.2)/\∀a∈al,G a.1=some (.tup (a.2.map kV))/\Rep K G (kT a.2) (.ref a.1)
 |[],_,_,e,r=>by
  cases e;rw[Reps]at r;exact⟨[],r,rfl,rfl,fun _ h=>nomatch h⟩
 |d::ds,_,_,e,r=>by
  rw[jx,Uj]at e;obtain⟨k,e1,e⟩:=e;rw[Uh]at e;obtain⟨ks,e2,e3⟩:=e;subst e3;rw[Reps]at r;obtain⟨y,ys,e4,r1,r2⟩:=r;obtain⟨p,h1,h2,h5⟩:=cR e1 r1;obtain⟨al,h3,h4,h6,h7⟩:=kq e2 r2;subst h1;refine⟨(p,k)::al,by rw[e4,h3];rfl,by rw[h4];rfl,by rw[h5,h6];rfl,fun a ha=>?_⟩;rcases TK.mp ha with rfl|ha
  ·exact⟨h2,by rw[<-h5];exact r1⟩
  ·exact h7 a ha
theorem e9{α:Type}{f:α->D}{g:α->V}:∀{l:List α},(∀a∈l,Rep K G (f a) (g a))->Reps K G (l.map f) (l.map g)
 |[],_=>Reps.nil
 |a::l,h=>.cons (h a Ts) (e9 fun b hb=>h b (Tx _ hb))
end
def sameKinds(k:List Key)(Ky:List (List Key)):Bool:=!k.isEmpty&&Ky.all fun j=>kinds j==kinds k
noncomputable def kr(ds:List D):Option (List D):=match dH ds with
 |some ns=>some ((aU ltI ns).map D.int)
 |none=>match fJ ds with
  |some ls=>some ((aU Mc ls).map D.str)
  |none=>match jx ds with
   |some (k::Ky)=>if sameKinds k Ky then some ((aU dE (k::Ky)).map kT) else none
   |_=>none
noncomputable def fW:List D->Res R
 |[.lst ds]=>if ds.length<64 then match kr ds with
  |some l=>.ok (.l .f,.lst l)
  |none=>.bad
  else .bad
 |[.dct true ks _]=>if ks.length<64 then match ks,jx ks with
  |[],_=>.ok (.l .f,.lst [])
  |_,some (k::Ky)=>if sameKinds k Ky then .ok (.l .f,.lst ((aU dE (k::Ky)).map kT)) else .bad
  |_,_=>.bad
  else .bad
 |_=>.bad
theorem iQ{k:List Key}{Ky:List (List Key)}(h:sameKinds k Ky=true):∃top t,∀j∈k::Ky,kinds j=top::t:=by
 unfold sameKinds at h;rw[TM,T8]at h;cases k with
 |nil=>simp at h
 |cons a k=>
  refine⟨a.isLeft,kinds k,fun j hj=>?_⟩;rcases TK.mp hj with rfl|hj
  ·rfl
  ·exact Us.mp (h.2 j hj)
def jz(H G:Hp):Hp:=fun p=>match H p with
 |some (HO.tup xs)=>some (HO.tup xs)
 |_=>G p
theorem tf{H G:Hp}{p:Addr}{xs:List V}(e:H p=some (.tup xs)):jz H G p=some (.tup xs):=by
 unfold jz;rw[e]
theorem ku{H G:Hp}{p:Addr}{u:HO}(e:jz H G p=some u):G p=some u\/(isT u=true/\H p=some u):=by
 unfold jz at e;split at e
 ·rename_i xs hx;cases e;exact .inr ⟨rfl,hx⟩
 ·exact .inl e
theorem vk{H G:Hp}(gh:Same G H):Same G (jz H G):=fun p u e=>by
 unfold jz;rw[gh p u e];cases u with
 |tup xs=>rfl
 |_=>exact e
theorem Rel.addT{K:W.Frag}{G H:Hp}{es:PV.Env}{vs:L2.St}{fp:List Addr}(q:Rel K G H es vs fp):∃G',Rel K G' H es vs fp/\Step G H fp G' H fp/\∀p xs,H p=some (.tup xs)->G' p=some (.tup xs):=by
 have gg:=vk q.gh;refine⟨jz H G,⟨q.rep.step gg fun _ _=>rfl,q.nd,fun p hp=>?_,fun p u e=>?_⟩,⟨gg,fun _ _ e _=>e,fun _ h=>.inl h,fun p u e=>(ku e).imp_right fun z=>.inr (.inr z),fun _ u e=>⟨u,e⟩⟩,fun p xs e=>tf e⟩
 ·cases e:jz H G p with
  |none=>rfl
  |some u=>
   exfalso;rcases ku e with z|⟨t,z⟩
   ·rw[q.gn p hp]at z;cases z
   ·obtain⟨u2,h2,hm⟩:=q.rep.mut p hp;rw[z]at h2;cases h2;cases u with
    |tup _=>cases hm
    |frz _ _=>cases hm
    |_=>cases t
 ·rcases ku e with z|z
  ·exact q.gh p u z
  ·exact z.2
theorem vm{K:W.Frag}{G:Hp}{k:Key}(h:sU k):Rep K G (kD k) (kV k):=by
 cases k with
 |inl i=>exact bM i
 |inr x=>
  have:=hZ (K:=K) (G:=G) (l:=x.cps.toList) h;rw[nM]at this;exact this
theorem Di(k:Key):ko (kD k)=some k:=by
 cases k with
 |inl i=>rfl
 |inr x=>
  show some (Sum.inr (S x.cps.toList))=_;rw[nM]
theorem kx:∀ks:List Key,e7 (ks.map kD)=some ks
 |[]=>rfl
 |k::ks=>by
  rw[TR,e7,Di,kx ks];rfl
theorem jh:∀Ky:List (List Key),jx (Ky.map kT)=some Ky
 |[]=>rfl
 |k::Ky=>by
  rw[TR,jx];show(e7 (k.map kD)).bind _=_;rw[kx,jh Ky];rfl
section
variable{X:Cx}
theorem SJ{α:Type}{lt:α->α->Bool}{p:α->α->Prop}(h:∀a b,p a b->lt b a=false){l:List α}(q:l.Pairwise p):l.Pairwise (fun a b=>lt b a=false):=q.imp (h _ _)
theorem ox(hc:X.calm=true):dJ X (.builtin "sorted") (rC X.K fW):=by
 rintro pr s σ H xs us Q I rx ⟨G,fp,es,vs,ds,r,⟨rel,k⟩,vd,e⟩;unfold fW at e;split at e
 ·rename_i ds;split at e
  ·rename_i L8;split at e
   ·rename_i l hl;cases e;obtain⟨v,ev,p,ys,ep,sq,rs⟩:=nh vd;subst ev;subst ep;unfold kr at hl;split at hl
    ·rename_i ns Pq;cases hl;have hy:=ib Pq rs;subst hy;have hlen:ns.length<64:=by have:=rs.length;rw[Tt]at this;lia
     refine jK hc pr s σ H _ us Q I rx ⟨p,ns,rfl,sq,hlen,fun q ms hq pm sm=>?_⟩;have em:=iP AH pm (SJ (fun a b h=>by unfold ltI;rw[UE];lia) sm);subst em;obtain⟨Ia,Ii⟩:=rel.newL hq (e9 (K:=X.K) (G:=G) (f:=D.int) (g:=V.int) fun a _=>bM a);exact k _ _ G _ Ii Ia
    ·split at hl
     ·rename_i ls hls;cases hl;obtain⟨hy,hz⟩:=ic hls rs;subst hy;have hlen:ls.length<64:=by have:=rs.length;rw[Tt]at this;lia
      refine jL hc pr s σ H _ us Q I rx ⟨p,ls,rfl,sq,hlen,fun q ms hq pm sm=>?_⟩;have em:=iP pR pm (SJ (fun a b h=>by unfold Mc;rw[UE];exact h) sm);obtain⟨Ia,Ii⟩:=rel.newL hq (e9 (K:=X.K) (G:=G) (f:=D.str) (g:=fun l=>V.str (S l)) (l:=ms) fun a ha=>hZ (hz a (pm.mem_iff.mp ha)));rw[<-em]at k;exact k _ _ G _ Ii Ia
     ·split at hl
      ·rename_i kk Ky hk;split at hl
       ·rename_i hsk;cases hl;obtain⟨al,h1,h2,h3,h4⟩:=kq hk rs;obtain⟨top,t,Kz⟩:=iQ hsk;subst h1;have hlen:al.length<64:=by have:=rs.length;rw[Tt]at this;lia
        refine jM hc pr s σ H _ us Q I rx ⟨p,al,top,t,rfl,sq,fun a ha=>⟨SqT.of (rel.gh _ _ (h4 a ha).1),Kz a.2 (by rw[h2];exact UH.mpr ⟨a,ha,rfl⟩)⟩,hlen,fun q ms hq pm sm=>?_⟩;have em:ms.map (·.2)=aU dE (kk::Ky):=by
         rw[h2];refine iP vh (pm.map _) ?_;rw[We];exact sm
        obtain⟨Ia,Ii⟩:=rel.newL hq (e9 (K:=X.K) (G:=G) (f:=fun a:Addr×List Key=>kT a.2) (g:=fun a=>V.ref a.1) (l:=ms) fun a ha=>(h4 a (pm.mem_iff.mp ha)).2);have ek:ms.map (fun a=>kT a.2)=(aU dE (kk::Ky)).map kT:=by rw[<-em,TZ];rfl
        rw[ek]at Ia;exact k _ _ G _ Ii Ia
       ·cases hl
      ·cases hl
   ·cases e
  ·cases e
 ·rename_i ks vv;split at e
  ·rename_i L8;obtain⟨v,ev,vt⟩:=nh vd;obtain⟨p,ys,o,ep,rd,dd,rs⟩:=vt;subst ev;subst ep;obtain⟨kvs,eo,ek,ex,LC⟩:=dd;subst eo;have ek:ks=(kvs.map (·.1)).map kT:=by rw[ek,TZ];rfl
   have hlen:kvs.length<64:=by rw[ek,Tt,Tt]at L8;exact L8
   have go:∀(top:Bool) (t:List Bool),(∀kv∈kvs,kinds kv.1=top::t)->r=(.l .f,.lst ((aU dE (kvs.map (·.1))).map kT))->wpAny (model X.prog X.w) X.A (call (.builtin "sorted") us) (EP X pr σ Q) X.xe s:=fun top t Kz er=>by
    subst er;refine ll hc pr s σ H _ us Q I rx ⟨p,kvs,top,t,rfl,rd,Kz,hlen,fun q ms hq hm pm sm=>?_⟩;have em:ms.map (·.2)=aU dE (kvs.map (·.1)):=by
     refine iP vh pm ?_;rw[We];exact sm
    obtain⟨G2,Ia,Ii,ht⟩:=rel.addT;have Kp:∀a∈ms,Rep X.K G2 (kT a.2) (.ref a.1):=fun a ha=>by
     unfold kT;rw[Rep];refine⟨a.1,_,rfl,ht _ _ (hm a ha),?_⟩;refine e9 (f:=kD) (g:=kV) fun key JX=>vm ?_
     have:a.2∈kvs.map (·.1):=pm.mem_iff.mp (UH.mpr ⟨a,ha,rfl⟩);obtain⟨kv,Kn,e2⟩:=UH.mp this;exact LC kv Kn key (by rw[e2];exact JX)
    obtain⟨IH,IK⟩:=Ia.newL hq (e9 (K:=X.K) (G:=G2) (f:=fun a:Addr×List Key=>kT a.2) (g:=fun a=>V.ref a.1) (l:=ms) Kp);have ek:ms.map (fun a=>kT a.2)=(aU dE (kvs.map (·.1))).map kT:=by rw[<-em,TZ];rfl
    rw[ek]at IH;exact k _ _ G2 _ (Ii.trans IK) IH
   rw[ek,jh]at e;split at e
   ·rename_i hnil;cases e;have:kvs=[]:=by
     cases kvs with
     |nil=>rfl
     |cons a b=>cases hnil
    subst this;exact go true [] (fun _ h=>nomatch h) rfl
   ·rename_i kk Ky heq Km;split at e
    ·rename_i hsk;cases e;obtain⟨top,t,Kz⟩:=iQ hsk;have heq:kvs.map (·.1)=kk::Ky:=by
      injection heq
     refine go top t (fun kv Kn=>Kz kv.1 ?_) (by rw[heq]);rw[<-heq];exact UH.mpr ⟨kv,Kn,rfl⟩
    ·cases e
   ·cases e
  ·cases e
 ·cases e
def Lr(a b:D):Res R:=match e8 a,e8 b with
 |some ks,some js=>if kinds ks==kinds js then .ok (.f,.bl (dE ks js)) else .bad
 |_,_=>Pu a b
def Qf(a b:D):Res R:=match e8 a,e8 b with
 |some ks,some js=>if kinds ks==kinds js then .ok (.f,.bl (!dE ks js)) else .bad
 |_,_=>match a,b with
  | .str a,.str b=>.ok (.f,.bl (!decide (a<b)))
  |a,b=>RT a b
theorem oy(hu:X.A.units<cLine):IZ X (compareOp .Lt) (rG X.K Lr):=by
 rintro pr s σ H x y v u Q I rx ry ⟨G,fp,es,vs,a,b,r,⟨rel,k⟩,va,vb,e⟩;unfold Lr at e;split at e
 ·rename_i ks js h1 h2;split at e
  ·rename_i hk;cases e;have ra:Rep X.K G a x:=by cases a <;> first|exact va|cases h1
   have rb:Rep X.K G b y:=by cases b <;> first|exact vb|cases h2
   obtain⟨p,e1,g1,_⟩:=cR h1 ra;obtain⟨p2,e2,g2,_⟩:=cR h2 rb;subst e1;subst e2;exact CW hu pr s σ H _ _ v u Q I rx ry ⟨p,p2,ks,js,rfl,rfl,SqT.of (rel.gh _ _ g1),SqT.of (rel.gh _ _ g2),Us.mp hk,k _ H G fp .refl (rel.push (cK _))⟩
  ·cases e
 ·exact FH pr s σ H x y v u Q I rx ry ⟨G,fp,es,vs,a,b,r,⟨rel,k⟩,va,vb,e⟩
theorem Dk(hu:X.A.units<cLine):IZ X (compareOp .GtE) (rG X.K Qf):=by
 rintro pr s σ H x y v u Q I rx ry ⟨G,fp,es,vs,a,b,r,⟨rel,k⟩,va,vb,e⟩;unfold Qf at e;split at e
 ·rename_i ks js h1 h2;split at e
  ·rename_i hk;cases e;have ra:Rep X.K G a x:=by cases a <;> first|exact va|cases h1
   have rb:Rep X.K G b y:=by cases b <;> first|exact vb|cases h2
   obtain⟨p,e1,g1,_⟩:=cR h1 ra;obtain⟨p2,e2,g2,_⟩:=cR h2 rb;subst e1;subst e2;exact CY hu pr s σ H _ _ v u Q I rx ry ⟨p,p2,ks,js,rfl,rfl,SqT.of (rel.gh _ _ g1),SqT.of (rel.gh _ _ g2),Us.mp hk,k _ H G fp .refl (rel.push (cK _))⟩
  ·cases e
 ·split at e
  ·rename_i l l';cases e;obtain⟨e1,h1⟩:=fF va;obtain⟨e2,h2⟩:=fF vb;subst e1;subst e2;obtain⟨t,rfl⟩:=rx;obtain⟨t',rfl⟩:=ry;refine PySem.P.ge_str ?_;rw[dr,dr];exact⟨.bl _,H,I,rfl,k _ H G fp .refl (rel.push (cK _))⟩
  ·exact FJ pr s σ H x y v u Q I rx ry ⟨G,fp,es,vs,_,_,r,⟨rel,k⟩,va,vb,e⟩
end
def eNewD(tk:Bool):FX:=fun env=>.ok ((.d,.dct tk [] []),env)
section
variable{md:Mode}{X:Cx}
def pS(ks vs:List D)(k v:D):List D×List D:=if ks.any (Ig k) then(ks,(ks.zip vs).map fun p=>if Ig k p.1 then v else p.2) else(ks++[k],vs++[v])
def eE(tk:Bool)(k:D):Bool:=if tk then(e8 k).isSome else(ko k).isSome
noncomputable def HX(i:Nat)(fk fv:FX):FS:=fun env=>(fv env).bind fun p=>(fk p.2).bind fun q=>match p.2[i]?,q.2[i]? with
 |some (some _),some (some (.d,.dct tk ks vs))=>if eE tk q.1.2&&decide (ks.length<sizeLine) then .ok (.nx (q.2.set i (some (.d,.dct tk (pS ks vs q.1.2 p.1.2).1 (pS ks vs q.1.2 p.1.2).2)))) else .bad
 |_,_=>.bad
theorem vn(a b:Key):Ig (kD a) (kD b)=decide (a=b):=by
 cases a with
 |inl i=>
  cases b with
  |inl j=>simp only[kD,Ig];rw[T5];simp
  |inr y=>simp only[kD,Ig];simp
 |inr x=>
  cases b with
  |inl j=>simp only[kD,Ig];simp
  |inr y=>
   simp only[kD,Ig];rw[T5];simp only[Us,TQ,Sum.inr.injEq];exact⟨fun h=>by rw[<-nM x,<-nM y,h],fun h=>by rw[h]⟩
theorem vo:∀a b:List Key,iw (a.map kD) (b.map kD)=decide (a=b)
 |[],[]=>by simp[iw]
 |[],_::_=>by simp[iw]
 |_::_,[]=>by simp[iw]
 |a::r,b::t=>by
  rw[TR,TR,iw,vn,vo r t,T5];simp
theorem y0(a b:List Key):Ig (kT a) (kT b)=decide (a=b):=by
 unfold kT;rw[Ig];exact vo a b
theorem oz{κ:Type}[DecidableEq κ]{K:W.Frag}{G:Hp}(f:κ->D)(hf:∀a b,Ig (f a) (f b)=decide (a=b)){kvs:List (κ×V)}{vs:List D}{k:κ}{v:D}{y:V}(r:Reps K G vs (kvs.map (·.2)))(ry:Rep K G v y):
  (jN kvs k y).map (fun kv=>f kv.1)=(pS (kvs.map fun kv=>f kv.1) vs (f k) v).1/\Reps K G (pS (kvs.map fun kv=>f kv.1) vs (f k) v).2 ((jN kvs k y).map (·.2)):=by
 have e:(kvs.map fun kv=>f kv.1).any (Ig (f k))=kvs.any fun kv=>decide (kv.1=k):=by
  rw[VU];congr 1
  funext kv
  show Ig (f k) (f kv.1)=_;rw[hf,T5];simp only[TQ];exact⟨fun z=>z.symm,fun z=>z.symm⟩
 unfold pS jN;rw[e];split
 ·refine⟨?_,?_⟩
  ·rw[TZ];refine Ur fun kv _=>?_
   show f (if kv.1=k then(kv.1,y) else kv).1=f kv.1;split <;> rfl
  ·rename_i hany;clear e hany;induction kvs generalizing vs with
   |nil=>
    have:vs=[]:=Ux (by rw[<-r.length];rfl);subst this;exact Reps.nil
   |cons kv kvs ih=>
    cases vs with
    |nil=>have:=r.length;simp at this
    |cons d vs=>
     rw[TR,Reps.cons_iff]at r;rw[TR,UI,TR,TR,TR];refine .cons ?_ (ih r.2);show Rep K G (if Ig (f k) (f kv.1)=true then v else d) (if kv.1=k then(kv.1,y) else kv).2;rw[hf];by_cases hk:kv.1=k
     ·rw[TF (by simp[hk]),TF hk];exact ry
     ·rw[TJ (by simp;exact fun z=>hk z.symm),TJ hk];exact r.1
 ·refine⟨?_,?_⟩
  ·rw[TV];rfl
  ·rw[TV];exact r.app (.one ry)
theorem Rel.chgD{K:W.Frag}{G H:Hp}{es:PV.Env}{vs:L2.St}{fp:List Addr}{i:Nat}{tk:Bool}{ks ws:List D}(q:Rel K G H es vs fp)(e:es[i]?=some (some (.d,.dct tk ks ws))):∃p xs u,vs[i]?=some (some (.ref p))/\H p=some u/\DictO u tk ks xs/\Reps K G ws xs/\
  ∀u' JM JK MD,DictO u' tk JM JK->Reps K G MD JK->∃fq,Rel K G (upd H p u') (es.set i (some (.d,.dct tk JM MD))) vs fq/\Step G H fp G (upd H p u') fq:=by
 obtain⟨v,fq,ev,g,st,J6⟩:=q.out e;obtain⟨y,ys,e0,v',a,b,e1,e2,r1,r2⟩:=g.rep;cases e0;cases e1;rw[RepO]at r1;obtain⟨p,xs,u,e3,hp,dd,e4,rs⟩:=r1;subst e3;subst e4;subst e2;have nd:=Ui.mp (show(p::b).Nodup from g.nd);refine⟨p,xs,u,ev,hp,dd,rs,fun u' JM JK MD Ng Ko=>?_⟩;have g2:Rel K G (upd H p u') (some (.d,.dct tk JM MD)::es.set i none) (some (.ref p)::vs) (p::b):=by
  refine⟨⟨some (.ref p),vs,rfl,.ref p,[p],b,rfl,rfl,?_,r2.step (.refl _) fun z hz=>aE fun e=>nd.1 (e▸hz)⟩,g.nd,g.gn,fun z o ez=>?_⟩
  ·rw[RepO];exact⟨p,JK,u',rfl,aV,Ng,rfl,Ko⟩
  ·have:z≠p:=fun w=>by
    subst w;rw[g.gn z Ts]at ez;cases ez
   rw[aE this];exact g.gh z o ez
 have RS:Step G H (p::b) G (upd H p u') (p::b):=by
  refine⟨.refl _,fun z o ez nz=>?_,fun z hz=>.inl hz,fun z o ez=>.inl ez,fun z o ez=>?_⟩
  ·have:z≠p:=fun w=>nz (by rw[w];exact Ts)
   rw[aE this];exact ez
  ·by_cases w:z=p
   ·subst w;exact⟨_,aV⟩
   ·exact⟨o,by rw[aE w];exact ez⟩
 obtain⟨fz,g3,IK⟩:=g2.back (i:=i) (by rw[Uw];exact(List.getElem?_eq_some_iff.mp e).1) ev;rw[Vk]at g3;exact⟨fz,g3,st.trans (RS.trans IK)⟩
theorem vp{K:W.Frag}{G:Hp}{d:D}{k:Key}{v:V}(e:ko d=some k)(r:Rep K G d v):sU k:=by
 cases d with
 |int i=>cases e;trivial
 |str l=>
  cases e;show(S l).cps.toList.length<=sizeLine;rw[dr];exact(bA r).2
 |_=>cases e
theorem vq{K:W.Frag}{G:Hp}:∀{ds:List D}{ks:List Key}{xs:List V},e7 ds=some ks->Reps K G ds xs->∀k∈ks,sU k
 |[],_,_,e,_=>by
  cases e;exact fun _ h=>nomatch h
 |d::ds,_,_,e,r=>by
  rw[e7,Uj]at e;obtain⟨k,e1,e⟩:=e;rw[Uh]at e;obtain⟨ks,e2,e3⟩:=e;subst e3;rw[Reps]at r;obtain⟨y,ys,e4,r1,r2⟩:=r;intro z hz;rcases TK.mp hz with rfl|hz
  ·exact vp e1 r1
  ·exact vq e2 r2 z hz
theorem qZ{κ:Type}[DecidableEq κ]{P:κ->Prop}{kvs:List (κ×V)}{k:κ}{y:V}(h:∀kv∈kvs,P kv.1)(hk:P k):∀kv∈jN kvs k y,P kv.1:=by
 intro kv Kn;unfold jN at Kn;split at Kn
 ·obtain⟨z,hz,e⟩:=UH.mp Kn;rw[<-e];split
  ·exact h z hz
  ·exact h z hz
 ·rcases Ue.mp Kn with Kn|Kn
  ·exact h kv Kn
  ·rw[TY]at Kn;rw[Kn];exact hk
end
end PV
namespace NX
open PySem PySem.Spec PyProof.Rows L2
section
variable{prog:Program}{w:World}{A:Around}{E:Value->Shared->Prop}{s:Shared}{d:Addr}{es:Array DictEntry}{ep:Nat}
theorem mF(nm:(d==sysModules)=false):MeetsIn prog w (Builtin.«dict.__len__» ⟨[.ref d],[]⟩) (fun _ R s=>RawD s.heap d es ep/\R (.ok (.ret (.int es.size s.toks))) {s with toks:=s.toks+1}):=
 .of_wp fun A R s Ip=>by
  obtain⟨⟨o,g,_,dat⟩,h⟩:=Ip;show wpAny _ _ (dictSize d >>= fun _=>_) _ _ s;unfold dictSize;refine Tr (Tr (Wd g dat (Tw ?_)));show wpAny _ _ (Builtin.Dict.pendingCount d >>= fun _=>_) _ _ s;refine Tr (wpAny_pendingCount_other nm (wpAny_ret_mkInt ?_));rw[Nat.add_zero];exact h
theorem AI{Q:Value->Shared->Prop}(nm:(d==sysModules)=false)(x:RawD s.heap d es ep)(hf:(es.size:Int)<2 ^ 63)(h:Q (.int es.size (s.toks+1)) {s with toks:=s.toks+1+1}):wpAny (model prog w) A (call (.builtin "len") [.ref d]) Q E s:=by
 have ty:=jW x;refine VM kind_len plain_len entry_len (args_len1 _) ?_;unfold Builtin.«len»;refine Tr (m:=oneArg "len" _) (Tw (Tr (m:=callSpecial? (.ref d) (Str.ofString "__len__")) (wpAny_callSpecial?_slot (name:=Str.ofString "__len__") ty F.slot_dict_len
  (call_meetsIn F.slot_dict_len ty F.entry_dict_len (F.args_dict_len_1 _) (mF (es:=es) (ep:=ep) nm) ⟨x,?_⟩))))
 show wpAny _ _ _ _ _ {s with toks:=s.toks+1};refine Tr (U4 (Tw (Tr (VG ?_))));show wpAny _ _ (if((es.size:Nat):Int)<0 then _ else _) _ _ _;rw[TJ (Int.not_lt.mpr (Int.natCast_nonneg _))];show wpAny _ _ (if((es.size:Nat):Int)>=2 ^ 63 then _ else _) _ _ _;rw[TJ (Int.not_le.mpr hf)];exact Tr (wpAny_mkInt (Tw ⟨_,rfl,h⟩))
end
end NX
namespace PV
open PySem PySem.Spec PyProof.Rows L2 NX
section
variable{X:Cx}
def fO:List D->Res R
 |[.dct _ ks _]=>.ok (.f,.int ks.length)
 |ds=>FL ds
theorem Dl{pr:List (Addr×Obj)}{σ:L2.St}{H:Hp}{s:Shared}(I:Inv X pr σ H s){p:Addr}{o:HO}{tk:Bool}{ks:List D}{xs:List V}(rd:Rd H p o)(dd:DictO o tk ks xs):(p==sysModules)=false/\∃es ep,RawD s.heap p es ep/\es.size=ks.length/\ks.length<=sizeLine:=by
 have ok:=rd.ok I.hok;cases tk with
 |true=>
  obtain⟨kvs,eo,ek,_⟩:=dd;subst eo;obtain⟨z,nm,ws,r,o2,es,ep,h1,h2,h3,h4,_⟩:=ok;refine⟨nm,es,ep,⟨o2,h1,h2,h3⟩,?_,by rw[ek,Tt];exact z⟩;have:=UP List.length h4;rw[Tt,UA,<-Wt r]at this;rw[ek,Tt];exact this
 |false=>
  obtain⟨kvs,eo,ek,_⟩:=dd;subst eo;obtain⟨z,nm,ws,r,o2,es,ep,h1,h2,h3,h4,h5,_⟩:=ok;refine⟨nm,es,ep,⟨o2,h1,h2,h3⟩,?_,by rw[ek,Tt];exact z⟩;have l1:=h5.length;have l2:kvs.length=ws.length:=Wt r;rw[ek,Tt];rw[UA]at l1;lia
theorem cw:dJ X (.builtin "len") (rC X.K fO):=by
 rintro pr s σ H xs us Q I rx ⟨G,fp,es,vs,ds,r,⟨rel,k⟩,vd,e⟩;unfold fO at e;split at e
 ·rename_i tk ks ws;cases e;obtain⟨v,ev,p,ys,o,ep,rd,dd,_⟩:=nh vd;subst ev;subst ep;obtain⟨u,rfl,ru⟩:=fN rx;cases ru;obtain⟨nm,en,ep,raw,h1,h2⟩:=Dl I rd dd;refine AI nm raw (by rw[h1];rw[UB]at h2;lia) ?_;refine⟨.int ks.length,H,I.tok _,⟨_,by rw[h1]⟩,k _ H G fp .refl (rel.push (bM _))⟩
 ·exact C6 pr s σ H xs us Q I rx ⟨G,fp,es,vs,_,r,⟨rel,k⟩,vd,e⟩
def FQ(g:List Nat->List D->Res R)(fa:FO)(fs:FOs):FX:=fun env=>(fa env).bind fun p=>match JC p.2 p.1 with
 | .ok (.str l)=>(fs p.2).bind fun q=>(m9 q.2 q.1).bind fun ds=>(g l ds).bind fun r=>.ok (r,q.2)
 |_=>.bad
inductive rMtS(K:W.Frag)(g:List Nat->List D->Res R)(x:V)(xs:List V)(H:Hp)(Q:VK):Prop
 |mk:∀G fp es vs l ds r,Goes K H G fp es vs r Q->x=.str (S l)->l.length<=sizeLine->Oc K G H ds xs->g l ds=.ok r->rMtS K g x xs H Q
theorem Dm{g:List Nat->List D->Res R}{id:String}{name:Str}{o e:Expr}{es:List Expr}{fa:FO}{fs:FOs}{apos Iy:Pos}(slot:Slot "str" name id)(Mx:typeOf (.builtin id)=pure (.type "method_descriptor"))(hm:N9 X id (rMtS X.K g))(ho:QO X o fa)(ha:Lq X (e::es) fs)
  (Jq:attributeBase o name X.env (eval o X.env)=eval o X.env:=by rfl)
  (Kc:((backTo Iy (starEach (e::es) X.env)).all (fun x=>!x.1)&&(backToKw Iy (keywordEach [] X.env)).all (fun x=>x.1.isSome)&&decide ((e::es).length+([]:List Keyword).length+(if([]:List Keyword).isEmpty then 0 else 1)<30))=true:=by rfl)
  (Jr:(apos.endLine==Iy.line)=true:=by rfl) (hs:starEach (e::es) X.env=(false,eval e X.env)::starEach es X.env:=by rfl) (IV:(backTo Iy (starEach es X.env)).any (·.1)=false:=by rfl):
  QE X (.Call (.Attribute o name apos) (e::es) [] Iy) (FQ g fa fs):=by
 refine bE (xk PySem.F.plainAttrs_str slot Mx hm ho ha Jq Kc Jr hs IV) fun σ H Q IB=>?_
 obtain⟨G,env,fp,r,env',rel,e,k⟩:=IB;obtain⟨⟨oa,H0⟩,e1,e⟩:=au e;dsimp only at e;split at e
 ·rename_i l hl;obtain⟨⟨os,Il⟩,e2,e⟩:=au e;obtain⟨ds,e3,e⟩:=au e;obtain⟨r',e4,e⟩:=au e;cases e;refine⟨G,env,fp,oa,H0,rel,e1,fun v H1 G1 IA Iu Ib Jv=>?_⟩;obtain⟨ev,hz⟩:=fF (Ib.vw Jv hl);subst ev;exact⟨rfl,G1,H0,IA,os,Il,Ib,e2,fun vs H2 G2 IL Ii Ia Ma=>⟨G2,IL,Il,σ,l,ds,r,⟨Ia,fun v H' G' Ie st II=>k v H' G' Ie (Iu.trans (Ii.trans st)) II⟩,rfl,hz,Ia.vws Ma e3,e4⟩⟩
 ·cases e
end
theorem fnok_of{P:Program}{w:World}{K:W.Frag}{mg:Str->Option Value}{base:Heap}{x:Str}{st:Stmt}{N ps:List Str}{k:Nat}{g:FS}{f:Addr}{fd:FuncData}(F:Fun K x x st f fd)(sc:FnScope N ps (defScope st))
  (body:∀(ID:Value) (A:Around) (outer:List PySem.Env) (s:Shared) (H:Hp) (E:XK),Room k (A.deeper (envOfC x (defScope st) s.heap.objs.size f ID))->L9 (md:=.plain) (wR L6 P w K mg base N x (defScope st) f ID A outer s H E).nox (cQ st) g):
  FnOk P w K mg base L6 (k+1) f fd ps (spF K (fBody ps.length (N.length-ps.length) g)):=by
 refine F.ok sc (fun vs H Q E h=>?_) (fun ID A outer s H vs Q E hr h=>?_)
 ·obtain⟨G,ds,r,_,rs,e,_⟩:=h;unfold fBody at e;split at e
  ·rename_i hl;rw[rs.length,hl]
  ·cases e
 ·obtain⟨G,ds,r,gh,rs,e,q⟩:=h;unfold fBody at e;split at e
  ·rename_i hl;refine⟨_,body ID A outer s H E hr,G,ds.map (fun d=>some (O.f,d))++List.replicate (N.length-ps.length) none,[],⟨?_,Vm,(fun _ h=>nomatch h),gh⟩,?_⟩
   ·have:=fU (K:=K) (G:=G) (H:=H) (N.length-ps.length) rs;unfold L2.jJ;rw[rs.length,hl];exact this
   ·obtain⟨o,eo,e⟩:=au e;rw[eo];cases o with
    |rt r'=>
     cases e;exact fun v H' G' Ie st rel=>q v H' G' Ie st rel
    |nx env'=>
     cases e;exact fun σ' H' G' Ie st rel=>q .non H' G' [] (st.trans (Step.cut fun _ h=>nomatch h)) (rel.nilF.push mw)
    |bk env'=>cases e
    |ct env'=>cases e
  ·cases e
def xI(K:W.Frag):Sp:=fun vs H Q _=>∃(a:Addr) (ns:List Int),vs=[.ref a]/\SqL K H a (ns.map V.int)/\ns.length<=63/\∀H',Q (.bl true) H'
theorem Dn{K:W.Frag}{F:List D->Res R}(h:∀ns:List Int,ns.length<=63->∃o,F [.lst (ns.map D.int)]=.ok (o,.bl true)):∀vs H Q E,xI K vs H Q E->spF K F vs H Q E:=by
 rintro vs H Q E ⟨a,ns,rfl,sq,hl,q⟩;obtain⟨o,e⟩:=h ns hl;refine⟨H,_,_,.refl _,?_,e,fun v H' G' Ie st rel=>?_⟩
 ·refine .one ?_;rw[Rep];exact⟨a,_,rfl,sq,e9 fun n _=>bM n⟩
 ·rw[c7 rel.top];exact q H'
theorem _root_.L2.Room.u65{k:Nat}{A:Around}(r:Room k A):A.units+65<cLine:=by have:=r.un;lia
def EN(f:FX)(a:FG):FS:=fun env=>(f env).bind fun p=>(a p.1.2 p.2).bind fun e=>.ok (.nx e)
theorem Dp{X:Cx}{tg e:Expr}{f:FX}{a:FG}{pos:Pos}(he:QE X e f)(hg:QG X tg a)(hs:swapsWithSole [tg] e pos.line X.env=pure false:=by rfl)(hw:swappedStores [tg] e X.env=pure none:=by rfl)
  (h1:(assignEach [tg] X.env).map (·.2)=[assign tg X.env]:=by rfl):QS (md:=md) X (.Assign [tg] e pos) (EN f a):=eL (Co he hg hs hw h1) fun Dd σ H Ip=>by
 obtain⟨G,env,fp,rel,k⟩:=Ip;unfold EN at k;match q:f env,k with
 | .ok (r,H0),k=>
  have k:OutOk X.K G H fp Dd ((a r.2 H0).bind fun e=>.ok (.nx e)):=k;match q2:a r.2 H0,k with
  | .ok Il,k=>
   refine⟨G,env,fp,r,H0,rel,q,fun v H1 G1 IA Iu Ib=>?_⟩;obtain⟨G2,b,rv,Ia,Ii⟩:=Ib.freeze;exact⟨G2,H0,b,r.2,Il,Ia,rv,q2,fun σ' G' Ie st II=>k σ' H1 G' Ie (Iu.trans (Ii.trans st)) II⟩
theorem walk{l:PySem.W.OpenLaw}{q:Program}{loose:List Str}{XP:(Str->Option Value)->Heap->Prop}{YP:World->Heap->Prop}{d:DefRec}{K:Params->W.Frag}{k:Nat}{x:Str}(hn:l.most=some 63)(PX:d.params.defaults=[])(hr:Room k PySem.callerA)
  (hY:∀(w:World) (h:Heap),YP w h->(K w.params).In h)
  (F:∀(w:World) (mg:Str->Option Value) (fa:Addr) (h:Heap),(K w.params).In h->h.Ns mainGlobals mg->mg d.name=some (.ref fa)->
   ∃fd:FuncData,(∀(s:Shared) (u:Value),BindsTo s fd ⟨[u],[]⟩ [(x,u)])/\∀base:Heap,(K w.params).In base->base.Ns mainGlobals mg->FnOk l.prog w (K w.params) mg base L6 k fa fd [x] (xI (K w.params))):
  PySem.W.WalkO q loose XP YP l.row.toRowW d [] (fun f vs=>PySem.call f vs):=
 L2.zZ (n:=63) (k:=k) (x:=x) (CX:=fun _=>L6) (sp:=fun w=>xI (K w.params)) hn (by decide) PX hr hY F (fun _ _ a ns hl _ hS=>⟨a,ns,rfl,hS,hl,fun _=>rfl⟩) fun _ _ _ _ _ z=>z
theorem vy:bootBuiltins "max" = some (.builtin "max"):=by decide +kernel
theorem Dq:bootBuiltins "all" = some (.builtin "all"):=by decide +kernel
theorem oA:bootBuiltins "sorted" = some (.builtin "sorted"):=by decide +kernel
theorem b7{K:W.Frag}{h:Heap}{mg:Str->Option Value}{x:Str}{st:Stmt}{f:Addr}{oc:Value}{od an:Option Addr}{M0:Array (Option Value)}{kV doc pm ID ct:Value}(X:K.In h)(G:h.Ns mainGlobals mg)
  (a:PySem.W.nsIn K mainGlobals x=some (some (.ref f))) (l:K.lookup f=some ⟨oc,od,.func (PySem.W.fnOf x x (eD st) (cQ st) (defScope st) .none kV doc pm an ID ct),M0⟩)
  (c:PySem.W.codeIn K ID x=true) (k:PySem.W.keepIn K (.ref f)=true):Def K mg x st:=⟨f,_,yL l c k,PySem.W.mg_of X G a⟩
inductive tQL(K:W.Frag)(f:FI)(σ:L2.St)(H:Hp)(R:It->Hp->Prop):Prop
 |mk:∀G env fp ds env',Rel K G H env σ fp->f env=.ok (ds,env')->(∀J H' G' Ie,Step G H fp G' H' Ie->Rel K G' H' env' σ Ie->(∀G2,Same G' G2->(∀(i:Nat) (r:PV.R) (v:V),env'[i]?=some (some r)->σ[i]?=some (some v)->Rep K G2 r.2 v)->Walk K G2 J ds)->R J H')->tQL K f σ H R
def OK(X:Cx)(tg e:Expr)(f:FI):Prop:=PI X tg e (tQL X.K f)
theorem Walk.mono{K:W.Frag}{G G2:Hp}{J:It}{ds:List D}(w:Walk K G J ds)(gg:Same G G2):Walk K G2 J ds:=fun G' H' es vs fp g rel=>w G' H' es vs fp (gg.trans g) rel
theorem y4{K:W.Frag}{fi:FI}{ix:List (Option Nat)}{a:FG}{c:FT}{f:FX}{σ:L2.St}{H:Hp}{Q:VK}(h:tQ K (dw fi ix a c f) σ H Q):z6 (tQL K fi) ix (tQG K a) (tQT K c) (tQ K f) σ H Q:=by
 obtain⟨G,env,fp,r,env',rel,e,k⟩:=h;obtain⟨⟨ds,H0⟩,e1,e⟩:=au e;obtain⟨rs,e2,e⟩:=au e;refine⟨G,env,fp,ds,H0,rel,e1,fun J H1 G1 IA Iu Ib wk D hD=>?_⟩;dsimp only at e e2;split at e
 ·rename_i hz;have er:r=(.l .f,.lst rs):=by cases e;rfl
  have ee:env'=if flatDs rs then H0 else H0.map frz:=by cases e;rfl
  subst er;obtain⟨G2,Nk,OH,Kp,hrE,Kw⟩:=Ib.lend;have wk2:=wk G2 Nk Kp;have Ia:Rel K G2 H1 (dP ix H0) (lz ix σ) []:=⟨fV Kp (fun i r er=>let⟨v,ev,_⟩:=Ib.view er;⟨v,ev⟩) ix,Vm,(fun _ h=>nomatch h),OH⟩
  obtain⟨IH,IK⟩:=Ia.newL (ds:=[]) (xs:=[]) hD .nil;refine⟨fun i m σ1 H2=>m=ds.length-i/\i<=ds.length/\∃G' es Ie acc eC,Step G2 H1 [] G' H2 Ie/\Rel K G' H2 (some (.l .f,.lst acc)::es) (some (.ref D)::σ1) Ie/\dv a c f (ds.drop i) es=.ok eC/\acc++eC=rs,
   ⟨_,rfl,Ug _,G2,dP ix H0,_,[],rs,IK,IH,e2,rfl⟩,?_⟩
  rintro i m σ1 H2 ⟨rfl,hi,G3,es,JE,acc,eC,JB,Jk,e4,MJ⟩;obtain⟨w1,w2⟩:=wk2 G3 H2 _ _ _ JB.gg Jk i;by_cases IQ:i<ds.length
  ·have hd:ds[i]?=some ds[i]:=List.getElem?_eq_getElem IQ;obtain⟨go,yl⟩:=w1 _ hd;rw[UZ IQ]at e4;unfold dv at e4;obtain⟨SK,h1,e4⟩:=au e4;obtain⟨⟨b,Qg⟩,h2,e4⟩:=au e4;dsimp only at e4;refine .inr ⟨go,fun x H3 y=>?_⟩;obtain⟨G4,rx,JP,Ku⟩:=yl x H3 y;obtain⟨fa,fb,SM,ra,relb,bk⟩:=JP.frame;refine⟨G4,es,fb,ds[i],SK,relb,rx,h1,fun σ2 G5 Qh st6 rel6=>?_⟩;refine⟨G5,SK,Qh,b,Qg,rel6,h2,fun H6 G6 SN st7 Qi=>?_⟩;have Qj:=st6.trans st7;cases b with
   |false=>
    refine iteF ⟨ds.length-(i+1),by lia,rfl,IQ,?_⟩;obtain⟨MK,Nn⟩:=bk G6 H6 Qg σ2 SN Qj Qi;rw[<-SM]at Nn;exact⟨G6,Qg,_,acc,eC,JB.trans (Ku.trans Nn),MK,e4,MJ⟩
   |true=>
    have e4:((f Qg).bind fun q=>(dv a c f (ds.drop (i+1)) q.2).bind fun rs=>.ok (q.1.2::rs))=.ok eC:=e4;obtain⟨⟨r,RW⟩,h3,e4⟩:=au e4;obtain⟨Qk,h4,e4⟩:=au e4;cases e4;refine EL ⟨G6,Qg,SN,r,RW,Qi,h3,fun v H7 G7 fp7 st8 rel8=>?_⟩;obtain⟨G8,fp8,rv,rel9,st9⟩:=rel8.freeze;obtain⟨MK,Nn⟩:=bk G8 H7 RW σ2 fp8 (Qj.trans (st8.trans st9)) rel9;rw[<-SM]at Nn;obtain⟨p,xs,ep,hp,M4,cg⟩:=MK.chg (i:=0) (ds:=acc) (ds':=acc++[r.2]) rfl;have ep:some (some (V.ref D))=some (some (V.ref p)):=ep;cases ep;obtain⟨fq,rely,sty⟩:=cg (xs++[v]) (M4.app (.one rv));refine⟨xs,hp,?_,ds.length-(i+1),by lia,rfl,IQ,G8,RW,fq,acc++[r.2],Qk,JB.trans (Ku.trans (Nn.trans sty)),rely,h4,?_⟩
    ·rw[M4.length];have:=UP List.length MJ;rw[Ua,TN]at this;lia
    ·rw[<-MJ,Ul];rfl
  ·have ei:i=ds.length:=by lia
   subst ei;rw[W6]at e4;cases e4;rw[T7]at MJ;subst MJ;refine .inl ⟨w2 rfl,?_⟩;obtain⟨fa,relo,sto⟩:=Jk.only;obtain⟨k1,k2⟩:=Kw H2 G3 fa _ _ (JB.trans sto) relo;rw[ee]at k;by_cases hc:flatDs acc=true
   ·rw[TF hc]at k;obtain⟨G5,Qh,Ku,JP⟩:=k1 (by rw[aQ,my];exact hc);exact k _ H2 G5 Qh (Iu.trans Ku) JP
   ·rw[TJ hc]at k;obtain⟨G5,Qh,Ku,JP⟩:=k2;exact k _ H2 G5 Qh (Iu.trans Ku) JP
 ·cases e
section
variable{md:Mode}{X:Cx}{scope:Scope}{N:List Str}{tg iter elt:Expr}{ifs:List Expr}{pos:Pos}{fi:FI}{a:FG}{c:FT}{f:FX}
variable{l e:Expr}{g fj:FI}
theorem cq(h:QI X tg e fi):OK X tg e fi:=iI h fun σ H R ⟨G,env,fp,ds,env',rel,e,k⟩=>⟨G,env,fp,ds,env',rel,e,fun J H' G' Ie st II wk=>k J H' G' Ie st II fun _ gg _=>wk.mono gg⟩
theorem fK(h:OK X tg e fi)(h2:OK X tg e fj):OK X tg e (JO fi fj):=fun pr s σ H R I Ip=>by
 obtain⟨G,env,fp,ds,env',rel,ee,k⟩:=Ip;rcases yZ ee with z|z
 ·exact h pr s σ H R I ⟨G,env,fp,ds,env',rel,z,k⟩
 ·exact h2 pr s σ H R I ⟨G,env,fp,ds,env',rel,z,k⟩
def jO(i:Nat):FI:=fun env=>match env[i]? with
 |some (some (_,.lst ds))=>.ok (ds,env)
 |_=>.bad
theorem ji{i:Nat}(h:PE X l (ud i)):OK X tg l (jO i):=iI (uf h) fun σ H R Ip=>by
 obtain⟨G,env,fp,ds,env',rel,e,k⟩:=Ip;unfold jO at e;split at e
 ·rename_i o ds hr;cases e;obtain⟨v,ev,rv⟩:=rel.view hr;obtain⟨p,xs,SO,sq,rs⟩:=bI rv;refine⟨v,ev,p,SO,⟨xs,sq⟩,k _ H G fp .refl rel fun G2 gg Kp=>?_⟩;obtain⟨p',JK,Ql,JN,Ko⟩:=bI (Kp i _ v hr ev);rw[SO]at Ql;cases Ql;exact og JN Ko
 ·cases e
theorem bQ(ix:List (Option Nat))(N:List Str)(hc:X.calm=true)(hi:OK X tg iter fi)(hg:∀C s H fp pn,QG (b6 X scope N C s H fp pn) tg a)(ht:∀C s H fp pn,Q8 (b6 X scope N C s H fp pn) ifs c)(he:∀C s H fp pn,QE (b6 X scope N C s H fp pn) elt f)
  (hf:iA scope X.env=true:=by rfl) (hk:scope.kind=.function:=by rfl) (Jd:∀y∈scope.names,y.2≠.cell:=by decide +kernel) (JV:∀y∈scope.names,y.2=.local->scope.names.lookup y.1=some .local:=by decide +kernel) (JU:yN X scope N ix=true:=by rfl)
  (hs:∀x,foldedSetIterable iter X.env x=pure x:=by intro _;rfl):QE X (.ListComp elt [⟨tg,iter,ifs,0⟩] scope pos) (dw fi ix a c f):=
 bE (z9 (g:=tQG X.K a) (tc:=tQT X.K c) (te:=tQ X.K f) ix N hc hi hg ht he hf hk Jd JV JU hs) fun _ _ _=>y4
theorem q0{i:Nat}{y:Str}{py MA:Pos}(ix:List (Option Nat))(N:List Str)(hN:X.N.Nodup)(RI:X.N[i]?=some y)(hy:Loc X.env.scope y)(hc:X.calm=true)(hi:OK X tg iter fi)(hg:∀C s H fp pn,QG (b6 X scope N C s H fp pn) tg a)(ht:∀C s H fp pn,Q8 (b6 X scope N C s H fp pn) ifs c)
  (he:∀C s H fp pn,QE (b6 X scope N C s H fp pn) elt f) (RJ:swapsWith (.ListComp elt [⟨tg,iter,ifs,0⟩] scope pos) (some (.Name y py)) MA.line X.env=pure true:=by rfl)
  (hf:iA scope X.env=true:=by rfl) (hk:scope.kind=.function:=by rfl) (Jd:∀y∈scope.names,y.2≠.cell:=by decide +kernel) (JV:∀y∈scope.names,y.2=.local->scope.names.lookup y.1=some .local:=by decide +kernel) (JU:yN X scope N ix=true:=by rfl)
  (hs:∀x,foldedSetIterable iter X.env x=pure x:=by intro _;rfl) (Mr:X.fn y=true\/X.env.scope.names.lookup y=some .local:=by first|exact .inl rfl|exact .inr rfl):
  QS (md:=md) X (.Assign [.Name y py] (.ListComp elt [⟨tg,iter,ifs,0⟩] scope pos) MA) (b5 i (dw fi ix a c f)):=
 eL (Aa (i:=i) (g:=tQG X.K a) (tc:=tQT X.K c) (te:=tQ X.K f) ix N hN RI hy hc hi hg ht he RJ hf hk Jd JV JU hs Mr) fun D σ H ⟨G,env,fp,rel,k⟩=>y4 (uW rel k)
end
section
variable{X:Cx}{a:Expr}{pos:Pos}{fa:FO}
def EO(fa:FO):FX:=fun env=>(fa env).bind fun p=>(JC p.2 p.1).bind fun d=>match d with
 | .int i=>.ok ((.f,.int (-i)),p.2)
 |_=>.bad
theorem y6(ha:QO X a fa):QE X (.UnaryOp .USub a pos) (EO fa):=bE (Fd Cz ha) fun σ H Q Ip=>by
 obtain⟨G,env,fp,r,env',rel,e,k⟩:=Ip;obtain⟨⟨o,e1⟩,h1,e⟩:=au e;obtain⟨d,h2,e⟩:=au e;dsimp only at e;split at e
 ·rename_i i;cases e;refine⟨G,env,fp,o,_,rel,h1,fun v H1 G1 IA Iu Ib Jv=>?_⟩;have:=br (Ib.vw Jv h2);exact⟨i,this,k _ H1 G1 IA Iu (Ib.push (bM _))⟩
 ·cases e
theorem vz{i:Int}(h:i.natAbs<2 ^ 1000):Builtin.Int.intBits i<=2 ^ 20:=by
 unfold Builtin.Int.intBits;split
 ·exact Ug _
 ·rename_i h0;have h1:i.natAbs≠0:=by
   intro e;rw[Int.natAbs_eq_zero]at e;exact h0 (by rw[e];rfl)
  have:=(Nat.log2_lt h1).mpr h;have e:(2:Nat) ^ 20=1048576:=by decide
  lia
theorem AJ:IZ X (binaryOp .Mult) (rI (fun i j=>i.natAbs<2 ^ 1000/\j.natAbs<2 ^ 1000) fun i j=>.int (i*j)):=PN fun _ _ _ _ _ _ _ hc q=>mul_int q (.of_bits (vz hc.1) (vz hc.2))
theorem oB{α:Type}:∀(ls:List (Array α)) (acc:Array α),(ls.foldl (·++·) acc).toList=acc.toList++(ls.map Array.toList).flatten
 |[],acc=>by simp
 |a::ls,acc=>by
  rw[VF,oB ls,Array.toList_append,TR,U9,Ul]
theorem FR(l:List Nat)(n:Nat):(⟨(List.replicate n (S l).cps).foldl (·++·) #[]⟩:Str)=S (List.replicate n l).flatten:=by
 have h:((List.replicate n (S l).cps).foldl (·++·) #[]).toList=(List.replicate n l).flatten:=by
  rw[oB,List.map_replicate];simp only[dr,VH]
 show Str.mk _=Str.mk _;rw[<-h]
theorem AK(a b:Int):FF (.int a) (.int b)=if dy a||dy b then .ok (.f,.int (a*b)) else .bad:=rfl
noncomputable def AL:D->D->Res R
 | .int i,.int j=>if dy i||dy j then .ok (.f,.int (i*j)) else if i.natAbs<2 ^ 1000/\j.natAbs<2 ^ 1000 then .ok (.f,.int (i*j)) else .bad
 | .str l,.int k=>if 2<=k/\k<=1000/\1<=l.length/\l.length<=1000 then .ok (.f,.str (List.replicate k.toNat l).flatten) else .bad
 |_,_=>.bad
theorem AM:IZ X (binaryOp .Mult) (rG X.K AL):=by
 rintro pr s σ H x y v u Q I rx ry ⟨G,fp,es,vs,a,b,r,⟨rel,k⟩,va,vb,e⟩;unfold AL at e;split at e
 ·rename_i i j;split at e
  ·rename_i hc;exact C4 pr s σ H x y v u Q I rx ry ⟨G,fp,es,vs,.int i,.int j,r,⟨rel,k⟩,va,vb,by rw[AK,TF hc];exact e⟩
  ·split at e
   ·rename_i hc;cases e;cases br va;cases br vb;exact AJ pr s σ H _ _ v u Q I rx ry ⟨i,j,rfl,rfl,hc,k _ H G fp .refl (rel.push (bM _))⟩
   ·cases e
 ·rename_i l j;split at e
  ·rename_i hc;cases e;obtain⟨ev,hl⟩:=fF va;subst ev;cases br vb;obtain⟨t,rfl⟩:=rx;obtain⟨t',rfl⟩:=ry;have hlen:(S l).length=l.length:=lh l;have hz:(List.replicate j.toNat l).flatten.length<=1000000:=by
    rw[lY];exact Nat.mul_le_mul (by lia:j.toNat<=1000) hc.2.2.2
   have M5:(List.replicate j.toNat l).flatten.length<=sizeLine:=Uc hz (by decide);refine PySem.P.mul_str ?_ ?_ ?_ ?_
   ·rw[T4 (by lia),T4 (by lia)];rfl
   ·intro _ _;rw[hlen];have h1:1000<=(2 ^ 63-1) / j:=(Int.le_ediv_iff_mul_le (by lia)).mpr (by lia);lia
   ·intro _ _;unfold Builtin.Str.tooLong;rw[UE,hlen,Yw,<-lY];lia
   ·rw[TJ (by lia),TJ (by rw[hlen,Xm,Us,Us];lia),FR];refine⟨?_,?_⟩
    ·rw[lh];exact M5
    ·exact⟨.str (S (List.replicate j.toNat l).flatten),H,I.tok _,⟨_,rfl⟩,k _ H G fp .refl (rel.push (hZ M5))⟩
  ·cases e
 ·cases e
end
end PV
namespace HT
open PySem PySem.Spec PyProof.Rows L2
variable{prog:Program}{w:World}{A:Around}{E:Value->Shared->Prop}{s:Shared}
theorem iR{t sl:Addr}{items:Array Value}{vl vu:Value}{lo hi:Option Int}{Q:Value->Shared->Prop}(ht:IsTup s.heap t items)(hs:s.heap.IsSliceOf sl vl vu .none)(pl:IsPart vl lo)(pu:IsPart vu hi)
  (hw:sIx items.size 0 lo=0/\sIx items.size items.size hi=items.size) (h:Q (.ref t) s):wpAny (model prog w) A (getItem (.ref t) (.ref sl)) Q E s:=by
 obtain⟨os,M9,Q0,Na⟩:=id hs;have RD:s.TypeIs (.ref sl) "slice":=⟨os,M9,Q0⟩
 unfold getItem;try with_reducible refine U4 ?_
 first|refine Tr (Tw ?_)|skip
 refine Tr (wpAny_sequenceKey ht.typeIs (by decide) ?_);refine Tr (wpAny_callSpecial?_slot (name:=Str.ofString "__getitem__") ht.typeIs UX
  (UC UX ht.typeIs entry_tuple_getitem ?_ (args_tuple_getitem _ _)))
 show wpAny _ _ (Builtin.Tuple.tupleItemsOf (.ref t) >>= _) _ _ s;refine Tr (tupleItemsOf_ ht ?_);refine Tr (VE RD ?_);rw[TF (by decide)];refine Tr (fE hs pl pu ?_);have hyes:(((sIx items.size 0 lo:Nat):Int)==0&&(1:Int)==1&&(sIx items.size items.size hi-sIx items.size 0 lo)==items.size)=true:=by
  rw[hw.1,hw.2];simp
 show wpAny _ _ (if(((sIx items.size 0 lo:Nat):Int)==0&&(1:Int)==1&&(sIx items.size items.size hi-sIx items.size 0 lo)==items.size)=true then _ else _) _ _ s;rw[TF hyes];refine Tr (m:=Builtin.Tuple.tupleIsExact _) ?_;unfold Builtin.Tuple.tupleIsExact;refine Tr (VE ht.typeIs (Tw ?_));rw[TF (by decide)];exact Tr (XA (Tw ⟨_,rfl,Tw h⟩))
end HT
namespace PV
open PySem PySem.Spec PyProof.Rows L2 NX
section
variable{X:Cx}{pos:Pos}{fa:FO}
theorem AN:Oo X (fun x lo hi H Q=>∃a xs,x=.ref a/\SqT X.K H a xs/\(HT.sIx xs.length 0 lo=0/\HT.sIx xs.length xs.length hi=xs.length)/\Q x H):=by
 intro pr s σ H x v vl vu lo hi sl Q I rx hs pl pu h;obtain⟨a,xs,rfl,hx,hw,q⟩:=h;cases rx;obtain⟨Ic,r,ht,hz⟩:=I.tuple hx;have hlen:Ic.toArray.size=xs.length:=by rw[Tu];exact r.length.symm
 refine⟨"tuple",_,PyProof.Rows.slot_tuple_getitem.lookup,ht.typeIs,?_⟩;exact HT.iR ht hs pl pu (by rw[hlen];exact hw) ⟨.ref a,H,I,rfl,q⟩
def Qm(k:D)(lo hi:Option Int):Res R:=match k with
 | .tup ds=>if HT.sIx ds.length 0 lo=0/\HT.sIx ds.length ds.length hi=ds.length then .ok (.f,.tup ds) else Qb k lo hi
 |_=>Qb k lo hi
def xJ(fa:FO)(lo hi:FP):FX:=fun env=>(fa env).bind fun p=>(lo p.2).bind fun q=>(hi q.2).bind fun t=>(JC t.2 p.1).bind fun d=>(Qm d q.1 t.1).bind fun r=>.ok (r,t.2)
inductive rSlW(K:W.Frag)(x:V)(lo:Option Int)(hi:Option Int)(H:Hp)(Q:VK):Prop
 |mk:∀G fp es vs d r,Goes K H G fp es vs r Q->Vw K G H d x->Qm d lo hi=.ok r->rSlW K x lo hi H Q
theorem Dr:Oo X (rSlW X.K):=by
 rintro pr s σ H x v vl vu lo hi sl Q I rx hs pl pu ⟨G,fp,es,vs,d,r,⟨rel,k⟩,vd,e⟩;unfold Qm at e;split at e
 ·rename_i ds;split at e
  ·rename_i hw;cases e;obtain⟨p,xs,ev,sq,rs⟩:=g0 vd;subst ev;refine AN pr s σ H _ v vl vu lo hi sl Q I rx hs pl pu ⟨p,xs,rfl,bP rel.gh sq,by rw[rs.length];exact hw,?_⟩;exact k _ H G fp .refl (rel.push vd)
  ·exact C5 pr s σ H x v vl vu lo hi sl Q I rx hs pl pu ⟨G,fp,es,vs,_,r,⟨rel,k⟩,vd,e⟩
 ·exact C5 pr s σ H x v vl vu lo hi sl Q I rx hs pl pu ⟨G,fp,es,vs,_,r,⟨rel,k⟩,vd,e⟩
theorem ky{e:Expr}{lo hi:Option Expr}{p2:Pos}{fl fh:FP}(he:QO X e fa)(hl:QP X lo fl)(hh:QP X hi fh):QE X (.Subscript e (.Slice lo hi none p2) pos) (xJ fa fl fh):=
 bE (xh Dr he hl hh) fun σ H Q Ip=>by
  obtain⟨G,env,fp,r,env',rel,e,k⟩:=Ip;obtain⟨⟨o,H0⟩,e1,e⟩:=au e;obtain⟨⟨i,Il⟩,e2,e⟩:=au e;obtain⟨⟨j,IX⟩,e3,e⟩:=au e;obtain⟨d,e4,e⟩:=au e;obtain⟨r',e5,e⟩:=au e;cases e;exact⟨G,env,fp,o,H0,rel,e1,fun v H1 G1 IA Iu Ib Jv=>⟨G1,H0,IA,i,Il,Ib,e2,fun H2 G2 IL Ii Ia=>⟨G2,Il,IL,j,IX,Ia,e3,fun H3 G3 JE IK IH=>
   ⟨G3,JE,IX,σ,d,r,⟨IH,fun v H' G' Ie st II=>k v H' G' Ie (Iu.trans (Ii.trans (IK.trans st))) II⟩,IH.vw ((Jv.mono Ii.gg).mono IK.gg) e4,e5⟩⟩⟩⟩
end
end PV
namespace L2
open PySem PySem.Spec PyProof.Rows
def Rb(lo c:Int)(n:Nat):It where
 go:=fun i _=>i<n
 yld:=fun i H x H'=>H'=H/\x=V.int (lo+(i:Int)*c)
 stop:=fun i _=>n<=i
theorem tj{P:Program}{w:World}{K:W.Frag}{tg:Expr}(it:Addr)(lo c:Int)(n:Nat):Turn P w K tg (Rb lo c n) [it] it (fun i h=>IsRangeIter h it (lo+(i:Nat)*c) ((n:Int)-(i:Nat)) c) where
 mem:=by simp
 obj:=fun i h st b hb=>by
  have e:b=it:=by simpa using hb
  subst e;exact⟨_,st,fun v z=>by
   have z':Data.fields _=Data.cell v:=z;cases z'⟩
 keep:=fun i h h' st k=>k it (by simp) _ st
 item:=by
  intro X hP hw hK hc i pr s σ H E I hf st hg;subst hP hw hK;obtain⟨f0,f1,f2,f3,f4,f5⟩:=hf it (by simp);have W:=Walks.range (prog:=X.prog) (w:=X.w) (I.ok.hd hc) it lo c n;refine W.item i s _ _ hg st fun v h' tk hv J6 kk=>?_
  obtain⟨t,rfl⟩:=hv;have I1:Inv X pr σ H {s with heap:=h',toks:=tk}:=I.turned (fun b o hb e=>kk b o (by simpa using hb) e) f0 f1 f3 f4 f5;exact⟨_,rfl,sv (s:={s with heap:=h',toks:=tk}) (n:="range_iterator") J6 rfl rfl (by decide) ⟨.int (lo+i*c),H,I1,⟨t,rfl⟩,⟨rfl,rfl⟩,J6,fun b hb=>(hf b hb).1⟩⟩
 done:=by
  intro X hP hw hK hc i pr s σ H E I hf st hg;subst hP hw hK;obtain⟨f0,f1,f2,f3,f4,f5⟩:=hf it (by simp);exact wpAny_pyNext_range_end (I.ok.hd hc) st (by have:n<=i:=hg;lia) fun h' eb=>⟨rfl,I.turned (t':=s.toks) (fun b o hb e=>eb b o hb e) f0 f1 f3 f4 f5⟩
 self:=fun _ _ _ _ _ st h=>wpAny_pyIter_rangeiter st h
theorem gL{n:Int}(h:-(2 ^ 63)<=n)(h2:n<2 ^ 63):Builtin.Range.rangeFitsLong n=true:=by
 unfold Builtin.Range.rangeFitsLong;simp;lia
theorem jA{lo hi c:Int}(h1:-1048576<=lo)(h2:lo<=1048576)(h3:-1048576<=hi)(h4:hi<=1048576)(hc:c = -1\/1<=c):0<=Builtin.Range.rangeSize lo hi c/\Builtin.Range.rangeSize lo hi c<=4194304:=by
 unfold Builtin.Range.rangeSize;rcases hc with rfl|hc
 ·rw[TJ (by decide)];split
  ·show 0<=(lo-hi-1) / 1+1/\(lo-hi-1) / 1+1<=_;rw[Int.ediv_one];lia
  ·lia
 ·rw[TF (by lia)];split
  ·have:=Int.ediv_le_self c (show 0<=hi-lo-1 by lia);have:=Int.ediv_nonneg (show 0<=hi-lo-1 by lia) (show 0<=c by lia);lia
  ·lia
theorem pT{lo hi c:Int}(h1:-1048576<=lo)(h2:lo<=1048576)(h3:-1048576<=hi)(h4:hi<=1048576)(hc:c = -1\/1<=c)(h5:c<=1048576):Builtin.Range.small lo hi c=true:=by
 obtain⟨r1,r2⟩:=jA h1 h2 h3 h4 hc;unfold Builtin.Range.small;rw[gL (by lia) (by lia),gL (by lia) (by lia),gL (by lia) (by lia),gL (by lia) (by lia),gL (by lia) (by lia),gL (by lia) (by lia)];simp
section
variable{X:Cx}{tg:Expr}
theorem xK{pr:List (Addr×Obj)}{σ:St}{H:Hp}{s:Shared}{R:It->Hp->Prop}{E:Value->Shared->Prop}{lo hi c:Int}{t u v:Tok}{tk:Nat}(I:Inv X pr σ H s)(sm:Builtin.Range.small lo hi c=true)(r0:0<=Builtin.Range.rangeSize lo hi c)
  (q:R (Rb lo c (Builtin.Range.rangeSize lo hi c).toNat) H):wpAny (model X.prog X.w) X.A (pyIter (.ref s.heap.objs.size)) (Rw X pr σ tg R) E {s with heap:=s.heap.push {cls:=.type "range",data:=.fields #[.int lo t,.int hi u,.int c v]},toks:=tk}:=by
 refine wpAny_pyIter_range (IsRange.new ..) sm ?_;have I1:Inv X pr σ H {s with heap:=s.heap.push {cls:=.type "range",data:=.fields #[.int lo t,.int hi u,.int c v]},toks:=tk}:=I.kept fun b o e=>Heap.get?_push_of_some _ e
 refine⟨(s.heap.push {cls:=.type "range",data:=.fields #[.int lo t,.int hi u,.int c v]}).objs.size,[(s.heap.push {cls:=.type "range",data:=.fields #[.int lo t,.int hi u,.int c v]}).objs.size],_,_,H,rfl,
  I1.kept (t':=tk) fun b o e=>Heap.get?_push_of_some _ e,tj _ lo c (Builtin.Range.rangeSize lo hi c).toNat,?_,fun b hb=>?_,q⟩
 ·have e1:lo+((0:Nat):Int)*c=lo:=by simp
  have e2:(((Builtin.Range.rangeSize lo hi c).toNat:Nat):Int)-((0:Nat):Int)=Builtin.Range.rangeSize lo hi c:=by lia
  show IsRangeIter _ _ (lo+((0:Nat):Int)*c) ((((Builtin.Range.rangeSize lo hi c).toNat:Nat):Int)-((0:Nat):Int)) c;rw[e1,e2];exact Heap.get?_push_size _ rfl
 ·have e:b=(s.heap.push {cls:=.type "range",data:=.fields #[.int lo t,.int hi u,.int c v]}).objs.size:=by simpa using hb
  subst e;exact I1.fpOk (TB _) (I1.hok.fresh (TB _))
def kz(i j c:Int):Prop:=(-1048576<=i/\i<=1048576)/\(-1048576<=j/\j<=1048576)/\(c = -1\/1<=c)/\c<=1048576
instance (i j c:Int):Decidable (kz i j c):=by unfold kz;infer_instance
def FU(ta:TA):TI:=fun σ H R=>ta σ H fun vs H1=>∃i j c:Int,vs=[.int i,.int j,.int c]/\kz i j c/\R (Rb i c (Builtin.Range.rangeSize i j c).toNat) H1
theorem xM{x c:Int}(hc:c = -1\/1<=c)(h5:c<=1048576):Builtin.divisionGoesByPylong x c=false:=by
 unfold Builtin.divisionGoesByPylong;have h:¬ ((if(c==0)=true then 0 else c.natAbs.log2 / 30+1)>300):=by
  split
  ·lia
  ·have:c.natAbs.log2<60:=(Nat.log2_lt (by lia)).mpr (by lia);lia
 simp only[T4 h,VL]
theorem vA{a b d:Expr}{ta:TA}{p pos:Pos}(hg:Gl X "range")(hm:X.mg "range" = none)(ha:PA X [a,b,d] ta)(hs:starEach [a,b,d] X.env=[(false,eval a X.env),(false,eval b X.env),(false,eval d X.env)]:=by rfl)(L3:starEach [b,d] X.env=[(false,eval b X.env),(false,eval d X.env)]:=by rfl):
  PI X tg (.Call (.Name "range" p) [a,b,d] [] pos) (FU ta):=by
 intro pr s σ H R I h;refine Call_ (gX I hg hm boot_range (Uu (Iw (ha pos pr s σ H _ I h) fun us s1 ⟨vs,H1,I1,r1,q1⟩=>?_) (by rw[hs,L3]) (by rw[L3];rfl)));obtain⟨i,j,c,e,⟨⟨q1,q2⟩,⟨q3,q4⟩,q5,q6⟩,q⟩:=q1;subst e;cases r1 with
 |cons r rr=>
  cases rr with
  |cons r' rr=>
   cases rr with
   |cons r'' rr=>
    cases rr;obtain⟨t,rfl⟩:=r;obtain⟨t',rfl⟩:=r';obtain⟨t'',rfl⟩:=r'';exact call_range_3 (by lia) (xK (tk:=s1.toks) I1 (pT q1 q2 q3 q4 q5 q6) (jA q1 q2 q3 q4 q5).1 q) (.inl (xM q5 q6))
end
end L2
namespace PV
open PySem PySem.Spec PyProof.Rows L2 NX
section
variable{X:Cx}{tg:Expr}
def HY:List D->Res R
 |[d]=>match(oj d).bind dH with
  |some (n::ns)=>.ok (.f,.int (Ft (n::ns)))
  |_=>.bad
 |[.int i,.int j]=>.ok (.f,.int (if j<i then j else i))
 |_=>.bad
def HZ:List D->Res R
 |[.int i]=>.ok (.f,.int (if i<0 then -i else i))
 |_=>.bad
noncomputable def pU(fs:FOs):FI:=fun env=>(fs env).bind fun p=>(m9 p.2 p.1).bind fun d=>match d with
 |[.int i,.int j,.int c]=>if kz i j c then .ok ((List.range (Builtin.Range.rangeSize i j c).toNat).map fun(k:Nat)=>D.int (i+(k:Int)*c),p.2) else .bad
 |_=>.bad
theorem tm{K:W.Frag}{G:Hp}(lo c:Int)(n:Nat):Walk K G (Rb lo c n) ((List.range n).map fun(k:Nat)=>D.int (lo+(k:Int)*c)):=by
 intro G' H' es vs fp gg rel i;refine⟨fun d hd=>?_,fun e=>?_⟩
 ·rw[List.getElem?_map]at hd;cases hc:(List.range n)[i]? with
  |none=>rw[hc]at hd;cases hd
  |some c=>
   rw[hc]at hd;cases hd;obtain⟨h1,h2⟩:=List.getElem?_eq_some_iff.mp hc;rw[T3]at h1;rw[WK]at h2;subst h2;refine⟨h1,fun x H2 ⟨e1,e2⟩=>?_⟩;subst e1;exact⟨G',by rw[e2];exact bM _,rel,.refl⟩
 ·rw[Tt,T3]at e;exact Yv e.symm
theorem vB{a b d:Expr}{fs:FOs}{p pos:Pos}(hg:Gl X "range")(hm:X.mg "range" = none)(ha:Lq X [a,b,d] fs)(hs:starEach [a,b,d] X.env=[(false,eval a X.env),(false,eval b X.env),(false,eval d X.env)]:=by rfl)(L3:starEach [b,d] X.env=[(false,eval b X.env),(false,eval d X.env)]:=by rfl):
  QI X tg (.Call (.Name "range" p) [a,b,d] [] pos) (pU fs):=
 iI (vA hg hm ha hs L3) fun σ H R Ip=>by
  obtain⟨G,env,fp,ds,env',rel,e,k⟩:=Ip;obtain⟨⟨o,H0⟩,e1,e⟩:=au e;obtain⟨d,e2,e⟩:=au e;dsimp only at e;split at e
  ·rename_i i j c;split at e
   ·rename_i hj;cases e;refine⟨G,env,fp,o,_,rel,e1,fun vs H1 G1 IA Iu Ib Jv=>?_⟩;obtain⟨y,ys,ev,v1,z,zs,P9,v2,y3,zs3,ev3,v3,e3⟩:=Ib.vws Jv e2;have e3:zs3=[]:=e3;subst e3;have h1:=br v1;have h2:=br v2;have h3:=br v3;subst h1 h2 h3 ev3 P9;exact⟨i,j,c,ev,hj,k _ H1 G1 IA Iu Ib (tm i c _)⟩
   ·cases e
  ·cases e
end
end PV
namespace NX
open PySem PySem.Spec PyProof.Rows L2
section
open PySem.SeqAt
open PySem.AutoSeq1 (wpAny_loadPart')
theorem kA{M:Model}{A:Around}{E:Value->Shared->Prop}{s:Shared}{β:Type}(f:Nat->β->Sem (ForInStep β))(n:Nat)(I:Nat->β->Shared->Prop)(Q:β->Shared->Prop)
  (turn:∀(i:Nat) (b:β) (s:Shared),i<n->I i b s->wpAny M A (f i b) (fun r s'=>match r with | .yield b'=>I (i+1) b' s' | .done b'=>Q b' s') E s)
  (fin:∀(b:β) (s:Shared),I n b s->Q b s) (b:β) (h:I 0 b s):wpAny M A (forIn [0:n] b f) Q E s:=by
 rw[Std.Legacy.Range.forIn_eq_forIn_range'];refine W5 f (fun eC b s=>∃i,i<=n/\eC=List.range' i (n-i)/\I i b s) Q ?_ ?_ _ b ?_
 ·rintro x eC b s ⟨i,hi,hr,h⟩;by_cases RX:i<n
  ·have e:n-i=(n-(i+1))+1:=by lia
   rw[e,List.range'_succ]at hr;injection hr with h1 h2;subst h1;refine Iw (turn x b s RX h) fun r s' SQ=>?_
   cases r with
   |yield b'=>exact⟨x+1,by lia,h2,SQ⟩
   |done b'=>exact SQ
  ·have e:n-i=0:=by lia
   rw[e]at hr;cases hr
 ·rintro b s ⟨i,hi,hr,h⟩;by_cases RX:i<n
  ·have e:n-i=(n-(i+1))+1:=by lia
   rw[e,List.range'_succ]at hr;cases hr
  ·have e:i=n:=by lia
   subst e;exact fin b s h
 ·refine⟨0,Ug _,?_,h⟩;simp[Std.Legacy.Range.size]
theorem jP(l:Addr)(items:Array Value)(n:Nat)(dd:Option Addr)(sl:Array (Option Value))(ns:List Str)(c:Str)(t:Tok)(hi:Vals (ns.map V.str) items.toList)(i:Nat)(hx:ns[i]?=some c)(h0:∀j,j<i->ns[j]?≠some c):
  Meets (Builtin.«tuple.index» ⟨[.ref l,.str c t],[]⟩)
   (fun _ R s=>s.heap.get? l=some {cls:=.type "tuple",dict:=dd,data:=.seq items n,slots:=sl}/\R (.ok (.ret (.int (i:Int) s.toks))) {s with toks:=s.toks+1}):=
 .of_wp fun prog w A R s h=>by
  obtain⟨hp,g,d,tk,os⟩:=s;obtain⟨hl,h⟩:=h;have z1:items.size=ns.length:=by have:=hi.length;simp at this;lia
  have RX:i<ns.length:=(List.getElem?_eq_some_iff.mp hx).1;have key:∀(j:Nat),j<ns.length->∃(b:Str) (u:Tok),items[j]?=some (.str b u)/\ns[j]?=some b:=by
   intro j hj;obtain⟨v,hv,hr⟩:=hi.get (i:=j) (x:=V.str ns[j]) (by simp[hj]);obtain⟨u,rfl⟩:=hr;exact⟨ns[j],u,by rw[<-Array.getElem?_toList];exact hv,by simp[hj]⟩
  wp_walk using wpAny_loadPart' hl,kA _ _ (fun j b s'=>b.1=none/\s'=⟨hp,g,d,tk,os⟩/\j<=i) _
  case turn=>
   rintro j ⟨b1,b2⟩ s' hj ⟨hb,rfl,SR⟩;simp only at hb;subst hb;obtain⟨b,u,e1,e2⟩:=key j (by lia);have he:EqAt A.in1 ⟨hp,g,d,tk,os⟩ (.str b u) (.str c t) (b==c):=EqAt.str_str b u c t;by_cases hbc:b=c
   ·have hji2:j=i:=by
     rcases Nat.lt_or_ge j i with IQ|hge
     ·exact absurd (by rw[e2,hbc]) (h0 j IQ)
     ·lia
    subst hji2 hbc;rw[e1];refine Tr (he prog w _ _ ?_);rw[show(b==b)=true from UT b]
    wp_walk
    exact⟨_,rfl,h⟩
   ·rw[e1];refine Tr (he prog w _ _ ?_);rw[show(b==c)=false from UW.mpr hbc]
    wp_walk
    refine⟨rfl,rfl,?_⟩;rcases Nat.lt_or_ge j i with IQ|hge
    ·exact IQ
    ·have:j=i:=by lia
     subst this;rw[e2]at hx;cases hx;exact absurd rfl hbc
  case fin=>
   rintro⟨b1,b2⟩ s' ⟨hb,rfl,SR⟩;rw[Nat.min_self]at SR;lia
  case h=>exact⟨rfl,rfl,Ug _⟩
end
end NX
namespace L2
open PySem PySem.Spec PyProof.Rows
section
variable{X:Cx}{o e:Expr}{es:List Expr}{to:TE}{t:TA}{name:Str}{apos Iy:Pos}{id:String}{r:V->List V->Hp->VK->Prop}
def Hy(K:W.Frag)(r:V->List V->Hp->VK->Prop)(to:TE)(t:TA):TE:=fun σ H Q=>to σ H fun x H1=>(∃p ys,x=.ref p/\SqT K H1 p ys)/\t σ H1 fun xs H2=>r x xs H2 Q
theorem Ds(slot:Slot "tuple" name id)(Mx:typeOf (.builtin id)=pure (.type "method_descriptor"))(hm:N9 X id r)(ho:PE X o to)(ha:PA X (e::es) t)
  (Jq:attributeBase o name X.env (eval o X.env)=eval o X.env:=by rfl)
  (Kc:((backTo Iy (starEach (e::es) X.env)).all (fun x=>!x.1)&&(backToKw Iy (keywordEach [] X.env)).all (fun x=>x.1.isSome)
   && decide ((e::es).length+([]:List Keyword).length+(if([]:List Keyword).isEmpty then 0 else 1)<30))=true:=by rfl)
  (Jr:(apos.endLine==Iy.line)=true:=by rfl) (hs:starEach (e::es) X.env=(false,eval e X.env)::starEach es X.env:=by rfl) (IV:(backTo Iy (starEach es X.env)).any (·.1)=false:=by rfl):
  PE X (.Call (.Attribute o name apos) (e::es) [] Iy) (Hy X.K r to t):=by
 intro pr s σ H Q I h;refine wpAny_Call_method_late Jq Kc Jr rfl (Iw (ho pr s σ H _ I h) fun v s1 IB=>?_);obtain⟨x,H1,I1,r1,⟨p,ys,ex,sq⟩,q1⟩:=IB;subst ex;cases r1;obtain⟨Ic,_,⟨ob,ho,hc,⟨n,hd⟩,hn⟩,_⟩:=I1.tupleN sq;refine⟨"tuple",id,PySem.F.plainAttrs_tuple,slot,Mx,⟨ob,ho,hc⟩,fun a e2=>?_,?_⟩
 ·cases e2;exact⟨ob,ho,hn⟩
 have hA:=ha Iy pr s1 σ H1 _ I1 q1;rw[hs]at hA ⊢;refine Calls.callWith_builtin (by show(false||(backTo Iy (starEach es X.env)).any (·.1))=false;rw[IV] <;> rfl) (Calls.evalArgs_plain ?_);exact Iw hA fun us s2 ⟨vs,H2,I2,r2,q2⟩=>hm pr s2 σ H2 (.ref p) vs _ us Q I2 rfl r2 q2
end
end L2
namespace PV
open PySem PySem.Spec PyProof.Rows L2 NX
section
variable{X:Cx}
noncomputable def Dt(g:List D->List D->Res R)(fa:FO)(fs:FOs):FX:=fun env=>(fa env).bind fun p=>(JC p.2 p.1).bind fun a=>match a with
 | .tup _=>(fs p.2).bind fun q=>(JC q.2 p.1).bind fun a2=>match a2 with
  | .tup l=>(m9 q.2 q.1).bind fun ds=>(g l ds).bind fun r=>.ok (r,q.2)
  |_=>.bad
 |_=>.bad
inductive rMtT(K:W.Frag)(g:List D->List D->Res R)(x:V)(xs:List V)(H:Hp)(Q:VK):Prop
 |mk:∀G fp es vs l ds r,Goes K H G fp es vs r Q->Vw K G H (.tup l) x->Oc K G H ds xs->g l ds=.ok r->rMtT K g x xs H Q
theorem vC{g:List D->List D->Res R}{id:String}{name:Str}{o e:Expr}{es:List Expr}{fa:FO}{fs:FOs}{apos Iy:Pos}(slot:Slot "tuple" name id)(Mx:typeOf (.builtin id)=pure (.type "method_descriptor"))(hm:N9 X id (rMtT X.K g))(ho:QO X o fa)(ha:Lq X (e::es) fs)
  (Jq:attributeBase o name X.env (eval o X.env)=eval o X.env:=by rfl)
  (Kc:((backTo Iy (starEach (e::es) X.env)).all (fun x=>!x.1)&&(backToKw Iy (keywordEach [] X.env)).all (fun x=>x.1.isSome)&&decide ((e::es).length+([]:List Keyword).length+(if([]:List Keyword).isEmpty then 0 else 1)<30))=true:=by rfl)
  (Jr:(apos.endLine==Iy.line)=true:=by rfl) (hs:starEach (e::es) X.env=(false,eval e X.env)::starEach es X.env:=by rfl) (IV:(backTo Iy (starEach es X.env)).any (·.1)=false:=by rfl):
  QE X (.Call (.Attribute o name apos) (e::es) [] Iy) (Dt g fa fs):=by
 refine bE (Ds slot Mx hm ho ha Jq Kc Jr hs IV) fun σ H Q IB=>?_
 obtain⟨G,env,fp,r,env',rel,e,k⟩:=IB;obtain⟨⟨oa,H0⟩,e1,e⟩:=au e;obtain⟨da,Nj,e⟩:=au e;dsimp only at e;split at e
 ·obtain⟨⟨os,Il⟩,e2,e⟩:=au e;obtain⟨d2,hd2,e⟩:=au e;dsimp only at e;split at e
  ·obtain⟨ds,e3,e⟩:=au e;obtain⟨r',e4,e⟩:=au e;cases e;refine⟨G,env,fp,oa,H0,rel,e1,fun v H1 G1 IA Iu Ib Jv=>?_⟩;obtain⟨p,xs,ev,sq,_⟩:=bB (Vw.rep Ib.gh (Ib.vw Jv Nj));exact⟨⟨p,xs,ev,sq⟩,G1,H0,IA,os,_,Ib,e2,fun vs H2 G2 IL Ii Ia Ma=>⟨G2,IL,_,σ,_,ds,r,⟨Ia,fun v H' G' Ie st II=>k v H' G' Ie (Iu.trans (Ii.trans st)) II⟩,Ia.vw (Jv.mono Ii.gg) hd2,Ia.vws Ma e3,e4⟩⟩
  ·cases e
 ·cases e
def oC(l:List D):List D->Res R
 |[.str c]=>match fJ l with
  |some bs=>if c∈bs then .ok (.f,.int (bs.idxOf c:Nat)) else .bad
  |none=>.bad
 |_=>.bad
theorem Du{a b:List Nat}(h:S a=S b):a=b:=by
 have:=UP (fun s:Str=>s.cps.toList) h;simpa only[dr] using this
theorem rg:∀(bs:List (List Nat)) (c:List Nat) (j:Nat),bs[j]?=some c->bs.idxOf c<=j
 |[],c,j,h=>by simp at h
 |b::bs,c,0,h=>by
  simp at h;subst h;simp[List.idxOf_cons]
 |b::bs,c,j+1,h=>by
  rw[List.getElem?_cons_succ]at h;have:=rg bs c j h;rw[List.idxOf_cons];cases b==c with
  |true=>exact Ug _
  |false=>exact Nat.succ_le_succ this
theorem ie:N9 X "tuple.index" (rMtT X.K oC):=by
 rintro pr s σ H x xs v us Q I rx rv ⟨G,fp,es,vs,l,ds,r,⟨rel,k⟩,vx,vd,e⟩;unfold oC at e;split at e
 ·rename_i c;split at e
  ·rename_i bs hb;split at e
   ·rename_i hc;cases e;obtain⟨p,ys,ev,sq,rs⟩:=bB (Vw.rep rel.gh vx);obtain⟨hy,_⟩:=ic hb rs;subst ev;cases rx;obtain⟨w',ew,vc⟩:=nh vd;obtain⟨ev,_⟩:=fF vc;subst ew;subst ev;obtain⟨u,rfl,t',rfl⟩:=fN rv;obtain⟨Ic,vl,⟨ob,h1,h2,⟨n,h3⟩,h4⟩,_⟩:=I.tupleN sq;subst hy;obtain⟨cls,dict,data,slots⟩:=ob;dsimp only at h2 h3 h4;subst h2 h3 h4;have IQ:=Uk hc;refine PySem.call_meets Vt ⟨_,h1,rfl⟩ PySem.F.entry_tuple_index (PySem.F.args_tuple_index_2 _ _) (jP p Ic.toArray n _ _ (bs.map S) (S c) t' (by rw[TZ];exact vl) (bs.idxOf c) ?_ ?_) ⟨h1,⟨.int (bs.idxOf c:Nat),H,I.tok _,⟨_,rfl⟩,k _ H G fp .refl (rel.push (bM _))⟩⟩
    ·rw[List.getElem?_map,List.getElem?_eq_getElem IQ,WL IQ];rfl
    ·intro j hj he;rw[List.getElem?_map,List.getElem?_eq_getElem (by lia)]at he;have he:=Du (TX he);have:=rg bs c j (by rw[List.getElem?_eq_getElem (by lia),he]);lia
   ·cases e
  ·cases e
 ·cases e
def cW(a b:D):Res R:=match a,b with
 | .tup [],.tup l=>.ok (.f,.tup l)
 |a,b=>addD a b
theorem aO:IZ X (binaryOp .Add) (rG X.K cW):=by
 rintro pr s σ H x y v u Q I rx ry ⟨G,fp,es,vs,a,b,r,⟨rel,k⟩,va,vb,e⟩;unfold cW at e;split at e
 ·rename_i l;cases e;obtain⟨p,xs,e1,h1,r1⟩:=g0 va;obtain⟨p2,Px,e2,h2,r2⟩:=g0 vb;subst e1;subst e2;cases rx;cases ry;have hx:xs=[]:=Ux (by rw[r1.length];rfl);subst hx;obtain⟨Ic,v1,⟨⟨cls,dd,data,sl⟩,ho,hc,n,hd⟩,_⟩:=I.tuple (bP rel.gh h1);obtain⟨Lv,v2,⟨⟨M8,LR,data2,LS⟩,JR,Lc,n2,hd2⟩,_⟩:=I.tuple (bP rel.gh h2);dsimp only at hc hd Lc hd2;subst hc hd Lc hd2;cases v1;exact Xk ⟨_,ho,rfl⟩ ⟨_,JR,rfl⟩ W2 XX V8 VX (VT _ _) (tuple_addW0 p p2 _ _ n n2 dd LR sl LS rfl) ⟨ho,JR,⟨.ref p2,H,I,rfl,k _ H G fp .refl (rel.push vb)⟩⟩
 ·exact C3 pr s σ H _ _ v u Q I rx ry ⟨G,fp,es,vs,a,b,r,⟨rel,k⟩,va,vb,e⟩
def tq(fs:FOs):FI:=JO (sX true true fs) (JO (sX true false fs) (JO (sX false true fs) (sX false false fs)))
theorem pV{Mb:List Expr}{kt:Nat}{pt:Pos}{e1 e2:Expr}{fs:FOs}{p pos:Pos}(hg:Gl X "zip")(hm:X.mg "zip" = none)(ha:Lq X [e1,e2] fs)(he:starEach [e1,e2] X.env=(false,eval e1 X.env)::starEach [e2] X.env:=by rfl)(JJ:(backTo pos (starEach [e2] X.env)).any (·.1)=false:=by rfl):
  QI X (.Tuple Mb kt pt) (.Call (.Name "zip" p) [e1,e2] [] pos) (tq fs):=vg (qT true true hg hm ha he JJ) (vg (qT true false hg hm ha he JJ) (vg (qT false true hg hm ha he JJ) (qT false false hg hm ha he JJ)))
end
end PV
namespace NX
open PySem PySem.Spec PyProof.Rows L2
section
open PySem.AutoSeq1 (wpAny_loadPart')
theorem oD(l:Addr)(items:Array Value)(n:Nat)(dd:Option Addr)(sl:Array (Option Value))(x:Int)(u:Tok)(h1:¬ (!Builtin.List.listFitsIndex x)=true)(h2:¬ items.size*x.toNat>(2 ^ 63-1) / 8)(h3:¬ Builtin.List.listTooLong (items.size*x.toNat)=true)(h4:(List.foldl (fun x1 x2=>x1++x2) #[] (List.replicate (if items.isEmpty=true then 0 else x.toNat) items)).size<=sizeLine):
  Meets (Builtin.«list.__mul__» ⟨[.ref l,.int x u],[]⟩)
   (fun _ R s=>s.heap.get? l=some {cls:=.type "list",dict:=dd,data:=.seq items n,slots:=sl}/\R (.ok (.ret (.ref s.heap.objs.size))) {s with heap:=s.heap.push {cls:=.type "list",data:=.seq (List.foldl (fun x1 x2=>x1++x2) #[] (List.replicate (if items.isEmpty=true then 0 else x.toNat) items))}}):=
 .of_wp fun prog w A R s h=>by
  obtain⟨hp,g,d,tk,os⟩:=s;obtain⟨hl,h⟩:=h
  wp_walk using wpAny_loadPart' hl
  rw[TJ (by lia)]
  wp_walk
  exact⟨_,rfl,h⟩
theorem oE(a:Int)(t:Tok)(l:Addr)(T:String)(items:Array Value)(n:Nat)(dd:Option Addr)(sl:Array (Option Value)):
  Meets (Builtin.«int.__rmul__» ⟨[.int a t,.ref l],[]⟩)
   (fun _ R s=>s.heap.get? l=some {cls:=.type "list",dict:=dd,data:=.seq items n,slots:=sl}/\R (.ok (.ret .notImplemented)) s):=
 .of_wp fun prog w A R s h=>by
  obtain⟨hp,g,d,tk,os⟩:=s;obtain⟨hl,h⟩:=h
  wp_walk using wpAny_loadPart' hl
  exact⟨_,rfl,h⟩
end
end NX
namespace PV
open PySem PySem.Spec PyProof.Rows L2 NX
section
variable{md:Mode}{X:Cx}
inductive rRepS(K:W.Frag)(x:V)(y:V)(H:Hp)(Q:VK):Prop
 |mk:∀l k xs,x=.ref l->y=.int k->SqL K H l xs->-(2 ^ 62)<=k->k<2 ^ 62->xs.length*k.toNat<=sizeLine->(∀p,H p=none->Q (.ref p) (upd H p (.lst (List.replicate k.toNat xs).flatten)))->rRepS K x y H Q
theorem AO:IZ X (binaryOp .Mult) (rRepS X.K):=by
 intro pr s σ H x y v u Q I rx ry h;obtain⟨l,k,xs,rfl,rfl,hH,h1,h2,hz,q⟩:=h;cases rx;obtain⟨t,rfl⟩:=ry;obtain⟨Ic,r,p1,_⟩:=I.list hH;have hl:=r.length;obtain⟨⟨cls,dd,data,sl⟩,ho,hc,n,hd⟩:=id p1.isList;simp only at hc hd;subst hc hd;have hlen:Ic.toArray.size*k.toNat<=sizeLine:=by rw[Tu,<-hl];exact hz
 have hcap:¬ Ic.toArray.size*k.toNat>(2 ^ 63-1) / 8:=by
  have:(sizeLine:Nat)<=(2 ^ 63-1) / 8:=by decide
  lia
 have LC:¬ (!Builtin.List.listFitsIndex k)=true:=by
  rw[fitsIndex_both (by lia) (by lia)];exact Tz
 have Qn:¬ Builtin.List.listTooLong (Ic.toArray.size*k.toNat)=true:=by
  rw[xl hlen];exact Tz
 have Qo:List.foldl (fun x1 x2=>x1++x2) #[] (List.replicate (if Ic.toArray.isEmpty=true then 0 else k.toNat) Ic.toArray)=(List.replicate k.toNat Ic).flatten.toArray:=by
  have f0:∀m:Nat,List.foldl (fun x1 x2=>x1++x2) #[] (List.replicate m Ic.toArray)=(List.replicate m Ic).flatten.toArray:=fun m=>by
   have:=nJ Ic m [];rw[VH]at this;exact this
  rw[f0];cases Ic with
  |nil=>simp
  |cons a r'=>rw[TJ (by simp)]
 have hsz:(List.foldl (fun x1 x2=>x1++x2) #[] (List.replicate (if Ic.toArray.isEmpty=true then 0 else k.toNat) Ic.toArray)).size<=sizeLine:=by
  rw[Qo,Tu,lY,Yw];rw[Tu]at hlen;exact hlen
 refine wpAny_binaryOp_repeat_ref (T:="list") (U:="int") (by decide) ⟨_,ho,rfl⟩ (fun s'=>Xz s' k t) noFill_list_mul F.fills_int_mul F.slot_int_rmul repeat_list F.slot_int_index.lookup
  (Yg F.slot_int_rmul (Xz s k t) F.entry_int_rmul (F.args_int_rmul_2 _ _) (oE k t l "" Ic.toArray n dd sl)
   ⟨ho,rfl,⟨_,ho,rfl⟩,Yg F.slot_list_mul ⟨_,ho,rfl⟩ F.entry_list_mul (F.args_list_mul_2 _ _) (oD l Ic.toArray n dd sl k t LC hcap Qn hsz) ⟨ho,?_⟩⟩)
 rw[Qo];exact⟨.ref _,_,I.lnew (t':=s.toks) (r.rep k.toNat) (by rw[lY,Yw];exact hz),rfl,q _ I.fresh⟩
theorem rh{K:W.Frag}{G:Hp}{ds:List D}{xs:List V}(r:Reps K G ds xs):∀n:Nat,Reps K G (List.replicate n ds).flatten (List.replicate n xs).flatten
 | 0=>.nil
 |n+1=>by
  rw[UY,UY,U9,U9];exact r.app (rh r n)
def i6(a b:D):Res R:=match a,b with
 | .lst ds,.int k=>if 0<=k/\k<1000000/\ds.length*k.toNat<=sizeLine then .ok (.l .f,.lst (List.replicate k.toNat ds).flatten) else .bad
 |a,b=>AL a b
theorem dR:IZ X (binaryOp .Mult) (rG X.K i6):=by
 rintro pr s σ H x y v u Q I rx ry ⟨G,fp,es,vs,a,b,r,⟨rel,k⟩,va,vb,e⟩;unfold i6 at e;split at e
 ·rename_i ds j;split at e
  ·rename_i hj;cases e;obtain⟨p,xs,e1,h1,r1⟩:=va;subst e1;cases br vb;refine AO pr s σ H _ _ v u Q I rx ry ⟨p,j,xs,rfl,rfl,h1,by lia,by lia,by rw[r1.length];exact hj.2.2,fun q hq=>?_⟩;obtain⟨Ia,Ii⟩:=rel.newL hq (rh r1 j.toNat);exact k _ _ G _ Ii Ia
  ·cases e
 ·exact AM pr s σ H _ _ v u Q I rx ry ⟨G,fp,es,vs,a,b,r,⟨rel,k⟩,va,vb,e⟩
def FV(td ty tv:TE):TS:=fun Dd σ H=>tv σ H fun v H1=>td σ H1 fun x H2=>ty σ H2 fun y H3=>CI x y v H3 fun H4=>Dd.nx σ H4
theorem AQ{o i value:Expr}{td ty tv:TE}{pos pos':Pos}(ho:PE X o td)(hi:PE X i ty)(hv:PE X value tv)(hs:swapsWith value (some (.Subscript o i pos')) pos.line X.env=pure false):
  PS X (.Assign [.Subscript o i pos'] value pos) (FV td ty tv):=by
 intro pr s σ H Dd I h;refine wpAny_Assign_Subscript (Iw (hv pr s σ H _ I h) fun r s1 ⟨v,H1,I1,rv,q1⟩=>Iw (ho pr s1 σ H1 _ I1 q1) fun u s2 ⟨x,H2,I2,rx,q2⟩=>Iw (hi pr s2 σ H2 _ I2 q2) fun iv s3 ⟨y,H3,I3,ry,q3⟩=>?_) hs;exact Iw (xi pr s3 σ H3 x y v u iv r _ I3 rx ry rv q3) fun _ s4 ⟨H4,I4,q4⟩=>⟨σ,H4,I4,q4⟩
noncomputable def xN(i:Nat)(fk fv:FX):FS:=fun env=>(fv env).bind fun p=>(fk p.2).bind fun q=>match p.2[i]?,q.2[i]? with
 |some (some _),some (some (.l .f,.lst ds))=>(match q.1.2 with
  | .int k=>(match ixN ds.length k with
   |some j=>.ok (.nx (q.2.set i (some (.l .f,.lst (ds.set j p.1.2)))))
   |none=>.bad)
  |_=>.bad)
 |_,_=>.bad
theorem AR{i:Nat}{o ix value:Expr}{fk fv:FX}{pos pos':Pos}(ho:PE X o (ud i))(hi:QE X ix fk)(hv:QE X value fv)(hs:swapsWith value (some (.Subscript o ix pos')) pos.line X.env=pure false:=by rfl):
  QS (md:=md) X (.Assign [.Subscript o ix pos'] value pos) (xN i fk fv):=eL (AQ ho hi hv hs) fun Dd σ H Ip=>by
 obtain⟨G,env,fp,rel,k⟩:=Ip;unfold xN at k;match q1:fv env,k with
 | .ok (r1,H0),k=>
  have k:OutOk X.K G H fp Dd ((fk H0).bind fun q=>match H0[i]?,q.2[i]? with
   |some (some _),some (some (.l .f,.lst ds))=>(match q.1.2 with
    | .int k=>(match ixN ds.length k with
     |some j=>.ok (.nx (q.2.set i (some (.l .f,.lst (ds.set j r1.2)))))
     |none=>.bad)
    |_=>.bad)
   |_,_=>.bad):=k
  match q2:fk H0,k with
  | .ok (r2,Il),k=>
   have k:OutOk X.K G H fp Dd (match H0[i]?,Il[i]? with
    |some (some _),some (some (.l .f,.lst ds))=>(match r2.2 with
     | .int k=>(match ixN ds.length k with
      |some j=>.ok (.nx (Il.set i (some (.l .f,.lst (ds.set j r1.2)))))
      |none=>.bad)
     |_=>.bad)
    |_,_=>.bad):=k
   split at k
   ·rename_i rr ds h1 h2;split at k
    ·rename_i kk Le;split at k
     ·rename_i j hj;refine⟨G,env,fp,r1,H0,rel,q1,fun y H1 G1 IA Iu Ib=>?_⟩;obtain⟨G2,b,ry,Ia,Ii⟩:=Ib.freeze;obtain⟨v0,Py,_⟩:=Ia.view h1;refine⟨v0,Py,G2,H0,b,r2,Il,Ia,q2,fun z H3 G3 JE IK IH=>?_⟩;obtain⟨G4,b4,rz,Jk,JB⟩:=IH.freeze;have Rc:Rep X.K G4 r1.2 y:=Rep.mono (IK.gg.trans JB.gg) ry;obtain⟨p,xs,ep,hp,rs,cg⟩:=Jk.chg (ds':=ds.set j r1.2) h2;rw[Py]at ep;cases ep;rw[Le]at rz;have hz:=bH rz;obtain⟨fq,JP,Ku⟩:=cg _ (rs.set j Rc);exact⟨p,xs,kk,j,rfl,hz,hp,by rw[rs.length];exact hj,k _ _ G4 fq (Iu.trans (Ii.trans (IK.trans (JB.trans Ku)))) JP⟩
     ·exact k.elim
    ·exact k.elim
   ·exact k.elim
end
section
variable{X:Cx}
theorem Rel.own{K:W.Frag}{G H:Hp}{es:PV.Env}{vs:L2.St}{fp:List Addr}{p:Addr}{u:HO}{tk:Bool}{ks ws:List D}{xs:List V}(q:Rel K G H es vs fp)(np:p∉fp)(gp:G p=none)(h:DictO u tk ks xs)(rs:Reps K G ws xs):
  Rel K G (upd H p u) (some (.d,.dct tk ks ws)::es) (some (.ref p)::vs) (p::fp):=by
 refine⟨⟨some (.ref p),vs,rfl,.ref p,[p],fp,rfl,rfl,?_,q.rep.step (.refl _) fun z hz=>aE fun e=>np (e▸hz)⟩,Ui.mpr ⟨np,q.nd⟩,fun z hz=>?_,fun b o e=>?_⟩
 ·rw[RepO];exact⟨p,xs,u,rfl,aV,h,rfl,rs⟩
 ·rcases TK.mp hz with rfl|hz
  ·exact gp
  ·exact q.gn z hz
 ·rw[aE fun z=>by subst z;rw[gp]at e;cases e];exact q.gh b o e
theorem Rel.aside{K:W.Frag}{G H:Hp}{es:PV.Env}{vs:L2.St}{fp:List Addr}{p:Addr}{u:HO}(q:Rel K G H es vs fp)(hp:H p=none):Rel K G (upd H p u) es vs fp:=by
 have np:p∉fp:=fun z=>by
  obtain⟨u,e⟩:=q.rep.live p z;rw[hp]at e;cases e
 exact⟨q.rep.step (.refl _) fun z hz=>aE fun e=>np (e▸hz),q.nd,q.gn,fun b o e=>by rw[aE (a9 (q.gh b o e) hp)];exact q.gh b o e⟩
theorem Step.aside{K:W.Frag}{G H G2 H2:Hp}{es:PV.Env}{vs:L2.St}{fp IL:List Addr}{p:Addr}{u u2:HO}(q:Rel K G H es vs fp)(hp:H p=none)(hu:isT u=false)(st:Step G (upd H p u) fp G2 H2 IL):
  Step G H fp G2 (upd H2 p u2) (p::IL)/\p∉IL/\G2 p=none/\H2 p=some u:=by
 have np:p∉fp:=fun z=>by
  obtain⟨u,e⟩:=q.rep.live p z;rw[hp]at e;cases e
 have ne:∀{b o},H b=some o->b≠p:=fun e=>a9 e hp
 refine⟨⟨st.gg,fun b o e nb=>?_,fun b hb=>?_,fun b o e=>?_,fun b o e=>?_⟩,fun z=>?_,?_,st.keep p u aV np⟩
 ·rw[aE (ne e)];exact st.keep b o (by rw[aE (ne e)];exact e) nb
 ·rcases TK.mp hb with rfl|hb
  ·exact .inr hp
  ·rcases st.fpn b hb with h|h
   ·exact .inl h
   ·by_cases e:b=p
    ·subst e;exact .inr hp
    ·rw[aE e]at h;exact .inr h
 ·rcases st.gnew b o e with h|h|h|⟨h1,h2⟩
  ·exact .inl h
  ·exact .inr (.inl h)
  ·by_cases e:b=p
   ·subst e;exact .inr (.inr (.inl hp))
   ·rw[aE e]at h;exact .inr (.inr (.inl h))
  ·by_cases e:b=p
   ·subst e;exact .inr (.inr (.inl hp))
   ·rw[aE e]at h2;exact .inr (.inr (.inr ⟨h1,h2⟩))
 ·obtain⟨o',h⟩:=st.there b o (by rw[aE (ne e)];exact e);exact⟨o',by rw[aE (ne e)];exact h⟩
 ·rcases st.fpn p z with h|h
  ·exact np h
  ·rw[aV]at h;cases h
 ·cases e:G2 p with
  |none=>rfl
  |some o=>
   rcases st.gnew p o e with h|h|h|⟨h1,h2⟩
   ·have:=q.gh p o h;rw[hp]at this;cases this
   ·exact absurd h np
   ·rw[aV]at h;cases h
   ·rw[aV]at h2;cases h2;rw[hu]at h1;cases h1
def vD(fk fv:FX):FX:=fun env=>(fk env).bind fun p=>(fv p.2).bind fun q=>if eE false p.1.2 then .ok ((.d,.dct false [p.1.2] [q.1.2]),q.2) else .bad
theorem xO{k v:Expr}{fk fv:FX}{pos:Pos}(hk:QE X k fk)(hv:QE X v fv):QE X (.Dict [some k] [v] pos) (vD fk fv):=
 bE (An (xw hk hv Am) rfl rfl (List.cons_ne_nil _ _) (show 1<=15 by decide)) fun σ H Q Ip p hp=>by
  obtain⟨G,env,fp,r,env',rel,e,kk⟩:=Ip;obtain⟨⟨r1,H0⟩,e1,e⟩:=au e;obtain⟨⟨r2,Il⟩,e2,e⟩:=au e;dsimp only at e;split at e
  ·rename_i JX;cases e;refine⟨G,env,fp,r1,H0,rel.aside hp,e1,fun x H1 G1 IA Iu Ib=>?_⟩;obtain⟨G2,b,rx,Ia,Ii⟩:=Ib.freeze;refine⟨G2,H0,b,r2,_,Ia,e2,fun y H3 G3 JE IK IH=>?_⟩;obtain⟨G4,b4,ry,Jk,JB⟩:=IH.freeze;have SS:Rep X.K G4 r1.2 x:=Rep.mono (IK.gg.trans JB.gg) rx;unfold eE at JX;rw[TJ Tz,UN]at JX;obtain⟨kd,P1⟩:=JX;obtain⟨ex,dx⟩:=gK P1 SS;obtain⟨st,np,gp,Ob⟩:=Step.aside (u2:=.dK [(kd,y)]) rel hp rfl (Iu.trans (Ii.trans (IK.trans JB)));refine⟨Ob,[(kd,y)],by rw[ex];rfl,(show 1<=15 by decide),?_⟩;exact kk _ _ G4 _ st (Jk.own np gp ⟨[(kd,y)],rfl,by rw[dx];rfl,rfl,fun kv Kn=>by rw[TY.mp Kn];exact vp P1 SS⟩ (.one ry))
  ·cases e
def getD(ks vs:List D)(k:D):Option D:=((ks.zip vs).find? fun p=>Ig k p.1).map (·.2)
theorem kB{κ:Type}[DecidableEq κ]{K:W.Frag}{G:Hp}(f:κ->D)(hf:∀a b,Ig (f a) (f b)=decide (a=b)){k:κ}:∀{kvs:List (κ×V)}{vs:List D},Reps K G vs (kvs.map (·.2))->((getD (kvs.map fun kv=>f kv.1) vs (f k)).isSome=(nR kvs k).isSome)/\∀d,getD (kvs.map fun kv=>f kv.1) vs (f k)=some d->∃v,nR kvs k=some v/\Rep K G d v
 |[],vs,r=>⟨rfl,fun d h=>nomatch h⟩
 |kv::kvs,vs,r=>by
  cases vs with
  |nil=>have:=r.length;simp at this
  |cons d0 vs=>
   rw[TR,Reps.cons_iff]at r;obtain⟨h1,h2⟩:=kB f hf (k:=k) r.2;unfold getD nR at h1 h2 ⊢;rw[TR,UI];have e:Ig (f k) (f kv.1)=decide (kv.1=k):=by
    rw[hf,T5,TQ,TQ];exact⟨fun z=>z.symm,fun z=>z.symm⟩
   by_cases hk:kv.1=k
   ·rw[List.find?_cons_of_pos (by show Ig (f k) (f kv.1)=true;rw[e];exact T9 hk),List.find?_cons_of_pos (by exact T9 hk)];refine⟨rfl,fun d h=>?_⟩;cases h;exact⟨_,rfl,r.1⟩
   ·rw[List.find?_cons_of_neg (by show ¬ Ig (f k) (f kv.1)=true;rw[e];simpa using hk),List.find?_cons_of_neg (by simpa using hk)];exact⟨h1,h2⟩
theorem pW{K:W.Frag}{G H:Hp}(gh:Same G H){tk:Bool}{ks vs:List D}{xs:List V}{o:HO}{p:Addr}{b:D}{y:V}(rd:Rd H p o)(dd:DictO o tk ks xs)(rs:Reps K G vs xs)(hk:eE tk b=true)(ry:Rep K G b y):
  ∃ov,DGet H p y ov/\(getD ks vs b).isSome=ov.isSome/\∀d,getD ks vs b=some d->∃v,ov=some v/\Rep K G d v:=by
 unfold eE at hk;cases tk with
 |true=>
  rw[TF rfl,UN]at hk;obtain⟨kk,hk⟩:=hk;obtain⟨pz,ez,gz,dz⟩:=cR hk ry;obtain⟨kvs,eo,ek,ex,_⟩:=dd;subst eo ex ez dz;have ek:ks=kvs.map fun kv=>kT kv.1:=ek
  obtain⟨h1,h2⟩:=kB (K:=K) (G:=G) kT y0 (k:=kk) rs;rw[<-ek]at h1 h2;exact⟨nR kvs kk,.inr ⟨kvs,kk,pz,rd,rfl,gh _ _ gz,rfl⟩,h1,h2⟩
 |false=>
  rw[TJ Tz,UN]at hk;obtain⟨kk,hk⟩:=hk;obtain⟨ez,dz⟩:=gK hk ry;obtain⟨kvs,eo,ek,ex,_⟩:=dd;subst eo ex ez dz;obtain⟨h1,h2⟩:=kB (K:=K) (G:=G) kD vn (k:=kk) rs;rw[<-ek]at h1 h2;exact⟨nR kvs kk,.inl ⟨kvs,kk,rd,rfl,rfl⟩,h1,h2⟩
def Md(a b:D):Res R:=match a with
 | .dct tk ks vs=>if eE tk b then(match getD ks vs b with
  |some d=>.ok (.f,d)
  |none=>.bad) else .bad
 |_=>.bad
theorem pX{a b:Expr}{fa fb:FO}{pos:Pos}(hu:X.A.units+1<cLine)(ha:QO X a fa)(hb:QO X b fb)(hs:NoSl b:=by exact fun _ _=>rfl):QE X (.Subscript a b pos) (aA Md fa fb):=
 bE (Ak hu ha hb hs) fun σ H Q h=>by
  obtain⟨G,env,fp,r,env',rel,e,k⟩:=h;obtain⟨⟨oa,e1⟩,ha,e⟩:=au e;obtain⟨⟨ob,e2⟩,hb,e⟩:=au e;obtain⟨da,Nj,e⟩:=au e;obtain⟨db,Kl,e⟩:=au e;obtain⟨r',hr,e⟩:=au e;cases e;refine⟨G,env,fp,oa,e1,rel,ha,fun x H1 G1 IA Iu Ib Jv=>⟨G1,e1,IA,ob,e2,Ib,hb,fun y H2 G2 IL Ii Ia Ma=>?_⟩⟩;have va:=Ia.vw (Jv.mono Ii.gg) Nj;have vb:=Ia.vw Ma Kl;unfold Md at hr;split at hr
  ·rename_i tk ks vs;split at hr
   ·rename_i JX;split at hr
    ·rename_i d hd;cases hr;obtain⟨p,xs,o,ev,rd,dd,rs⟩:=va;subst ev;have vb':Rep X.K G2 db y:=by
      cases db with
      |lst l=>cases tk <;> simp[eE,e8,ko]at JX
      |dct _ _ _=>cases tk <;> simp[eE,e8,ko]at JX
      |_=>exact vb
     obtain⟨ov,g,_,h2⟩:=pW Ia.gh rd dd rs JX vb';obtain⟨v,ho,rv⟩:=h2 d hd;subst ho;exact⟨p,v,rfl,g,k _ H2 G2 IL (Iu.trans Ii) (Ia.push rv)⟩
    ·cases hr
   ·cases hr
  ·cases hr
def Rf(a b:D):Res R:=match b with
 | .dct tk ks vs=>if eE tk a then .ok (.f,.bl (getD ks vs a).isSome) else .bad
 |_=>MI a b
def AS(a b:D):Res R:=match b with
 | .dct tk ks vs=>if eE tk a then .ok (.f,.bl (!(getD ks vs a).isSome)) else .bad
 |_=>B2 a b
theorem Dv(hu:X.A.units+65<cLine):IZ X (compareOp .In) (rGA X.K Rf):=by
 rintro pr s σ H x y v u Q I rx ry ⟨G,fp,es,vs,a,b,r,⟨rel,k⟩,va,vb,e⟩;unfold Rf at e;split at e
 ·rename_i tk ks ws;split at e
  ·rename_i JX;cases e;obtain⟨p,xs,o,ev,rd,dd,rs⟩:=vb;subst ev;cases ry;obtain⟨ov,g,h1,_⟩:=pW (K:=X.K) (G:=H) (fun _ _ z=>z) rd dd rs JX va;exact Hw (by lia) I g rx fun s' I'=>⟨.bl ov.isSome,H,I',rfl,by rw[<-h1];exact k _ H G fp .refl (rel.push (cK _))⟩
  ·cases e
 ·exact FN hu pr s σ H x y v u Q I rx ry ⟨G,fp,es,vs,a,b,r,⟨rel,k⟩,va,vb,e⟩
theorem vE(hu:X.A.units+65<cLine):IZ X (compareOp .NotIn) (rGA X.K AS):=by
 rintro pr s σ H x y v u Q I rx ry ⟨G,fp,es,vs,a,b,r,⟨rel,k⟩,va,vb,e⟩;unfold AS at e;split at e
 ·rename_i tk ks ws;split at e
  ·rename_i JX;cases e;obtain⟨p,xs,o,ev,rd,dd,rs⟩:=vb;subst ev;cases ry;obtain⟨ov,g,h1,_⟩:=pW (K:=X.K) (G:=H) (fun _ _ z=>z) rd dd rs JX va;exact Ai (by lia) I g rx fun s' I'=>⟨.bl (!ov.isSome),H,I',rfl,by rw[<-h1];exact k _ H G fp .refl (rel.push (cK _))⟩
  ·cases e
 ·exact Dc hu pr s σ H x y v u Q I rx ry ⟨G,fp,es,vs,a,b,r,⟨rel,k⟩,va,vb,e⟩
end
def isLf:O->Bool
 | .l .f=>true
 | .pin _ (.l .f)=>true
 |_=>false
section
variable{K:W.Frag}{G G' H H':Hp}{es:PV.Env}{vs:L2.St}{fp:List Addr}
theorem RepE.append:∀{es Lb:PV.Env}{vs KH:L2.St}{a b:List Addr},RepE K G H es vs a->RepE K G H Lb KH b->RepE K G H (es++Lb) (vs++KH) (a++b)
 |[],Lb,vs,KH,a,b,r,q=>by
  rw[r.1,r.2];exact q
 |none::es,Lb,vs,KH,a,b,r,q=>by
  obtain⟨y,ys,e,r⟩:=r;subst e;exact⟨y,ys++KH,rfl,RepE.append r q⟩
 |some x::es,Lb,vs,KH,a,b,r,q=>by
  obtain⟨y,ys,e,v,a1,b1,e1,e2,r1,r2⟩:=r;subst e e2;exact⟨y,ys++KH,rfl,v,a1,b1++b,e1,Ul _ _ _,r1,RepE.append r2 q⟩
theorem RepE.clean{G2 G3:Hp}(h:∀p u,isT u=true->G2 p=some u->G3 p=some u):∀{es:PV.Env}{vs:L2.St}{a:List Addr},(∀r,some r∈es->aQ r.1 r.2=true)->RepE K G2 H es vs a->RepE K G3 H es vs a
 |[],_,_,_,r=>r
 |none::es,vs,a,hc,r=>by
  obtain⟨y,ys,e,r⟩:=r;exact⟨y,ys,e,RepE.clean h (fun r hr=>hc r (Tx _ hr)) r⟩
 |some x::es,vs,a,hc,r=>by
  obtain⟨y,ys,e,v,a1,b1,e1,e2,r1,r2⟩:=r;exact⟨y,ys,e,v,a1,b1,e1,e2,r1.clean h (hc x Ts),RepE.clean h (fun r hr=>hc r (Tx _ hr)) r2⟩
end
section
variable{X:Cx}
def Hz(i:Nat):FX:=fun env=>match env[i]? with
 |some (some (ow,.lst ds))=>if isLf ow then(match ds.getLast? with
  |some d=>.ok ((.f,d),env.set i (some (ow,.lst ds.dropLast)))
  |none=>.bad) else .bad
 |_=>.bad
def kC(i:Nat)(f:FX):FS:=fun env=>(f env).bind fun p=>match p.2[i]? with
 |some (some (.pin q c,d0))=>.ok (.rt (.t [p.1.1,.pin q c],.tup [p.1.2,d0]))
 |_=>.bad
theorem ig{i:Nat}{e:Expr}{f:FX}{pos:Pos}(he:QE X e f):QS (md:=.mut) X (.Return (some e) pos) (kC i f):=eL (yG he) fun Dd σ H Ip=>by
 obtain⟨G,env,fp,rel,k⟩:=Ip;unfold kC at k;match q:f env,k with
 | .ok (r,H0),k=>
  have k:OutOk (md:=.mut) X.K G H fp Dd (match H0[i]? with
   |some (some (.pin q c,d0))=>.ok (.rt (.t [r.1,.pin q c],.tup [r.2,d0]))
   |_=>.bad):=k
  split at k
  ·rename_i z c d0 hz;refine⟨G,env,fp,r,H0,rel,q,fun v H1 G1 IA Iu Ib=>?_⟩;obtain⟨y,ys,ey,v',a,b,e1,e2,r1,r2⟩:=Ib.rep;cases ey;cases e1;subst e2;obtain⟨v0,a0,b0,Py,ro,_,pm⟩:=r2.take hz;have hv0:v0=.ref z:=by
    have:=ro;rw[RepO]at this;exact this.1
   subst hv0;have sub:∀w∈a++a0,w∈a++b:=fun w hw=>by
    rcases Ue.mp hw with hw|hw
    ·exact TC _ hw
    ·exact Tv _ (pm.mem_iff.mpr (TC _ hw))
   have nd:=Ub.mp Ib.nd;have nd2:=Ub.mp (pm.nodup_iff.mp nd.2.1);refine k v H1 G1 (a++a0) (Iu.trans (Step.cut sub)) ⟨r.1,r.2,z,c,d0,rfl,⟨⟨some v,[some (.ref z)],rfl,v,a,a0,rfl,rfl,r1,some (.ref z),[],rfl,.ref z,a0,[],rfl,(T7 _).symm,ro,rfl,rfl⟩,?_,fun p hp=>Ib.gn p (sub p hp),Ib.gh⟩⟩;rw[Ub];exact⟨nd.1,nd2.1,fun p hp w hw e=>nd.2.2 p hp w (pm.mem_iff.mpr (TC _ hw)) e⟩
  ·exact k.elim
def lJ(np nn:Nat)(c:O)(g:FS)(p:Addr):List D->Res R
 |d0::ds=>if ds.length+1=np then(g (some (.pin p c,d0)::(ds.map (fun d=>some (O.f,d))++List.replicate nn none))).bind fun o=>match o with
  | .rt r=>.ok r
  |_=>.bad
  else .bad
 |[]=>.bad
inductive spM(K:W.Frag)(c:O)(F:Addr->List D->Res R)(vs:List V)(H:Hp)(Q:VK)(zz:XK):Prop
 |mk:∀G p KH d0 ds r Me,Same G H->vs=.ref p::KH->RepO K G H c d0 (.ref p) Me->Me.Nodup->(∀z∈Me,G z=none)->Reps K G ds KH->F p (d0::ds)=.ok r->(∀v H' G' Ie,Step G H Me G' H' Ie->GD .mut K G' H' r v Ie->Q v H')->spM K c F vs H Q zz
theorem Dw{P:Program}{w:World}{K:W.Frag}{mg:Str->Option Value}{base:Heap}{x:Str}{st:Stmt}{N ps:List Str}{k:Nat}{c:O}{g:FS}(Df:Def K mg x st)(sc:FnScope N ps (defScope st))
  (hb:∀(kV doc pm:Value) (an:Option Addr) (ID ct:Value) (us:List Value),us.length=ps.length->bindArgs (PySem.W.fnOf x x (eD st) (cQ st) (defScope st) .none kV doc pm an ID ct) ⟨us,[]⟩=pure (ps.zip us))
  (body:∀(f:Addr) (ID:Value) (A:Around) (outer:List PySem.Env) (s:Shared) (H:Hp) (E:XK),Room k (A.deeper (envOfC x (defScope st) s.heap.objs.size f ID))->L9 (md:=.mut) (wR L6 P w K mg base N x (defScope st) f ID A outer s H E).nox (cQ st) g):
  Ct P w K mg base x (k+1) (spM K c (lJ ps.length (N.length-ps.length) c g)):=by
 obtain⟨f,fd,F,m⟩:=Df;refine⟨f,fd,ps,F.ok sc (fun vs H Q E h=>?_) (fun ID A outer s H vs Q E hr h=>?_),m,F.kp,F.binds hb⟩
 ·obtain⟨G,p,KH,d0,ds,r,Me,_,ev,_,_,_,rs,e,_⟩:=h;unfold lJ at e;split at e
  ·rename_i RY ds' heq;cases heq;split at e
   ·rename_i hl;rw[ev,TN,rs.length,hl]
   ·cases e
  ·cases e
 ·obtain⟨G,p,KH,d0,ds,r,Me,gh,ev,r0,nd,gn,rs,e,q⟩:=h;unfold lJ at e;split at e
  ·rename_i RY ds' heq;cases heq;split at e
   ·rename_i hl;refine⟨_,body f ID A outer s H E hr,G,some (.pin p c,d0)::(ds.map (fun d=>some (O.f,d))++List.replicate (N.length-ps.length) none),Me,⟨?_,nd,gn,gh⟩,?_⟩
    ·have:=fU (K:=K) (G:=G) (H:=H) (N.length-ps.length) rs;unfold L2.jJ;rw[ev,TN,rs.length,hl];exact⟨some (.ref p),_,rfl,.ref p,Me,[],rfl,(T7 _).symm,by rw[RepO];exact⟨rfl,r0⟩,this⟩
    ·obtain⟨o,eo,e⟩:=au e;rw[eo];cases o with
     |rt r'=>
      cases e;exact fun v H' G' Ie st rel=>q v H' G' Ie st rel
     |nx env'=>cases e
     |bk env'=>cases e
     |ct env'=>cases e
   ·cases e
  ·cases e
def oF:O->O->Bool
 | .l .f,.l .f=>true
 | .l .f,.pin _ (.l .f)=>true
 | .d,.d=>true
 | .d,.pin _ .d=>true
 |_,_=>false
theorem y7{K:W.Frag}{G H:Hp}{c ow:O}{d:D}{v:V}{a:List Addr}(h:oF c ow=true)(r:RepO K G H ow d v a):(∃p,v=.ref p)/\RepO K G H c d v a/\∀(G' H':Hp) (d':D) (a':List Addr),RepO K G' H' c d' v a'->RepO K G' H' ow d' v a':=by
 have OL:∀{d:D},RepO K G H (.l .f) d v a->∃p,v=.ref p:=fun{d} r=>by
  cases d with
  |lst ds=>obtain⟨p,_,e,_⟩:=ka.mp r;exact⟨p,e⟩
  |_=>simp only[RepO]at r
 have OM:∀{d:D},RepO K G H .d d v a->∃p,v=.ref p:=fun{d} r=>by
  cases d with
  |dct tk ks ws=>rw[RepO]at r;obtain⟨p,_,_,e,_⟩:=r;exact⟨p,e⟩
  |_=>simp only[RepO]at r
 unfold oF at h;split at h
 ·exact⟨OL r,r,fun _ _ _ _ z=>z⟩
 ·rw[RepO]at r;exact⟨⟨_,r.1⟩,r.2,fun _ _ _ _ z=>by rw[RepO];exact⟨r.1,z⟩⟩
 ·exact⟨OM r,r,fun _ _ _ _ z=>z⟩
 ·rw[RepO]at r;exact⟨⟨_,r.1⟩,r.2,fun _ _ _ _ z=>by rw[RepO];exact⟨r.1,z⟩⟩
 ·cases h
open Classical in
def jj(F:Addr->List D->Res R)(c:O)(d0:D)(ds:List D):Res (R×D):=
 if h:∃x:R×D,∀p,F p (d0::ds)=.ok (.t [x.1.1,.pin p c],.tup [x.1.2,x.2]) then .ok (Classical.choose h) else .bad
theorem rj{F:Addr->List D->Res R}{c:O}{d0:D}{ds:List D}{r:R}{d':D}(h:∀p,F p (d0::ds)=.ok (.t [r.1,.pin p c],.tup [r.2,d'])):jj F c d0 ds=.ok (r,d'):=by
 have h':∃x:R×D,∀p,F p (d0::ds)=.ok (.t [x.1.1,.pin p c],.tup [x.1.2,x.2]):=⟨(r,d'),h⟩
 unfold jj;rw[dif_pos h'];have e:=(Xu h' 0).symm.trans (h 0);generalize Classical.choose h'=x at e;obtain⟨⟨o,d⟩,d2⟩:=x;cases e;rfl
theorem rq{F:Addr->List D->Res R}{c:O}{d0:D}{ds:List D}{x:R×D}(h:jj F c d0 ds=.ok x)(p:Addr):F p (d0::ds)=.ok (.t [x.1.1,.pin p c],.tup [x.1.2,x.2]):=by
 unfold jj at h;split at h
 ·rename_i h';cases h;exact Xu h' p
 ·cases h
end
section
variable{X:Cx}{x:Str}{p pos:Pos}{e:Expr}{es:List Expr}{fs:FOs}
end
section
variable{K:W.Frag}{G G' H H':Hp}
end
section
variable{X:Cx}{md:Mode}
end
end PV
namespace NX
open PySem PySem.Spec PyProof.Rows L2
theorem Dx{P:Program}{w:World}{k:Key}{u:Value}(h:(mixKind P w).is k u=true):RelV (kV k) u:=by
 rw[su]at h;cases k with
 |inl i=>
  have h:Value.isInt i u=true:=h;cases u with
  |int j t=>
   have e:(j==i)=true:=h;rw[Us]at e;exact⟨t,by rw[e]⟩
  |_=>cases h
 |inr x=>
  obtain⟨t,e⟩:=Value.isStrOf_shape h;exact⟨t,e⟩
theorem Dy{κ:Type}{kvs:List (κ×V)}{vs:List (κ×Value)}(r:KV kvs vs):∀{i:Nat}{k:κ}{v:V},kvs[i]?=some (k,v)->∃u,vs[i]?=some (k,u)/\RelV v u:=by
 induction r with
 |nil=>intro i k v e;simp at e
 | @cons p q ps qs hq _ ih=>
  intro i k v e;cases i with
  |zero=>
   simp at e;subst e;obtain⟨qk,qv⟩:=q;obtain⟨e1,e2⟩:=hq;cases e1;exact⟨qv,rfl,e2⟩
  |succ i=>exact ih (by simpa using e)
theorem rA{X:Cx}{pr:List (Addr×Obj)}{σ:L2.St}{H:Hp}{s:Shared}{a:Addr}{o:Obj}{ep:Nat}{es:Array DictEntry}{kvs:List (Key×V)}(I:Inv X pr σ H s)(hd:o.data=.dict es ep)(ha:H a=some (.frz o (.dK kvs))):
  s.heap.get? a=some o/\∃vs,KV kvs vs/\s.heap.DictAt (mixKind X.prog X.w) a vs ep:=by
 obtain⟨ho,z,nm,vs,r,o',Lb,Oi,g1,ex,dat,eC⟩:=(show ObjOk X.prog X.w H s.heap a (.frz o (.dK kvs)) from I.hok a _ ha)
 have e:=g1.symm.trans ho;cases e;have e2:=dat.symm.trans hd;cases e2;exact⟨ho,vs,r,o,es,ho,ex,hd,eC⟩
theorem xP{X:Cx}{pr:List (Addr×Obj)}{σ:L2.St}{H:Hp}{s:Shared}{a:Addr}{o:Obj}{kvs:List (Key×V)}(I:Inv X pr σ H s)(ha:H a=some (.dK kvs))(ho:s.heap.get? a=some o):Inv X pr σ (upd H a (.frz o (.dK kvs))) s:=by
 have ok:=(show ObjOk X.prog X.w H s.heap a (.dK kvs) from I.hok a _ ha)
 have nt:∀c xs,H c=some (.tup xs)->c≠a:=fun c xs e z=>by rw[z,ha]at e;cases e
 have nf:∀c q u,H c=some (.frz q u)->c≠a:=fun c q u e z=>by rw[z,ha]at e;cases e
 have nb:∀c ps,H c=some (.tbl ps)->c≠a:=fun c ps e z=>by rw[z,ha]at e;cases e
 have no:∀c b,H c=some (.own b)->c≠a:=fun c b e z=>by rw[z,ha]at e;cases e
 have S0:Inv X pr σ (upd H a (.frz o (.dK kvs))) {s with heap:=s.heap,gens:=s.gens,drawn:=s.drawn,toks:=s.toks}:=by
  refine I.step (ch:=[]) (fun c hc=>nomatch hc) (fun c q _ _ _ e _=>e) (fun c q _ _ _ e _=>⟨q.slots,e⟩) (fun c q _ e n=>?_) (fun c q _ e=>⟨q,e⟩)
   (fun c l e=>by rw[aE (nt c l e)];exact e) (fun c q u e=>by rw[aE (nf c q u e)];exact e) (fun c ps e=>⟨#[],by rw[aE (nb c ps e),e];simp⟩) (fun m hm=>hm) (fun c ob e=>?_) I.bare
  ·have:c≠a:=fun z=>by rw[z,ha]at n;cases n
   rw[aE this];exact n
  ·by_cases ec:c=a
   ·subst ec;rw[aV]at e;cases e;exact⟨ho,ok.stay (fun _ _ _ q=>q) (fun d q=>by rw[aE (no d _ q)];exact q) fun d l q=>by rw[aE (nt d l q)];exact q⟩
   ·rw[aE ec]at e;exact(I.hok c ob e).stay (fun _ _ _ q=>q) (fun d q=>by rw[aE (no d _ q)];exact q) fun d l q=>by rw[aE (nt d l q)];exact q
 exact S0
end NX
namespace PV
open PySem PySem.Spec PyProof.Rows L2 NX
def GH(f:FX):FI:=fun env=>(f env).bind fun p=>match p.1 with
 |(.d,.dct false ks vs)=>.ok ((ks.zip vs).map fun z=>D.tup [z.1,z.2],p.2)
 |_=>.bad
section
variable{X:Cx}
def GI(i:Nat):FX:=fun env=>match env[i]? with
 |some (some (.t [.f,.l .f],.tup [a,.lst _]))=>.ok ((.f,.non),env.set i (some (.t [.f,.l .f],.tup [a,.lst []])))
 |_=>.bad
def vF:List D->Res R
 |[.dct false ks _]=>.ok (.l .f,.lst ks)
 |ds=>pP ds
theorem pY:∀{xs:List V}{us:List Value},xs.length=us.length->(∀(i:Nat) (a:V) (b:Value),xs[i]?=some a->us[i]?=some b->RelV a b)->Vals xs us
 |[],[],_,_=>.nil
 |x::xs,u::us,hl,h=>.cons (h 0 x u rfl rfl) (pY (by simpa using hl) fun i a b ha hb=>h (i+1) a b (by simpa using ha) (by simpa using hb))
 |[],_::_,hl,_=>by simp at hl
 |_::_,[],hl,_=>by simp at hl
theorem oG(hc:X.calm=true):dJ X (.type "list") (fun vs H Q=>∃p kvs,vs=[.ref p]/\Rd H p (.dK kvs)/\∀l,H l=none->Q (.ref l) (upd H l (.lst (kvs.map fun kv=>kV kv.1)))):=by
 intro pr s σ H xs us Q I r h;obtain⟨p,kvs,rfl,hp,q⟩:=h;obtain⟨u,rfl,rx⟩:=fN r;cases rx;obtain⟨z,nm,vs,rr,hD⟩:=sS I.hok hp;obtain⟨ep,Lh⟩:=hD.dictAt;have hl:=rr.length;refine PySem.W.kdl_call (PySem.W.kdl_dict (knd:=mixKind X.prog X.w) (kvs:=vs) (ep:=ep) nm) (I.ok.hd hc) Lh (by rw[<-hl];exact z) fun h' tk JY c' hk hS J8=>?_
 refine⟨.ref s.heap.objs.size,_,I.laid (o:=.lst (kvs.map fun kv=>kV kv.1)) (t':=tk) hk (TB _) ⟨by rw[Tt];exact z,JY.toList,c',?_,by rw[XE];exact hS⟩,rfl,q _ (I.hok.fresh (TB _))⟩;refine pY (by rw[Tt,hl];exact(J8.1.symm.trans (UA (xs:=JY)).symm)) fun i a b ha hb=>?_
 rw[Array.getElem?_toList]at hb;obtain⟨k,x,e1,e2⟩:=J8.2 i b hb;rw[List.getElem?_map]at ha;cases Kn:kvs[i]? with
 |none=>rw[Kn]at ha;cases ha
 |some kv=>
  rw[Kn]at ha;obtain⟨k',v'⟩:=kv;obtain⟨u,hu,_⟩:=Dy rr Kn;rw[e1]at hu;cases hu;cases ha;exact Dx e2
theorem xQ(hc:X.calm=true):dJ X (.type "list") (rC X.K vF):=by
 rintro pr s σ H xs us Q I rx ⟨G,fp,es,vs,ds,r,⟨rel,k⟩,vd,e⟩;unfold vF at e;split at e
 ·rename_i ks ws;cases e;obtain⟨v,ev,vt⟩:=nh vd;have rp:=vt.rep rel.gh;rw[Rep]at rp;obtain⟨p,ys,o,ep,rd,dd,rs⟩:=rp;obtain⟨kvs,eo,ek,ex,hf⟩:=(show ∃kvs:List (Key×V),o=.dK kvs/\ks=kvs.map (fun kv=>kD kv.1)/\ys=kvs.map (·.2)/\∀kv∈kvs,sU kv.1 from dd)
  subst ev ep eo;refine oG hc pr s σ H _ us Q I rx ⟨p,kvs,rfl,rd,fun q hq=>?_⟩;have rk:Reps X.K G ks (kvs.map fun kv=>kV kv.1):=by
   rw[ek];refine Reps.ofAll (by rw[Tt,Tt]) fun i d v hd hv=>?_
   rw[List.getElem?_map]at hd hv;cases Kn:kvs[i]? with
   |none=>rw[Kn]at hd;cases hd
   |some kv=>
    rw[Kn]at hd hv;cases hd;cases hv;exact vm (hf _ (T6 Kn))
  obtain⟨Ia,Ii⟩:=rel.newL hq rk;exact k _ _ G _ Ii Ia
 ·exact mB pr s σ H xs us Q I rx ⟨G,fp,es,vs,ds,r,⟨rel,k⟩,vd,e⟩
end
end PV
namespace NX
open PySem PySem.Spec PyProof.Rows L2
section
variable{prog:Program}{w:World}{A:Around}{E:Value->Shared->Prop}{s:Shared}
theorem AU:typeLookup (.type "list_reverseiterator") "__len__" = pure none:=by rw[typeLookup_type,builtinLookup_eq_fast];kernel_rfl
theorem xR:typeLookup (.type "list_reverseiterator") "__length_hint__" = pure (some (.builtin "list_reverseiterator.__length_hint__")):=by rw[typeLookup_type,builtinLookup_eq_fast];kernel_rfl
theorem xS{r:Addr}{Q:Bool->Shared->Prop}(hT:s.TypeIs (.ref r) "list_reverseiterator")(h:Q false s):wpAny (model prog w) A (Builtin.List.listLengthHint (.ref r)) Q E s:=by
 unfold Builtin.List.listLengthHint;refine Tr (Xp hT AU ?_);show wpAny _ _ (specialOf (Value.ref r) (Str.ofString "__length_hint__") >>= _) _ _ _;refine Tr (Xp hT xR ?_);generalize hid:("list_reverseiterator.__length_hint__" : String)=id0
 wp_delta
 rw[show splitId id0=some ("list_reverseiterator","__length_hint__") from by subst hid;decide +kernel];subst hid;refine Tr (W4 (T:="list_reverseiterator") (b:=true) hT (by rw[isSubtype_type];kernel_rfl) ?_);refine WG (fun Ly=>absurd Ly (by decide)) (fun _=>?_);refine WG (fun _=>?_) (fun Ly=>absurd (by decide +kernel) Ly);refine WG (fun Ly=>absurd Ly (by decide +kernel)) (fun _=>?_);exact Tw h
end
section
variable{prog:Program}{w:World}{A:Around}{E:Value->Shared->Prop}{s:Shared}
theorem AV{R:Result->Shared->Prop}{I l:Addr}{items:Array Value}(hh:A.handled=none)(Km:l≠I)(S:Addr)(SU:S≠I)(hSl:S≠l)(c0:Nat)(hI:s.heap.IsRevIter I l ((items.size:Int)-1))(hl:s.heap.IsList l items)(hS:s.heap.get? S=some {cls:=.type "list",data:=.seq #[] c0})(hn:items.size<=sizeLine)
  (hR:∀h' tk JY c',(∀b o,b≠S->b≠I->s.heap.get? b=some o->h'.get? b=some o)->h'.get? S=some {cls:=.type "list",dict:=none,data:=.seq JY c',slots:=#[]}->ItemsOf (fun i v=>items[items.size-1-i]?=some v) JY items.size->R (.ok (.ret .none)) {s with heap:=h',toks:=tk}):
  wpAny (model prog w) A.in1 (Builtin.List.listExtendWith (.ref S) (.ref I) .none)
   (fun fin s'=>match fin with | .done f=>R (.ok f) s' | .again c'=>c'.quiet=true/\codeAny (model prog w) A c' R s') (fun e s'=>R (.error e) s') s:=by
 have W:Walks prog w A.in1 I [I,l] [I] items.size (fun i v=>items[items.size-1-i]?=some v) (fun i h=>i<=items.size/\h.IsRevIter I l ((items.size:Int)-1-(i:Int))/\h.IsList l items):=Walks.listRev (A:=A.in1) (show A.in1.handled=none from hh) I l Km items;have st:(fun(i:Nat) (h:Heap)=>i<=items.size/\h.IsRevIter I l ((items.size:Int)-1-(i:Int))/\h.IsList l items) 0 s.heap:=⟨Ug _,by rw[show(items.size:Int)-1-((0:Nat):Int)=(items.size:Int)-1 by lia];exact hI,hl⟩
 have hT:=hI.typeIs;have hSf:S∉[I,l]:=by simp only[TK,UM,X1,not_or];exact⟨SU,hSl⟩
 unfold Builtin.List.listExtendWith;refine Tr (VE hT ?_);have h1:Builtin.List.listSameRef (.ref S) (.ref I)=false:=by simp[Builtin.List.listSameRef,SU]
 have h2:(Value.type "list_reverseiterator" == Value.type "list")=false:=by decide
 have h3:(Value.type "list_reverseiterator" == Value.type "tuple")=false:=by decide
 simp only[h1,h2,h3,Bool.or_false,UR,Wg];refine Tr (wpAny_pyIter_revIter hI ?_);refine Tr (U4 (xS hT ?_));refine WG (fun Ly=>absurd Ly (by decide)) (fun _=>Tw ⟨Wu PySem.F.plain_extend_loop _,?_⟩);refine codeAny_extend_loopS W.toS hn S hSf .none items.size 0 _ #[] c0 rfl (Ug _) st hS (ItemsOf.nil _) fun s' JY c' hm RZ J8=>?_
 rw[Moved.eq_with hm];refine hR s'.heap s'.toks JY c' (fun b o hb hb2 e=>hm.heap b o (fun ON=>?_) e) RZ J8;rcases TK.mp ON with e'|ON
 ·exact hb e'
 ·exact hb2 (TY.mp ON)
theorem xT{Q:Value->Shared->Prop}{I l:Addr}{items:Array Value}(hh:A.handled=none)(Km:l≠I)(hI:s.heap.IsRevIter I l ((items.size:Int)-1))(hl:s.heap.IsList l items)(hn:items.size<=sizeLine)
  (hQ:∀h' tk JY c',(∀b o,b≠I->s.heap.get? b=some o->h'.get? b=some o)->h'.get? s.heap.objs.size=some {cls:=.type "list",dict:=none,data:=.seq JY c',slots:=#[]}->ItemsOf (fun i v=>items[items.size-1-i]?=some v) JY items.size->Q (.ref s.heap.objs.size) {s with heap:=h',toks:=tk}):
  wpAny (model prog w) A (call (.type "list") [.ref I]) Q E s:=by
 refine callType_codes (Q₁:=fun obj s₁=>obj=.ref s.heap.objs.size/\s₁={s with heap:=s.heap.push {cls:=.type "list",data:=.seq #[]}}) PySem.F.called_list (PySem.F.typeCall_list_1 _) PySem.F.entry_list_init
  (code_list_new _ ⟨rfl,rfl⟩) fun obj s₁ h₁=>?_
 obtain⟨rfl,rfl⟩:=h₁;have hS:(s.heap.push {cls:=.type "list",data:=.seq #[]}).get? s.heap.objs.size=some {cls:=.type "list",data:=.seq #[]}:=Heap.get?_push_size _ rfl;obtain⟨oI,gI,_⟩:=id hI;obtain⟨ol,gl,_⟩:=id hl;have nI:s.heap.objs.size≠I:=WI (TH gI);have nl:s.heap.objs.size≠l:=WI (TH gl);refine⟨⟨_,hS,rfl⟩,PySem.F.args_list_init_2 _ _,?_⟩;show wpAny _ A.in1.in1 (do let old <-Builtin.List.listItems (.ref s.heap.objs.size);Builtin.List.listUpdate (.ref s.heap.objs.size) (fun _=>#[]);letGo old.toList.reverse;Builtin.List.listExtendWith (.ref s.heap.objs.size) (.ref I) .none) _ _ _;refine Tr ?_;unfold Builtin.List.listItems;refine Tr (UJ hS rfl (Tw ?_));show wpAny _ _ (updateSeq s.heap.objs.size (fun _=>#[]) >>= fun _=>letGo (#[]:Array Value).toList.reverse >>= fun _=>Builtin.List.listExtendWith (.ref s.heap.objs.size) (.ref I) .none) _ _ _;refine Tr (WA hS rfl ?_);have hS2:=Heap.get?_update_self (Obj.mapSeq (fun _=>(#[]:Array Value))) hS rfl;have R0:∀b o,b≠s.heap.objs.size->s.heap.get? b=some o->((s.heap.push {cls:=.type "list",data:=.seq #[]}).update s.heap.objs.size (Obj.mapSeq (fun _=>(#[]:Array Value)))).get? b=some o:=
  fun b o hb e=>(Heap.get?_update_other _ _ (U1 hb)).trans (Heap.get?_push_of_some _ e)
 refine Tr (VG ?_);refine AV (A:=A.in1) hh Km _ nI nl _ (hI.at fun o e=>R0 I o (U1 nI) e) (hl.at fun o e=>R0 l o (U1 nl) e) hS2 hn fun h' tk JY c' hk RZ J8=>?_
 exact⟨rfl,hQ h' tk JY c' (fun b o hb e=>hk b o (TU (TH e)) hb (R0 b o (TU (TH e)) e)) RZ J8⟩
end
section
variable{X:Cx}{e:Expr}{ta:TA}{p p2 pos KA:Pos}
def HA(K:W.Frag)(ta:TA):TE:=fun σ H Q=>ta σ H fun vs H1=>∃a xs,vs=[.ref a]/\SqL K H1 a xs/\∀l,H1 l=none->Q (.ref l) (upd H1 l (.lst xs.reverse))
theorem Dz(hc:X.calm=true)(hg:Gl X "list")(hm:X.mg "list" = none)(Qd:Gl X "reversed")(Qe:X.mg "reversed" = none)(ha:PA X [e] ta)
  (he:starEach [.Call (.Name "reversed" p2) [e] [] KA] X.env=(false,eval (.Call (.Name "reversed" p2) [e] [] KA) X.env)::starEach [] X.env:=by rfl) (JJ:(backTo pos (starEach [] X.env)).any (·.1)=false:=by rfl)
  (Qp:starEach [e] X.env=(false,eval e X.env)::starEach [] X.env:=by rfl) (OO:(backTo KA (starEach [] X.env)).any (·.1)=false:=by rfl):
  PE X (.Call (.Name "list" p) [.Call (.Name "reversed" p2) [e] [] KA] [] pos) (HA X.K ta):=by
 intro pr s σ H Q I h;refine U0 (gX I hg hm (by decide +kernel:bootBuiltins "list" = some (.type "list")) ?_ (by decide) (by decide));refine Uu ?_ he JJ;rw[he];show wpAny _ _ (spliced ((false,eval (.Call (.Name "reversed" p2) [e] [] KA) X.env)::backTo pos (starEach [] X.env))) _ _ s;refine Calls.spliced_cons ?_;refine U0 (gX I Qd Qe (by decide +kernel:bootBuiltins "reversed" = some (.type "reversed")) ?_ (by decide) (by decide));refine Uu (Iw (ha KA pr s σ H _ I h) fun us s1 ⟨vs,H1,I1,r1,a,xs,ev,sq,q⟩=>?_) Qp OO;subst ev;obtain⟨u,rfl,ra⟩:=fN r1;cases ra;obtain⟨Ic,r',pl,hz⟩:=I1.list sq;have hl:=pl.isList;have hlen:=r'.length;refine call_reversed_list hl ?_;refine Calls.spliced_nil ?_;obtain⟨ol,gl,_⟩:=id hl;refine xT (I1.ok.hd hc) (TU (TH gl)) ⟨_,Heap.get?_push_size _ rfl,rfl,rfl⟩ (hl.at fun o e=>Heap.get?_push_of_some _ e) (by simp only[Tu];lia) fun h' tk JY c' hk hS J8=>?_
 refine⟨.ref _,_,I1.laid (o:=.lst xs.reverse) (t':=tk) (fun b o e=>hk b o (TU (TH e)) (Heap.get?_push_of_some _ e)) (by rw[U6];exact Vl _) ⟨by rw[VR];exact hz,JY.toList,c',?_,by rw[XE];exact hS⟩,rfl,q _ (I1.hok.fresh (by rw[U6];exact Vl _))⟩;have hs:Ic.toArray.size=xs.length:=by rw[Tu];exact hlen.symm
 refine PV.pY (by rw[VR];exact(hs.symm.trans (J8.1.symm.trans (UA (xs:=JY)).symm))) fun i x y hx hy=>?_
 rw[Array.getElem?_toList]at hy;have hb:=J8.2 i y hy;have hi:i<xs.length:=by have:=(List.getElem?_eq_some_iff.mp hx).1;rw[VR]at this;exact this
 rw[List.getElem?_reverse hi]at hx;rw[hs,List.getElem?_toArray]at hb;obtain⟨u,hu,ru⟩:=r'.get hx;rw[hb]at hu;cases hu;exact ru
end
end NX
namespace PV
open PySem PySem.Spec PyProof.Rows L2 NX
theorem Reps.rev{K:W.Frag}{G:Hp}:∀{ds:List D}{xs:List V},Reps K G ds xs->Reps K G ds.reverse xs.reverse
 |[],xs,r=>by rw[Reps]at r;rw[r];exact .nil
 |d::ds,xs,r=>by
  rw[Reps]at r;obtain⟨y,ys,e,r1,r2⟩:=r;subst e;rw[List.reverse_cons,List.reverse_cons];exact(Reps.rev r2).app (.one r1)
def ER:List D->Res R
 |[.lst ds]=>.ok (.l .f,.lst ds.reverse)
 |_=>.bad
section
variable{X:Cx}{e:Expr}{fs:FOs}{p p2 pos KA:Pos}
theorem xU{K:W.Frag}{σ:L2.St}{H:Hp}{Q Q':List V->Hp->Prop}(h:tOs K fs σ H Q)(k:∀vs H,Q vs H->Q' vs H):tOs K fs σ H Q':=by
 obtain⟨G,env,fp,o,env',rel,e,q⟩:=h;exact⟨G,env,fp,o,env',rel,e,fun vs H' G' Ie st II ok=>k _ _ (q vs H' G' Ie st II ok)⟩
theorem DA(hc:X.calm=true)(hg:Gl X "list")(hm:X.mg "list" = none)(Qd:Gl X "reversed")(Qe:X.mg "reversed" = none)(ha:Lq X [e] fs)
  (he:starEach [.Call (.Name "reversed" p2) [e] [] KA] X.env=(false,eval (.Call (.Name "reversed" p2) [e] [] KA) X.env)::starEach [] X.env:=by rfl) (JJ:(backTo pos (starEach [] X.env)).any (·.1)=false:=by rfl)
  (Qp:starEach [e] X.env=(false,eval e X.env)::starEach [] X.env:=by rfl) (OO:(backTo KA (starEach [] X.env)).any (·.1)=false:=by rfl):
  QE X (.Call (.Name "list" p) [.Call (.Name "reversed" p2) [e] [] KA] [] pos) (aX ER fs):=
 bE (Dz hc hg hm Qd Qe ha he JJ Qp OO) fun σ H Q h=>by
  refine xU (pL h) fun xs H1 IB=>?_
  obtain⟨G,fp,es,vs,ds,r,⟨rel,k⟩,vd,e⟩:=IB;unfold ER at e;split at e
  ·rename_i ds;cases e;obtain⟨v,ev,p,ys,ep,sq,rs⟩:=nh vd;subst ev ep;refine⟨p,ys,rfl,sq,fun q hq=>?_⟩;obtain⟨Ia,Ii⟩:=rel.newL hq rs.rev;exact k _ _ G _ Ii Ia
  ·cases e
end
end PV
namespace NX
open PySem PySem.Spec PyProof.Rows L2
section
open PySem.AutoSeq1 (wpAny_loadPart')
end
end NX
namespace PV
open PySem PySem.Spec PyProof.Rows L2 NX
section
variable{X:Cx}
end
section
variable{md:Mode}{X:Cx}{scope:Scope}{N:List Str}{tg iter elt:Expr}{ifs:List Expr}{pos:Pos}{fi:FI}{a:FG}{c:FT}{f:FX}{j k0:Nat}
end
section
variable{X:Cx}{x:Str}{p pos:Pos}{e:Expr}{es:List Expr}{f0:FX}{fs:FOs}
end
def joinL(sep:List Nat):List (List Nat)->List Nat
 |[]=>[]
 |[x]=>x
 |x::y::r=>x++sep++joinL sep (y::r)
def vH(sep:List Nat):List D->Res R
 |[.lst ds]=>match fJ ds with
  |some ys=>if(ys.map List.length).sum+ys.length*sep.length<=16777216 then .ok (.f,.str (joinL sep ys)) else .bad
  |none=>.bad
 |_=>.bad
theorem vI(sep:List Nat):∀ys:List (List Nat),Str.join (S sep) (ys.map S)=S (joinL sep ys)
 |[]=>rfl
 |[x]=>rfl
 |x::y::r=>by
  have ih:=vI sep (y::r);show S x++S sep++Str.join (S sep) ((y::r).map S)=S (x++sep++joinL sep (y::r));rw[ih];apply Str.ext';simp[Str.cps_append]
theorem DB(sep:List Nat):∀ys:List (List Nat),Txt.join (S sep) (ys.map S)=S (joinL sep ys)
 |ys=>by
  show Builtin.Str.glued (S sep) (ys.map S)=_;rw[StrLaws.glued_eq_join];exact vI sep ys
theorem oH(sep:List Nat):∀ys:List (List Nat),(joinL sep ys).length<=(ys.map List.length).sum+ys.length*sep.length
 |[]=>Ug _
 |[x]=>by
  show x.length<=_;rw[TR,X6];lia
 |x::y::r=>by
  have ih:=oH sep (y::r);show(x++sep++joinL sep (y::r)).length<=_;rw[Ua,Ua,TR,X6,TN,Nat.add_mul];lia
theorem oJ{K:W.Frag}{G:Hp}:∀{ds:List D}{ys:List (List Nat)}{xs:List V}{us:List Value},fJ ds=some ys->Reps K G ds xs->Vals xs us->StrsAre us (ys.map S)
 |[],ys,xs,us,e,r,v=>by
  cases e;rw[Reps]at r;subst r;cases v;exact .nil
 | .str b::ds,ys,xs,us,e,r,v=>by
  rw[Reps]at r;obtain⟨y,zs,ex,r1,r2⟩:=r;subst ex;cases v with
  |cons h t=>
   rw[fJ,Uh]at e;obtain⟨ws,hw,rfl⟩:=e;rw[Rep]at r1;obtain⟨r1,_⟩:=r1;subst r1;obtain⟨tk,rfl⟩:=h;exact .cons _ tk (oJ hw r2 t)
 | .non::_,_,_,_,e,_,_ | .bl _::_,_,_,_,e,_,_ | .int _::_,_,_,_,e,_,_ | .tup _::_,_,_,_,e,_,_ | .lst _::_,_,_,_,e,_,_ | .dct _ _ _::_,_,_,_,e,_,_=>by cases e
section
variable{X:Cx}
theorem AW:N9 X "str.join" (rMtS X.K vH):=by
 rintro pr s σ H x xs v us Q I rx rv ⟨G,fp,es,vs,l,ds,r,⟨rel,k⟩,ex,hz,vd,e⟩;unfold vH at e;split at e
 ·rename_i ds;split at e
  ·rename_i ys RH;split at e
   ·rename_i hb;cases e;subst ex;obtain⟨w',ew,p,zs,ep,sq,rs⟩:=nh vd;subst ew ep;obtain⟨t,rfl⟩:=rx;obtain⟨u,rfl,ru⟩:=fN rv;cases ru;obtain⟨Ic,r',pl,M5⟩:=I.list sq;refine join_list pl.isList (ys:=ys.map S) (oJ RH rs r') ?_ fun t' kk=>?_
    ·rw[TZ,Tt];have e1:((fun x:Str=>x.length)∘S)=List.length:=by funext z;exact lh z
     rw[e1,lh];exact hb
    ·rw[DB];refine⟨.str (S (joinL l ys)),H,I.tok _,⟨_,rfl⟩,k _ H G fp .refl (rel.push ?_)⟩;rw[Rep];have:=oH l ys;exact⟨rfl,by rw[line_eq];lia⟩
   ·cases e
  ·cases e
 ·cases e
end
end PV
namespace NX
open PySem PySem.Spec PyProof.Rows L2
section
variable{prog:Program}{w:World}{A:Around}{R:Result->Shared->Prop}{it:Addr}{fp wr:List Addr}{n:Nat}{Pv:Nat->Value->Prop}{Sx:Nat->Heap->Prop}{kw:List (Str×Value)}
end
section
variable{X:Cx}{e k:Expr}{te tk:TE}{p pos L4:Pos}
end
end NX
namespace PV
open PySem PySem.Spec PyProof.Rows L2 NX
section
variable{X:Cx}
end
section
variable{X:Cx}
noncomputable def FW(g:List D->List D->Res R)(fa:FO)(fs:FOs):FX:=fun env=>(fa env).bind fun p=>(JC p.2 p.1).bind fun a=>match a with
 | .lst _=>(fs p.2).bind fun q=>(JC q.2 p.1).bind fun a2=>match a2 with
  | .lst l=>(m9 q.2 q.1).bind fun ds=>(g l ds).bind fun r=>.ok (r,q.2)
  |_=>.bad
 |_=>.bad
inductive rMtL(K:W.Frag)(g:List D->List D->Res R)(x:V)(xs:List V)(H:Hp)(Q:VK):Prop
 |mk:∀G fp es vs l ds r,Goes K H G fp es vs r Q->Vw K G H (.lst l) x->Oc K G H ds xs->g l ds=.ok r->rMtL K g x xs H Q
theorem DD{g:List D->List D->Res R}{id:String}{name:Str}{o e:Expr}{es:List Expr}{fa:FO}{fs:FOs}{apos Iy:Pos}(slot:Slot "list" name id)(Mx:typeOf (.builtin id)=pure (.type "method_descriptor"))(hm:N9 X id (rMtL X.K g))(ho:QO X o fa)(ha:Lq X (e::es) fs)
  (Jq:attributeBase o name X.env (eval o X.env)=eval o X.env:=by rfl)
  (Kc:((backTo Iy (starEach (e::es) X.env)).all (fun x=>!x.1)&&(backToKw Iy (keywordEach [] X.env)).all (fun x=>x.1.isSome)&&decide ((e::es).length+([]:List Keyword).length+(if([]:List Keyword).isEmpty then 0 else 1)<30))=true:=by rfl)
  (Jr:(apos.endLine==Iy.line)=true:=by rfl) (hs:starEach (e::es) X.env=(false,eval e X.env)::starEach es X.env:=by rfl) (IV:(backTo Iy (starEach es X.env)).any (·.1)=false:=by rfl):
  QE X (.Call (.Attribute o name apos) (e::es) [] Iy) (FW g fa fs):=by
 refine bE (xk V2 slot Mx hm ho ha Jq Kc Jr hs IV) fun σ H Q IB=>?_
 obtain⟨G,env,fp,r,env',rel,e,k⟩:=IB;obtain⟨⟨oa,H0⟩,e1,e⟩:=au e;obtain⟨da,Nj,e⟩:=au e;dsimp only at e;split at e
 ·obtain⟨⟨os,Il⟩,e2,e⟩:=au e;obtain⟨d2,hd2,e⟩:=au e;dsimp only at e;split at e
  ·obtain⟨ds,e3,e⟩:=au e;obtain⟨r',e4,e⟩:=au e;cases e;refine⟨G,env,fp,oa,H0,rel,e1,fun v H1 G1 IA Iu Ib Jv=>?_⟩;obtain⟨p,xs,ev,sq,_⟩:=Ib.vw Jv Nj;subst ev;exact⟨.inl ⟨rfl,xs,sq⟩,G1,H0,IA,os,_,Ib,e2,fun vs H2 G2 IL Ii Ia Ma=>⟨G2,IL,_,σ,_,ds,r,⟨Ia,fun v H' G' Ie st II=>k v H' G' Ie (Iu.trans (Ii.trans st)) II⟩,Ia.vw (Jv.mono Ii.gg) hd2,Ia.vws Ma e3,e4⟩⟩
  ·cases e
 ·cases e
open PySem.SeqAt in
theorem AX{pr:List (Addr×Obj)}{σ:L2.St}{H:Hp}{s:Shared}(I:Inv X pr σ H s){a:D}{x:V}{v:Value}{A:Around}(h:plainD 40 a=true)(hu:A.units+64<cLine)(r:Rep X.K H a x)(rx:RelV x v):
  ∀(ds:List D) (xs:List V) (us:List Value),plainDs 40 ds=true->Reps X.K H ds xs->Vals xs us->∃e:Value->Bool,(∀(j:Nat) (d:D) (u:Value),ds[j]?=some d->us[j]?=some u->e u=Ig d a)/\∀u∈us,EqAt A s u v (e u):=by
 classical
 intro ds xs us hp rs vl;have key:∀(j:Nat) (d:D) (u:Value),ds[j]?=some d->us[j]?=some u->decide (∃(j:Nat) (d:D),ds[j]?=some d/\us[j]?=some u/\Ig d a=true)=Ig d a:=by
  intro j d u hd hj;obtain⟨w1,Lz,LA⟩:=rs.get hd;obtain⟨u1,Kx,LB⟩:=vl.get Lz;rw[hj]at Kx;cases Kx;rw[T5,TQ];constructor
  ·rintro⟨j2,d2,k1,k2,k3⟩;obtain⟨w2,MF,MG⟩:=rs.get k1;obtain⟨u2,Lf,MH⟩:=vl.get MF;rw[k2]at Lf;cases Lf;have:=LB.inj MH;subst this;rw[kj I _ _ _ 40 (plainDs_mem hp hd) LA MG];exact k3
  ·intro k3;exact⟨j,_,hd,hj,k3⟩
 refine⟨fun u=>decide (∃(j:Nat) (d:D),ds[j]?=some d/\us[j]?=some u/\Ig d a=true),key,fun u RV=>?_⟩;obtain⟨j,hj⟩:=Uv.mp RV;have l1:=vl.length;have l2:=rs.length;have hjl:=(List.getElem?_eq_some_iff.mp hj).1;have g1:ds[j]?=some (ds[j]'(by lia)):=List.getElem?_eq_getElem _;obtain⟨w1,Lz,LA⟩:=rs.get g1;obtain⟨u1,Kx,LB⟩:=vl.get Lz;rw[hj]at Kx;cases Kx;have z:=AE I _ _ w1 x u v A 40 (plainDs_mem hp g1) h (by lia) LA r LB rx;show EqAt A s u v (decide (∃(j:Nat) (d:D),ds[j]?=some d/\us[j]?=some u/\Ig d a=true));rw[key j _ u g1 hj];exact z
def pZ(l:List D):List D->Res R
 |[a]=>if plainD 40 a&&plainDs 40 l&&l.any (fun d=>Ig d a) then .ok (.f,.int (l.findIdx (fun d=>Ig d a):Nat)) else .bad
 |_=>.bad
theorem p3(hu:X.A.units+65<cLine):N9 X "list.index" (rMtL X.K pZ):=by
 rintro pr s σ H x xs v us Q I rx rv ⟨G,fp,es,vs,l,ds,r,⟨rel,k⟩,vx,vd,e⟩;unfold pZ at e;split at e
 ·rename_i a;split at e
  ·rename_i hp;rw[TM,TM]at hp;cases e;obtain⟨p,ys,ev,sq,rs⟩:=vx;subst ev;cases rx;obtain⟨w',ew,va⟩:=nh vd;subst ew;obtain⟨u,rfl,ru⟩:=fN rv;obtain⟨Ic,vl,pl,hz⟩:=I.list sq;obtain⟨⟨cls,dd,data,sl⟩,ho,hc,n,hd⟩:=id pl.isList;simp only at hc hd;subst hc hd;obtain⟨ef,SV,Qp⟩:=AX (A:=X.A.in1) I hp.1.1 (by first|lia|(simp only[Around.in1_units];lia)) (va.rep rel.gh) ru l ys Ic hp.1.2 (Reps.mono rel.gh rs) vl;have IQ:l.findIdx (fun d=>Ig d a)<l.length:=List.findIdx_lt_length.mpr (by rw[<-U3];exact hp.2);have l1:=vl.length;have l2:=rs.length;have hlt2:l.findIdx (fun d=>Ig d a)<Ic.toArray.size:=by rw[Tu];lia
   have hb:(l.findIdx (fun d=>Ig d a):Int)<2 ^ 63-1:=by
    rw[UB]at hz;lia
   refine PySem.call_meets W0 ⟨_,ho,rfl⟩ PySem.F.entry_list_index (PySem.F.args_list_index_2 _ _) (PySem.SeqAt.list_indexAt p Ic.toArray n _ _ u ef (l.findIdx fun d=>Ig d a) hlt2 hb ?_ ?_) ⟨ho,fun y hy=>?_,⟨.int (l.findIdx (fun d=>Ig d a):Nat),H,I.tok _,⟨_,rfl⟩,k _ H G fp .refl (rel.push (bM _))⟩⟩
   ·rw[SV _ _ _ (List.getElem?_eq_getElem IQ) (by rw[XF];exact List.getElem?_eq_getElem _)];exact XG (w:=IQ)
   ·intro m hm hlt3;rw[SV m (l[m]'(by lia)) _ (List.getElem?_eq_getElem _) (by rw[XF];exact List.getElem?_eq_getElem _)];exact List.not_of_lt_findIdx hlt3
   ·exact Qp y (by simpa using hy)
  ·cases e
 ·cases e
end
section
variable{K:W.Frag}{G G' H H':Hp}{es:PV.Env}{vs:L2.St}{fp:List Addr}
theorem Rel.lendM2(q:Rel K G H es vs fp)(a:List Addr)(ha:∀z∈a,z∉fp)(hga:∀z∈a,G z=none):∃G1,Same G G1/\Same G1 H/\(∀z∈a,G1 z=none)/\(∀(i:Nat) (r:R) (v:V),es[i]?=some (some r)->vs[i]?=some (some v)->Rep K G1 r.2 v)/\
  ∀(H2 G2:Hp) (IL:List Addr) (rs:PV.Env) (ws:L2.St),Step G1 H a G2 H2 IL->Rel K G2 H2 rs ws IL->((∀r,some r∈rs->aQ r.1 r.2=true)->∃G3 JE,Step G H (a++fp) G3 H2 JE/\Rel K G3 H2 (rs++es) (ws++vs) JE)/\∃G3 JE,Step G H (a++fp) G3 H2 JE/\Rel K G3 H2 (rs++es.map PV.frz) (ws++vs) JE:=by
 have hg:Same G (fun p=>if p∈fp then H p else G p):=fun p u e=>by
  show(if p∈fp then H p else G p)=some u;by_cases hp:p∈fp
  ·rw[TF hp];exact q.gh p u e
  ·rw[TJ hp];exact e
 have hh:Same (fun p=>if p∈fp then H p else G p) H:=fun p u e=>by
  have e:(if p∈fp then H p else G p)=some u:=e;by_cases hp:p∈fp
  ·rw[TF hp]at e;exact e
  ·rw[TJ hp]at e;exact q.gh p u e
 have hk:∀p∈fp,∀u,H p=some u->(fun p=>if p∈fp then H p else G p) p=some u:=fun p hp u e=>by
  show(if p∈fp then H p else G p)=some u;rw[TF hp];exact e
 refine⟨fun p=>if p∈fp then H p else G p,hg,hh,fun z hz=>?_,fun i r v e ev=>q.rep.rep hg hk e ev,fun H2 G2 IL rs ws st k=>⟨fun cl=>?_,?_⟩⟩
 ·show(if z∈fp then H z else G z)=none;rw[TJ (ha z hz)];exact hga z hz
 ·have kept:∀p∈fp,H2 p=H p:=fun p hp=>by
   obtain⟨u,hu⟩:=q.rep.live p hp;rw[hu];exact st.keep p u hu fun z=>ha p z hp
  have apart:∀p∈IL,p∉fp:=fun p hp hf=>by
   rcases st.fpn p hp with z|z
   ·exact ha p z hf
   ·obtain⟨u,hu⟩:=q.rep.live p hf;rw[z]at hu;cases hu
  have g3:Same G (fun p=>if p∈fp then none else G2 p):=fun p u e=>by
   show(if p∈fp then none else G2 p)=some u;rw[TJ (fun z=>by rw[q.gn p z]at e;cases e)];exact st.gg p u (hg p u e)
  refine⟨fun p=>if p∈fp then none else G2 p,IL++fp,⟨g3,fun p u e n=>?_,fun p hp=>?_,fun p u e=>?_,st.there⟩,⟨RepE.append (RepE.clean (fun p u t e=>?_) cl k.rep) (q.rep.step g3 kept),?_,fun p hp=>?_,fun p u e=>?_⟩⟩
  ·exact st.keep p u e fun z=>n (TC _ z)
  ·rcases Ue.mp hp with hp|hp
   ·exact(st.fpn p hp).imp_left (TC _)
   ·exact .inl (Tv _ hp)
  ·have e:(if p∈fp then none else G2 p)=some u:=e;by_cases hp:p∈fp
   ·rw[TF hp]at e;cases e
   ·rw[TJ hp]at e;rcases st.gnew p u e with z|z|z
    ·have z:(if p∈fp then H p else G p)=some u:=z;rw[TJ hp]at z;exact .inl z
    ·exact .inr (.inl (TC _ z))
    ·exact .inr (.inr z)
  ·show(if p∈fp then none else G2 p)=some u;by_cases hp:p∈fp
   ·exfalso;obtain⟨u',hu,hm⟩:=q.rep.mut p hp;have:=st.gg p u' (hk p hp u' hu);rw[e]at this;cases this;cases u with
    |lst _=>cases t
    |dK _=>cases t
    |dT _=>cases t
    |_=>cases hm
   ·rw[TJ hp];exact e
  ·rw[Ub];exact⟨k.nd,q.nd,fun p hp z hz e=>apart p hp (e▸hz)⟩
  ·show(if p∈fp then none else G2 p)=none;by_cases hf:p∈fp
   ·rw[TF hf]
   ·rw[TJ hf];rcases Ue.mp hp with hp|hp
    ·exact k.gn p hp
    ·exact absurd hp hf
  ·have e:(if p∈fp then none else G2 p)=some u:=e;by_cases hp:p∈fp
   ·rw[TF hp]at e;cases e
   ·rw[TJ hp]at e;exact k.gh p u e
 ·have SW:=hg.trans st.gg;have rf:RepE K G2 H2 (es.map PV.frz) vs []:=q.rep.frz SW fun p hp u e=>st.gg p u (hk p hp u e)
  have ra:=RepE.append k.rep rf;rw[T7]at ra;refine⟨G2,IL,⟨SW,fun p u e n=>st.keep p u e fun z=>n (TC _ z),fun p hp=>(st.fpn p hp).imp_left (TC _),fun p u e=>?_,st.there⟩,⟨ra,k.nd,k.gn,k.gh⟩⟩;rcases st.gnew p u e with z|z|z
  ·have z:(if p∈fp then H p else G p)=some u:=z;by_cases hp:p∈fp
   ·exact .inr (.inl (Tv _ hp))
   ·rw[TJ hp]at z;exact .inl z
  ·exact .inr (.inl (TC _ z))
  ·exact .inr (.inr z)
end
noncomputable def eFunW(c:O)(F:Addr->List D->Res R)(i:Nat)(fs:FOs):FX:=fun env=>(fs env).bind fun p=>match p.1 with
 | .var j::os=>if j=i then(match p.2[i]? with
  |some (some (ow,d0))=>if oF c ow then(iG (p.2.set i none) os).bind fun ds=>(jj F c d0 ds).bind fun x=>if aQ x.1.1 x.1.2&&aQ c x.2 then .ok (x.1,(p.2.set i none).set i (some (ow,x.2))) else .ok (x.1,((p.2.set i none).map frz).set i (some (ow,x.2))) else .bad
  |_=>.bad) else .bad
 |_=>.bad
section
variable{X:Cx}{x:Str}{p pos:Pos}{e:Expr}{es:List Expr}{f0:FX}{fs:FOs}
theorem AY{F:Addr->List D->Res R}{c:O}{i k:Nat}(C:Ct X.prog X.w X.K X.mg X.base x k (spM X.K c F))(hr:Room k X.A)(hg:Gl X x)(ha:Lq X (e::es) fs)(Kl:(x==("__debug__" : Str))=false:=by decide)
  (he:starEach (e::es) X.env=(false,eval e X.env)::starEach es X.env:=by rfl) (JJ:(backTo pos (starEach es X.env)).any (·.1)=false:=by rfl):QE X (.Call (.Name x p) (e::es) [] pos) (eFunW c F i fs):=
 bE (z5 C hr hg ha Kl he JJ) fun σ H Q Ip=>by
  obtain⟨G,env,fp,r,env',rel,e,k⟩:=Ip;obtain⟨⟨os,e1⟩,ha,e⟩:=au e;dsimp only at e;split at e
  ·rename_i j Sy;split at e
   ·rename_i hj;subst hj;split at e
    ·rename_i ow d0 hi;split at e
     ·rename_i how;obtain⟨ds,hd,e⟩:=au e;obtain⟨z,hz,e⟩:=au e;refine⟨G,env,fp,_,e1,rel,ha,fun vs H1 G1 IA Iu Ib Jv=>?_⟩;show spM X.K c F (vs++[]) H1 Q _;rw[T7];obtain⟨y,ys,ey,k1,k2⟩:=Jv;obtain⟨v0,a,b,ev,r0,r2,pm⟩:=Ib.rep.take hi;have k1:σ[j]?=some (some y):=k1;rw[k1]at ev;cases ev;obtain⟨⟨q,hq⟩,rc,back⟩:=y7 how r0;subst hq;have nd:=Ub.mp (pm.nodup_iff.mp Ib.nd);have OP:Rel X.K G1 H1 (e1.set j none) σ b:=⟨r2,nd.2.1,fun w hw=>Ib.gn w (pm.mem_iff.mpr (Tv _ hw)),Ib.gh⟩
      obtain⟨G2,Nk,OH,R1,Kp,Kw⟩:=OP.lendM2 a (fun w hw hb=>nd.2.2 w hw w hb rfl) (fun w hw=>Ib.gn w (pm.mem_iff.mpr (TC _ hw)));refine⟨G2,q,ys,d0,ds,_,a,OH,ey,rc.step Nk (fun _ _=>rfl),nd.1,R1,iH Nk Kp k2 hd,rq hz q,fun v H' G' Ie st rt=>?_⟩;obtain⟨o',d',p',c',RY,er,rl⟩:=rt;cases er;have fin:∀(ee:PV.Env),ee.length=e1.length->(∃G3 JE,Step G1 H1 (a++b) G3 H' JE/\Rel X.K G3 H' (some z.1::some (.pin q c,z.2)::ee) (some v::some (.ref q)::σ) JE)->(z.1,ee.set j (some (ow,z.2)))=(r,env')->Q v H':=by
       rintro ee R3 ⟨G3,JE,IK,IH⟩ R4;cases R4;obtain⟨a1,b1,ef,ro,Jb,comb⟩:=Rel.frame IH;have OQ:Rel X.K G3 H' (some (ow,z.2)::ee) (some (.ref q)::σ) b1:=by
        obtain⟨y2,ys2,OR,v2,a2,b2,R5,R6,Qq,R7⟩:=Jb.rep;cases OR;cases R5;rw[RepO]at Qq;exact⟨⟨_,_,rfl,_,a2,b2,rfl,R6,back _ _ _ _ Qq.2,R7⟩,Jb.nd,Jb.gn,Jb.gh⟩
       obtain⟨fq,OS,R8⟩:=OQ.back (i:=j) (by rw[R3];exact(List.getElem?_eq_some_iff.mp hi).1) k1;obtain⟨OT,Qr⟩:=comb G3 H' _ _ fq R8 OS;rw[<-ef]at Qr;exact k v H' G3 _ (Iu.trans ((IK.perm (fun w=>pm.mem_iff.symm) (fun w hw=>hw)).trans Qr)) OT
      obtain⟨b1,b2⟩:=Kw H' G' Ie _ _ st rl;split at e
      ·rename_i K0;rw[TM]at K0;have e:=Res.ok.inj e;refine fin (e1.set j none) (by rw[Uw]) (b1 fun w hw=>?_) e;rcases TK.mp hw with hw|hw
       ·cases hw;exact K0.1
       ·rw[TY]at hw;cases hw;simp only[aQ];exact K0.2
      ·have e:=Res.ok.inj e;exact fin ((e1.set j none).map frz) (by rw[Tt,Uw]) b2 e
     ·cases e
    ·cases e
   ·cases e
  ·cases e
end
def SlR3(X:Cx)(r:V->Option Int->Option Int->Option Int->Hp->VK->Prop):Prop:=
 ∀(pr:List (Addr×Obj)) (s:Shared) (σ:L2.St) (H:Hp) (x:V) (v vl vu vt:Value) (lo hi st:Option Int) (sl:Addr) (Q:VK),Inv X pr σ H s->RelV x v->s.heap.IsSliceOf sl vl vu vt->IsPart vl lo->IsPart vu hi->IsPart vt st->r x lo hi st H Q->
  ∃T id,typeLookup (.type T) "__getitem__" = pure (some (.builtin id))/\s.TypeIs v T/\wpAny (model X.prog X.w) X.A (getItem v (.ref sl)) (EP X pr σ Q) X.xe s
def HB(r:V->Option Int->Option Int->Option Int->Hp->VK->Prop)(te:TE)(tl th ts:TO):TE:=fun σ H Q=>te σ H fun x H1=>tl σ H1 fun l H2=>th σ H2 fun u H3=>ts σ H3 fun t H4=>r x l u t H4 Q
theorem vJ{X:Cx}{e:Expr}{te:TE}{lo hi:Option Expr}{se:Expr}{tl th ts:TO}{pos p2:Pos}{r:V->Option Int->Option Int->Option Int->Hp->VK->Prop}(hr:SlR3 X r)(he:PE X e te)(hl:PO X lo tl)(hu:PO X hi th)(hs:PO X (some se) ts):PE X (.Subscript e (.Slice lo hi (some se) p2) pos) (HB r te tl th ts):=by
 intro pr s σ H Q I h;refine Subscript_ (Iw (he pr s σ H _ I h) fun v s1 IB=>?_);obtain⟨x,H1,I1,r1,q1⟩:=IB;refine wpAny_Slice (Iw (hl pr s1 σ H1 _ I1 q1) fun vl s2 ⟨l,H2,I2,pl,q2⟩=>Iw (hu pr s2 σ H2 _ I2 q2) fun vu s3 ⟨u,H3,I3,pu,q3⟩=>Iw (hs pr s3 σ H3 _ I3 q3) fun vt s4 IB=>?_);obtain⟨t,H4,I4,pt,q4⟩:=IB;have I5:Inv X pr σ H4 {s4 with heap:=s4.heap.push {cls:=.type "slice",data:=.fields #[vl,vu,vt]}}:=I4.kept (t':=s4.toks) fun b ob q=>Heap.get?_push_of_some _ q
 obtain⟨T,id,hT,ht,hg⟩:=hr pr {s4 with heap:=s4.heap.push {cls:=.type "slice",data:=.fields #[vl,vu,vt]}} σ H4 x v vl vu vt l u t s4.heap.objs.size Q I5 r1 (Heap.IsSliceOf.new ..) pl pu pt q4;show wpAny (model X.prog X.w) X.A (subscriptTail e (.Slice lo hi (some se) p2) v (.ref s4.heap.objs.size)) (EP X pr σ Q) X.xe {s4 with heap:=s4.heap.push {cls:=.type "slice",data:=.fields #[vl,vu,vt]}};exact tail_any (ops:=[v,.ref s4.heap.objs.size]) ht hT hg (by with_unfolding_all rfl)
def fX{α:Type}(xs:List α)(lo hi:Option Int)(c:Int):List α:=
 (sliceRange (sliceBounds lo hi (some c) xs.length).1 (sliceBounds lo hi (some c) xs.length).2.1 (sliceBounds lo hi (some c) xs.length).2.2).filterMap (fun i=>xs[i]?)
theorem oK{K:W.Frag}{G:Hp}{ds:List D}{xs:List V}(r:Reps K G ds xs):∀ix:List Nat,Reps K G (ix.filterMap fun i=>ds[i]?) (ix.filterMap fun i=>xs[i]?)
 |[]=>.nil
 |i::ix=>by
  have ih:=oK r ix;cases e:ds[i]? with
  |none=>
   have e2:xs[i]?=none:=by
    rw[List.getElem?_eq_none_iff]at e ⊢;rw[r.length];exact e
   rw[Vu e,Vu e2];exact ih
  |some d=>
   obtain⟨v,e2,rv⟩:=r.get e;rw[Vv e,Vv e2];exact .cons rv ih
theorem vals_pick{xs:List V}{us:List Value}(r:Vals xs us):∀ix:List Nat,Vals (ix.filterMap fun i=>xs[i]?) (ix.filterMap fun i=>us[i]?)
 |[]=>.nil
 |i::ix=>by
  have ih:=vals_pick r ix;cases e:xs[i]? with
  |none=>
   rw[Vu e,Vu (r.none_of e)];exact ih
  |some d=>
   obtain⟨v,e2,rv⟩:=r.get e;rw[Vv e,Vv e2];exact .cons rv ih
theorem rB(Ic:List Value)(lo hi:Option Int)(c:Int):slicePick Ic.toArray lo hi (some c)=(fX Ic lo hi c).toArray:=by
 unfold slicePick fX;simp only[Tu,List.getElem?_toArray]
theorem AZ(Ic:List Value)(lo hi:Option Int)(c:Int):(fX Ic lo hi c).length<=Ic.length:=by
 have:=slicePick_size_le Ic.toArray lo hi (some c);rw[rB]at this;simpa using this
def DE(k:D)(lo hi st:Option Int):Res R:=match k,st with
 | .lst ds,some c=>if c≠0 then .ok (.l .f,.lst (fX ds lo hi c)) else .bad
 |_,_=>.bad
def FY(fa:FO)(lo hi st:FP):FX:=fun env=>(fa env).bind fun p=>(lo p.2).bind fun q=>(hi q.2).bind fun t=>(st t.2).bind fun u=>(JC u.2 p.1).bind fun d=>(DE d q.1 t.1 u.1).bind fun r=>.ok (r,u.2)
section
variable{X:Cx}{pos:Pos}{fa:FO}
inductive rSl3(K:W.Frag)(x:V)(lo:Option Int)(hi:Option Int)(st:Option Int)(H:Hp)(Q:VK):Prop
 |mk:∀G fp es vs d r,Goes K H G fp es vs r Q->Vw K G H d x->DE d lo hi st=.ok r->rSl3 K x lo hi st H Q
theorem DF:SlR3 X (rSl3 X.K):=by
 rintro pr s σ H x v vl vu vt lo hi st sl Q I rx hs pl pu pt ⟨G,fp,es,vs,d,r,⟨rel,k⟩,vd,e⟩;unfold DE at e;split at e
 ·rename_i ds c;split at e
  ·rename_i hc;cases e;obtain⟨p,xs,ev,sq,rs⟩:=vd;subst ev;cases rx;obtain⟨Ic,r,ht,hz⟩:=I.list sq;have hlen:=r.length;refine⟨"list",_,slot_list_getitem.lookup,ht.isList.typeIs,?_⟩;refine WO ht.isList hs pl pu pt (fun h=>hc (TX h)) ?_ (by rw[Tu];lia);rw[rB];have r2:Vals (fX xs lo hi c) (fX Ic lo hi c):=by
    unfold fX;rw[hlen];exact vals_pick r _
   have rs2:Reps X.K G (fX ds lo hi c) (fX xs lo hi c):=by
    unfold fX;rw[rs.length];exact oK rs _
   have M5:(fX xs lo hi c).length<=sizeLine:=by
    rw[r2.length];have:=AZ Ic lo hi c;lia
   have hq:=I.hok.fresh (TB s.heap.objs.size);obtain⟨Ia,Ii⟩:=rel.newL hq rs2;refine⟨.ref s.heap.objs.size,_,I.laid (t':=s.toks) (o:=.lst (fX xs lo hi c)) (fun b ob q=>Heap.get?_push_of_some _ q) (TB _) ?_,rfl,k _ _ G _ Ii Ia⟩;exact⟨M5,_,0,r2,Heap.get?_push_size _ rfl⟩
  ·cases e
 ·cases e
theorem DG{e:Expr}{lo hi:Option Expr}{se:Expr}{p2:Pos}{fl fh fs:FP}(he:QO X e fa)(hl:QP X lo fl)(hh:QP X hi fh)(hs:QP X (some se) fs):QE X (.Subscript e (.Slice lo hi (some se) p2) pos) (FY fa fl fh fs):=
 bE (vJ DF he hl hh hs) fun σ H Q Ip=>by
  obtain⟨G,env,fp,r,env',rel,e,k⟩:=Ip;obtain⟨⟨o,H0⟩,e1,e⟩:=au e;obtain⟨⟨i,Il⟩,e2,e⟩:=au e;obtain⟨⟨j,IX⟩,e3,e⟩:=au e;obtain⟨⟨t,Qs⟩,e4,e⟩:=au e;obtain⟨d,e5,e⟩:=au e;obtain⟨r',e6,e⟩:=au e;cases e;exact⟨G,env,fp,o,H0,rel,e1,fun v H1 G1 IA Iu Ib Jv=>⟨G1,H0,IA,i,Il,Ib,e2,fun H2 G2 IL Ii Ia=>⟨G2,Il,IL,j,IX,Ia,e3,fun H3 G3 JE IK IH=>⟨G3,IX,JE,t,Qs,IH,e4,fun H4 G4 OI JB Jk=>
   ⟨G4,OI,Qs,σ,d,r,⟨Jk,fun v H' G' Ie st II=>k v H' G' Ie (Iu.trans (Ii.trans (IK.trans (JB.trans st)))) II⟩,Jk.vw (((Jv.mono Ii.gg).mono IK.gg).mono JB.gg) e5,e6⟩⟩⟩⟩⟩
end
section
variable{X:Cx}
def A5(fa fb fc:FX):FX:=fun env=>(fa env).bind fun p=>(fb p.2).bind fun q=>(fc q.2).bind fun t=>.ok ((.t [.f,q.1.1,t.1.1],.tup [p.1.2,q.1.2,t.1.2]),t.2)
theorem A8{a b c:Expr}{fa fb fc:FX}{x1}{pos:Pos}(ha:QE X a fa)(hb:QE X b fb)(hc:QE X c fc)(h1:starEach [a,b,c] X.env=(false,eval a X.env)::starEach [b,c] X.env:=by rfl)(h2:starEach [b,c] X.env=(false,eval b X.env)::starEach [c] X.env:=by rfl)(h3:starEach [c] X.env=(false,eval c X.env)::starEach [] X.env:=by rfl):
  QE X (.Tuple [a,b,c] x1 pos) (A5 fa fb fc):=
 bE (yI (fQ ha (fQ hb (fQ hc nu h3) h2) h1)) fun σ H Q Ip=>by
  obtain⟨G,env,fp,r,env',rel,e,k⟩:=Ip;obtain⟨⟨r1,H0⟩,e1,e⟩:=au e;obtain⟨⟨⟨o2,d2⟩,Il⟩,e2,e⟩:=au e;obtain⟨⟨⟨o3,d3⟩,IX⟩,e3,e⟩:=au e;cases e;refine⟨G,env,fp,r1,H0,rel,e1,fun v H1 G1 IA Iu Ib=>?_⟩;obtain⟨G2,b,rv,Ia,Ii⟩:=Ib.freeze;refine⟨G2,H0,b,(o2,d2),Il,Ia,e2,fun v2 H3 G3 JE IK IH=>?_⟩;obtain⟨a3,b3,ef3,ro3,Qt,bk3⟩:=IH.frame;refine⟨G3,Il,b3,(o3,d3),IX,Qt,e3,fun v3 H4 G4 OI JB Jk=>⟨by rw[line_eq];exact(by decide:3<=16777216),fun p hp=>?_⟩⟩;obtain⟨MK,Nn⟩:=bk3 G4 H4 _ _ OI JB Jk;rw[<-ef3]at Nn;obtain⟨JP,Ku⟩:=MK.newF (u:=.tup [v,v2,v3]) hp;refine k _ _ _ _ (Iu.trans (Ii.trans (IK.trans (Nn.trans Ku)))) ?_;obtain⟨y,ys,ey,v',a',b',OR,ef,q1,q2⟩:=JP.rep;cases ey;cases OR;obtain⟨y,ys,ey,v'',Qu,b'',OR,ef',q3,q4⟩:=q2;cases ey;cases OR;subst ef';refine⟨⟨some (.ref p),σ,rfl,.ref p,a'++Qu,b'',rfl,by rw[ef,Ul],?_,q4⟩,JP.nd,JP.gn,JP.gh⟩;show RepO X.K _ _ (.t [.f,o2,o3]) (.tup [r1.2,d2,d3]) (.ref p) (a'++Qu);rw[RepO];refine⟨p,[v,v2,v3],rfl,aV,?_⟩;rw[RepT];refine⟨v,[v2,v3],[],a'++Qu,rfl,rfl,fS.mpr ⟨Rep.mono (IK.gg.trans (Nn.gg.trans Ku.gg)) rv,rfl⟩,?_⟩;rw[RepT];refine⟨v2,[v3],a',Qu,rfl,rfl,q1,?_⟩;rw[RepT];refine⟨v3,[],Qu,[],rfl,by rw[T7],q3,?_⟩;rw[RepT];exact⟨rfl,rfl⟩
end
section
variable{X:Cx}{scope:Scope}{N:List Str}{tg iter elt:Expr}{ifs:List Expr}{pos:Pos}{fi:FI}{a:FG}{c:FT}{f:FX}
end
end PV
namespace L2
open PySem PySem.Spec PyProof.Rows NX
section
variable{X:Cx}{tg:Expr}
end
end L2
namespace PV
open PySem PySem.Spec PyProof.Rows L2 NX
section
variable{X:Cx}{tg:Expr}
end
noncomputable def fBodyJ(j np nn:Nat)(c:O)(g:FS)(p:Addr):List D->Res R
 |d0::ds=>if ds.length+1=np/\j<=ds.length then(g ((ds.take j).map (fun d=>some (O.f,d))++some (.pin p c,d0)::((ds.drop j).map (fun d=>some (O.f,d))++List.replicate nn none))).bind fun o=>match o with
  | .rt r=>.ok r
  |_=>.bad
  else .bad
 |[]=>.bad
inductive spJ(j:Nat)(K:W.Frag)(c:O)(F:Addr->List D->Res R)(vs:List V)(H:Hp)(Q:VK)(zz:XK):Prop
 |mk:∀va v vb,vs=va++v::vb->va.length=j->spM K c F (v::(va++vb)) H Q zz->spJ j K c F vs H Q zz
theorem rD{K:W.Frag}{G H:Hp}{es:PV.Env}{us:L2.St}{fp:List Addr}(h:RepE K G H es us fp):∀{ds:List D}{vs:List V},Reps K G ds vs->RepE K G H (ds.map (fun d=>some (O.f,d))++es) (vs.map some++us) fp
 |[],vs,r=>by
  rw[Reps]at r;subst r;exact h
 |d::ds,vs,r=>by
  rw[Reps]at r;obtain⟨y,ys,e,r1,r2⟩:=r;subst e;exact⟨some y,_,rfl,y,[],fp,rfl,rfl,fS.mpr ⟨r1,rfl⟩,rD h r2⟩
theorem lK{K:W.Frag}{G:Hp}:∀{j:Nat}{ds:List D}{va vb:List V},va.length=j->Reps K G ds (va++vb)->Reps K G (ds.take j) va/\Reps K G (ds.drop j) vb
 | 0,ds,[],vb,_,r=>⟨by rw[XI];exact .nil,r⟩
 |j+1,[],v::va,vb,_,r=>by
  rw[Reps]at r;cases r
 |j+1,d::ds,v::va,vb,hl,r=>by
  rw[Vg,Reps]at r;obtain⟨y,ys,e,r1,r2⟩:=r;cases e;obtain⟨q1,q2⟩:=lK (Nat.succ.inj hl) r2;exact⟨.cons r1 q1,q2⟩
theorem DH{P:Program}{w:World}{K:W.Frag}{mg:Str->Option Value}{base:Heap}{x:Str}{st:Stmt}{N ps:List Str}{j k:Nat}{c:O}{g:FS}(Df:Def K mg x st)(sc:FnScope N ps (defScope st))
  (hb:∀(kV doc pm:Value) (an:Option Addr) (ID ct:Value) (us:List Value),us.length=ps.length->bindArgs (PySem.W.fnOf x x (eD st) (cQ st) (defScope st) .none kV doc pm an ID ct) ⟨us,[]⟩=pure (ps.zip us))
  (body:∀(f:Addr) (ID:Value) (A:Around) (outer:List PySem.Env) (s:Shared) (H:Hp) (E:XK),Room k (A.deeper (envOfC x (defScope st) s.heap.objs.size f ID))->L9 (md:=.mut) (wR L6 P w K mg base N x (defScope st) f ID A outer s H E).nox (cQ st) g):
  Ct P w K mg base x (k+1) (spJ j K c (fBodyJ j ps.length (N.length-ps.length) c g)):=by
 obtain⟨f,fd,F,m⟩:=Df;refine⟨f,fd,ps,F.ok sc (fun vs H Q E h=>?_) (fun ID A outer s H vs Q E hr h=>?_),m,F.kp,F.binds hb⟩
 ·obtain⟨va,v,vb,Rg,Rh,G,p,KH,d0,ds,r,Me,_,ev,_,_,_,rs,e,_⟩:=h;cases ev;unfold fBodyJ at e;dsimp only at e;split at e
  ·rename_i hl;have:=rs.length;rw[Ua]at this;rw[Rg,Ua,TN];lia
  ·cases e
 ·obtain⟨va,v,vb,Rg,Rh,G,p,KH,d0,ds,r,Me,gh,ev,r0,nd,gn,rs,e,q⟩:=h;cases ev;unfold fBodyJ at e;dsimp only at e;split at e
  ·rename_i hl;have hlen:=rs.length;rw[Ua]at hlen;obtain⟨ra,rb⟩:=lK Rh rs;refine⟨_,body f ID A outer s H E hr,G,(ds.take j).map (fun d=>some (O.f,d))++some (.pin p c,d0)::((ds.drop j).map (fun d=>some (O.f,d))++List.replicate (N.length-ps.length) none),Me,⟨?_,nd,gn,gh⟩,?_⟩
   ·have z:=fU (K:=K) (G:=G) (H:=H) (N.length-ps.length) rb;have z2:RepE K G H (some (.pin p c,d0)::((ds.drop j).map (fun d=>some (O.f,d))++List.replicate (N.length-ps.length) none)) (some (.ref p)::(vb.map some++List.replicate (N.length-ps.length) none)) Me:=
     ⟨some (.ref p),_,rfl,.ref p,Me,[],rfl,(T7 _).symm,by rw[RepO];exact⟨rfl,r0⟩,z⟩
    have z3:=rD z2 ra;unfold L2.jJ;have e1:vs.length=ps.length:=by rw[Rg,Ua,TN];lia
    rw[e1,Rg,TV,TR,Ul,Vg];exact z3
   ·obtain⟨o,eo,e⟩:=au e;rw[eo];cases o with
    |rt r'=>
     cases e;exact fun v H' G' Ie st rel=>q v H' G' Ie st rel
    |nx env'=>cases e
    |bk env'=>cases e
    |ct env'=>cases e
  ·cases e
noncomputable def vK(j:Nat)(c:O)(F:Addr->List D->Res R)(i:Nat)(fs:FOs):FX:=fun env=>(fs env).bind fun p=>match p.1[j]? with
 |some (.var j')=>if j'=i then(match p.2[i]? with
  |some (some (ow,d0))=>if oF c ow then(iG (p.2.set i none) (p.1.eraseIdx j)).bind fun ds=>(jj F c d0 ds).bind fun x=>if aQ x.1.1 x.1.2&&aQ c x.2 then .ok (x.1,(p.2.set i none).set i (some (ow,x.2))) else .ok (x.1,((p.2.set i none).map frz).set i (some (ow,x.2))) else .bad
  |_=>.bad) else .bad
 |_=>.bad
theorem lM{K:W.Frag}{G:Hp}{σ:L2.St}:∀{j:Nat}{os:List Opd}{vs:List V}{o:Opd},lC K G σ os vs->os[j]?=some o->∃va y vb,vs=va++y::vb/\va.length=j/\OpdOk K G σ o y/\lC K G σ (os.eraseIdx j) (va++vb)
 | 0,o'::os,_,o,⟨y,ys,e,k1,k2⟩,h=>by
  cases h;exact⟨[],y,ys,e,rfl,k1,k2⟩
 |j+1,o'::os,_,o,⟨y,ys,e,k1,k2⟩,h=>by
  obtain⟨va,z,vb,e2,hl,q1,q2⟩:=lM (j:=j) k2 (by simpa using h);exact⟨y::va,z,vb,by rw[e,e2];rfl,by rw[TN,hl],q1,y,va++vb,rfl,k1,q2⟩
section
variable{X:Cx}{x:Str}{p pos:Pos}{e:Expr}{es:List Expr}{fs:FOs}
theorem A9{F:Addr->List D->Res R}{c:O}{i j0 k:Nat}(C:Ct X.prog X.w X.K X.mg X.base x k (spJ j0 X.K c F))(hr:Room k X.A)(hg:Gl X x)(ha:Lq X (e::es) fs)(Kl:(x==("__debug__" : Str))=false:=by decide)
  (he:starEach (e::es) X.env=(false,eval e X.env)::starEach es X.env:=by rfl) (JJ:(backTo pos (starEach es X.env)).any (·.1)=false:=by rfl):QE X (.Call (.Name x p) (e::es) [] pos) (vK j0 c F i fs):=
 bE (z5 C hr hg ha Kl he JJ) fun σ H Q Ip=>by
  obtain⟨G,env,fp,r,env',rel,e,k⟩:=Ip;obtain⟨⟨os,e1⟩,ha,e⟩:=au e;dsimp only at e;split at e
  ·rename_i j M9;split at e
   ·rename_i hj;subst hj;split at e
    ·rename_i ow d0 hi;split at e
     ·rename_i how;obtain⟨ds,hd,e⟩:=au e;obtain⟨z,hz,e⟩:=au e;refine⟨G,env,fp,_,e1,rel,ha,fun vs H1 G1 IA Iu Ib Jv=>?_⟩;show spJ j0 X.K c F (vs++[]) H1 Q _;rw[T7];obtain⟨va,y,vb,ey,Rh,k1,k2⟩:=lM Jv M9;refine⟨va,y,vb,ey,Rh,?_⟩;obtain⟨v0,a,b,ev,r0,r2,pm⟩:=Ib.rep.take hi;have k1:σ[j]?=some (some y):=k1;rw[k1]at ev;cases ev;obtain⟨⟨q,hq⟩,rc,back⟩:=y7 how r0;subst hq;have nd:=Ub.mp (pm.nodup_iff.mp Ib.nd);have OP:Rel X.K G1 H1 (e1.set j none) σ b:=⟨r2,nd.2.1,fun w hw=>Ib.gn w (pm.mem_iff.mpr (Tv _ hw)),Ib.gh⟩
      obtain⟨G2,Nk,OH,R1,Kp,Kw⟩:=OP.lendM2 a (fun w hw hb=>nd.2.2 w hw w hb rfl) (fun w hw=>Ib.gn w (pm.mem_iff.mpr (TC _ hw)));refine⟨G2,q,va++vb,d0,ds,_,a,OH,rfl,rc.step Nk (fun _ _=>rfl),nd.1,R1,iH Nk Kp k2 hd,rq hz q,fun v H' G' Ie st rt=>?_⟩;obtain⟨o',d',p',c',RY,er,rl⟩:=rt;cases er;have fin:∀(ee:PV.Env),ee.length=e1.length->(∃G3 JE,Step G1 H1 (a++b) G3 H' JE/\Rel X.K G3 H' (some z.1::some (.pin q c,z.2)::ee) (some v::some (.ref q)::σ) JE)->(z.1,ee.set j (some (ow,z.2)))=(r,env')->Q v H':=by
       rintro ee R3 ⟨G3,JE,IK,IH⟩ R4;cases R4;obtain⟨a1,b1,ef,ro,Jb,comb⟩:=Rel.frame IH;have OQ:Rel X.K G3 H' (some (ow,z.2)::ee) (some (.ref q)::σ) b1:=by
        obtain⟨y2,ys2,OR,v2,a2,b2,R5,R6,Qq,R7⟩:=Jb.rep;cases OR;cases R5;rw[RepO]at Qq;exact⟨⟨_,_,rfl,_,a2,b2,rfl,R6,back _ _ _ _ Qq.2,R7⟩,Jb.nd,Jb.gn,Jb.gh⟩
       obtain⟨fq,OS,R8⟩:=OQ.back (i:=j) (by rw[R3];exact(List.getElem?_eq_some_iff.mp hi).1) k1;obtain⟨OT,Qr⟩:=comb G3 H' _ _ fq R8 OS;rw[<-ef]at Qr;exact k v H' G3 _ (Iu.trans ((IK.perm (fun w=>pm.mem_iff.symm) (fun w hw=>hw)).trans Qr)) OT
      obtain⟨b1,b2⟩:=Kw H' G' Ie _ _ st rl;split at e
      ·rename_i K0;rw[TM]at K0;have e:=Res.ok.inj e;refine fin (e1.set j none) (by rw[Uw]) (b1 fun w hw=>?_) e;rcases TK.mp hw with hw|hw
       ·cases hw;exact K0.1
       ·rw[TY]at hw;cases hw;simp only[aQ];exact K0.2
      ·have e:=Res.ok.inj e;exact fin ((e1.set j none).map frz) (by rw[Tt,Uw]) b2 e
     ·cases e
    ·cases e
   ·cases e
  ·cases e
end
section
variable{X:Cx}{x:Str}{p pos:Pos}{e:Expr}{es:List Expr}{f0:FX}{fs:FOs}
end
end PV
namespace NX
open PySem PySem.Spec PyProof.Rows L2
noncomputable def Qv(o:Obj)(n:Nat)(a:Addr):It:=
 ⟨fun i H=>∃kvs k v,H a=some (.frz o (.dK kvs))/\kvs.length=n/\kvs[i]?=some (k,v),
  fun i H x H'=>H'=H/\∀kvs k v,H a=some (.frz o (.dK kvs))->kvs[i]?=some (k,v)->x=kV k,
  fun i H=>∃kvs,H a=some (.frz o (.dK kvs))/\kvs.length=n/\kvs.length<=i⟩
theorem vL{P:Program}{w:World}{K:W.Frag}{tg:Expr}(o:Obj)(es:Array DictEntry)(ep n:Nat)(a it:Addr)(hd:o.data=.dict es ep):
  Turn P w K tg (Qv o n a) [it] it (fun i h=>h.IsKeyIter it a i n ep) where
 mem:=by simp
 obj:=fun i h st b hb=>by
  have e:b=it:=by simpa using hb
  subst e;obtain⟨o,e,c,d⟩:=st;exact⟨o,e,fun v z=>by rw[d]at z;cases z⟩
 keep:=fun i h h' st k=>by
  obtain⟨o,e,c,d⟩:=st;exact⟨o,k it (by simp) o e,c,d⟩
 item:=by
  intro X hP hw hK hc i pr s σ H E I hf st hg;subst hP hw hK;obtain⟨kvs,k,v,ha,hn,hx⟩:=hg;obtain⟨ho,vs,r,hm⟩:=rA I hd ha;have hl:vs.length=n:=by rw[<-hn];exact r.length.symm
  subst hl;obtain⟨u,hu,ru⟩:=Dy r hx;obtain⟨f0,f1,f2,f3,f4,f5⟩:=hf it (by simp);refine wpAny_pyNext_dict_item st hm hu fun key h' JX J6 sb=>?_
  have I1:Inv X pr σ H {s with heap:=h'}:=I.turned (t':=s.toks) (fun b o hb e=>(sb.2 b hb).trans e) f0 f1 f3 f4 f5;obtain⟨o',e,c,d⟩:=id J6;exact⟨key,rfl,sv (s:={s with heap:=h'}) e c d (by decide) ⟨kV k,H,I1,Dx JX,⟨rfl,fun kvs' k' v' h1 h2=>by
   rw[ha]at h1;cases h1;rw[hx]at h2;cases h2;rfl⟩,J6,fun b hb=>(hf b hb).1⟩⟩
 done:=by
  intro X hP hw hK hc i pr s σ H E I hf st hg;subst hP hw hK;obtain⟨kvs,ha,hn,hi⟩:=hg;obtain⟨ho,vs,r,hm⟩:=rA I hd ha;have hl:vs.length=n:=by rw[<-hn];exact r.length.symm
  subst hl;obtain⟨f0,f1,f2,f3,f4,f5⟩:=hf it (by simp);exact wpAny_pyNext_dict_end (I.ok.hd hc) st hm (List.getElem?_eq_none (by lia)) fun h' eb=>⟨rfl,I.turned (t':=s.toks) (fun b o hb e=>eb b o hb e) f0 f1 f3 f4 f5⟩
 self:=fun _ _ _ _ _ st h=>wpAny_pyIter_keyiter st h
def HC(td:TE):TI:=fun σ H R=>td σ H fun v H1=>∃a o kvs,v=.ref a/\H1 a=some (.frz o (.dK kvs))/\R (Qv o kvs.length a) H1
theorem Ba{X:Cx}{l tg:Expr}{td:TE}(hl:PE X l td):PI X tg l (HC td):=by
 intro pr s σ H R I h;refine Iw (hl pr s σ H _ I h) fun v s1 IB=>?_
 obtain⟨x,H1,I1,r1,a,o,kvs,ex,ha,q⟩:=IB;subst ex;cases r1;obtain⟨ho,z,nm,vs,r,o',Lb,Oi,g1,ex,dat,eC⟩:=(show ObjOk X.prog X.w H1 s1.heap a (.frz o (.dK kvs)) from I1.hok a _ ha)
 have e:=g1.symm.trans ho;cases e;have Lh:s1.heap.DictAt (mixKind X.prog X.w) a vs Oi:=⟨_,Lb,g1,ex,dat,eC⟩
 refine wpAny_pyIter_dict nm Lh ?_;refine⟨s1.heap.objs.size,[s1.heap.objs.size],_,Qv _ kvs.length a,H1,rfl,I1.kept (t':=s1.toks) fun b o e=>Heap.get?_push_of_some _ e,vL _ Lb Oi kvs.length a _ dat,⟨_,Heap.get?_push_size _ rfl,rfl,?_⟩,fun b hb=>?_,q⟩
 ·rw[r.length];rfl
 ·have e:b=s1.heap.objs.size:=by simpa using hb
  subst e;exact I1.fpOk (TB _) (I1.hok.fresh (TB _))
theorem gM{X:Cx}{pr:List (Addr×Obj)}{σ:L2.St}{H:Hp}{s:Shared}{a:Addr}{o:Obj}{kvs:List (Key×V)}(I:Inv X pr σ H s)(ha:H a=some (.frz o (.dK kvs)))(h0:∀q u,X.H₀ a≠some (.frz q u)):Inv X pr σ (upd H a (.dK kvs)) s:=by
 have ok:=(show ObjOk X.prog X.w H s.heap a (.frz o (.dK kvs)) from I.hok a _ ha)
 have nn:∀c,H c=none->c≠a:=fun c e z=>by rw[z,ha]at e;cases e
 have nt:∀c xs,H c=some (.tup xs)->c≠a:=fun c xs e z=>by rw[z,ha]at e;cases e
 have nb:∀c ps,H c=some (.tbl ps)->c≠a:=fun c ps e z=>by rw[z,ha]at e;cases e
 have no:∀c b,H c=some (.own b)->c≠a:=fun c b e z=>by rw[z,ha]at e;cases e
 have nf:∀c,H c=none->upd H a (.dK kvs) c=none:=fun c e=>by rw[aE (nn c e)];exact e
 refine⟨I.ok,I.os,I.bare,⟨I.base.keep,I.base.slot,fun b q e n x=>nf b (I.base.free b q e n x),I.base.there,fun b xs e=>?_,fun b q u e=>?_,fun b ps e=>?_⟩,I.loc,I.cell,nf _ I.free,fun x c e=>nf _ (I.freeC x c e),fun p hp=>?_,fun c ob e=>?_,I.len⟩
 ·have h:=I.base.tups b xs e;rw[aE (nt b xs h)];exact h
 ·have:b≠a:=fun z=>h0 q u (z▸e)
  rw[aE this];exact I.base.frzs b q u e
 ·obtain⟨m,h⟩:=I.base.tbls b ps e;exact⟨m,by rw[aE (nb b _ h)];exact h⟩
 ·obtain⟨h1,h2,h3⟩:=I.pin p hp;exact⟨h1,nf _ h2,h3⟩
 ·by_cases ec:c=a
  ·subst ec;rw[aV]at e;cases e;exact(show ObjOk X.prog X.w H s.heap c (.dK kvs) from ok.2).stay (fun _ _ _ q=>q) (fun d q=>by rw[aE (no d _ q)];exact q) fun d l q=>by rw[aE (nt d l q)];exact q
  ·rw[aE ec]at e;exact(I.hok c ob e).stay (fun _ _ _ q=>q) (fun d q=>by rw[aE (no d _ q)];exact q) fun d l q=>by rw[aE (nt d l q)];exact q
noncomputable def Qw(a:Addr)(o:Obj)(kvs:List (Key×V))(D:Ends):Ends:=
 ⟨fun σ H=>H a=some (.frz o (.dK kvs))/\D.nx σ (upd H a (.dK kvs)),fun v H=>H a=some (.frz o (.dK kvs))/\D.rt v (upd H a (.dK kvs)),fun σ H=>H a=some (.frz o (.dK kvs))/\D.bk σ (upd H a (.dK kvs)),fun σ H=>H a=some (.frz o (.dK kvs))/\D.ct σ (upd H a (.dK kvs))⟩
def FZ(t:TS):TS:=fun D σ H=>∃a kvs,H a=some (.dK kvs)/\∀o,t (Qw a o kvs D) σ (upd H a (.frz o (.dK kvs)))
theorem Bb{X:Cx}{st:Stmt}{t:TS}(h:PS X st t):PS X st (FZ t):=by
 rintro pr s σ H D I ⟨a,kvs,ha,k⟩;obtain⟨z,nm,vs,r,o,es,ep,g1,eC⟩:=(show ObjOk X.prog X.w H s.heap a (.dK kvs) from I.hok a _ ha)
 have h0:∀q u,X.H₀ a≠some (.frz q u):=fun q u e=>by
  have:=I.base.frzs a q u e;rw[ha]at this;cases this
 refine Iw (h pr s σ _ _ (xP I ha g1) (k o)) fun f s' sp=>?_
 cases f with
 |next=>obtain⟨σ',H',I',e,q⟩:=sp;exact⟨σ',_,gM I' e h0,q⟩
 |brk=>obtain⟨σ',H',I',e,q⟩:=sp;exact⟨σ',_,gM I' e h0,q⟩
 |cont=>obtain⟨σ',H',I',e,q⟩:=sp;exact⟨σ',_,gM I' e h0,q⟩
 |ret u=>obtain⟨v,σ',H',I',rv,e,q⟩:=sp;exact⟨v,σ',_,gM I' e h0,rv,q⟩
end NX
namespace PV
open PySem PySem.Spec PyProof.Rows L2 NX
section
variable{K:W.Frag}{G H:Hp}{es:PV.Env}{vs:L2.St}{fp:List Addr}
theorem Rel.asD{i:Nat}{p:Addr}{d:D}(q:Rel K G H es vs fp)(e:es[i]?=some (some (.pin p .d,d))):vs[i]?=some (some (.ref p))/\∃fq,Rel K G H (es.set i (some (.d,d))) vs fq/\Step G H fp G H fq:=by
 obtain⟨v,fq,ev,g,st,J6⟩:=q.out e;obtain⟨y,ys,e0,v',a,b,e1,e2,r1,r2⟩:=g.rep;cases e0;cases e1;rw[RepO]at r1;obtain⟨ep,r1⟩:=r1;subst ep;have g2:Rel K G H (some (.d,d)::es.set i none) (some (.ref p)::vs) fq:=⟨⟨_,_,rfl,_,a,b,rfl,e2,r1,r2⟩,g.nd,g.gn,g.gh⟩
 obtain⟨fz,g3,IK⟩:=g2.back (i:=i) (by rw[Uw];exact(List.getElem?_eq_some_iff.mp e).1) ev;rw[Vk]at g3;exact⟨ev,fz,g3,st.trans IK⟩
theorem Rel.asP{i:Nat}{p:Addr}{d:D}(q:Rel K G H es vs fp)(e:es[i]?=some (some (.d,d)))(hv:vs[i]?=some (some (.ref p))):∃fq,Rel K G H (es.set i (some (.pin p .d,d))) vs fq/\Step G H fp G H fq:=by
 obtain⟨v,fq,ev,g,st,J6⟩:=q.out e;rw[hv]at ev;cases ev;obtain⟨y,ys,e0,v',a,b,e1,e2,r1,r2⟩:=g.rep;cases e0;cases e1;have g2:Rel K G H (some (.pin p .d,d)::es.set i none) (some (.ref p)::vs) fq:=⟨⟨_,_,rfl,_,a,b,rfl,e2,by rw[RepO];exact⟨rfl,r1⟩,r2⟩,g.nd,g.gn,g.gh⟩
 obtain⟨fz,g3,IK⟩:=g2.back (i:=i) (by rw[Uw];exact(List.getElem?_eq_some_iff.mp e).1) hv;rw[Vk]at g3;exact⟨fz,g3,st.trans IK⟩
theorem Rel.chgP{i:Nat}{pp:Addr}{tk:Bool}{ks ws:List D}(q:Rel K G H es vs fp)(e:es[i]?=some (some (.pin pp .d,.dct tk ks ws))):∃p xs u,vs[i]?=some (some (.ref p))/\H p=some u/\DictO u tk ks xs/\Reps K G ws xs/\
  ∀u' JM JK MD,DictO u' tk JM JK->Reps K G MD JK->∃fq,Rel K G (upd H p u') (es.set i (some (.pin pp .d,.dct tk JM MD))) vs fq/\Step G H fp G (upd H p u') fq:=by
 have hi:i<es.length:=(List.getElem?_eq_some_iff.mp e).1;obtain⟨hv,fa,qa,sa⟩:=q.asD e;obtain⟨p,xs,u,ev,hp,dd,rs,cg⟩:=qa.chgD (i:=i) (by rw[List.getElem?_set_self hi]);rw[hv]at ev;cases ev;refine⟨pp,xs,u,hv,hp,dd,rs,fun u' JM JK MD d' r'=>?_⟩;obtain⟨fb,qb,sb⟩:=cg u' JM JK MD d' r';rw[Vk]at qb;obtain⟨fc,qc,sc⟩:=qb.asP (i:=i) (by rw[List.getElem?_set_self hi]) hv;rw[Vk]at qc;exact⟨fc,qc,sa.trans (sb.trans sc)⟩
end
noncomputable def sPutP(i:Nat)(fk fv:FX):FS:=fun env=>(fv env).bind fun p=>(fk p.2).bind fun q=>match p.2[i]?,q.2[i]? with
 |some (some _),some (some (.pin pp .d,.dct tk ks vs))=>if eE tk q.1.2&&decide (ks.length<sizeLine) then .ok (.nx (q.2.set i (some (.pin pp .d,.dct tk (pS ks vs q.1.2 p.1.2).1 (pS ks vs q.1.2 p.1.2).2)))) else .bad
 |_,_=>.bad
section
variable{md:Mode}{X:Cx}
theorem Bc{i:Nat}{o ix value:Expr}{fk fv:FX}{pos pos':Pos}(hu:X.A.units+1<cLine)(ho:PE X o (ud i))(hi:QE X ix fk)(hv:QE X value fv)(hs:swapsWith value (some (.Subscript o ix pos')) pos.line X.env=pure false:=by rfl):
  QS (md:=md) X (.Assign [.Subscript o ix pos'] value pos) (sPutP i fk fv):=eL (Al hu ho hi hv hs) fun Dd σ H Ip=>by
 obtain⟨G,env,fp,rel,k⟩:=Ip;unfold sPutP at k;match q1:fv env,k with
 | .ok (r1,H0),k=>
  have k:OutOk X.K G H fp Dd ((fk H0).bind fun q=>match H0[i]?,q.2[i]? with
   |some (some _),some (some (.pin pp .d,.dct tk ks vs))=>if eE tk q.1.2&&decide (ks.length<sizeLine) then .ok (.nx (q.2.set i (some (.pin pp .d,.dct tk (pS ks vs q.1.2 r1.2).1 (pS ks vs q.1.2 r1.2).2)))) else .bad
   |_,_=>.bad):=k
  match q2:fk H0,k with
  | .ok (r2,Il),k=>
   have k:OutOk X.K G H fp Dd (match H0[i]?,Il[i]? with
    |some (some _),some (some (.pin pp .d,.dct tk ks vs))=>if eE tk r2.2&&decide (ks.length<sizeLine) then .ok (.nx (Il.set i (some (.pin pp .d,.dct tk (pS ks vs r2.2 r1.2).1 (pS ks vs r2.2 r1.2).2)))) else .bad
    |_,_=>.bad):=k
   split at k
   ·rename_i rr pp tk ks ws h1 h2;split at k
    ·rename_i hc;rw[TM,TQ]at hc;refine⟨G,env,fp,r1,H0,rel,q1,fun y H1 G1 IA Iu Ib=>?_⟩;obtain⟨G2,b,ry,Ia,Ii⟩:=Ib.freeze;obtain⟨v0,Py,_⟩:=Ia.view h1;refine⟨v0,Py,G2,H0,b,r2,Il,Ia,q2,fun z H3 G3 JE IK IH=>?_⟩;obtain⟨G4,b4,rz,Jk,JB⟩:=IH.freeze;obtain⟨p,xs,u,ep,hp,dd,rs,cg⟩:=Jk.chgP h2;rw[Py]at ep;cases ep;have Rc:Rep X.K G4 r1.2 y:=Rep.mono (IK.gg.trans JB.gg) ry;cases tk with
     |true=>
      obtain⟨kvs,eu,ek,ex,LC⟩:=dd;subst eu;subst ex;have hk:=hc.1;unfold eE at hk;rw[TF rfl,UN]at hk;obtain⟨kk,hk⟩:=hk;obtain⟨pz,ez,gz,dz⟩:=cR hk rz;subst ez;obtain⟨t1,t2⟩:=oz (K:=X.K) (G:=G4) kT y0 (k:=kk) rs Rc;have ek:ks=kvs.map fun kv=>kT kv.1:=ek
      rw[<-ek,<-dz]at t1 t2;have hfk:∀key∈kk,sU key:=by
       cases hd:r2.2 with
       |tup ds=>
        rw[hd]at hk rz;obtain⟨_,JK,_,_,Ko⟩:=uU rz;exact vq hk Ko
       |_=>rw[hd]at hk;cases hk
      obtain⟨fq,JP,Ku⟩:=cg (.dT (jN kvs kk y)) _ _ _ ⟨jN kvs kk y,rfl,t1.symm,rfl,qZ (P:=fun ks=>∀k∈ks,sU k) LC hfk⟩ t2;have hlen:kvs.length<sizeLine:=by have:=hc.2;rw[ek,Tt]at this;exact this
      exact⟨p,_,rfl,DPut.t hp (Jk.gh _ _ gz) hlen,k _ _ G4 fq (Iu.trans (Ii.trans (IK.trans (JB.trans Ku)))) JP⟩
     |false=>
      obtain⟨kvs,eu,ek,ex,LC⟩:=dd;subst eu;subst ex;have hk:=hc.1;unfold eE at hk;rw[TJ Tz,UN]at hk;obtain⟨kk,hk⟩:=hk;obtain⟨ez,dz⟩:=gK hk rz;subst ez;obtain⟨t1,t2⟩:=oz (K:=X.K) (G:=G4) kD vn (k:=kk) rs Rc;rw[<-ek,<-dz]at t1 t2;obtain⟨fq,JP,Ku⟩:=cg (.dK (jN kvs kk y)) _ _ _ ⟨jN kvs kk y,rfl,t1.symm,rfl,qZ (P:=sU) LC (vp hk rz)⟩ t2;have hlen:kvs.length<sizeLine:=by have:=hc.2;rw[ek,Tt]at this;exact this
      exact⟨p,_,rfl,DPut.k hp hlen,k _ _ G4 fq (Iu.trans (Ii.trans (IK.trans (JB.trans Ku)))) JP⟩
    ·exact k.elim
   ·exact k.elim
end
def cleanE(i:Nat)(env:PV.Env):Bool:=(env.set i none).all fun r=>match r with
 |some r=>aQ r.1 r.2
 |none=>true
def xV(i:Nat)(p:Addr)(env:PV.Env):Bool:=match env[i]? with
 |some (some (.pin q .f,_))=>decide (q=p)
 |_=>false
noncomputable def tu(i:Nat)(p:Addr)(d:D):Out->Res Out
 | .nx env=>if xV i p env&&cleanE i env then .ok (.nx (env.set i (some (.pin p .d,d)))) else .bad
 | .rt (.t [o,.pin q .f],.tup [r,_])=>if decide (q=p)&&aQ o r then .ok (.rt (.t [o,.pin p .d],.tup [r,d])) else .bad
 |_=>.bad
def Bd(i:Nat)(a:FG)(g:FS):FS:=fun env=>match env[i]? with
 |some (some (.pin p .d,.dct false ks vs))=>(d6 a g ks (env.set i (some (.pin p .f,.dct false ks vs)))).bind (tu i p (.dct false ks vs))
 |_=>.bad
def off(G:Hp)(p:Addr):Hp:=fun z=>if z=p then none else G z
theorem oM{K:W.Frag}{G H G' H':Hp}{fp IA Ie:List Addr}{p:Addr}{kvs:List (Key×V)}{o:Obj}{es:PV.Env}{σ:L2.St}{i:Nat}{d':D}{vs:List D}(gp:G p=none)(pf:p∈fp)(f1:∀z∈IA,z∈fp)
  (st:Step (upd G p (.frz o (.dK kvs))) (upd H p (.frz o (.dK kvs))) IA G' H' Ie) (rel:Rel K G' H' es σ Ie) (hi:es[i]?=some (some (.pin p .f,d'))) (cl:cleanE i es=true) (hf:∀kv∈kvs,sU kv.1) (rs:Reps K G vs (kvs.map (·.2))):
  H' p=some (.frz o (.dK kvs))/\∃G2 fz,Step G H fp G2 (upd H' p (.dK kvs)) fz/\Rel K G2 (upd H' p (.dK kvs)) (es.set i (some (.pin p .d,.dct false (kvs.map fun kv=>kD kv.1) vs))) σ fz:=by
 have R9:G' p=some (.frz o (.dK kvs)):=st.gg p _ aV;refine⟨rel.gh p _ R9,?_⟩;obtain⟨v,fq,ev,g,Iu,_⟩:=rel.out hi;have Ii:=st.trans Iu;obtain⟨y,ys,e0,v',a,b,e1,e2,r1,r2⟩:=g.rep;cases e0;cases e1;rw[RepO]at r1;obtain⟨ep,r1⟩:=r1;obtain⟨_,ea⟩:=fS.mp r1;subst ea;subst ep;have e2:fq=b:=e2;subst e2;have np:∀z∈fq,z≠p:=fun z hz e=>by
  have:=g.gn z hz;rw[e,R9]at this;cases this
 have Sa:(off G' p) p=none:=TF rfl;have Qx:∀z,z≠p->(off G' p) z=G' z:=fun z h=>TJ h
 have gg:Same G (off G' p):=fun z u e=>by
  have hz:z≠p:=fun h=>by rw[h,gp]at e;cases e
  rw[Qx z hz];exact st.gg z u (by rw[aE hz];exact e)
 have rc:RepE K (off G' p) H' (es.set i none) σ fq:=by
  refine RepE.clean (fun z u t e=>?_) (fun r hr=>?_) r2
  ·have hz:z≠p:=fun h=>by rw[h,R9]at e;cases e;cases t
   rw[Qx z hz];exact e
  ·have:=T8.mp cl _ hr;exact this
 have Ia:Rel K (off G' p) (upd H' p (.dK kvs)) (some (.pin p .d,.dct false (kvs.map fun kv=>kD kv.1) vs)::es.set i none) (some (.ref p)::σ) (p::fq):=by
  refine⟨⟨some (.ref p),σ,rfl,.ref p,[p],fq,rfl,rfl,?_,rc.step (.refl _) fun z hz=>aE (np z hz)⟩,Ui.mpr ⟨fun h=>np p h rfl,g.nd⟩,fun z hz=>?_,fun z u e=>?_⟩
  ·rw[RepO];refine⟨rfl,?_⟩;rw[RepO];exact⟨p,kvs.map (·.2),.dK kvs,rfl,aV,⟨kvs,rfl,rfl,rfl,hf⟩,rfl,Reps.mono gg rs⟩
  ·rcases TK.mp hz with h|h
   ·rw[h];exact Sa
   ·rw[Qx z (np z h)];exact g.gn z h
  ·by_cases hz:z=p
   ·rw[hz,Sa]at e;cases e
   ·rw[Qx z hz]at e;rw[aE hz];exact rel.gh z u e
 have stp:Step G H fp (off G' p) (upd H' p (.dK kvs)) (p::fq):=by
  refine⟨gg,fun z u e n=>?_,fun z hz=>?_,fun z u e=>?_,fun z u e=>?_⟩
  ·have hz:z≠p:=fun h=>n (h▸pf)
   rw[aE hz];exact Ii.keep z u (by rw[aE hz];exact e) fun h=>n (f1 z h)
  ·rcases TK.mp hz with h|h
   ·exact .inl (h▸pf)
   ·rcases Ii.fpn z h with h2|h2
    ·exact .inl (f1 z h2)
    ·rw[aE (np z h)]at h2;exact .inr h2
  ·by_cases hz:z=p
   ·rw[hz,Sa]at e;cases e
   ·rw[Qx z hz]at e;rcases Ii.gnew z u e with h|h|h|⟨t,h⟩
    ·rw[aE hz]at h;exact .inl h
    ·exact .inr (.inl (f1 z h))
    ·rw[aE hz]at h;exact .inr (.inr (.inl h))
    ·rw[aE hz]at h;exact .inr (.inr (.inr ⟨t,h⟩))
  ·by_cases hz:z=p
   ·exact⟨_,by rw[hz,aV]⟩
   ·obtain⟨u',h⟩:=Ii.there z u (by rw[aE hz];exact e);exact⟨u',by rw[aE hz];exact h⟩
 obtain⟨fz,g3,IK⟩:=Ia.back (i:=i) (by rw[Uw];exact(List.getElem?_eq_some_iff.mp hi).1) ev;rw[Vk]at g3;exact⟨_,fz,stp.trans IK,g3⟩
theorem xW{K:W.Frag}{G H:Hp}{fp f1 b0:List Addr}{p:Addr}{kvs:List (Key×V)}{o:Obj}{i:Nat}{vs:List D}{D0:Ends}{r:Res Out}(gp:G p=none)(Ri:Step G H fp G H (p::b0))(Rj:∀z∈f1,z∈p::b0)(hf:∀kv∈kvs,sU kv.1)(rs:Reps K G vs (kvs.map (·.2)))
  (k:OutOk (md:=.mut) K G H fp D0 (r.bind (tu i p (.dct false (kvs.map fun kv=>kD kv.1) vs)))):OutOk (md:=.mut) K (upd G p (.frz o (.dK kvs))) (upd H p (.frz o (.dK kvs))) f1 (Qw p o kvs D0) r:=by
 cases r with
 |bad=>exact k
 |exc c=>exact k
 |ok out=>
  have k:OutOk (md:=.mut) K G H fp D0 (tu i p (.dct false (kvs.map fun kv=>kD kv.1) vs) out):=k;unfold tu at k;split at k
  ·rename_i e';split at k
   ·rename_i K0;rw[TM]at K0;obtain⟨h1,h2⟩:=K0;unfold xV at h1;split at h1
    ·rename_i q' d' hq';rw[TQ]at h1;subst h1;intro σ' H' G' Ie st rl;obtain⟨z,G2,fz,Ii,Sb⟩:=oM (G:=G) (H:=H) (fp:=q'::b0) gp Ts Rj st rl hq' h2 hf rs;exact⟨z,k σ' _ G2 fz (Ri.trans Ii) Sb⟩
    ·cases h1
   ·exact k.elim
  ·rename_i o' q' r d0 _;split at k
   ·rename_i K0;rw[TM,TQ]at K0;obtain⟨h1,h2⟩:=K0;subst h1;rintro v H' G' Ie st ⟨o2,d2,p2,c2,d02,er,rl⟩;cases er;obtain⟨z,G2,fz,Ii,Sb⟩:=oM (G:=G) (H:=H) (fp:=q'::b0) (i:=1) gp Ts Rj st rl rfl (by show(List.all [some (o',r),none] _)=true;simp only[Vz,List.all_nil,h2,UG]) hf rs;exact⟨z,k v _ G2 fz (Ri.trans Ii) ⟨_,_,_,_,_,rfl,Sb⟩⟩
   ·exact k.elim
  ·exact k.elim
theorem vM{K:W.Frag}{G:Hp}{a:Addr}{o:Obj}{kvs:List (Key×V)}(h:G a=some (.frz o (.dK kvs)))(hf:∀kv∈kvs,sU kv.1):Walk K G (Qv o kvs.length a) (kvs.map fun kv=>kD kv.1):=by
 intro G' H' es vs fp gg rel i;have h':H' a=some (.frz o (.dK kvs)):=rel.gh _ _ (gg _ _ h);refine⟨fun d hd=>?_,fun e=>⟨kvs,h',rfl,by rw[Tt]at e;lia⟩⟩;rw[List.getElem?_map]at hd;cases hk:kvs[i]? with
 |none=>rw[hk]at hd;cases hd
 |some kv=>
  rw[hk]at hd;cases hd;refine⟨⟨kvs,kv.1,kv.2,h',rfl,hk⟩,fun y H2 ⟨e,hy⟩=>?_⟩;subst e;have:=hy kvs kv.1 kv.2 h' hk;subst this;exact⟨G',vm (hf _ (T6 hk)),rel,.refl⟩
section
variable{X:Cx}
theorem Be{i:Nat}{tg iter:Expr}{body:List Stmt}{a:FG}{g:FS}{pos:Pos}(hp:PassesOwn (model X.prog X.w) X.A X.env X.xe)(hc:X.calm=true)(hn:PE X iter (ud i))(hg:QG X tg a)(hb:L9 (md:=.mut) X body g)(hs:∀x,foldedSetIterable iter X.env x=pure x:=by intro _;rfl):
  QS (md:=.mut) X (.For tg iter body [] pos) (Bd i a g):=
 eL (Bb (yH hp hc (Ba hn) hg hb hs)) fun D0 σ H Ip=>by
  obtain⟨G,env,fp,rel,k⟩:=Ip;unfold Bd at k;split at k
  ·rename_i p ks vs hi;obtain⟨v,fq,ev,g1,Ri,_⟩:=rel.out hi;obtain⟨y,ys,e0,v',a0,b0,e1,e2,r1,r2⟩:=g1.rep;cases e0;cases e1;rw[RepO]at r1;obtain⟨ep,r1⟩:=r1;subst ep;rw[RepO]at r1;obtain⟨p',xs,o0,ev1,hH,dd,ea,rs⟩:=r1;cases ev1;subst ea;subst e2;obtain⟨kvs,eo,ek,ex,hf⟩:=(show ∃kvs:List (Key×V),o0=.dK kvs/\ks=kvs.map (fun kv=>kD kv.1)/\xs=kvs.map (·.2)/\∀kv∈kvs,sU kv.1 from dd)
   subst eo ex ek;have nd:=Ui.mp (show(p::b0).Nodup from g1.nd);have gp:G p=none:=g1.gn p Ts;have SX:∀z∈b0,z≠p:=fun z hz e=>nd.1 (e▸hz)
   refine⟨p,kvs,hH,fun o=>?_⟩;have SY:Same G (upd G p (.frz o (.dK kvs))):=fun z u e=>by rw[aE (a9 e gp)];exact e
   have relA:Rel X.K (upd G p (.frz o (.dK kvs))) (upd H p (.frz o (.dK kvs))) (some (.pin p .f,.dct false (kvs.map fun kv=>kD kv.1) vs)::env.set i none) (some (.ref p)::σ) b0:=by
    refine⟨⟨_,_,rfl,.ref p,[],b0,rfl,rfl,?_,r2.step SY fun z hz=>aE (SX z hz)⟩,nd.2,fun z hz=>?_,fun z u e=>?_⟩
    ·rw[RepO];refine⟨rfl,fS.mpr ⟨?_,rfl⟩⟩;rw[Rep];exact⟨p,kvs.map (·.2),.dK kvs,rfl,.inr ⟨o,aV⟩,⟨kvs,rfl,rfl,rfl,hf⟩,Reps.mono SY rs⟩
    ·rw[aE (SX z hz)];exact g1.gn z (Tx _ hz)
    ·by_cases hz:z=p
     ·subst hz;rw[aV]at e ⊢;exact e
     ·rw[aE hz]at e ⊢;exact g1.gh z u e
   obtain⟨f1,Ib,Iu⟩:=relA.back (i:=i) (by rw[Uw];exact(List.getElem?_eq_some_iff.mp hi).1) ev;rw[Vk]at Ib;have Rj:∀z∈f1,z∈p::b0:=fun z hz=>by
    rcases Iu.fpn z hz with h|h
    ·exact Tx _ h
    ·exfalso;obtain⟨u,hu⟩:=Ib.rep.live z hz;rw[h]at hu;cases hu
   refine⟨.ref p,ev,p,o,kvs,rfl,aV,?_⟩;have k1:=xW (o:=o) (G:=G) (H:=H) (fp:=fp) gp Ri Rj hf rs k;have wk:Walk X.K (upd G p (.frz o (.dK kvs))) (Qv o kvs.length p) (kvs.map fun kv=>kD kv.1):=vM aV hf;generalize (kvs.map fun kv=>kD kv.1)=ds at k1 wk Ib;refine⟨fun j m σ' H'=>m=ds.length-j/\j<=ds.length/\∃G' env' Ie,Same (upd G p (.frz o (.dK kvs))) G'/\Rel X.K G' H' env' σ' Ie/\OutOk (md:=.mut) X.K G' H' Ie (Qw p o kvs D0) (d6 a g (ds.drop j) env'),⟨_,rfl,Ug _,_,_,f1,.refl _,Ib,k1⟩,?_⟩;rintro j m σ2 H2 ⟨rfl,hj,G2,Il,IL,gg,Ia,k2⟩;obtain⟨w1,w2⟩:=wk G2 H2 _ _ _ gg Ia j;by_cases IQ:j<ds.length
   ·have hd:ds[j]?=some ds[j]:=List.getElem?_eq_getElem IQ;obtain⟨go,yl⟩:=w1 _ hd;rw[UZ IQ]at k2;refine .inr ⟨go,fun σ' H'=>∃G' env' Ie,Same (upd G p (.frz o (.dK kvs))) G'/\Rel X.K G' H' env' σ' Ie/\OutOk (md:=.mut) X.K G' H' Ie (Qw p o kvs D0) (d6 a g (ds.drop (j+1)) env'),fun σ' H' z=>⟨ds.length-(j+1),by lia,rfl,IQ,z⟩,fun x H3 y=>?_⟩;obtain⟨G3,rx,IH,IK⟩:=yl x H3 y;unfold d6 at k2;match q3:a ds[j] Il,k2 with
    | .ok IX,k2=>
     refine⟨G3,Il,IL,ds[j],IX,IH,rx,q3,fun σ4 G4 OI JB Jk=>⟨G4,IX,OI,Jk,?_⟩⟩;have k3:OutOk (md:=.mut) X.K G2 H2 IL (Qw p o kvs D0) ((g IX).bind fun o=>match o with | .nx e=>d6 a g (ds.drop (j+1)) e | .ct e=>d6 a g (ds.drop (j+1)) e | .bk e=>.ok (.nx e) | .rt r=>.ok (.rt r)):=k2;match q4:g IX,k3 with
     | .ok (.nx e),k3=>exact fun σ' H' G' Ie st rel=>⟨G',e,Ie,gg.trans (IK.gg.trans (JB.gg.trans st.gg)),rel,OutOk.after (IK.trans (JB.trans st)) k3⟩
     | .ok (.ct e),k3=>exact fun σ' H' G' Ie st rel=>⟨G',e,Ie,gg.trans (IK.gg.trans (JB.gg.trans st.gg)),rel,OutOk.after (IK.trans (JB.trans st)) k3⟩
     | .ok (.bk e),k3=>exact fun σ' H' G' Ie st rel=>k3 σ' H' G' Ie (IK.trans (JB.trans st)) rel
     | .ok (.rt r),k3=>exact fun v H' G' Ie st rel=>k3 v H' G' Ie (IK.trans (JB.trans st)) rel
   ·have e:j=ds.length:=by lia
    subst e;rw[W6]at k2;exact .inl ⟨w2 rfl,k2 σ2 H2 G2 IL .refl Ia⟩
  ·exact k.elim
end
end PV
namespace NX
open PySem PySem.Spec PyProof.Rows L2
section
variable{X:Cx}
def Bf:V->List V->Hp->VK->Prop:=fun x vs H Q=>∃l xs y k,x=.ref l/\vs=[.int k,y]/\H l=some (.lst xs)/\xs.length<sizeLine/\(0<=k/\k.toNat<=xs.length)/\Q .non (upd H l (.lst (xs.take k.toNat++y::xs.drop k.toNat)))
theorem jk:∀{vs:List V}{us:List Value},Vals vs us->∀k:Nat,Vals (vs.take k) (us.take k)/\Vals (vs.drop k) (us.drop k)
 |_,_,.nil,k=>⟨by rw[X7,X7];exact .nil,by rw[List.drop_nil,List.drop_nil];exact .nil⟩
 |_,_,.cons h r,0=>⟨.nil,.cons h r⟩
 |_,_,.cons h r,k+1=>⟨.cons h (jk r k).1,(jk r k).2⟩
theorem vN:MtM X "list.insert" Bf:=by
 intro pr s σ H x vs v us Q I rx rv h;obtain⟨l,xs,y,k,rfl,rfl,hH,hz,hk,q⟩:=h;cases rx;obtain⟨u1,u,rfl,r1,ru⟩:=rv.two;obtain⟨t,rfl⟩:=r1;obtain⟨z,Ic,n,r,hl,e⟩:=I.lstM hH;have Sd:Ic.length=xs.length:=by have:=r.length;lia
 have hf:¬ (!Builtin.List.listFitsIndex k)=true:=by
  have P6:k.toNat<9223372036854775808:=X0 hk.2 (TL hz (by rw[UB];decide));have:Builtin.List.listFitsIndex k=true:=by
   unfold Builtin.List.listFitsIndex;rw[TM,TQ,TQ];lia
  rw[this];exact Tz
 have hsz:Ic.toArray.size<=sizeLine:=by rw[Tu];lia
 refine Yg F.slot_list_insert ⟨_,e,rfl⟩ F.entry_list_insert (F.args_list_insert_3 _ _ _) (PySem.AutoSeq1.list_insert_list_int_val_1 l Ic.toArray n k t u hf hsz) ⟨e,?_⟩;obtain⟨t1,t2⟩:=jk r k.toNat
 refine⟨.non,_,I.lset (its':=Ic.take k.toNat++u::Ic.drop k.toNat) hH e ?_ (t1.append (.cons ru t2)) ?_,rfl,q⟩
 ·dsimp only;rw[TJ (by lia),Tu,V4 (by lia)];apply Array.ext';simp;exact UU (by rw[UK];lia)
 ·rw[Ua,TN,Ud,UK];lia
end
end NX
namespace PV
open PySem PySem.Spec PyProof.Rows L2 NX
noncomputable def DI(i:Nat)(f g:FX):FX:=fun env=>if pO env i then(f env).bind fun p=>(g p.2).bind fun q=>match q.2[i]?,p.1.2 with
 |some (some (.l .f,.lst ds)),.int k=>if ds.length<sizeLine/\0<=k/\k.toNat<=ds.length then .ok ((.f,.non),q.2.set i (some (.l .f,.lst (ds.take k.toNat++q.1.2::ds.drop k.toNat)))) else .bad
 |_,_=>.bad
 else .bad
section
variable{X:Cx}
theorem vO{i:Nat}{o a e:Expr}{f g:FX}{apos Iy:Pos}(ho:PE X o (ud i))(ha:QE X a f)(he:QE X e g)
  (Jq:attributeBase o "insert" X.env (eval o X.env)=eval o X.env:=by rfl)
  (Kc:((backTo Iy (starEach [a,e] X.env)).all (fun x=>!x.1)&&(backToKw Iy (keywordEach [] X.env)).all (fun x=>x.1.isSome)&&decide ([a,e].length+([]:List Keyword).length+(if([]:List Keyword).isEmpty then 0 else 1)<30))=true:=by rfl)
  (Jr:(apos.endLine==Iy.line)=true:=by rfl) (hs:starEach [a,e] X.env=(false,eval a X.env)::starEach [e] X.env:=by rfl) (L3:starEach [e] X.env=(false,eval e X.env)::starEach [] X.env:=by rfl) (IV:(backTo Iy (starEach [e] X.env)).any (·.1)=false:=by rfl):
  QE X (.Call (.Attribute o "insert" apos) [a,e] [] Iy) (DI i f g):=by
 refine bE (xk V2 PySem.F.slot_list_insert PySem.F.type_list_insert vN ho (av ha (av he aM L3) hs) Jq Kc Jr hs IV) fun σ H Q IB=>?_
 obtain⟨G,env,fp,r,env',rel,e,k⟩:=IB;unfold DI at e;split at e
 ·rename_i Mt;obtain⟨v,ev,ty⟩:=qW rel Mt;obtain⟨⟨r1,H0⟩,e1,e⟩:=au e;obtain⟨⟨r2,Il⟩,e2,e⟩:=au e;dsimp only at e e2;split at e
  ·rename_i ds kk Na Le;split at e
   ·rename_i hl;cases e;refine⟨v,ev,ty,G,env,fp,[r1.2,r2.2],Il,rel,by show(f env).bind _=_;rw[e1];show((g H0).bind _).bind _=_;rw[e2];rfl,fun vs H1 G1 IA Iu Ib rs=>?_⟩;rw[Reps]at rs;obtain⟨y1,ys1,eys1,S1,rs⟩:=rs;rw[Reps]at rs;obtain⟨y,ys,RU,ry,rn⟩:=rs;rw[Reps]at rn;subst rn RU;rw[Le]at S1;have hz:=bH S1;obtain⟨p,xs,ep,hp,M4,cg⟩:=Ib.chg (ds':=ds.take kk.toNat++r2.2::ds.drop kk.toNat) Na;rw[ev]at ep;cases ep;obtain⟨fq,Ia,Ii⟩:=cg (xs.take kk.toNat++y::xs.drop kk.toNat) ((M4.take _).app (.cons ry (M4.drop _)));exact⟨p,xs,y,kk,rfl,by rw[eys1,hz],hp,by rw[M4.length];exact hl.1,⟨hl.2.1,by rw[M4.length];exact hl.2.2⟩,k _ _ G1 fq (Iu.trans Ii) (Ia.push mw)⟩
   ·cases e
  ·cases e
 ·cases e
end
end PV
namespace LW
open PySem L2 NX PV
abbrev tw(f:FX):FI:=JO (C2 f) (JO (iJ f) (iK f))
def kF:FS:=(eY (aA cW (aq (aF (.int 1))) (aq (AF (dw (tw (aA Ih (aw 0) (aq (aF (.int 1))))) [none,none,none] (ng 3 (bg (aH 0) (bg (aH 1) (bg (aH 2) fT)))) fH (aX maxD (ag (aw 0) (ag (aw 2) aG)))) (aF (.int 0))))))
def cx:List D->Res R:=fBody 1 0 kF
def oN:FS:=(eY (dw (tw (aA Ih (aw 0) (aq (aF (.int 1))))) [none,none,none,some 1,some 2] (ng 3 (bg (aH 0) (bg (aH 1) (bg (aH 2) fT)))) (yU (IU (cj JW (aw 0) (aw 3))) (IU (cj JW (aw 1) (aw 4)))) (aR 2)))
def eR:List D->Res R:=fBody 3 0 oN
def fY:FS:=(eY (aX cV (ag (aq (dw (tw (aA Ih (aw 0) (aq (aF (.int 1))))) [none] (aH 0) fH (aA Ih (aw 0) (aq (aF (.int 0)))))) aG)))
def bR:List D->Res R:=fBody 1 0 fY
noncomputable def rE:FS:=(sSeq (b5 3 (Dt oC (aq (aA Ih (aw 0) (aq (aF (.int 0))))) (ag (aw 2) aG)))
  (eY (aX C7 (ag (aq (dw (tq (ag (aq (aR 1)) (ag (aq (aA Ih (aw 0) (aq (aF (.int 1))))) aG))) [none,none,some 3] (ng 2 (bg (aH 0) (bg (aH 1) fT))) fH (aA Qf (aw 0) (aq (aA Ih (aq (aA Ih (aw 1) (aq (aF (.int 1))))) (aw 2)))))) aG))))
def gN:List D->Res R:=fBody 3 1 rE
noncomputable def vP:FS:=(sSeq (Jt (Av (IU (dM gN (ag (aw 0) (ag (aw 1) (ag (aw 2) aG))))))
  (eY (aF .non))
  cu)
  (sSeq (b5 3 (Dt oC (aq (aA Ih (aw 0) (aq (aF (.int 0))))) (ag (aw 2) aG)))
  (eY (aX cV (ag (aq (dw (tq (ag (aq (aR 1)) (ag (aq (aA Ih (aw 0) (aq (aF (.int 1))))) aG))) [none,none,some 3] (ng 2 (bg (aH 0) (bg (aH 1) fT))) fH (aA cW (aq (aA wU (aw 0) (aq (aA Ih (aq (aA Ih (aw 1) (aq (aF (.int 1))))) (aw 2))))) (aq (aA Ih (aq (aA Ih (aw 1) (aq (aF (.int 2))))) (aw 2)))))) aG)))))
def jl:List D->Res R:=fBody 3 1 vP
noncomputable def dS:FS:=(Jt (yU (IU (cj Lg (aw 4) (aw 1))) (IU (cj JW (aq (aA Ih (aq (aA Md (aw 0) (aw 4))) (aq (aF (.int 0))))) (aw 2))))
  (kC 0 (eW (az (aF (.str [111,110,101])) (az (aA Ih (aq (aA Md (aw 0) (aw 4))) (aq (aF (.int 1)))) (az (aR 3) bC)))))
  cu)
def iS:FS:=(Bd 0 (aH 4)
  dS)
noncomputable def oO:FS:=(sSeq (Jt (IU (cj AS (aw 1) (aw 0)))
  (sPutP 0 (aR 1) (eW (az (aR 2) (az (aR 3) bC))))
  (Jt (IU (cj Lg (aq (aA Ih (aq (aA Md (aw 0) (aw 1))) (aq (aF (.int 0))))) (aw 2)))
  (kC 0 (eW (az (aF (.str [116,119,111])) (az (aA Ih (aq (aA Md (aw 0) (aw 1))) (aq (aF (.int 1)))) (az (aR 3) bC)))))
  cu))
  (kC 0 (aF .non)))
def y8:FS:=(sSeq iS
  oO)
def kG:Addr->List D->Res R:=lJ 4 1 (.d) y8
def cy:FS:=(sSeq (b5 10 (eFunW (.d) kG 2 (ag (aw 2) (ag (aw 9) (ag (aw 7) (ag (aq (aA cW (aw 5) (aq (eW (az (aR 6) bC))))) aG))))))
  (Jt (IU (cj isnO (aw 10) (aq (aF .non))))
  (kC 2 (aR 10))
  cu))
def fe:FS:=(pM (tw (aR 8)) (aH 9)
  cy)
noncomputable def cz:FS:=(sSeq (b5 7 (dM jl (ag (aw 1) (ag (aw 4) (ag (aw 6) aG)))))
  (sSeq (b5 8 (dM eR (ag (aw 0) (ag (aw 3) (ag (aw 6) aG)))))
  (sSeq (Jt (yU (IU (cj Nm (aw 7) (aq (aF .non)))) (IU (aA OJ (aq (aX fO (ag (aw 8) aG))) (aq (aF (.int 0))))))
  (kC 2 (eW (az (aF (.str [115,116,117,99,107])) (az (aR 5) (az (aR 6) bC)))))
  cu)
  (sSeq (Jt (yU (IU (cj isnO (aw 7) (aq (aF .non)))) (IU (cj JW (aq (aX fO (ag (aw 8) aG))) (aq (aF (.int 0))))))
  (kC 2 (eW (az (aF (.str [102,114,101,101])) (az (aR 5) (az (aR 6) bC)))))
  cu)
  fe))))
def ij:FS:=(pM (tw (aA Ih (aw 0) (aq (aF (.int 0))))) (aH 6)
  cz)
def jB:FS:=(kC 2 (aF .non))
def oP:FS:=(sSeq (b5 4 (aA Ih (aq (aA Md (aw 2) (aw 3))) (aq (aF (.int 0)))))
  (sSeq (b5 5 (aA Ih (aq (aA Md (aw 2) (aw 3))) (aq (aF (.int 1)))))
  (sSeq ij
  jB)))
def dB:Addr->List D->Res R:=fBodyJ 2 4 7 (.d) oP
noncomputable def eS:FS:=(sSeq (b5 4 (vK 2 (.d) dB 2 (ag (aw 0) (ag (aw 1) (ag (aw 2) (ag (aq (aA Ih (aq (aX vF (ag (aw 2) aG))) (aw 3))) aG))))))
  (sSeq (Jt (IU (cj isnO (aw 4) (aq (aF .non))))
  (eY (nY 4))
  cu)
  (b5 3 (aA cW (aw 3) (aq (aF (.int 1)))))))
def mG:FS:=(dt (IU (aA Lr (aw 3) (aq (aX fO (ag (aw 2) aG)))))
  eS 100000)
def oQ:FS:=(eY (eW (az (aF (.str [115,97,109,101])) (az (dw (c9 (aq (dM cx (ag (aw 0) aG)))) [none,some 2] (aH 0) fH (aA Ih (aq (aA Md (aw 1) (aw 0))) (aq (aF (.int 0))))) bC))))
noncomputable def y9:FS:=(sSeq (Jt (IU (cj Lg (aq (aA Ih (aw 0) (aq (aF (.int 0))))) (aq (aA Ih (aw 1) (aq (aF (.int 0)))))))
  uV
  cu)
  (sSeq (b5 2 (vD (aF (.int 0)) (eW (az (dM bR (ag (aw 1) aG)) (az (eW bC) bC)))))
  (sSeq (b5 3 (aF (.int 0)))
  (sSeq mG
  oQ))))
def lN:List D->Res R:=fBody 2 3 y9
def oR:FS:=(eY (cj JW (aq (aA Ih (aq (dM lN (ag (aw 0) (ag (aw 1) aG)))) (aq (aF (.int 0))))) (aq (aF (.str [115,97,109,101])))))
def dU:List D->Res R:=fBody 2 0 oR
noncomputable def d8:FS:=(sSeq (b5 4 (aA cW (aq (xJ (aw 2) oh (je (aR 3)))) (aq (xJ (aw 2) (je (aA cW (aw 3) (aq (aF (.int 1))))) oh))))
  (Jt (IU (dM dU (ag (aw 0) (ag (aq (eW (az (aA Ih (aw 1) (aq (aF (.int 0)))) (az (aR 4) bC)))) aG))))
  (b5 2 (aR 4))
  cu))
def kH:FS:=(pM (pU (ag (aq (aA wU (aq (aX fO (ag (aq (aA Ih (aw 1) (aq (aF (.int 1))))) aG))) (aq (aF (.int 1))))) (ag (aq (EO (aq (aF (.int 1))))) (ag (aq (EO (aq (aF (.int 1))))) aG)))) (aH 3)
  d8)
def jC:FS:=(eY (eW (az (aA Ih (aw 1) (aq (aF (.int 0)))) (az (aR 2) bC))))
def oS:FS:=(sSeq (Jt (Av (IU (dM dU (ag (aw 0) (ag (aw 1) aG)))))
  uV
  cu)
  (sSeq (b5 2 (aX pP (ag (aq (aA Ih (aw 1) (aq (aF (.int 1))))) aG)))
  (sSeq kH
  jC)))
def dW:List D->Res R:=fBody 2 3 oS
def g6:FS:=(sSeq (Jt (IU (aA Lr (aw 1) (aq (aX fO (ag (aw 0) aG)))))
  (eY (aA Ih (aw 0) (aw 1)))
  cu)
  (eY (aF (.int 0))))
def aJ:List D->Res R:=fBody 2 0 g6
noncomputable def jD:FS:=(sSeq (b5 2 (aA cW (aq (aA fI (aw 0) (aq (aF (.int 2147483647))))) (aq (aA i6 (aq (aF (.int 48271))) (aq (aA cW (aw 1) (aq (aF (.int 1)))))))))
  (sSeq (b5 2 (aA fI (aq (aA cW (aq (aA i6 (aw 2) (aw 2))) (aq (aA i6 (aq (aF (.int 69621))) (aw 1))))) (aq (aF (.int 2147483647)))))
  (eY (aA fI (aq (aA cW (aq (aA cW (aq (aA i6 (aw 2) (aw 2))) (aq (aA i6 (aq (aF (.int 16807))) (aw 1))))) (aq (aF (.int 1))))) (aq (aF (.int 2147483647)))))))
def aW:List D->Res R:=fBody 2 1 jD
noncomputable def de:FS:=(sSeq (b5 7 (xJ (aw 2) oh (je (aR 3))))
  (sSeq (xN 7 (aR 4) (aA fI (aq (aA cW (aq (aA Ih (aw 7) (aw 4))) (aw 6))) (aq (aF (.int 26)))))
  (sSeq (Jt (IU (cj JW (aq (aA fI (aq (aA dF (aw 0) (aq (aF (.int 64))))) (aq (aF (.int 4))))) (aq (aF (.int 1)))))
  (b5 7 (xJ (aw 2) oh (je (aA cW (aw 6) (aq (aF (.int 1)))))))
  cu)
  (jc (uZ 5 (FQ vH (aq (aF (.str []))) (ag (aq (dw (JO (jO 7) (JO (iJ (aR 7)) (iK (aR 7)))) [none,some 1] (aH 0) fH (aA Ih (aw 1) (aw 0)))) aG)))))))
def g7:FS:=(pM (c9 (aq (aF (.int 5)))) (aH 6)
  de)
def fZ:FS:=(sSeq (Jt (IU (cj Rf (aq (aF (.str [109,111,118,101,115]))) (aw 5)))
  (b5 5 (dw (JO (jO 5) (JO (iJ (aR 5)) (iK (aR 5)))) [none] (aH 0) fH (aA cW (aq (aF (.str [115]))) (aw 0))))
  cu)
  (eY (aX fW (ag (aw 5) aG))))
noncomputable def jE:FS:=(sSeq (b5 1 (aF (.str [97,98,99,100,101,102,103,104,105,106,107,108,109,110,111,112,113,114,115,116,117,118,119,120,121,122])))
  (sSeq (b5 2 (dw (c9 (aq (aF (.int 8)))) [none,some 0] (aH 0) fH (aA fI (aq (dM aW (ag (aw 1) (ag (aw 0) aG)))) (aq (aF (.int 26))))))
  (sSeq (b5 3 (aA cW (aq (aF (.int 1))) (aq (aA fI (aw 0) (aq (aF (.int 8)))))))
  (sSeq (b5 4 (aA fI (aq (aA dF (aw 0) (aq (aF (.int 8))))) (aw 3)))
  (sSeq (b5 5 (tX bC))
  (sSeq g7
  fZ))))))
def cX:List D->Res R:=fBody 1 7 jE
noncomputable def cN:FS:=(sSeq (Jt (IU (aA Lr (aw 5) (aq (aA Ih (aq (aA Ih (aw 6) (aq (aF (.int 1))))) (aw 3)))))
  (eY (aF .non))
  cu)
  (jc (uZ 4 (aA cW (aq (aA wU (aw 5) (aq (aA Ih (aq (aA Ih (aw 6) (aq (aF (.int 1))))) (aw 3))))) (aq (aA Ih (aq (aA Ih (aw 6) (aq (aF (.int 2))))) (aw 3)))))))
def fg:FS:=(pM (tq (ag (aq (aR 1)) (ag (aq (aA Ih (aw 0) (aq (aF (.int 1))))) aG))) (ng 2 (bg (aH 5) (bg (aH 6) fT)))
  cN)
def g8:FS:=(eY (aX cV (ag (aw 4) aG)))
def kI:FS:=(sSeq (b5 3 (Dt oC (aq (aA Ih (aw 0) (aq (aF (.int 0))))) (ag (aw 2) aG)))
  (sSeq (b5 4 (tX bC))
  (sSeq fg
  g8)))
def cS:List D->Res R:=fBody 3 4 kI
noncomputable def bW:FS:=(sSeq (b5 6 (dM cS (ag (aw 0) (ag (aq (aA Ih (aw 2) (aw 4))) (ag (aw 5) aG)))))
  (Jt (IU (cj isnO (aw 6) (aq (aF .non))))
  (sSeq (Jt (IU (cj AS (aw 6) (aw 2)))
  (sSeq (Jt (IU (cj JW (aq (aX fO (ag (aw 2) aG))) (aw 1)))
  (eY (aF .non))
  cu)
  (jc (uZ 2 (aR 6))))
  cu)
  (jc (uZ 3 (eW (az (aR 4) (az (aR 5) (az (FW pZ (aw 2) (ag (aw 6) aG)) bC)))))))
  cu))
def f6:FS:=(pM (tw (aA Ih (aw 0) (aq (aF (.int 0))))) (aH 5)
  bW)
def iT:FS:=(b5 4 (aA cW (aw 4) (aq (aF (.int 1)))))
def cE:FS:=(sSeq f6
  iT)
def d9:FS:=(dt (IU (aA Lr (aw 4) (aq (aX fO (ag (aw 2) aG)))))
  cE 100000)
def iU:FS:=(eY (eW (az (aX fW (ag (aw 3) aG)) (az (aR 2) bC))))
noncomputable def lO:FS:=(sSeq (b5 2 (tX (az (aX cV (ag (aq (dw (tw (aA Ih (aw 0) (aq (aF (.int 1))))) [none,none,none] (ng 3 (bg (aH 0) (bg (aH 1) (bg (aH 2) fT)))) fH (aR 0))) aG)) bC)))
  (sSeq (b5 3 (tX bC))
  (sSeq (b5 4 (aF (.int 0)))
  (sSeq d9
  iU))))
def ba:List D->Res R:=fBody 2 5 lO
def eF:FS:=(b5 3 (dM aW (ag (aq (aA cW (aw 4) (aw 3))) (ag (aw 2) aG))))
def iV:FS:=(pM (tw (FY (aw 0) (je (aA cW (aw 1) (aw 2))) (je (aA cW (aw 1) (aq (aF (.int 84))))) (je (aF (.int 6))))) (aH 4)
  eF)
def g9:FS:=(eY (nY 3))
def kJ:FS:=(sSeq (b5 3 (aA cW (aq (aF (.int 7))) (aw 2)))
  (sSeq iV
  g9))
def di:List D->Res R:=fBody 3 2 kJ
noncomputable def dX:FS:=(sSeq (b5 5 (dM aW (ag (aw 0) (ag (aw 4) aG))))
  (sSeq (b5 6 (aA wU (aq (aA fI (aw 5) (aq (aF (.int 5))))) (aq (aF (.int 2)))))
  (sSeq (b5 7 (aA dF (aq (aA fI (aq (aA dF (aw 5) (aq (aF (.int 8))))) (aq (aF (.int 4))))) (aq (aF (.int 3)))))
  (sSeq (jc (uZ 2 (aA cW (aq (aX maxD (ag (aq (aF (.int 0))) (ag (aq (aA wU (aq (aF (.int 0))) (aw 6))) aG)))) (aw 7))))
  (jc (uZ 3 (aA cW (aq (aX maxD (ag (aq (aF (.int 0))) (ag (aw 6) aG)))) (aw 7))))))))
def hJ:FS:=(pM (c9 (aw 1)) (aH 4)
  dX)
def f7:FS:=(eY (A5 (aA fI (aq (aA dF (aw 0) (aq (aF (.int 16))))) (aq (aF (.int 4)))) (nY 2) (nY 3)))
def jF:FS:=(sSeq (b5 2 (tX bC))
  (sSeq (b5 3 (tX bC))
  (sSeq hJ
  f7)))
def cY:List D->Res R:=fBody 2 6 jF
noncomputable def iW:FS:=(sSeq (b5 2 (aA cW (aq (aF (.int 1))) (aq (aA fI (aw 1) (aq (aA xE (aq (aF (.int 10))) (aq (aF (.int 50)))))))))
  (sSeq (EN (aR 0) (ng 3 (bg (aH 3) (bg (aH 4) (bg (aH 5) fT)))))
  (sSeq (b5 4 (aX cV (ag (aq (dw (JO (jO 4) (JO (iJ (aR 4)) (iK (aR 4)))) [none,some 2] (aH 0) fH (aA i6 (aw 1) (aw 0)))) aG)))
  (eY (eW (az (aA cW (aq (aA i6 (aw 2) (aw 3))) (aq (aA fI (aq (aA dF (aw 1) (aq (aF (.int 7))))) (aw 2)))) (az (aR 4) (az (aX cV (ag (aq (dw (JO (jO 5) (JO (iJ (aR 5)) (iK (aR 5)))) [none,some 2] (aH 0) fH (aA i6 (aw 1) (aw 0)))) aG)) bC))))))))
def bX:List D->Res R:=fBody 2 4 iW
noncomputable def cO:FS:=(sSeq (b5 5 (dM di (ag (aw 0) (ag (aw 1) (ag (aw 4) aG)))))
  (sSeq (b5 6 (dM cY (ag (aw 5) (ag (aw 2) aG))))
  (sSeq (jc (uZ 3 (dM bX (ag (aw 6) (ag (aq (dM aJ (ag (aw 0) (ag (aq (aA cW (aw 1) (aw 4))) aG)))) aG)))))
  (Jt (IU (aA OJ (aq (aA fI (aq (aA dF (aw 5) (aq (aF (.int 64))))) (aq (aF (.int 3))))) (aq (aF (.int 0)))))
  (sSeq (b5 7 (eW (az (aA fI (aq (aA dF (aw 5) (aq (aF (.int 256))))) (aq (aF (.int 4)))) (az (aA Ih (aq (aR 6)) (aq (aF (.int 2)))) (az (aA Ih (aq (aR 6)) (aq (aF (.int 1)))) bC)))))
  (jc (uZ 3 (dM bX (ag (aw 7) (ag (aq (dM aJ (ag (aw 0) (ag (aq (aA cW (aq (aA cW (aw 1) (aq (aF (.int 6))))) (aw 4))) aG)))) aG))))))
  cu))))
def f9:FS:=(pM (c9 (aq (aA cW (aq (aF (.int 1))) (aq (aA fI (aq (aA dF (aq (dM aJ (ag (aw 0) (ag (aq (aF (.int 1))) aG)))) (aq (aF (.int 4))))) (aq (aF (.int 4)))))))) (aH 4)
  cO)
def fL:FS:=(eY (nY 3))
def iX:FS:=(sSeq (b5 3 (tX bC))
  (sSeq f9
  fL))
def cF:List D->Res R:=fBody 3 5 iX
noncomputable def jG:FS:=(sSeq (b5 1 (dM cX (ag (aq (dM aJ (ag (aw 0) (ag (aq (aF (.int 0))) aG)))) aG)))
  (sSeq (b5 2 (dM aJ (ag (aw 0) (ag (aq (aF (.int 1))) aG))))
  (sSeq (b5 3 (aA cW (aq (aF (.int 1))) (aq (aA fI (aw 2) (aq (aF (.int 3)))))))
  (sSeq (b5 4 (aA fI (aq (aA dF (aw 2) (aq (aF (.int 32))))) (aq (aA wU (aq (aF (.int 6))) (aw 3)))))
  (eY (aX cV (ag (aq (xJ (aw 1) (je (aR 4)) (je (aA cW (aw 4) (aw 3))))) aG)))))))
def cZ:List D->Res R:=fBody 1 4 jG
noncomputable def lP:FS:=(sSeq (b5 2 (dM cZ (ag (aw 0) aG)))
  (sSeq (b5 3 (aX fO (ag (aw 2) aG)))
  (sSeq (b5 4 (dM cF (ag (aw 0) (ag (aw 1) (ag (aw 3) aG)))))
  (sSeq (Jt (IU (cj isnO (aq (dM ba (ag (aq (eW (az (aR 2) (az (aR 4) bC)))) (ag (aq (aF (.int 8))) aG)))) (aq (aF .non))))
  (eY (eW (az (aR 2) (az (aR 4) bC))))
  cu)
  (sSeq (b5 5 (aX cV (ag (aq (dw (JO (jO 2) (JO (iJ (aR 2)) (iK (aR 2)))) [none] (aH 0) fH (aF (.int 1)))) aG)))
  (sSeq (b5 6 (aX cV (ag (aq (dw (JO (jO 2) (JO (iJ (aR 2)) (iK (aR 2)))) [none] (aH 0) fH (aF (.int 0)))) aG)))
  (sSeq (Jt (IU (cj isnO (aq (dM ba (ag (aq (eW (az (aR 2) (az (aA cW (aw 4) (aq (tX (az (eW (az (aF (.int 2)) (az (aR 5) (az (aR 6) bC)))) bC)))) bC)))) (ag (aq (aF (.int 8))) aG)))) (aq (aF .non))))
  (eY (eW (az (aR 2) (az (aA cW (aw 4) (aq (tX (az (eW (az (aF (.int 2)) (az (aR 5) (az (aR 6) bC)))) bC)))) bC))))
  cu)
  (eY (eW (az (aR 2) (az (aA cW (aw 4) (aq (tX (az (eW (az (aF (.int 1)) (az (aR 5) (az (aR 6) bC)))) bC)))) bC)))))))))))
def dk:List D->Res R:=fBody 2 5 lP
noncomputable def lQ:FS:=(sSeq (b5 2 (aX cV (ag (aq (dw (c9 (aq (aX fO (ag (aq (aA Ih (aw 0) (aq (aF (.int 1))))) aG)))) [none,some 0,some 1] (aH 0) fH (aA cW (aq (aA Ih (aq (aA Ih (aw 1) (aq (aF (.int 1))))) (aw 0))) (aq (aA Ih (aq (aA Ih (aw 2) (aq (aF (.int 1))))) (aw 0)))))) aG)))
  (sSeq (b5 3 (aX cV (ag (aq (dw (c9 (aq (aX fO (ag (aq (aA Ih (aw 0) (aq (aF (.int 2))))) aG)))) [none,some 0,some 1] (aH 0) fH (aA cW (aq (aA Ih (aq (aA Ih (aw 1) (aq (aF (.int 2))))) (aw 0))) (aq (aA Ih (aq (aA Ih (aw 2) (aq (aF (.int 2))))) (aw 0)))))) aG)))
  (eY (eW (az (aA cW (aq (aA Ih (aw 0) (aq (aF (.int 0))))) (aq (aA Ih (aw 1) (aq (aF (.int 0)))))) (az (aR 2) (az (aR 3) bC)))))))
def dm:List D->Res R:=fBody 2 2 lQ
noncomputable def bO:FS:=(sSeq (b5 5 (dM aW (ag (aq (dM aJ (ag (aw 0) (ag (aw 4) aG)))) (ag (aq (aF (.int 31))) aG))))
  (sSeq (b5 6 (aA Ih (aw 3) (aq (aA fI (aw 5) (aq (aX fO (ag (aw 3) aG)))))))
  (sSeq (b5 7 (aA Ih (aw 3) (aq (aA fI (aq (aA dF (aw 5) (aq (aF (.int 16))))) (aq (aX fO (ag (aw 3) aG)))))))
  (sSeq (Jt (IU (cj JW (aq (aA fI (aq (aA dF (aw 5) (aq (aF (.int 256))))) (aq (aF (.int 4))))) (aq (aF (.int 0)))))
  (b5 6 (dM dm (ag (aw 6) (ag (aw 7) aG))))
  cu)
  (sSeq (Jt (IU (cj JW (aq (aA fI (aq (aA dF (aw 5) (aq (aF (.int 256))))) (aq (aF (.int 4))))) (aq (aF (.int 1)))))
  (b5 6 (eW (az (aA cW (aq (aA Ih (aw 6) (aq (aF (.int 0))))) (aq (aA fI (aq (dM aJ (ag (aw 0) (ag (aw 4) aG)))) (aq (aA xE (aq (aF (.int 10))) (aq (aF (.int 40)))))))) (az (aA Ih (aw 6) (aq (aF (.int 1)))) (az (aA Ih (aw 6) (aq (aF (.int 2)))) bC)))))
  cu)
  (sSeq (Jt (IU (cj JW (aq (aA fI (aq (aA dF (aw 5) (aq (aF (.int 256))))) (aq (aF (.int 4))))) (aq (aF (.int 2)))))
  (b5 6 (eW (az (aA i6 (aq (aA Ih (aw 6) (aq (aF (.int 0))))) (aq (aF (.int 3)))) (az (aX cV (ag (aq (dw (tw (aA Ih (aw 6) (aq (aF (.int 1))))) [none] (aH 0) fH (aA i6 (aw 0) (aq (aF (.int 3)))))) aG)) (az (aX cV (ag (aq (dw (tw (aA Ih (aw 6) (aq (aF (.int 2))))) [none] (aH 0) fH (aA i6 (aw 0) (aq (aF (.int 3)))))) aG)) bC)))))
  cu)
  (Jt (IU (aA OJ (aq (aA fI (aq (aA dF (aw 5) (aq (aF (.int 1024))))) (aq (aF (.int 4))))) (aq (aF (.int 0)))))
  (jc (DI 3 (aA fI (aq (aA dF (aw 5) (aq (aF (.int 4096))))) (aq (aA cW (aq (aX fO (ag (aw 3) aG))) (aq (aF (.int 1)))))) (aR 6)))
  cu)))))))
def dI:FS:=(pM (pN (ag (aw 2) (ag (aq (aA cW (aw 2) (aq (aF (.int 3))))) aG))) (aH 4)
  bO)
def dC:FS:=(eY (eW (az (aA Ih (aw 1) (aq (aF (.int 0)))) (az (aR 3) bC))))
def eg:FS:=(sSeq (b5 3 (aX pP (ag (aq (aA Ih (aw 1) (aq (aF (.int 1))))) aG)))
  (sSeq dI
  dC))
def bx:List D->Res R:=fBody 3 5 eg
def cP:FS:=(Jt (yU (IU (aA Lr (aw 2) (aq (aX fO (ag (aw 0) aG))))) (IU (cj JW (aq (aA Ih (aw 0) (aw 2))) (aw 3))))
  (b5 2 (aA cW (aw 2) (aq (aF (.int 1)))))
  cu)
def gc:FS:=(pM (tw (aR 1)) (aH 3)
  cP)
def fM:FS:=(eY (cj JW (aw 2) (aq (aX fO (ag (aw 0) aG)))))
def iY:FS:=(sSeq (b5 2 (aF (.int 0)))
  (sSeq gc
  fM))
def cG:List D->Res R:=fBody 2 2 iY
noncomputable def df:FS:=(sSeq (b5 4 (dM ba (ag (aq (eW (az (aA Ih (aw 0) (aq (aF (.int 0)))) (az (aA cW (aq (xJ (aw 3) oh (je (aR 5)))) (aq (xJ (aw 3) (je (aA cW (aw 5) (aq (aF (.int 1))))) oh))) bC)))) (ag (aq (aF (.int 8))) aG))))
  (Jt (yU (IU (cj isnO (aw 4) (aq (aF .non)))) (IU (cj JW (aq (aA Ih (aw 4) (aq (aF (.int 0))))) (aq (aA Ih (aw 0) (aq (aF (.int 1))))))))
  (eY (aF (.bl false)))
  cu))
def hU:FS:=(pM (c9 (aq (aX fO (ag (aw 3) aG)))) (aH 5)
  df)
def gf:FS:=(eY (cj JW (aq (dM dW (ag (aw 0) (ag (aq (eW (az (aA Ih (aw 0) (aq (aF (.int 0)))) (az (aX pP (ag (aw 3) aG)) bC)))) aG)))) (aw 2)))
noncomputable def jH:FS:=(sSeq (b5 2 (dM dW (ag (aw 0) (ag (aw 1) aG))))
  (sSeq (Jt (OG (Av (IU (Q9 "tuple" (aw 2)))) (OG (IU (cj Lg (aq (aX fO (ag (aw 2) aG))) (aq (aF (.int 2))))) (OG (IU (cj Lg (aq (aA Ih (aw 2) (aq (aF (.int 0))))) (aq (aA Ih (aw 0) (aq (aF (.int 0))))))) (Av (IU (Q9 "list" (aq (aA Ih (aw 2) (aq (aF (.int 1)))))))))))
  (eY (aF (.bl false)))
  cu)
  (sSeq (b5 3 (aA Ih (aw 2) (aq (aF (.int 1)))))
  (sSeq (b5 4 (dM ba (ag (aq (eW (az (aA Ih (aw 0) (aq (aF (.int 0)))) (az (aR 3) bC)))) (ag (aq (aF (.int 8))) aG))))
  (sSeq (Jt (OG (Av (IU (dM cG (ag (aw 3) (ag (aq (aA Ih (aw 1) (aq (aF (.int 1))))) aG))))) (OG (IU (cj Nm (aw 4) (aq (aF .non)))) (IU (cj Lg (aq (aA Ih (aw 4) (aq (aF (.int 0))))) (aq (aA Ih (aw 0) (aq (aF (.int 1)))))))))
  (eY (aF (.bl false)))
  cu)
  (sSeq hU
  gf))))))
def cA:List D->Res R:=fBody 2 4 jH
noncomputable def DJ:FS:=(sSeq (b5 1 (dM bx (ag (aw 0) (ag (aq (dM dk (ag (aw 0) (ag (aq (aF (.int 5))) aG)))) (ag (aq (aF (.int 2))) aG)))))
  (sSeq (b5 2 (eW (az (aA Ih (aw 1) (aq (aF (.int 0)))) (az (aA Ih (aq (dM ba (ag (aw 1) (ag (aq (aF (.int 8))) aG)))) (aq (aF (.int 0)))) bC))))
  (eY (FD (dM cA (ag (aw 2) (ag (aw 1) aG))) (dM cA (ag (aw 2) (ag (aq (eW (az (aA Ih (aw 1) (aq (aF (.int 0)))) (az (aX ER (ag (aq (aA Ih (aw 1) (aq (aF (.int 1))))) aG)) bC)))) aG)))))))
def m_law:List D->Res R:=fBody 1 2 DJ
end LW
namespace LW
open PySem PySem.Spec PyProof.Rows L2 NX PV
theorem ES{α:Type}{Q:List α->Prop}(h:∀a,Q [a]):∀us,us.length=1->Q us
 |[a],_=>h a
theorem tY{α:Type}{Q:List α->Prop}(h:∀a b,Q [a,b]):∀us,us.length=2->Q us
 |[a,b],_=>h a b
theorem Bg{α:Type}{Q:List α->Prop}(h:∀a b c,Q [a,b,c]):∀us,us.length=3->Q us
 |[a,b,c],_=>h a b c
theorem GJ{α:Type}{Q:List α->Prop}(h:∀a b c d,Q [a,b,c,d]):∀us,us.length=4->Q us
 |[a,b,c,d],_=>h a b c d
theorem gj{X:Cx}{tg e:Expr}{f:FX}(h:QE X e f):QI X tg e (JO (C2 f) (JO (iJ f) (iK f))):=vg (Aw h) (vg (kg h) (kh h))
def top(i:Nat):Stmt:=PySem.Challenge.pw_netfinder_k76_no_place_could_go.main.body.getD i (.Pass ⟨0,0,0,0⟩)
theorem HD:Str.ofString "two" = S [116,119,111]:=by decide +kernel
theorem HE:Str.ofString "one" = S [111,110,101]:=by decide +kernel
theorem HF:Str.ofString "free" = S [102,114,101,101]:=by decide +kernel
theorem HG:Str.ofString "stuck" = S [115,116,117,99,107]:=by decide +kernel
theorem GK:Str.ofString "same" = S [115,97,109,101]:=by decide +kernel
theorem HI:Str.ofString "moves" = S [109,111,118,101,115]:=by decide +kernel
theorem HJ:Str.ofString "s" = S [115]:=by decide +kernel
theorem HK:Str.ofString "" = S []:=by decide +kernel
theorem HL:Str.ofString "abcdefghijklmnopqrstuvwxyz" = S [97,98,99,100,101,102,103,104,105,106,107,108,109,110,111,112,113,114,115,116,117,118,119,120,121,122]:=by decide +kernel
section
variable{P:Program}{w:World}{K:W.Frag}{mg:Str->Option Value}{base:Heap}
abbrev ik:Stmt:=top 5
theorem oT:FnScope ["chart"] ["chart"] (defScope ik):=fs
theorem oU(Df:Def K mg "states_of" ik)(J9:mg "max" = none):Ct P w K mg base "states_of" 1 (spF K cx):=
 dO Df oT (fun _ _ _ _ _ _=>ES fun _=>rfl) fun f ID A outer s H E hr=>
  (aB (bu (aI aO (aa ah) (aa (AG rfl (by rfl) J9 (bQ [none,none,none] ["first","move","second"] rfl (cq (gj (aP (ae (pv 0)) (aa ah)))) (fun _ _ _ _ _=>(have h:=(show List.Nodup (["first","move","second"]:List Str) from by decide +kernel);(ke rfl (bK (aN (i:=0) h rfl (lo rfl)) (bK (aN (i:=1) h rfl (lo rfl)) (bK (aN (i:=2) h rfl (lo rfl)) ia)))))) (fun _ _ _ _ _=>cv) (fun _ _ _ _ _=>(a8 (vf rfl) (by rfl) J9 vy (af (ae (pv 0)) (af (ae (pv 2)) ax))))) ah)))))
abbrev kK:Stmt:=top 6
theorem tF:FnScope ["chart","state","move"] ["chart","state","move"] (defScope kK):=fs
theorem tG(Df:Def K mg "goes_to" kK):Ct P w K mg base "goes_to" 1 (spF K eR):=
 dO Df tF (fun _ _ _ _ _ _=>Bg fun _ _ _=>rfl) fun f ID A outer s H E hr=>
  (aB (bu (bQ [none,none,none,some 1,some 2] ["first","by","second","state","move"] rfl (cq (gj (aP (ae (pv 0)) (aa ah)))) (fun _ _ _ _ _=>(have h:=(show List.Nodup (["first","by","second","state","move"]:List Str) from by decide +kernel);(ke rfl (bK (aN (i:=0) h rfl (lo rfl)) (bK (aN (i:=1) h rfl (lo rfl)) (bK (aN (i:=2) h rfl (lo rfl)) ia)))))) (fun _ _ _ _ _=>(Ax (QW.qt (lE (a7 (iO hr.units) (ae (pv 0)) (ae (pv 3)) (bc _)) (jb (a7 (iO hr.units) (ae (pv 1)) (ae (pv 4)) (bc _))))))) (fun _ _ _ _ _=>(aD (pv 2))))))
abbrev dY:Stmt:=top 8
theorem jQ:FnScope ["net"] ["net"] (defScope dY):=fs
theorem jR(Df:Def K mg "first_marking" dY)(Ij:mg "tuple" = none):Ct P w K mg base "first_marking" 1 (spF K bR):=
 dO Df jQ (fun _ _ _ _ _ _=>ES fun _=>rfl) fun f ID A outer s H E hr=>
  (aB (bu (bo cD (by rfl) Ij cn (af (aa (bQ [none] ["place"] rfl (cq (gj (aP (ae (pv 0)) (aa ah)))) (fun _ _ _ _ _=>(aN (i:=0) (show List.Nodup (["place"]:List Str) from by decide +kernel) rfl (lo rfl))) (fun _ _ _ _ _=>cv) (fun _ _ _ _ _=>(aP (ae (pv 0)) (aa ah))))) ax))))
abbrev mH:Stmt:=top 9
theorem oV:FnScope ["net","marking","move","at"] ["net","marking","move"] (defScope mH):=fs
theorem vQ(Df:Def K mg "can_go" mH)(Li:mg "all" = none)(Ka:mg "zip" = none):Ct P w K mg base "can_go" 1 (spF K gN):=
 dO Df oV (fun _ _ _ _ _ _=>Bg fun _ _ _=>rfl) fun f ID A outer s H E hr=>
  (ao (aK (i:=3) oV.nd rfl (lo rfl) (vC Vt VW ie (aa (aP (ae (pv 0)) (aa ah))) (af (ae (pv 2)) ax)))
  (aB (bu (a8 (C8 rfl) (by rfl) Li Dq (af (aa (bQ [none,none,some 3] ["beads","place","at"] rfl (cq (pV (by rfl) Ka (af (aa (aD (pv 1))) (af (aa (aP (ae (pv 0)) (aa ah))) ax)))) (fun _ _ _ _ _=>(have h:=(show List.Nodup (["beads","place","at"]:List Str) from by decide +kernel);(ke rfl (bK (aN (i:=0) h rfl (lo rfl)) (bK (aN (i:=1) h rfl (lo rfl)) ia))))) (fun _ _ _ _ _=>cv) (fun _ _ _ _ _=>(CZ (Dk hr.units0) (ae (pv 0)) (aa (aP (aa (aP (ae (pv 1)) (aa ah))) (ae (pv 2)))) (bc _))))) ax)))))
abbrev p4:Stmt:=top 10
theorem rF:FnScope ["net","marking","move","at"] ["net","marking","move"] (defScope p4):=fs
theorem xX(Df:Def K mg "moved" p4)(ML:Ct P w K mg base "can_go" 1 (spF K gN))(Ij:mg "tuple" = none)(Ka:mg "zip" = none):Ct P w K mg base "moved" 2 (spF K jl):=
 dO Df rF (fun _ _ _ _ _ _=>Bg fun _ _ _=>rfl) fun f ID A outer s H E hr=>
  (ao (c8 (nZ (lD (aZ ML hr.m (by rfl) (af (ae (pv 0)) (af (ae (pv 1)) (af (ae (pv 2)) ax))))))
  (aB (bu d5))
  bh)
  (ao (aK (i:=3) rF.nd rfl (lo rfl) (vC Vt VW ie (aa (aP (ae (pv 0)) (aa ah))) (af (ae (pv 2)) ax)))
  (aB (bu (bo cD (by rfl) Ij cn (af (aa (bQ [none,none,some 3] ["beads","place","at"] rfl (cq (pV (by rfl) Ka (af (aa (aD (pv 1))) (af (aa (aP (ae (pv 0)) (aa ah))) ax)))) (fun _ _ _ _ _=>(have h:=(show List.Nodup (["beads","place","at"]:List Str) from by decide +kernel);(ke rfl (bK (aN (i:=0) h rfl (lo rfl)) (bK (aN (i:=1) h rfl (lo rfl)) ia))))) (fun _ _ _ _ _=>cv) (fun _ _ _ _ _=>(aI aO (aa (aI lG (ae (pv 0)) (aa (aP (aa (aP (ae (pv 1)) (aa ah))) (ae (pv 2)))))) (aa (aP (aa (aP (ae (pv 1)) (aa ah))) (ae (pv 2)))))))) ax))))))
abbrev vR:Stmt:=top 12
theorem vS:FnScope ["got","state","marking","way","other"] ["got","state","marking","way"] (defScope vR):=fs
theorem Bh(Df:Def K mg "give" vR):Ct P w K mg base "give" 1 (spM K (.d) kG):=
 Dw Df vS (fun _ _ _ _ _ _=>GJ fun _ _ _ _=>rfl) fun f ID A outer s H E hr=>
  (ao (Be Uo rfl (pv 0) (aN (i:=4) vS.nd rfl (lo rfl))
  (aB (c8 (QW.qt (lE (a7 (sZ hr.units) (ae (pv 4)) (ae (pv 1)) (bc _)) (jb (a7 (iO hr.units) (aa (aP (aa (pX (hu_of hr) (ae (pv 0)) (ae (pv 4)))) (aa ah))) (ae (pv 2)) (bc _)))))
  (aB (ig (i:=0) (bF (av (gZ HE (by decide)) (av (aP (aa (pX (hu_of hr) (ae (pv 0)) (ae (pv 4)))) (aa ah)) (av (aD (pv 3)) aM))))))
  bh)))
  (ao (c8 (a7 (vE hr.u65) (ae (pv 1)) (ae (pv 0)) (by with_unfolding_all rfl))
  (aB (Bc (hu_of hr) (pv 0) (aD (pv 1)) (bF (av (aD (pv 2)) (av (aD (pv 3)) aM)))))
  (aB (c8 (a7 (sZ hr.units) (aa (aP (aa (pX (hu_of hr) (ae (pv 0)) (ae (pv 1)))) (aa ah))) (ae (pv 2)) (bc _))
  (aB (ig (i:=0) (bF (av (gZ HD (by decide)) (av (aP (aa (pX (hu_of hr) (ae (pv 0)) (ae (pv 1)))) (aa ah)) (av (aD (pv 3)) aM))))))
  bh)))
  (aB (ig (i:=0) d5))))
abbrev kM:Stmt:=top 13
theorem c5:FnScope ["chart","net","got","state","marking","way","move","coming","seconds","second","against"] ["chart","net","got","state"] (defScope kM):=fs
theorem tH(Df:Def K mg "look_at" kM)(OU:Ct P w K mg base "give" 1 (spM K (.d) kG))(Mf:Ct P w K mg base "goes_to" 1 (spF K eR))(Np:Ct P w K mg base "moved" 2 (spF K jl))(Iz:mg "len" = none):Ct P w K mg base "look_at" 3 (spJ 2 K (.d) dB):=
 DH Df c5 (fun _ _ _ _ _ _=>GJ fun _ _ _ _=>rfl) fun f ID A outer s H E hr=>
  (ao (aK (i:=4) c5.nd rfl (lo rfl) (aP (aa (pX (hu_of hr) (ae (pv 2)) (ae (pv 3)))) (aa ah)))
  (ao (aK (i:=5) c5.nd rfl (lo rfl) (aP (aa (pX (hu_of hr) (ae (pv 2)) (ae (pv 3)))) (aa ah)))
  (ao (fG Uo rfl (gj (aP (ae (pv 0)) (aa ah))) (aN (i:=6) c5.nd rfl (lo rfl))
  (ao (aK (i:=7) c5.nd rfl (lo rfl) (aZ Np hr.m (by rfl) (af (ae (pv 1)) (af (ae (pv 4)) (af (ae (pv 6)) ax)))))
  (ao (aK (i:=8) c5.nd rfl (lo rfl) (aZ Mf hr.m (by rfl) (af (ae (pv 0)) (af (ae (pv 3)) (af (ae (pv 6)) ax)))))
  (ao (c8 (QW.qt (lE (a7 De (ae (pv 7)) (aa d5) (bc _)) (jb (jw Az (aa (a8 cw (by rfl) Iz bt_len (af (ae (pv 8)) ax))) (aa ah) (bc _)))))
  (aB (ig (i:=2) (bF (av (gZ HG (by decide)) (av (aD (pv 5)) (av (aD (pv 6)) aM))))))
  bh)
  (ao (c8 (QW.qt (lE (a7 kn (ae (pv 7)) (aa d5) (bc _)) (jb (a7 (iO hr.units) (aa (a8 cw (by rfl) Iz bt_len (af (ae (pv 8)) ax))) (aa ah) (bc _)))))
  (aB (ig (i:=2) (bF (av (gZ HF (by decide)) (av (aD (pv 5)) (av (aD (pv 6)) aM))))))
  bh)
  (aB (fG Uo rfl (gj (aD (pv 8))) (aN (i:=9) c5.nd rfl (lo rfl))
  (ao (aK (i:=10) c5.nd rfl (lo rfl) (AY (i:=2) OU hr.m (by rfl) (af (ae (pv 2)) (af (ae (pv 9)) (af (ae (pv 7)) (af (aa (aI aO (ae (pv 5)) (aa (bF (av (aD (pv 6)) aM))))) ax))))))
  (aB (c8 (a7 kn (ae (pv 10)) (aa d5) (bc _))
  (aB (ig (i:=2) (aD (pv 10))))
  bh))))))))))
  (aB (ig (i:=2) d5)))))
abbrev vT:Stmt:=top 14
theorem kN:FnScope ["chart","net","got","looked_at","against"] ["chart","net"] (defScope vT):=fs
theorem Bi(Df:Def K mg "held" vT)(Kq:Ct P w K mg base "first_marking" 1 (spF K bR))(Mg:Ct P w K mg base "look_at" 3 (spJ 2 K (.d) dB))(Lj:Ct P w K mg base "states_of" 1 (spF K cx))(Iz:mg "len" = none)(IS:mg "list" = none)(Ir:mg "range" = none):Ct P w K mg base "held" 4 (spF K lN):=
 dO Df kN (fun _ _ _ _ _ _=>tY fun _ _=>rfl) fun f ID A outer s H E hr=>
  (ao (c8 (a7 (sZ hr.units) (aa (aP (ae (pv 0)) (aa ah))) (aa (aP (ae (pv 1)) (aa ah))) (bc _))
  (aB qQ)
  bh)
  (ao (aK (i:=2) kN.nd rfl (lo rfl) (xO ah (bF (av (aZ Kq hr.m (by rfl) (af (ae (pv 1)) ax)) (av (bF aM) aM)))))
  (ao (aK (i:=3) kN.nd rfl (lo rfl) ah)
  (ao (qR 100000 Uo (jw (oy hr.units0) (ae (pv 3)) (aa (a8 cw (by rfl) Iz bt_len (af (ae (pv 2)) ax))) (bc _))
  (ao (aK (i:=4) kN.nd rfl (lo rfl) (A9 (j0:=2) (i:=2) Mg hr.m (by rfl) (af (ae (pv 0)) (af (ae (pv 1)) (af (ae (pv 2)) (af (aa (aP (aa (bo (xQ rfl) (by rfl) IS j5 (af (ae (pv 2)) ax))) (ae (pv 3)))) ax))))))
  (ao (c8 (a7 kn (ae (pv 4)) (aa d5) (bc _))
  (aB (bu (kc (pv 4))))
  bh)
  (aB (aK (i:=3) kN.nd rfl (lo rfl) (aI aO (ae (pv 3)) (aa ah)))))))
  (aB (bu (bF (av (gZ GK (by decide)) (av (bQ [none,some 2] ["state","got"] rfl (cq (du (by rfl) Ir (aa (aZ Lj hr.m (by rfl) (af (ae (pv 0)) ax))))) (fun _ _ _ _ _=>(aN (i:=0) (show List.Nodup (["state","got"]:List Str) from by decide +kernel) rfl (lo rfl))) (fun _ _ _ _ _=>cv) (fun _ _ _ _ _=>(aP (aa (pX (hu_of hr) (ae (pv 1)) (ae (pv 0)))) (aa ah)))) aM)))))))))
abbrev kO:Stmt:=top 16
theorem tI:FnScope ["chart","net"] ["chart","net"] (defScope kO):=fs
theorem tJ(Df:Def K mg "has_run" kO)(OV:Ct P w K mg base "held" 4 (spF K lN)):Ct P w K mg base "has_run" 5 (spF K dU):=
 dO Df tI (fun _ _ _ _ _ _=>tY fun _ _=>rfl) fun f ID A outer s H E hr=>
  (aB (bu (pK (iO hr.units) (aa (aP (aa (aZ OV hr.m (by rfl) (af (ae (pv 0)) (af (ae (pv 1)) ax)))) (aa ah))) (aa (gZ GK (by decide))) (bc _))))
abbrev kP:Stmt:=top 17
theorem eT:FnScope ["chart","net","places","at","fewer"] ["chart","net"] (defScope kP):=fs
theorem tL(Df:Def K mg "thinned" kP)(KR:Ct P w K mg base "has_run" 5 (spF K dU))(Iz:mg "len" = none)(IS:mg "list" = none)(Ir:mg "range" = none):Ct P w K mg base "thinned" 6 (spF K dW):=
 dO Df eT (fun _ _ _ _ _ _=>tY fun _ _=>rfl) fun f ID A outer s H E hr=>
  (ao (c8 (nZ (lD (aZ KR hr.m (by rfl) (af (ae (pv 0)) (af (ae (pv 1)) ax)))))
  (aB qQ)
  bh)
  (ao (aK (i:=2) eT.nd rfl (lo rfl) (bo mB (by rfl) IS j5 (af (aa (aP (ae (pv 1)) (aa ah))) ax)))
  (ao (fG Uo rfl (vB (by rfl) Ir (af (aa (aI lG (aa (a8 cw (by rfl) Iz bt_len (af (aa (aP (ae (pv 1)) (aa ah))) ax))) (aa ah))) (af (aa (y6 (aa ah))) (af (aa (y6 (aa ah))) ax)))) (aN (i:=3) eT.nd rfl (lo rfl))
  (ao (aK (i:=4) eT.nd rfl (lo rfl) (aI aO (aa (ky (ae (pv 2)) jg (dQ (aD (pv 3))))) (aa (ky (ae (pv 2)) (dQ (aI aO (ae (pv 3)) (aa ah))) jg))))
  (aB (c8 (lD (aZ KR hr.m (by rfl) (af (ae (pv 0)) (af (aa (bF (av (aP (ae (pv 1)) (aa ah)) (av (aD (pv 4)) aM)))) ax))))
  (aB (aK (i:=2) eT.nd rfl (lo rfl) (aD (pv 4))))
  bh))))
  (aB (bu (bF (av (aP (ae (pv 1)) (aa ah)) (av (aD (pv 2)) aM))))))))
abbrev eG:Stmt:=top 19
theorem kQ:FnScope ["_law_script","_law_k"] ["_law_script","_law_k"] (defScope eG):=fs
theorem kR(Df:Def K mg "_law_cell_at" eG)(Iz:mg "len" = none):Ct P w K mg base "_law_cell_at" 1 (spF K aJ):=
 dO Df kQ (fun _ _ _ _ _ _=>tY fun _ _=>rfl) fun f ID A outer s H E hr=>
  (ao (c8 (jw (oy hr.units0) (ae (pv 1)) (aa (a8 cw (by rfl) Iz bt_len (af (ae (pv 0)) ax))) (bc _))
  (aB (bu (aP (ae (pv 0)) (ae (pv 1)))))
  bh)
  (aB (bu ah)))
abbrev gk:Stmt:=top 20
theorem ft:FnScope ["_law_cell","_law_k","_law_number"] ["_law_cell","_law_k"] (defScope gk):=fs
theorem mI(Df:Def K mg "_law_mixed" gk):Ct P w K mg base "_law_mixed" 1 (spF K aW):=
 dO Df ft (fun _ _ _ _ _ _=>tY fun _ _=>rfl) fun f ID A outer s H E hr=>
  (ao (aK (i:=2) ft.nd rfl (lo rfl) (aI aO (aa (aI bU (ae (pv 0)) (aa ah))) (aa (aI dR (aa ah) (aa (aI aO (ae (pv 1)) (aa ah)))))))
  (ao (aK (i:=2) ft.nd rfl (lo rfl) (aI bU (aa (aI aO (aa (aI dR (ae (pv 2)) (ae (pv 2)))) (aa (aI dR (aa ah) (ae (pv 1)))))) (aa ah)))
  (aB (bu (aI bU (aa (aI aO (aa (aI aO (aa (aI dR (ae (pv 2)) (ae (pv 2)))) (aa (aI dR (aa ah) (ae (pv 1)))))) (aa ah))) (aa ah))))))
abbrev gm:Stmt:=top 21
theorem bj:FnScope ["_law_cell","_law_letters","_law_base","_law_width","_law_spot","_law_names_here","_law_k","_law_moved_on"] ["_law_cell"] (defScope gm):=fs
theorem mJ(Df:Def K mg "_law_names" gm)(IE:Ct P w K mg base "_law_mixed" 1 (spF K aW))(Ir:mg "range" = none)(Jf:mg "sorted" = none):Ct P w K mg base "_law_names" 2 (spF K cX):=
 dO Df bj (fun _ _ _ _ _ _=>ES fun _=>rfl) fun f ID A outer s H E hr=>
  (ao (aK (i:=1) bj.nd rfl (lo rfl) (gZ HL (by decide)))
  (ao (q0 (i:=2) [none,some 0] ["_law_j","_law_cell"] bj.nd rfl (lo rfl) rfl (cq (du (by rfl) Ir (aa ah))) (fun _ _ _ _ _=>(aN (i:=0) (show List.Nodup (["_law_j","_law_cell"]:List Str) from by decide +kernel) rfl (lo rfl))) (fun _ _ _ _ _=>cv) (fun _ _ _ _ _=>(aI bU (aa (aZ IE hr.m (by rfl) (af (ae (pv 1)) (af (ae (pv 0)) ax)))) (aa ah))))
  (ao (aK (i:=3) bj.nd rfl (lo rfl) (aI aO (aa ah) (aa (aI bU (ae (pv 0)) (aa ah)))))
  (ao (aK (i:=4) bj.nd rfl (lo rfl) (aI bU (aa (aI cM (ae (pv 0)) (aa ah))) (ae (pv 3))))
  (ao (aK (i:=5) bj.nd rfl (lo rfl) (g5 aM))
  (ao (fG Uo rfl (du (by rfl) Ir (aa ah)) (aN (i:=6) bj.nd rfl (lo rfl))
  (ao (aK (i:=7) bj.nd rfl (lo rfl) (ky (ae (pv 2)) jg (dQ (aD (pv 3)))))
  (ao (AR (pv 7) (aD (pv 4)) (aI bU (aa (aI aO (aa (aP (ae (pv 7)) (ae (pv 4)))) (ae (pv 6)))) (aa ah)))
  (ao (c8 (a7 (iO hr.units) (aa (aI bU (aa (aI cM (ae (pv 0)) (aa ah))) (aa ah))) (aa ah) (bc _))
  (aB (aK (i:=7) bj.nd rfl (lo rfl) (ky (ae (pv 2)) jg (dQ (aI aO (ae (pv 6)) (aa ah))))))
  bh)
  (aB (eZ (dA (pv 5) (Dm PySem.F.slot_str_join PySem.F.type_str_join AW (aa (gZ HK (by decide))) (af (aa (bQ [none,some 1] ["_law_j","_law_letters"] rfl (fK (ji (pv 7)) (fK (cq (kg (aD (pv 7)))) (cq (kh (aD (pv 7)))))) (fun _ _ _ _ _=>(aN (i:=0) (show List.Nodup (["_law_j","_law_letters"]:List Str) from by decide +kernel) rfl (lo rfl))) (fun _ _ _ _ _=>cv) (fun _ _ _ _ _=>(aP (ae (pv 1)) (ae (pv 0)))))) ax)))))))))
  (ao (c8 (a7 (Dv hr.u65) (aa (gZ HI (by decide))) (ae (pv 5)) (by with_unfolding_all rfl))
  (aB (q0 (i:=5) [none] ["_law_name"] bj.nd rfl (lo rfl) rfl (fK (ji (pv 5)) (fK (cq (kg (aD (pv 5)))) (cq (kh (aD (pv 5)))))) (fun _ _ _ _ _=>(aN (i:=0) (show List.Nodup (["_law_name"]:List Str) from by decide +kernel) rfl (lo rfl))) (fun _ _ _ _ _=>cv) (fun _ _ _ _ _=>(aI aO (aa (gZ HJ (by decide))) (ae (pv 0))))))
  bh)
  (aB (bu (a8 (ox rfl) (by rfl) Jf oA (af (ae (pv 5)) ax)))))))))))
abbrev il:Stmt:=top 22
theorem dD:FnScope ["_law_net_here","_law_marking","_law_move","_law_k","_law_after","_law_beads","_law_place_here"] ["_law_net_here","_law_marking","_law_move"] (defScope il):=fs
theorem oW(Df:Def K mg "_law_step" il)(Ij:mg "tuple" = none)(Ka:mg "zip" = none):Ct P w K mg base "_law_step" 1 (spF K cS):=
 dO Df dD (fun _ _ _ _ _ _=>Bg fun _ _ _=>rfl) fun f ID A outer s H E hr=>
  (ao (aK (i:=3) dD.nd rfl (lo rfl) (vC Vt VW ie (aa (aP (ae (pv 0)) (aa ah))) (af (ae (pv 2)) ax)))
  (ao (aK (i:=4) dD.nd rfl (lo rfl) (g5 aM))
  (ao (fG Uo rfl (pV (by rfl) Ka (af (aa (aD (pv 1))) (af (aa (aP (ae (pv 0)) (aa ah))) ax))) (ke rfl (bK (aN (i:=5) dD.nd rfl (lo rfl)) (bK (aN (i:=6) dD.nd rfl (lo rfl)) ia)))
  (ao (c8 (jw (oy hr.units0) (ae (pv 5)) (aa (aP (aa (aP (ae (pv 6)) (aa ah))) (ae (pv 3)))) (bc _))
  (aB (bu d5))
  bh)
  (aB (eZ (dA (pv 4) (aI aO (aa (aI lG (ae (pv 5)) (aa (aP (aa (aP (ae (pv 6)) (aa ah))) (ae (pv 3)))))) (aa (aP (aa (aP (ae (pv 6)) (aa ah))) (ae (pv 3))))))))))
  (aB (bu (bo cD (by rfl) Ij cn (af (ae (pv 4)) ax)))))))
abbrev jm:Stmt:=top 23
theorem cT:FnScope ["_law_net_here","_law_most","_law_markings","_law_arcs","_law_done","_law_move","_law_after"] ["_law_net_here","_law_most"] (defScope jm):=fs
theorem p5(Df:Def K mg "_law_run" jm)(Lk:Ct P w K mg base "_law_step" 1 (spF K cS))(Iz:mg "len" = none)(Jf:mg "sorted" = none)(Ij:mg "tuple" = none):Ct P w K mg base "_law_run" 2 (spF K ba):=
 dO Df cT (fun _ _ _ _ _ _=>tY fun _ _=>rfl) fun f ID A outer s H E hr=>
  (ao (aK (i:=2) cT.nd rfl (lo rfl) (g5 (av (bo cD (by rfl) Ij cn (af (aa (bQ [none,none,none] ["_law_beads","_law_takes","_law_gives"] rfl (cq (gj (aP (ae (pv 0)) (aa ah)))) (fun _ _ _ _ _=>(have h:=(show List.Nodup (["_law_beads","_law_takes","_law_gives"]:List Str) from by decide +kernel);(ke rfl (bK (aN (i:=0) h rfl (lo rfl)) (bK (aN (i:=1) h rfl (lo rfl)) (bK (aN (i:=2) h rfl (lo rfl)) ia)))))) (fun _ _ _ _ _=>cv) (fun _ _ _ _ _=>(aD (pv 0))))) ax)) aM)))
  (ao (aK (i:=3) cT.nd rfl (lo rfl) (g5 aM))
  (ao (aK (i:=4) cT.nd rfl (lo rfl) ah)
  (ao (qR 100000 Uo (jw (oy hr.units0) (ae (pv 4)) (aa (a8 cw (by rfl) Iz bt_len (af (ae (pv 2)) ax))) (bc _))
  (ao (fG Uo rfl (gj (aP (ae (pv 0)) (aa ah))) (aN (i:=5) cT.nd rfl (lo rfl))
  (ao (aK (i:=6) cT.nd rfl (lo rfl) (aZ Lk hr.m (by rfl) (af (ae (pv 0)) (af (aa (aP (ae (pv 2)) (ae (pv 4)))) (af (ae (pv 5)) ax)))))
  (aB (c8 (a7 kn (ae (pv 6)) (aa d5) (bc _))
  (ao (c8 (a7 (vE hr.u65) (ae (pv 6)) (ae (pv 2)) (by with_unfolding_all rfl))
  (ao (c8 (a7 (iO hr.units) (aa (a8 cw (by rfl) Iz bt_len (af (ae (pv 2)) ax))) (ae (pv 1)) (bc _))
  (aB (bu d5))
  bh)
  (aB (eZ (dA (pv 2) (aD (pv 6))))))
  bh)
  (aB (eZ (dA (pv 3) (bF (av (aD (pv 4)) (av (aD (pv 5)) (av (DD W0 PySem.F.type_list_index (p3 hr.u65) (ae (pv 2)) (af (ae (pv 6)) ax)) aM))))))))
  bh))))
  (aB (aK (i:=4) cT.nd rfl (lo rfl) (aI aO (ae (pv 4)) (aa ah))))))
  (aB (bu (bF (av (a8 (ox rfl) (by rfl) Jf oA (af (ae (pv 3)) ax)) (av (aD (pv 2)) aM)))))))))
abbrev iq:Stmt:=top 24
theorem eh:FnScope ["_law_script","_law_first","_law_k","_law_number","_law_cell"] ["_law_script","_law_first","_law_k"] (defScope iq):=fs
theorem oX(Df:Def K mg "_law_fold" iq)(IE:Ct P w K mg base "_law_mixed" 1 (spF K aW)):Ct P w K mg base "_law_fold" 2 (spF K di):=
 dO Df eh (fun _ _ _ _ _ _=>Bg fun _ _ _=>rfl) fun f ID A outer s H E hr=>
  (ao (aK (i:=3) eh.nd rfl (lo rfl) (aI aO (aa ah) (ae (pv 2))))
  (ao (fG Uo rfl (gj (DG (ae (pv 0)) (dQ (aI aO (ae (pv 1)) (ae (pv 2)))) (dQ (aI aO (ae (pv 1)) (aa ah))) (dQ ah))) (aN (i:=4) eh.nd rfl (lo rfl))
  (aB (aK (i:=3) eh.nd rfl (lo rfl) (aZ IE hr.m (by rfl) (af (aa (aI aO (ae (pv 4)) (ae (pv 3)))) (af (ae (pv 2)) ax))))))
  (aB (bu (kc (pv 3))))))
abbrev gq:Stmt:=top 25
theorem bY:FnScope ["_law_number","_law_count","_law_takes","_law_gives","_law_j","_law_mixed_here","_law_step_here","_law_loop"] ["_law_number","_law_count"] (defScope gq):=fs
theorem mK(Df:Def K mg "_law_place" gq)(IE:Ct P w K mg base "_law_mixed" 1 (spF K aW))(J9:mg "max" = none)(Ir:mg "range" = none):Ct P w K mg base "_law_place" 2 (spF K cY):=
 dO Df bY (fun _ _ _ _ _ _=>tY fun _ _=>rfl) fun f ID A outer s H E hr=>
  (ao (aK (i:=2) bY.nd rfl (lo rfl) (g5 aM))
  (ao (aK (i:=3) bY.nd rfl (lo rfl) (g5 aM))
  (ao (fG Uo rfl (du (by rfl) Ir (ae (pv 1))) (aN (i:=4) bY.nd rfl (lo rfl))
  (ao (aK (i:=5) bY.nd rfl (lo rfl) (aZ IE hr.m (by rfl) (af (ae (pv 0)) (af (ae (pv 4)) ax))))
  (ao (aK (i:=6) bY.nd rfl (lo rfl) (aI lG (aa (aI bU (ae (pv 5)) (aa ah))) (aa ah)))
  (ao (aK (i:=7) bY.nd rfl (lo rfl) (aI cM (aa (aI bU (aa (aI cM (ae (pv 5)) (aa ah))) (aa ah))) (aa ah)))
  (ao (eZ (dA (pv 2) (aI aO (aa (a8 (vf rfl) (by rfl) J9 vy (af (aa ah) (af (aa (aI lG (aa ah) (ae (pv 6)))) ax)))) (ae (pv 7)))))
  (aB (eZ (dA (pv 3) (aI aO (aa (a8 (vf rfl) (by rfl) J9 vy (af (aa ah) (af (ae (pv 6)) ax)))) (ae (pv 7)))))))))))
  (aB (bu (A8 (aI bU (aa (aI cM (ae (pv 0)) (aa ah))) (aa ah)) (kc (pv 2)) (kc (pv 3))))))))
abbrev fA:Stmt:=top 26
theorem b9:FnScope ["_law_place_here","_law_cell","_law_factor","_law_beads","_law_takes","_law_gives"] ["_law_place_here","_law_cell"] (defScope fA):=fs
theorem lq(Df:Def K mg "_law_scaled" fA)(Ij:mg "tuple" = none):Ct P w K mg base "_law_scaled" 1 (spF K bX):=
 dO Df b9 (fun _ _ _ _ _ _=>tY fun _ _=>rfl) fun f ID A outer s H E hr=>
  (ao (aK (i:=2) b9.nd rfl (lo rfl) (aI aO (aa ah) (aa (aI bU (ae (pv 1)) (aa (aI yX (aa ah) (aa ah)))))))
  (ao (Dp (aD (pv 0)) (ke rfl (bK (aN (i:=3) b9.nd rfl (lo rfl)) (bK (aN (i:=4) b9.nd rfl (lo rfl)) (bK (aN (i:=5) b9.nd rfl (lo rfl)) ia)))))
  (ao (aK (i:=4) b9.nd rfl (lo rfl) (bo cD (by rfl) Ij cn (af (aa (bQ [none,some 2] ["_law_take","_law_factor"] rfl (fK (ji (pv 4)) (fK (cq (kg (aD (pv 4)))) (cq (kh (aD (pv 4)))))) (fun _ _ _ _ _=>(aN (i:=0) (show List.Nodup (["_law_take","_law_factor"]:List Str) from by decide +kernel) rfl (lo rfl))) (fun _ _ _ _ _=>cv) (fun _ _ _ _ _=>(aI dR (ae (pv 1)) (ae (pv 0)))))) ax)))
  (aB (bu (bF (av (aI aO (aa (aI dR (ae (pv 2)) (ae (pv 3)))) (aa (aI bU (aa (aI cM (ae (pv 1)) (aa ah))) (ae (pv 2))))) (av (aD (pv 4)) (av (bo cD (by rfl) Ij cn (af (aa (bQ [none,some 2] ["_law_give","_law_factor"] rfl (fK (ji (pv 5)) (fK (cq (kg (aD (pv 5)))) (cq (kh (aD (pv 5)))))) (fun _ _ _ _ _=>(aN (i:=0) (show List.Nodup (["_law_give","_law_factor"]:List Str) from by decide +kernel) rfl (lo rfl))) (fun _ _ _ _ _=>cv) (fun _ _ _ _ _=>(aI dR (ae (pv 1)) (ae (pv 0)))))) ax)) aM)))))))))
abbrev fB:Stmt:=top 27
theorem cb:FnScope ["_law_script","_law_first","_law_count","_law_places_here","_law_k","_law_number","_law_place_here","_law_mate"] ["_law_script","_law_first","_law_count"] (defScope fB):=fs
theorem lr(Df:Def K mg "_law_places" fB)(Io:Ct P w K mg base "_law_cell_at" 1 (spF K aJ))(Ll:Ct P w K mg base "_law_fold" 2 (spF K di))(K1:Ct P w K mg base "_law_place" 2 (spF K cY))(JS:Ct P w K mg base "_law_scaled" 1 (spF K bX))(Ir:mg "range" = none):Ct P w K mg base "_law_places" 3 (spF K cF):=
 dO Df cb (fun _ _ _ _ _ _=>Bg fun _ _ _=>rfl) fun f ID A outer s H E hr=>
  (ao (aK (i:=3) cb.nd rfl (lo rfl) (g5 aM))
  (ao (fG Uo rfl (du (by rfl) Ir (aa (aI aO (aa ah) (aa (aI bU (aa (aI cM (aa (aZ Io hr.m (by rfl) (af (ae (pv 0)) (af (aa ah) ax)))) (aa ah))) (aa ah)))))) (aN (i:=4) cb.nd rfl (lo rfl))
  (ao (aK (i:=5) cb.nd rfl (lo rfl) (aZ Ll hr.m (by rfl) (af (ae (pv 0)) (af (ae (pv 1)) (af (ae (pv 4)) ax)))))
  (ao (aK (i:=6) cb.nd rfl (lo rfl) (aZ K1 hr.m (by rfl) (af (ae (pv 5)) (af (ae (pv 2)) ax))))
  (ao (eZ (dA (pv 3) (aZ JS hr.m (by rfl) (af (ae (pv 6)) (af (aa (aZ Io hr.m (by rfl) (af (ae (pv 0)) (af (aa (aI aO (ae (pv 1)) (ae (pv 4)))) ax)))) ax)))))
  (aB (c8 (jw Az (aa (aI bU (aa (aI cM (ae (pv 5)) (aa ah))) (aa ah))) (aa ah) (bc _))
  (ao (aK (i:=7) cb.nd rfl (lo rfl) (bF (av (aI bU (aa (aI cM (ae (pv 5)) (aa ah))) (aa ah)) (av (aP (aa (aD (pv 6))) (aa ah)) (av (aP (aa (aD (pv 6))) (aa ah)) aM)))))
  (aB (eZ (dA (pv 3) (aZ JS hr.m (by rfl) (af (ae (pv 7)) (af (aa (aZ Io hr.m (by rfl) (af (ae (pv 0)) (af (aa (aI aO (aa (aI aO (ae (pv 1)) (aa ah))) (ae (pv 4)))) ax)))) ax)))))))
  bh))))))
  (aB (bu (kc (pv 3))))))
abbrev gu:Stmt:=top 28
theorem dg:FnScope ["_law_script","_law_names_here","_law_cell","_law_count","_law_start"] ["_law_script"] (defScope gu):=fs
theorem mL(Df:Def K mg "_law_moves" gu)(Io:Ct P w K mg base "_law_cell_at" 1 (spF K aJ))(K2:Ct P w K mg base "_law_names" 2 (spF K cX))(Ij:mg "tuple" = none):Ct P w K mg base "_law_moves" 3 (spF K cZ):=
 dO Df dg (fun _ _ _ _ _ _=>ES fun _=>rfl) fun f ID A outer s H E hr=>
  (ao (aK (i:=1) dg.nd rfl (lo rfl) (aZ K2 hr.m (by rfl) (af (aa (aZ Io hr.m (by rfl) (af (ae (pv 0)) (af (aa ah) ax)))) ax)))
  (ao (aK (i:=2) dg.nd rfl (lo rfl) (aZ Io hr.m (by rfl) (af (ae (pv 0)) (af (aa ah) ax))))
  (ao (aK (i:=3) dg.nd rfl (lo rfl) (aI aO (aa ah) (aa (aI bU (ae (pv 2)) (aa ah)))))
  (ao (aK (i:=4) dg.nd rfl (lo rfl) (aI bU (aa (aI cM (ae (pv 2)) (aa ah))) (aa (aI lG (aa ah) (ae (pv 3))))))
  (aB (bu (bo cD (by rfl) Ij cn (af (aa (ky (ae (pv 1)) (dQ (aD (pv 4))) (dQ (aI aO (ae (pv 4)) (ae (pv 3)))))) ax))))))))
abbrev jo:Stmt:=top 29
theorem dn:FnScope ["_law_script","_law_first","_law_moves_here","_law_count","_law_places_here","_law_ones","_law_noughts"] ["_law_script","_law_first"] (defScope jo):=fs
theorem p6(Df:Def K mg "_law_net" jo)(K3:Ct P w K mg base "_law_moves" 3 (spF K cZ))(KI:Ct P w K mg base "_law_places" 3 (spF K cF))(IM:Ct P w K mg base "_law_run" 2 (spF K ba))(Iz:mg "len" = none)(Ij:mg "tuple" = none):Ct P w K mg base "_law_net" 4 (spF K dk):=
 dO Df dn (fun _ _ _ _ _ _=>tY fun _ _=>rfl) fun f ID A outer s H E hr=>
  (ao (aK (i:=2) dn.nd rfl (lo rfl) (aZ K3 hr.m (by rfl) (af (ae (pv 0)) ax)))
  (ao (aK (i:=3) dn.nd rfl (lo rfl) (a8 cw (by rfl) Iz bt_len (af (ae (pv 2)) ax)))
  (ao (aK (i:=4) dn.nd rfl (lo rfl) (aZ KI hr.m (by rfl) (af (ae (pv 0)) (af (ae (pv 1)) (af (ae (pv 3)) ax)))))
  (ao (c8 (a7 kn (aa (aZ IM hr.m (by rfl) (af (aa (bF (av (aD (pv 2)) (av (aD (pv 4)) aM)))) (af (aa ah) ax)))) (aa d5) (bc _))
  (aB (bu (bF (av (aD (pv 2)) (av (aD (pv 4)) aM)))))
  bh)
  (ao (aK (i:=5) dn.nd rfl (lo rfl) (bo cD (by rfl) Ij cn (af (aa (bQ [none] ["_law_move"] rfl (fK (ji (pv 2)) (fK (cq (kg (aD (pv 2)))) (cq (kh (aD (pv 2)))))) (fun _ _ _ _ _=>(aN (i:=0) (show List.Nodup (["_law_move"]:List Str) from by decide +kernel) rfl (lo rfl))) (fun _ _ _ _ _=>cv) (fun _ _ _ _ _=>ah))) ax)))
  (ao (aK (i:=6) dn.nd rfl (lo rfl) (bo cD (by rfl) Ij cn (af (aa (bQ [none] ["_law_move"] rfl (fK (ji (pv 2)) (fK (cq (kg (aD (pv 2)))) (cq (kh (aD (pv 2)))))) (fun _ _ _ _ _=>(aN (i:=0) (show List.Nodup (["_law_move"]:List Str) from by decide +kernel) rfl (lo rfl))) (fun _ _ _ _ _=>cv) (fun _ _ _ _ _=>ah))) ax)))
  (ao (c8 (a7 kn (aa (aZ IM hr.m (by rfl) (af (aa (bF (av (aD (pv 2)) (av (aI aO (ae (pv 4)) (aa (g5 (av (bF (av ah (av (aD (pv 5)) (av (aD (pv 6)) aM)))) aM)))) aM)))) (af (aa ah) ax)))) (aa d5) (bc _))
  (aB (bu (bF (av (aD (pv 2)) (av (aI aO (ae (pv 4)) (aa (g5 (av (bF (av ah (av (aD (pv 5)) (av (aD (pv 6)) aM)))) aM)))) aM)))))
  bh)
  (aB (bu (bF (av (aD (pv 2)) (av (aI aO (ae (pv 4)) (aa (g5 (av (bF (av ah (av (aD (pv 5)) (av (aD (pv 6)) aM)))) aM)))) aM))))))))))))
abbrev jq:Stmt:=top 30
theorem ir:FnScope ["_law_one","_law_other","_law_takes","_law_gives"] ["_law_one","_law_other"] (defScope jq):=fs
theorem p7(Df:Def K mg "_law_sum" jq)(Iz:mg "len" = none)(Ir:mg "range" = none)(Ij:mg "tuple" = none):Ct P w K mg base "_law_sum" 1 (spF K dm):=
 dO Df ir (fun _ _ _ _ _ _=>tY fun _ _=>rfl) fun f ID A outer s H E hr=>
  (ao (aK (i:=2) ir.nd rfl (lo rfl) (bo cD (by rfl) Ij cn (af (aa (bQ [none,some 0,some 1] ["_law_k","_law_one","_law_other"] rfl (cq (du (by rfl) Ir (aa (a8 cw (by rfl) Iz bt_len (af (aa (aP (ae (pv 0)) (aa ah))) ax))))) (fun _ _ _ _ _=>(aN (i:=0) (show List.Nodup (["_law_k","_law_one","_law_other"]:List Str) from by decide +kernel) rfl (lo rfl))) (fun _ _ _ _ _=>cv) (fun _ _ _ _ _=>(aI aO (aa (aP (aa (aP (ae (pv 1)) (aa ah))) (ae (pv 0)))) (aa (aP (aa (aP (ae (pv 2)) (aa ah))) (ae (pv 0)))))))) ax)))
  (ao (aK (i:=3) ir.nd rfl (lo rfl) (bo cD (by rfl) Ij cn (af (aa (bQ [none,some 0,some 1] ["_law_k","_law_one","_law_other"] rfl (cq (du (by rfl) Ir (aa (a8 cw (by rfl) Iz bt_len (af (aa (aP (ae (pv 0)) (aa ah))) ax))))) (fun _ _ _ _ _=>(aN (i:=0) (show List.Nodup (["_law_k","_law_one","_law_other"]:List Str) from by decide +kernel) rfl (lo rfl))) (fun _ _ _ _ _=>cv) (fun _ _ _ _ _=>(aI aO (aa (aP (aa (aP (ae (pv 1)) (aa ah))) (ae (pv 0)))) (aa (aP (aa (aP (ae (pv 2)) (aa ah))) (ae (pv 0)))))))) ax)))
  (aB (bu (bF (av (aI aO (aa (aP (ae (pv 0)) (aa ah))) (aa (aP (ae (pv 1)) (aa ah)))) (av (aD (pv 2)) (av (aD (pv 3)) aM))))))))
abbrev dh:Stmt:=top 31
theorem aS:FnScope ["_law_script","_law_net_here","_law_first","_law_places_here","_law_k","_law_number","_law_one","_law_other"] ["_law_script","_law_net_here","_law_first"] (defScope dh):=fs
theorem iu(Df:Def K mg "_law_more_places" dh)(Io:Ct P w K mg base "_law_cell_at" 1 (spF K aJ))(IE:Ct P w K mg base "_law_mixed" 1 (spF K aW))(LD:Ct P w K mg base "_law_sum" 1 (spF K dm))(Iz:mg "len" = none)(IS:mg "list" = none)(Ir:mg "range" = none)(Ij:mg "tuple" = none):Ct P w K mg base "_law_more_places" 2 (spF K bx):=
 dO Df aS (fun _ _ _ _ _ _=>Bg fun _ _ _=>rfl) fun f ID A outer s H E hr=>
  (ao (aK (i:=3) aS.nd rfl (lo rfl) (bo mB (by rfl) IS j5 (af (aa (aP (ae (pv 1)) (aa ah))) ax)))
  (ao (fG Uo rfl (uY (by rfl) Ir (af (ae (pv 2)) (af (aa (aI aO (ae (pv 2)) (aa ah))) ax))) (aN (i:=4) aS.nd rfl (lo rfl))
  (ao (aK (i:=5) aS.nd rfl (lo rfl) (aZ IE hr.m (by rfl) (af (aa (aZ Io hr.m (by rfl) (af (ae (pv 0)) (af (ae (pv 4)) ax)))) (af (aa ah) ax))))
  (ao (aK (i:=6) aS.nd rfl (lo rfl) (aP (ae (pv 3)) (aa (aI bU (ae (pv 5)) (aa (a8 cw (by rfl) Iz bt_len (af (ae (pv 3)) ax)))))))
  (ao (aK (i:=7) aS.nd rfl (lo rfl) (aP (ae (pv 3)) (aa (aI bU (aa (aI cM (ae (pv 5)) (aa ah))) (aa (a8 cw (by rfl) Iz bt_len (af (ae (pv 3)) ax)))))))
  (ao (c8 (a7 (iO hr.units) (aa (aI bU (aa (aI cM (ae (pv 5)) (aa ah))) (aa ah))) (aa ah) (bc _))
  (aB (aK (i:=6) aS.nd rfl (lo rfl) (aZ LD hr.m (by rfl) (af (ae (pv 6)) (af (ae (pv 7)) ax)))))
  bh)
  (ao (c8 (a7 (iO hr.units) (aa (aI bU (aa (aI cM (ae (pv 5)) (aa ah))) (aa ah))) (aa ah) (bc _))
  (aB (aK (i:=6) aS.nd rfl (lo rfl) (bF (av (aI aO (aa (aP (ae (pv 6)) (aa ah))) (aa (aI bU (aa (aZ Io hr.m (by rfl) (af (ae (pv 0)) (af (ae (pv 4)) ax)))) (aa (aI yX (aa ah) (aa ah)))))) (av (aP (ae (pv 6)) (aa ah)) (av (aP (ae (pv 6)) (aa ah)) aM))))))
  bh)
  (ao (c8 (a7 (iO hr.units) (aa (aI bU (aa (aI cM (ae (pv 5)) (aa ah))) (aa ah))) (aa ah) (bc _))
  (aB (aK (i:=6) aS.nd rfl (lo rfl) (bF (av (aI dR (aa (aP (ae (pv 6)) (aa ah))) (aa ah)) (av (bo cD (by rfl) Ij cn (af (aa (bQ [none] ["_law_take"] rfl (cq (gj (aP (ae (pv 6)) (aa ah)))) (fun _ _ _ _ _=>(aN (i:=0) (show List.Nodup (["_law_take"]:List Str) from by decide +kernel) rfl (lo rfl))) (fun _ _ _ _ _=>cv) (fun _ _ _ _ _=>(aI dR (ae (pv 0)) (aa ah))))) ax)) (av (bo cD (by rfl) Ij cn (af (aa (bQ [none] ["_law_give"] rfl (cq (gj (aP (ae (pv 6)) (aa ah)))) (fun _ _ _ _ _=>(aN (i:=0) (show List.Nodup (["_law_give"]:List Str) from by decide +kernel) rfl (lo rfl))) (fun _ _ _ _ _=>cv) (fun _ _ _ _ _=>(aI dR (ae (pv 0)) (aa ah))))) ax)) aM))))))
  bh)
  (aB (c8 (jw Az (aa (aI bU (aa (aI cM (ae (pv 5)) (aa ah))) (aa ah))) (aa ah) (bc _))
  (aB (eZ (vO (pv 3) (aI bU (aa (aI cM (ae (pv 5)) (aa ah))) (aa (aI aO (aa (a8 cw (by rfl) Iz bt_len (af (ae (pv 3)) ax))) (aa ah)))) (aD (pv 6)))))
  bh)))))))))
  (aB (bu (bF (av (aP (ae (pv 1)) (aa ah)) (av (aD (pv 3)) aM)))))))
abbrev fC:Stmt:=top 32
theorem dq:FnScope ["_law_few","_law_places_here","_law_k","_law_place_here"] ["_law_few","_law_places_here"] (defScope fC):=fs
theorem lu(Df:Def K mg "_law_within" fC)(Iz:mg "len" = none):Ct P w K mg base "_law_within" 1 (spF K cG):=
 dO Df dq (fun _ _ _ _ _ _=>tY fun _ _=>rfl) fun f ID A outer s H E hr=>
  (ao (aK (i:=2) dq.nd rfl (lo rfl) ah)
  (ao (fG Uo rfl (gj (aD (pv 1))) (aN (i:=3) dq.nd rfl (lo rfl))
  (aB (c8 (QW.qt (lE (jw (oy hr.units0) (ae (pv 2)) (aa (a8 cw (by rfl) Iz bt_len (af (ae (pv 0)) ax))) (bc _)) (jb (a7 (iO hr.units) (aa (aP (ae (pv 0)) (ae (pv 2)))) (ae (pv 3)) (bc _)))))
  (aB (aK (i:=2) dq.nd rfl (lo rfl) (aI aO (ae (pv 2)) (aa ah))))
  bh)))
  (aB (bu (pK (iO hr.units) (ae (pv 2)) (aa (a8 cw (by rfl) Iz bt_len (af (ae (pv 0)) ax))) (bc _))))))
abbrev gv:Stmt:=top 33
theorem cH:FnScope ["_law_chart","_law_net_here","_law_found","_law_places_here","_law_there","_law_k"] ["_law_chart","_law_net_here"] (defScope gv):=fs
theorem mM(Df:Def K mg "_law_right" gv)(IM:Ct P w K mg base "_law_run" 2 (spF K ba))(KJ:Ct P w K mg base "_law_within" 1 (spF K cG))(KS:Ct P w K mg base "thinned" 6 (spF K dW))(IJ:mg "isinstance" = none)(Iz:mg "len" = none)(IS:mg "list" = none)(Ir:mg "range" = none)(Ij:mg "tuple" = none):Ct P w K mg base "_law_right" 7 (spF K cA):=
 dO Df cH (fun _ _ _ _ _ _=>tY fun _ _=>rfl) fun f ID A outer s H E hr=>
  (ao (aK (i:=2) cH.nd rfl (lo rfl) (aZ KS hr.m (by rfl) (af (ae (pv 0)) (af (ae (pv 1)) ax))))
  (ao (c8 (QW.qt (uT (nZ (lD (Dh (T:="tuple") (by decide) (ae (pv 2)) (by rfl) IJ (by rfl) Ij cn))) (uT (a7 (sZ hr.units) (aa (a8 cw (by rfl) Iz bt_len (af (ae (pv 2)) ax))) (aa ah) (bc _)) (uT (a7 (sZ hr.units) (aa (aP (ae (pv 2)) (aa ah))) (aa (aP (ae (pv 0)) (aa ah))) (bc _)) (yV (nZ (lD (Dh (T:="list") (by decide) (aa (aP (ae (pv 2)) (aa ah))) (by rfl) IJ (by rfl) IS j5))))))))
  (aB (bu As))
  bh)
  (ao (aK (i:=3) cH.nd rfl (lo rfl) (aP (ae (pv 2)) (aa ah)))
  (ao (aK (i:=4) cH.nd rfl (lo rfl) (aZ IM hr.m (by rfl) (af (aa (bF (av (aP (ae (pv 0)) (aa ah)) (av (aD (pv 3)) aM)))) (af (aa ah) ax))))
  (ao (c8 (QW.qt (uT (nZ (lD (aZ KJ hr.m (by rfl) (af (ae (pv 3)) (af (aa (aP (ae (pv 1)) (aa ah))) ax))))) (uT (a7 De (ae (pv 4)) (aa d5) (bc _)) (yV (a7 (sZ hr.units) (aa (aP (ae (pv 4)) (aa ah))) (aa (aP (ae (pv 0)) (aa ah))) (bc _))))))
  (aB (bu As))
  bh)
  (ao (fG Uo rfl (du (by rfl) Ir (aa (a8 cw (by rfl) Iz bt_len (af (ae (pv 3)) ax)))) (aN (i:=5) cH.nd rfl (lo rfl))
  (ao (aK (i:=4) cH.nd rfl (lo rfl) (aZ IM hr.m (by rfl) (af (aa (bF (av (aP (ae (pv 0)) (aa ah)) (av (aI aO (aa (ky (ae (pv 3)) jg (dQ (aD (pv 5))))) (aa (ky (ae (pv 3)) (dQ (aI aO (ae (pv 5)) (aa ah))) jg))) aM)))) (af (aa ah) ax))))
  (aB (c8 (QW.qt (lE (a7 kn (ae (pv 4)) (aa d5) (bc _)) (jb (a7 (iO hr.units) (aa (aP (ae (pv 4)) (aa ah))) (aa (aP (ae (pv 0)) (aa ah))) (bc _)))))
  (aB (bu As))
  bh))))
  (aB (bu (pK (iO hr.units) (aa (aZ KS hr.m (by rfl) (af (ae (pv 0)) (af (aa (bF (av (aP (ae (pv 0)) (aa ah)) (av (bo mB (by rfl) IS j5 (af (ae (pv 3)) ax)) aM)))) ax)))) (ae (pv 2)) (bc _))))))))))
abbrev mN:Stmt:=top 34
theorem vU:FnScope ["_law_script","_law_net_here","_law_chart"] ["_law_script"] (defScope mN):=fs
theorem DK{f:Addr}{fd:FuncData}(F:Fun K "law" "law" mN f fd)(JZ:Ct P w K mg base "_law_more_places" 2 (spF K bx))(LF:Ct P w K mg base "_law_net" 4 (spF K dk))(Kb:Ct P w K mg base "_law_right" 7 (spF K cA))(IM:Ct P w K mg base "_law_run" 2 (spF K ba))(IS:mg "list" = none)(Jg:mg "reversed" = none):FnOk P w K mg base L6 8 f fd ["_law_script"] (spF K m_law):=
 fnok_of F vU fun ID A outer s H E hr=>
  (ao (aK (i:=1) vU.nd rfl (lo rfl) (aZ JZ hr.m (by rfl) (af (ae (pv 0)) (af (aa (aZ LF hr.m (by rfl) (af (ae (pv 0)) (af (aa ah) ax)))) (af (aa ah) ax)))))
  (ao (aK (i:=2) vU.nd rfl (lo rfl) (bF (av (aP (ae (pv 1)) (aa ah)) (av (aP (aa (aZ IM hr.m (by rfl) (af (ae (pv 1)) (af (aa ah) ax)))) (aa ah)) aM))))
  (aB (bu (C1 (aZ Kb hr.m (by rfl) (af (ae (pv 2)) (af (ae (pv 1)) ax))) (C0 (aZ Kb hr.m (by rfl) (af (ae (pv 2)) (af (aa (bF (av (aP (ae (pv 1)) (aa ah)) (av (DA rfl (by rfl) IS (by rfl) Jg (af (aa (aP (ae (pv 1)) (aa ah))) ax)) aM)))) ax)))))))))
end
end LW
namespace PV
open PySem L2 NX
class Cont (α β:Type) where
 run:α->Res β
def Res.bnd{α β:Type}[f:Cont α β](x:Res α):Res β:=x.bind f.run
theorem IF{α β:Type}(a:α)(f:α->Res β):Res.bnd (Res.ok a) (f:=⟨f⟩)=f a:=id rfl
section
variable(env:PV.Env)(i n:Nat)(d:D)(f g:FX)(c c':FT)(fo Rk fo'':FO)(fs:FOs)(fd:FDs)(s t:FS)(op op':D->D->Res R)(F:List D->Res R)(a:FG)(as:Nl)(fi fj:FI)(fp Ie:FP)(T:String)
theorem OW:aF d env=.ok ((.f,d),env):=id rfl
theorem LX:aR i env=match env[i]? with|some (some r)=>.ok ((.f,r.2),env.set i (some (fz r.1,r.2)))|_=>.bad:=id rfl
theorem Qy:fz .f=.f:=id rfl
theorem Qz(c:O):fz (.l c)=.f:=id rfl
theorem QA(cs:List O):fz (.t cs)=.f:=id rfl
theorem Nq(p:Addr):sV (.pin p .f)=true:=id rfl
theorem MN(p:Addr):sV (.pin p .d)=true:=id rfl
theorem Nr:nY i env=match env[i]? with|some (some r)=>.ok (r,env.set i none)|_=>.bad:=id rfl
theorem OX:aq f env=Res.bnd (f env) (f:=⟨fun p=>.ok (.val p.1.2,p.2)⟩):=id rfl
theorem OY:aw i env=match env[i]? with|some (some _)=>.ok (.var i,env)|_=>.bad:=id rfl
theorem Nu:aG env=.ok ([],env):=id rfl
theorem MO:ag fo fs env=Res.bnd (fo env) (f:=⟨fun p=>Res.bnd (fs p.2) (f:=⟨fun q=>.ok (p.1::q.1,q.2)⟩)⟩):=id rfl
theorem Nv:bC env=.ok ([],env):=id rfl
theorem MP:az f fd env=Res.bnd (f env) (f:=⟨fun p=>Res.bnd (fd p.2) (f:=⟨fun q=>.ok (p.1.2::q.1,q.2)⟩)⟩):=id rfl
theorem OZ:JC env (.val d)=.ok d:=id rfl
theorem O0:JC env (.var i)=match env[i]? with|some (some r)=>if sV r.1 then .ok r.2 else .bad|_=>.bad:=id rfl
theorem Nw:sW env (.val d)=.ok d:=id rfl
theorem Nx:sW env (.var i)=match env[i]? with|some (some r)=>.ok r.2|_=>.bad:=id rfl
theorem Ny:m9 env []=.ok []:=id rfl
theorem Nz(o:Opd)(os:List Opd):m9 env (o::os)=Res.bnd (JC env o) (f:=⟨fun d=>Res.bnd (m9 env os) (f:=⟨fun ds=>.ok (d::ds)⟩)⟩):=id rfl
theorem MQ:iG env []=.ok []:=id rfl
theorem MR(o:Opd)(os:List Opd):iG env (o::os)=Res.bnd (sW env o) (f:=⟨fun d=>Res.bnd (iG env os) (f:=⟨fun ds=>.ok (d::ds)⟩)⟩):=id rfl
theorem NA:sV .f=true:=id rfl
theorem NB:sV (.l .f)=true:=id rfl
theorem NC:sV .d=true:=id rfl
theorem O1:aA op fo Rk env=Res.bnd (fo env) (f:=⟨fun p=>Res.bnd (Rk p.2) (f:=⟨fun q=>Res.bnd (JC q.2 p.1) (f:=⟨fun a=>Res.bnd (JC q.2 q.1) (f:=⟨fun b=>Res.bnd (op a b) (f:=⟨fun r=>.ok (r,q.2)⟩)⟩)⟩)⟩)⟩):=id rfl
theorem ND:cj op fo Rk env=Res.bnd (fo env) (f:=⟨fun p=>Res.bnd (Rk p.2) (f:=⟨fun q=>Res.bnd (sW q.2 p.1) (f:=⟨fun a=>Res.bnd (sW q.2 q.1) (f:=⟨fun b=>Res.bnd (op a b) (f:=⟨fun r=>.ok (r,q.2)⟩)⟩)⟩)⟩)⟩):=id rfl
theorem QB:IU f env=Res.bnd (f env) (f:=⟨fun p=>match p.1.2 with | .bl k=>.ok (k,p.2)|_=>.bad⟩):=id rfl
theorem O2:yU c c' env=Res.bnd (c env) (f:=⟨fun p=>if p.1 then c' p.2 else .ok (false,p.2)⟩):=id rfl
theorem QC:OG c c' env=Res.bnd (c env) (f:=⟨fun p=>if p.1 then .ok (true,p.2) else c' p.2⟩):=id rfl
theorem O3:Av c env=Res.bnd (c env) (f:=⟨fun p=>.ok (!p.1,p.2)⟩):=id rfl
theorem O4:FD f g env=Res.bnd (f env) (f:=⟨fun p=>match p.1.2 with | .bl true=>g p.2 | .bl false=>.ok ((.f,.bl false),p.2)|_=>.bad⟩):=id rfl
theorem NF:aX F fs env=Res.bnd (fs env) (f:=⟨fun p=>Res.bnd (m9 p.2 p.1) (f:=⟨fun ds=>Res.bnd (F ds) (f:=⟨fun r=>.ok (r,p.2)⟩)⟩)⟩):=id rfl
theorem O5:dM F fs env=Res.bnd (fs env) (f:=⟨fun p=>Res.bnd (iG p.2 p.1) (f:=⟨fun ds=>Res.bnd (F ds) (f:=⟨fun r=>.ok (r,if aQ r.1 r.2 then p.2 else p.2.map frz)⟩)⟩)⟩):=id rfl
theorem O6:eW fd env=Res.bnd (fd env) (f:=⟨fun p=>if p.1.length<=1000 then .ok ((.f,.tup p.1),p.2) else .bad⟩):=id rfl
theorem O7:tX fd env=Res.bnd (fd env) (f:=⟨fun p=>if p.1.length<=1000 then .ok ((.l .f,.lst p.1),p.2) else .bad⟩):=id rfl
theorem NG:oh env=.ok (none,env):=id rfl
theorem NH:je f env=Res.bnd (f env) (f:=⟨fun p=>match p.1.2 with | .int i=>.ok (some i,p.2)|_=>.bad⟩):=id rfl
theorem O8:uZ i f env=if pO env i then(Res.bnd (f env) (f:=⟨fun(p:R×PV.Env)=>match p.2[i]? with
 |some (some (.l .f,.lst ds))=>if ds.length<sizeLine then .ok ((.f,.non),p.2.set i (some (.l .f,.lst (ds++[p.1.2])))) else .bad
 |_=>.bad⟩)) else .bad:=id rfl
theorem NI:pO env i=match env[i]? with|some (some (_,.lst _))=>true|_=>false:=id rfl
theorem QD:Q9 T fo env=Res.bnd (fo env) (f:=⟨fun p=>Res.bnd (sW p.2 p.1) (f:=⟨fun d=>.ok ((.f,.bl (xG T d)),p.2)⟩)⟩):=id rfl
theorem NJ:AF f g env=Res.bnd (f env) (f:=⟨fun p=>Res.bnd (g p.2) (f:=⟨fun q=>match(oj p.1.2).bind dH,q.1.2 with|some ns,.int d=>.ok ((.f,.int (NX.maxD ns d)),q.2)|_,_=>.bad⟩)⟩):=id rfl
theorem O9(gg:List Nat->List D->Res R):FQ gg fo fs env=Res.bnd (fo env) (f:=⟨fun p=>match JC p.2 p.1 with
 | .ok (.str l)=>Res.bnd (fs p.2) (f:=⟨fun q=>Res.bnd (m9 q.2 q.1) (f:=⟨fun ds=>Res.bnd (gg l ds) (f:=⟨fun r=>.ok (r,q.2)⟩)⟩)⟩)
 |_=>.bad⟩):=id rfl
theorem NK(ix:List (Option Nat)):dw fi ix a c f env=Res.bnd (fi env) (f:=⟨fun p=>Res.bnd (dv a c f p.1 (dP ix p.2)) (f:=⟨fun ds=>if ds.length<=sizeLine then .ok ((.l .f,.lst ds),if flatDs ds then p.2 else p.2.map frz) else .bad⟩)⟩):=id rfl
theorem LG:dP [] env=[]:=id rfl
theorem LH(ix:List (Option Nat)):dP (none::ix) env=none::dP ix env:=id rfl
theorem LI(ix:List (Option Nat)):dP (some i::ix) env=(match env[i]? with|some (some r)=>some (O.f,r.2)|_=>none)::dP ix env:=id rfl
theorem DL:fH env=.ok (true,env):=id rfl
theorem rH(ds:List D):dv a c f (d::ds) env=Res.bnd (a d env) (f:=⟨fun e=>Res.bnd (c e) (f:=⟨fun p=>if p.1 then(Res.bnd (f p.2) (f:=⟨fun q=>Res.bnd (dv a c f ds q.2) (f:=⟨fun rs=>.ok (q.1.2::rs)⟩)⟩)) else dv a c f ds p.2⟩)⟩):=id rfl
theorem DM:C2 f env=Res.bnd (f env) (f:=⟨fun p=>match p.1.2 with | .lst ds=>.ok (ds,p.2)|_=>.bad⟩):=id rfl
theorem vV:iJ f env=Res.bnd (f env) (f:=⟨fun p=>match p.1.2 with | .tup ds=>.ok (ds,p.2)|_=>.bad⟩):=id rfl
theorem vW:iK f env=Res.bnd (f env) (f:=⟨fun p=>match p.1.2 with | .str l=>.ok (l.map fun c=>.str [c],p.2)|_=>.bad⟩):=id rfl
theorem p8:JO fi fj env=match fi env with | .ok a=>.ok a|_=>fj env:=by
 unfold JO;cases fi env <;> rfl
theorem Pa:JO (C2 f) (JO (iJ f) (iK f)) env=Res.bnd (f env) (f:=⟨fun p=>match p.1.2 with
 | .lst ds=>.ok (ds,p.2)
 | .tup ds=>.ok (ds,p.2)
 | .str l=>.ok (l.map fun c=>.str [c],p.2)
 |_=>.bad⟩):=by
 rw[p8,p8,DM,vV,vW];cases f env with
 |ok p=>
  obtain⟨⟨o,d⟩,e⟩:=p;cases d <;> rfl
 |exc c=>rfl
 |bad=>rfl
theorem NL:JO (jO i) (JO (iJ (aR i)) (iK (aR i))) env=match env[i]? with
 |some (some (_,.lst ds))=>.ok (ds,env)
 |some (some (o,.tup ds))=>.ok (ds,env.set i (some (fz o,.tup ds)))
 |some (some (o,.str l))=>.ok (l.map fun c=>.str [c],env.set i (some (fz o,.str l)))
 |_=>.bad:=by
 rw[p8,p8,vV,vW,LX];unfold jO;cases env[i]? with
 |none=>rfl
 |some r=>
  cases r with
  |none=>rfl
  |some r=>
   obtain⟨o,d⟩:=r;cases d <;> rfl
theorem KU:c9 fo env=Res.bnd (fo env) (f:=⟨fun p=>Res.bnd (JC p.2 p.1) (f:=⟨fun d=>match d with
 | .int j=>if -4611686018427387904<=j/\j<4611686018427387904 then .ok ((List.range j.toNat).map fun(k:Nat)=>D.int (k:Int),p.2) else .bad
 |_=>.bad⟩)⟩):=id rfl
theorem Mh:pN fs env=Res.bnd (fs env) (f:=⟨fun p=>Res.bnd (m9 p.2 p.1) (f:=⟨fun d=>match d with
 |[.int i,.int j]=>if(-4611686018427387904<=i/\i<4611686018427387904)/\-4611686018427387904<=j/\j<4611686018427387904 then .ok ((List.range (j-i).toNat).map fun(k:Nat)=>D.int (i+(k:Int)),p.2) else .bad
 |_=>.bad⟩)⟩):=id rfl
theorem mO(k1 k2:Bool):sX k1 k2 fs env=Res.bnd (fs env) (f:=⟨fun p=>match p.1 with
 |[.val d1,.val d2]=>Res.bnd (jd k1 d1) (f:=⟨fun a=>Res.bnd (jd k2 d2) (f:=⟨fun b=>.ok ((a.zip b).map fun z=>D.tup [z.1,z.2],p.2)⟩)⟩)
 |_=>.bad⟩):=id rfl
theorem JL:aH i d env=if i<env.length then .ok (env.set i (some (.f,d))) else .bad:=id rfl
theorem NM:fT [] env=.ok env:=id rfl
theorem Js(ds:List D):bg a as (d::ds) env=Res.bnd (a d env) (f:=⟨fun e=>as ds e⟩):=id rfl
theorem LJ(ds:List D):ng n as (.tup ds) env=if ds.length=n then as ds env else .bad:=id rfl
theorem Jh:sSeq s t env=Res.bnd (s env) (f:=⟨fun o=>match o with | .nx e=>t e|o=>.ok o⟩):=id rfl
theorem NN:cu env=.ok (.nx env):=id rfl
theorem MS:b5 i f env=Res.bnd (f env) (f:=⟨fun p=>if i<p.2.length then .ok (.nx (p.2.set i (some p.1))) else .bad⟩):=id rfl
theorem NO:jc f env=Res.bnd (f env) (f:=⟨fun p=>.ok (.nx p.2)⟩):=id rfl
theorem Pb:eY f env=Res.bnd (f env) (f:=⟨fun p=>.ok (.rt p.1)⟩):=id rfl
theorem MT:Jt c s t env=Res.bnd (c env) (f:=⟨fun p=>if p.1 then s p.2 else t p.2⟩):=id rfl
theorem MU:pM fi a s env=Res.bnd (fi env) (f:=⟨fun p=>d6 a s p.1 p.2⟩):=id rfl
theorem NP:d6 a s [] env=.ok (.nx env):=id rfl
theorem cB(ds:List D):d6 a s (d::ds) env=Res.bnd (a d env) (f:=⟨fun e=>Res.bnd (s e) (f:=⟨fun o=>match o with
 | .nx e=>d6 a s ds e
 | .ct e=>d6 a s ds e
 | .bk e=>.ok (.nx e)
 | .rt r=>.ok (.rt r)⟩)⟩):=id rfl
theorem eB:dt c s (n+1) env=Res.bnd (c env) (f:=⟨fun p=>if p.1 then(Res.bnd (s p.2) (f:=⟨fun o=>match o with
  | .nx e=>dt c s n e
  | .ct e=>dt c s n e
  | .bk e=>.ok (.nx e)
  | .rt r=>.ok (.rt r)⟩)) else .ok (.nx p.2)⟩):=id rfl
theorem Pc:EN f a env=Res.bnd (f env) (f:=⟨fun p=>Res.bnd (a p.1.2 p.2) (f:=⟨fun e=>.ok (.nx e)⟩)⟩):=id rfl
theorem bD(ds:List D)(nn:Nat)(h:ds.length=n):fBody n nn s ds=Res.bnd (s (ds.map (fun d=>some (O.f,d))++List.replicate nn none)) (f:=⟨fun o=>match o with
 | .rt r=>.ok r
 | .nx _=>.ok (.f,.non)
 |_=>.bad⟩):=by
 unfold fBody;rw[TF h];all_goals cases s (ds.map (fun d=>some (O.f,d))++List.replicate nn none) with
 |ok o=>cases o <;> rfl
 |exc c=>rfl
 |bad=>rfl
end
theorem line_le{n:Nat}(h:n<=16777216):n<=sizeLine:=by rw[line_eq];exact h
section
variable(a b:Int)(x y:List Nat)(p q:Bool)(ds es:List D)
theorem F0:JW (.int a) (.int b)=.ok (.f,.bl (a==b)):=by simp only[JW,plainD,Ig,UG,VY]
theorem F1:JW (.str x) (.str y)=.ok (.f,.bl (x==y)):=by simp only[JW,plainD,Ig,UG,VY]
theorem F2:Lg (.int a) (.int b)=.ok (.f,.bl (!(a==b))):=by simp only[Lg,plainD,Ig,UG,VY]
theorem DN:wU (.int a) (.int b)=.ok (.f,.int (a-b)):=id rfl
theorem Bj:dF (.int a) (.int b)=if 0<b/\b<1073741824 then .ok (.f,.int (a / b)) else .bad:=id rfl
theorem DO:fI (.int a) (.int b)=if 0<b then .ok (.f,.int (a%b)) else .bad:=id rfl
theorem DP:xE (.int a) (.int b)=if 0<=b/\b<=1000000/\a.natAbs<2 ^ 64 then .ok (.f,.int (a ^ b.toNat)) else .bad:=id rfl
theorem F3:Lr (.int a) (.int b)=.ok (.f,.bl (decide (a<b))):=id rfl
theorem F4:OJ (.int a) (.int b)=.ok (.f,.bl (decide (b<a))):=id rfl
theorem F5:Qf (.int a) (.int b)=.ok (.f,.bl (decide (b<=a))):=id rfl
theorem DQ:fO [.lst ds]=.ok (.f,.int ds.length):=id rfl
theorem DR:fO [.tup ds]=.ok (.f,.int ds.length):=id rfl
theorem Bk:pP [.lst ds]=.ok (.l .f,.lst ds):=id rfl
theorem xY:cV [.lst ds]=.ok (.f,.tup ds):=id rfl
theorem F6:Ih (.lst ds) (.int a)=match Ju ds a with|some d=>.ok (.f,d)|none=>.bad:=id rfl
theorem F7:Ih (.tup ds) (.int a)=match Ju ds a with|some d=>.ok (.f,d)|none=>.bad:=id rfl
theorem F8:Ih (.str x) (.int a)=match Ju x a with|some c=>.ok (.f,.str [c])|none=>.bad:=id rfl
theorem DS:maxD [.int a,.int b]=.ok (.f,.int (if a<b then b else a)):=id rfl
theorem za(bs:List Bool):C7 [.lst (bs.map D.bl)]=.ok (.f,.bl (bs.all id)):=by
 unfold C7;show(match oi (bs.map D.bl) with|some bs=>_|none=>_)=_;rw[u0]
theorem Rl{α:Type}(d:α)(l:List α):Ju (d::l) 0=some d:=by
 have:=fR (xs:=d::l) (j:=0) (v:=d) rfl;simpa using this
theorem Pz{α:Type}(c d:α)(l:List α):Ju (c::d::l) 1=some d:=by
 have:=fR (xs:=c::d::l) (j:=1) (v:=d) rfl;simpa using this
end
theorem Ik(l:List Int):flatDs (l.map D.int)=true:=by
 rw[cU,U7,T8];intro b _;rfl
theorem rJ(l:List Bool):flatDs (l.map D.bl)=true:=by
 rw[cU,U7,T8];intro b _;rfl
theorem flat_strs(l:List (List Nat)):flatDs (l.map D.str)=true:=by
 rw[cU,U7,T8];intro b _;rfl
theorem qe(d:D):aQ .f d=flatD d:=by rw[aQ]
theorem xZ(ds:List D):aQ (.l .f) (.lst ds)=flatDs ds:=by rw[aQ,my]
theorem jX(i:Int):flatD (.int i)=true:=by rw[flatD];all_goals simp
theorem qf(i:Bool):flatD (.bl i)=true:=by rw[flatD];all_goals simp
theorem cI(ds:List D):flatD (.tup ds)=flatDs ds:=by rw[flatD]
theorem gO(n:Nat)(l:List Int):plainDs n (l.map D.int)=true:=by
 induction l with
 |nil=>rfl
 |cons a l ih=>rw[TR,plainDs,ih,plainD];all_goals simp
theorem gP(n:Nat)(l:List (List Nat)):plainDs n (l.map D.str)=true:=by
 induction l with
 |nil=>rfl
 |cons a l ih=>rw[TR,plainDs,ih,plainD];all_goals simp
theorem eqDs_ints:∀a b:List Int,iw (a.map D.int) (b.map D.int)=(a==b)
 |[],[]=>by simp[iw]
 |[],_::_=>by simp[iw]
 |_::_,[]=>by simp[iw]
 |a::r,b::t=>by
  rw[TR,TR,iw,Ig,eqDs_ints r t,T5];simp
theorem x3(a:Int)(l:List Int):wV (.int a) (l.map D.int)=decide (a∈l):=by
 unfold wV;rw[VU,T5,U3,TQ];constructor
 ·rintro⟨x,hx,e⟩;have e:Ig (.int x) (.int a)=true:=e;rw[Ig,Us]at e;rw[<-e];exact hx
 ·intro h;refine⟨a,h,?_⟩;show Ig (.int a) (.int a)=true;rw[Ig,UT]
theorem x4(a:List Nat)(l:List (List Nat)):wV (.str a) (l.map D.str)=decide (a∈l):=by
 unfold wV;rw[VU,T5,U3,TQ];constructor
 ·rintro⟨x,hx,e⟩;have e:Ig (.str x) (.str a)=true:=e;rw[Ig,Us]at e;rw[<-e];exact hx
 ·intro h;refine⟨a,h,?_⟩;show Ig (.str a) (.str a)=true;rw[Ig,UT]
theorem GL(a:Int)(l:List Int):MI (.int a) (.lst (l.map D.int))=.ok (.f,.bl (decide (a∈l))):=by
 unfold MI;dsimp only;rw[gO,x3,plainD];all_goals simp
theorem x5{α:Type}{a:FG}{c:FT}{f:FX}{e:α->D}{p:α->Bool}{r:α->D}(I:PV.Env->Prop)(l:List α)
  (h:∀x∈l,∀env,I env->∃H0,a (e x) env=.ok H0/\∃Il,c H0=.ok (p x,Il)/\if p x then ∃o IX,f Il=.ok ((o,r x),IX)/\I IX else I Il):∀env,I env->dv a c f (l.map e) env=.ok ((l.filter p).map r):=by
 induction l with
 |nil=>intro env _;rfl
 |cons x l ih=>
  intro env hI;obtain⟨H0,h1,Il,h2,h3⟩:=h x Ts env hI;have ih:=ih fun y hy=>h y (Tx _ hy)
  rw[TR,rH,h1,IF,h2,IF];cases hp:p x with
  |true=>
   rw[hp]at h3;obtain⟨o,IX,h4,h5⟩:=h3;rw[TF rfl,h4,IF,ih IX h5,IF,List.filter_cons_of_pos hp];rfl
  |false=>
   rw[hp]at h3;rw[TJ Tz,ih Il h3,List.filter_cons_of_neg (by rw[hp];exact Tz)]
theorem cJ{α:Type}{a:FG}{f:FX}{e:α->D}{r:α->D}(I:PV.Env->Prop)(l:List α)
  (h:∀x∈l,∀env,I env->∃H0,a (e x) env=.ok H0/\∃o IX,f H0=.ok ((o,r x),IX)/\I IX):∀env,I env->dv a fH f (l.map e) env=.ok (l.map r):=by
 induction l with
 |nil=>intro env _;rfl
 |cons x l ih=>
  intro env hI;obtain⟨H0,h1,o,IX,h4,h5⟩:=h x Ts env hI;have ih:=ih fun y hy=>h y (Tx _ hy)
  rw[TR,rH,h1,IF,DL,IF,TF rfl,h4,IF,ih IX h5];rfl
theorem Bl{a:FG}{g:FS}(P:Nat->PV.Env->Prop)(ds:List D)(h:∀i d env,ds[i]?=some d->P i env->∃H0,a d env=.ok H0/\∃Il,(g H0=.ok (.nx Il)\/g H0=.ok (.ct Il))/\P (i+1) Il):
  ∀env,P 0 env->∃env',d6 a g ds env=.ok (.nx env')/\P ds.length env':=by
 have key:∀(l:List D) (k:Nat) (env:PV.Env),(∀i d,l[i]?=some d->ds[k+i]?=some d)->P k env->∃env',d6 a g l env=.ok (.nx env')/\P (k+l.length) env':=by
  intro l;induction l with
  |nil=>exact fun k env _ hp=>⟨env,rfl,hp⟩
  |cons d l ih=>
   intro k env hd hp;obtain⟨H0,h1,Il,h2,h3⟩:=h k d env (hd 0 d rfl) hp;obtain⟨env',h4,h5⟩:=ih (k+1) Il (fun i d e=>by have:=hd (i+1) d (by simpa using e);rw[show k+1+i=k+(i+1) by lia];exact this) h3;refine⟨env',?_,by rw[TN,show k+(l.length+1)=k+1+l.length by lia];exact h5⟩;rw[cB,h1,IF];rcases h2 with h2|h2
   ·rw[h2,IF];exact h4
   ·rw[h2,IF];exact h4
 intro env hp;obtain⟨env',h1,h2⟩:=key ds 0 env (fun i d e=>by rw[Yx];exact e) hp;exact⟨env',h1,by rw[Yx]at h2;exact h2⟩
section
variable(env:PV.Env)(fo:FO)(fp Ie:FP)(a b:Int)(ds:List D)(x:List Nat)
theorem Pd:xJ fo fp Ie env=Res.bnd (fo env) (f:=⟨fun p=>Res.bnd (fp p.2) (f:=⟨fun q=>Res.bnd (Ie q.2) (f:=⟨fun t=>Res.bnd (JC t.2 p.1) (f:=⟨fun d=>Res.bnd (Qm d q.1 t.1) (f:=⟨fun r=>.ok (r,t.2)⟩)⟩)⟩)⟩)⟩):=id rfl
theorem Pe:EO fo env=Res.bnd (fo env) (f:=⟨fun p=>Res.bnd (JC p.2 p.1) (f:=⟨fun d=>match d with
 | .int i=>.ok ((.f,.int (-i)),p.2)
 |_=>.bad⟩)⟩):=id rfl
theorem DT(lo hi:Option Int):Qm (.lst ds) lo hi=.ok (.l .f,.lst (iL ds lo hi)):=id rfl
theorem DU(lo hi:Option Int)(h:HT.sIx ds.length 0 lo=0/\HT.sIx ds.length ds.length hi=ds.length):iL ds lo hi=ds:=by
 unfold iL;rw[h.1,h.2,XH,Nat.sub_zero,UU (TB _)]
theorem qg:AL (.int a) (.int b)=if dy a||dy b then .ok (.f,.int (a*b)) else if a.natAbs<2 ^ 1000/\b.natAbs<2 ^ 1000 then .ok (.f,.int (a*b)) else .bad:=id rfl
end
section
variable(env:PV.Env)(fo:FO)(fs:FOs)(f g:FX)(a b c:Int)(ds es:List D)(x y:List Nat)
theorem Pf(gg:List D->List D->Res R):Dt gg fo fs env=Res.bnd (fo env) (f:=⟨fun p=>Res.bnd (JC p.2 p.1) (f:=⟨fun d=>match d with
 | .tup _=>Res.bnd (fs p.2) (f:=⟨fun q=>Res.bnd (JC q.2 p.1) (f:=⟨fun d2=>match d2 with
  | .tup l=>Res.bnd (m9 q.2 q.1) (f:=⟨fun ds=>Res.bnd (gg l ds) (f:=⟨fun r=>.ok (r,q.2)⟩)⟩)
  |_=>.bad⟩)⟩)
 |_=>.bad⟩)⟩):=id rfl
theorem Mi:pU fs env=Res.bnd (fs env) (f:=⟨fun p=>Res.bnd (m9 p.2 p.1) (f:=⟨fun d=>match d with
 |[.int i,.int j,.int c]=>if kz i j c then .ok ((List.range (Builtin.Range.rangeSize i j c).toNat).map fun(k:Nat)=>D.int (i+(k:Int)*c),p.2) else .bad
 |_=>.bad⟩)⟩):=id rfl
theorem GN(d:D):(∃l,jd true d=.ok l/\jd false d=.bad/\oj d=some l)\/(∃l,jd true d=.bad/\jd false d=.ok l/\oj d=some l)\/(jd true d=.bad/\jd false d=.bad/\oj d=none):=by
 cases d with
 |lst l=>exact .inl ⟨l,rfl,rfl,rfl⟩
 |tup l=>exact .inr (.inl ⟨l,rfl,rfl,rfl⟩)
 |_=>exact .inr (.inr ⟨rfl,rfl,rfl⟩)
def x6(k1 k2:Bool)(e:PV.Env)(d1 d2:D):Res (List D×PV.Env):=(jd k1 d1).bind fun a=>(jd k2 d2).bind fun b=>.ok ((a.zip b).map fun z=>D.tup [z.1,z.2],e)
def F9(e:PV.Env)(d1 d2:D):Res (List D×PV.Env):=match oj d1,oj d2 with|some a,some b=>.ok ((a.zip b).map fun z=>D.tup [z.1,z.2],e)|_,_=>.bad
def Od(a b:Res (List D×PV.Env)):Res (List D×PV.Env):=match a with | .ok a=>.ok a|_=>b
def wW(g:D->D->Res (List D×PV.Env))(os:List Opd):Res (List D×PV.Env):=match os with|[.val d1,.val d2]=>g d1 d2|_=>.bad
theorem qh(g h:D->D->Res (List D×PV.Env))(os:List Opd):Od (wW g os) (wW h os)=wW (fun a b=>Od (g a b) (h a b)) os:=by
 unfold wW;split <;> rfl
theorem Bm(e:PV.Env)(a b:D):Od (x6 true true e a b) (Od (x6 true false e a b) (Od (x6 false true e a b) (x6 false false e a b)))=F9 e a b:=by
 unfold x6 F9;rcases GN a with⟨l,h1,h2,h3⟩|⟨l,h1,h2,h3⟩|⟨h1,h2,h3⟩ <;> rcases GN b with⟨m,i1,i2,i3⟩|⟨m,i1,i2,i3⟩|⟨i1,i2,i3⟩ <;> rw[h1,h2,h3,i1,i2,i3] <;> rfl
theorem NQ:tq fs env=Res.bnd (fs env) (f:=⟨fun p=>match p.1 with
 |[.val d1,.val d2]=>(match oj d1,oj d2 with|some a,some b=>.ok ((a.zip b).map fun z=>D.tup [z.1,z.2],p.2)|_,_=>.bad)
 |_=>.bad⟩):=by
 unfold tq;rw[p8,p8,p8,mO,mO,mO,mO];cases fs env with
 |ok p=>
  show Od (wW (x6 true true p.2) p.1) (Od (wW (x6 true false p.2) p.1) (Od (wW (x6 false true p.2) p.1) (wW (x6 false false p.2) p.1)))=wW (F9 p.2) p.1;rw[qh,qh,qh];exact UP (fun g=>wW g p.1) (funext fun a=>funext fun b=>Bm p.2 a b)
 |_=>rfl
theorem NR:oj (.lst ds)=some ds:=id rfl
theorem NS:oj (.tup ds)=some ds:=id rfl
theorem NT(i:Nat):xN i f g env=Res.bnd (g env) (f:=⟨fun(p:R×PV.Env)=>Res.bnd (f p.2) (f:=⟨fun(q:R×PV.Env)=>match p.2[i]?,q.2[i]? with
 |some (some _),some (some (.l .f,.lst ds))=>(match q.1.2 with
  | .int k=>(match ixN ds.length k with
   |some j=>.ok (.nx (q.2.set i (some (.l .f,.lst (ds.set j p.1.2)))))
   |none=>.bad)
  |_=>.bad)
 |_,_=>.bad⟩)⟩):=id rfl
theorem vX:i6 (.int a) (.int b)=AL (.int a) (.int b):=id rfl
theorem MV:vD f g env=Res.bnd (f env) (f:=⟨fun p=>Res.bnd (g p.2) (f:=⟨fun q=>if eE false p.1.2 then .ok ((.d,.dct false [p.1.2] [q.1.2]),q.2) else .bad⟩)⟩):=id rfl
theorem DV(d:D):Rf d (.lst ds)=MI d (.lst ds):=id rfl
theorem Bn(d:D):AS d (.lst ds)=B2 d (.lst ds):=id rfl
theorem DW:eE false (.int a)=true:=id rfl
theorem DX:eE false (.str x)=true:=id rfl
theorem Bo:cW (.int a) (.int b)=.ok (.f,.int (a+b)):=id rfl
theorem Bp:cW (.str x) (.str y)=if x.length+y.length<=sizeLine then .ok (.f,.str (x++y)) else .bad:=id rfl
theorem vY:cW (.lst ds) (.lst es)=if ds.length+es.length<=sizeLine then .ok (.l .f,.lst (ds++es)) else .bad:=id rfl
theorem Bq:cW (.tup ds) (.tup es)=if ds.length+es.length<=sizeLine\/ds=[] then .ok (.f,.tup (ds++es)) else .bad:=by
 unfold cW;cases ds with
 |nil=>rw[TF (.inr rfl)];rfl
 |cons d ds=>
  dsimp only;unfold addD;dsimp only;by_cases h:(d::ds).length+es.length<=sizeLine
  ·rw[TF ⟨nofun,h⟩,TF (.inl h)]
  ·rw[TJ (fun z=>h z.2),TJ (fun z=>z.elim h nofun)]
end
section
variable(env:PV.Env)(f g:FX)(ds ks:List D)(i:Nat)
end
section
variable(env:PV.Env)(f:FX)(fs:FOs)(ds:List D)(i:Nat)
theorem GO:Hz i env=match env[i]? with
 |some (some (ow,.lst ds))=>if isLf ow then(match ds.getLast? with
  |some d=>.ok ((.f,d),env.set i (some (ow,.lst ds.dropLast)))
  |none=>.bad) else .bad
 |_=>.bad:=id rfl
theorem gw:kC i f env=Res.bnd (f env) (f:=⟨fun(p:R×PV.Env)=>match p.2[i]? with
 |some (some (.pin q c,d))=>.ok (.rt (.t [p.1.1,.pin q c],.tup [p.1.2,d]))
 |_=>.bad⟩):=by
 first
  |exact id rfl
  |(unfold kC;rfl)
theorem Ga:ER [.lst ds]=.ok (.l .f,.lst ds.reverse):=id rfl
theorem x9(np nn:Nat)(c:O)(g:FS)(p:Addr)(d0:D)(h:ds.length+1=np):lJ np nn c g p (d0::ds)=Res.bnd (g (some (.pin p c,d0)::(ds.map (fun d=>some (O.f,d))++List.replicate nn none))) (f:=⟨fun o=>match o with
  | .rt r=>.ok r
  |_=>.bad⟩):=by
 unfold lJ;dsimp only;rw[TF h];rfl
end
noncomputable def pv:=(Zz @IF (Zz @OW (Zz @LX (Zz @Nr (Zz @OX (Zz @OY (Zz @Nu (Zz @MO (Zz @Nv (Zz @MP (Zz @OZ (Zz @O0 (Zz @Nw (Zz @Nx (Zz @Ny (Zz @Nz (Zz @MQ (Zz @MR (Zz @NA (Zz @NB (Zz @NC (Zz @O1 (Zz @ND (Zz @QB (Zz @O2 (Zz @QC (Zz @O3 (Zz @O4 (Zz @NF (Zz @O5 (Zz @O6 (Zz @O7 (Zz @Pd (Zz @Pe (Zz @NG (Zz @NH (Zz @O8 (Zz @NI (Zz @QD (Zz @NJ (Zz @O9 (Zz @NK (Zz @LG (Zz @LH (Zz @LI (Zz @Pa (Zz @NL (Zz @KU (Zz @Mh (Zz @JL (Zz @NM (Zz @Js (Zz @LJ (Zz @Jh (Zz @NN (Zz @MS (Zz @NO (Zz @Pb (Zz @MT (Zz @MU (Zz @NP (Zz @Pc (Zz @List.getElem?_cons_zero.{0} (Zz @List.getElem?_cons_succ.{0} (Zz @List.set_cons_zero.{0} (Zz @List.set_cons_succ.{0} (Zz @List.length_cons.{0} (Zz @List.length_nil.{0} (Zz @List.map_cons.{0,0} (Zz @List.map_nil.{0,0} (Zz @List.replicate_succ.{0} (Zz @List.replicate_zero.{0} (Zz @List.cons_append.{0} (Zz @List.nil_append.{0} (Zz @Nat.zero_add (Zz @Pf (Zz @Mi (Zz @NQ (Zz @NR (Zz @NS (Zz @NT (Zz @MV (Zz @Qy (Zz @Qz (Zz @QA (Zz @Nq @MN))))))))))))))))))))))))))))))))))))))))))))))))))))))))))))))))))))))))))))))))))))))
noncomputable def op:=(Zz @F0 (Zz @F1 (Zz @F2 (Zz @DN (Zz @F3 (Zz @F4 (Zz @F5 (Zz @DQ (Zz @DR (Zz @Bk (Zz @xY (Zz @F6 (Zz @F7 (Zz @F8 (Zz @DT (Zz @DS (Zz @Rl (Zz @Pz (Zz @za (Zz @qe (Zz @xZ (Zz @jX (Zz @qf (Zz @Ik (Zz @rJ (Zz @PV.flat_strs (Zz @cI (Zz @Bo (Zz @vX (Zz @DV (Zz @Bn (Zz @DW @DX))))))))))))))))))))))))))))))))
theorem dV(n:Nat)(w:PV.Env):(∃d,JC w (.var n)=.ok d)\/JC w (.var n)=.bad:=by
 unfold JC;dsimp only;split
 ·split
  ·exact .inl ⟨_,rfl⟩
  ·exact .inr rfl
 ·exact .inr rfl
section
variable(w:PV.Env)(op:D->D->Res R)(F:List D->Res R)(f g h:FX)(n n' n'':Nat)(x y:D)
end
section
variable(a b c d e g h i j k l m:Option R)(z:PV.Env)(r:R)(o:O)(x:D){ρ:Type}
end
end PV
namespace LW
open PySem L2 NX PV
theorem for_list{α:Type}{a:FG}{g:FS}{e:α->D}(l:List α)(P:Nat->PV.Env->Prop)
  (h:∀k x env,l[k]?=some x->P k env->∃H0,a (e x) env=.ok H0/\∃Il,g H0=.ok (.nx Il)/\P (k+1) Il):∀env,P 0 env->∃env',d6 a g (l.map e) env=.ok (.nx env')/\P l.length env':=by
 intro env h0;have:=Bl (a:=a) (g:=g) P (l.map e) (fun i d env hi hp=>by
  rw[List.getElem?_map,Uh]at hi;obtain⟨x,hx,rfl⟩:=hi;obtain⟨H0,h1,Il,h2,h3⟩:=h i x env hx hp;exact⟨H0,h1,Il,.inl h2,h3⟩) env h0
 rwa [Tt]at this
theorem kS{a:FG}{g:FS}{e:Nat->D}(n:Nat)(P:Nat->PV.Env->Prop)
  (h:∀k env,k<n->P k env->∃H0,a (e k) env=.ok H0/\∃Il,g H0=.ok (.nx Il)/\P (k+1) Il):∀env,P 0 env->∃env',d6 a g ((List.range n).map e) env=.ok (.nx env')/\P n env':=by
 intro env h0;have:=for_list (a:=a) (g:=g) (e:=e) (List.range n) P (fun k x env hk hp=>by
  obtain⟨h1,h2⟩:=List.getElem?_eq_some_iff.mp hk;rw[T3]at h1;rw[WK]at h2;subst h2;exact h k env h1 hp) env h0
 rwa [T3]at this
abbrev LNN:=List (List Nat)
theorem bL{α β:Type}{l:List α}(f:α->β):(l.map f).length=l.length:=Tt f
theorem eI:(false=true)=False:=UR
theorem mP{α:Type}{l:List α}{i:Nat}{a:α}(h:l[i]?=some a):∃h:i<l.length,l[i]=a:=List.getElem?_eq_some_iff.mp h
theorem iy{α:Type}{l:List α}{i:Nat}(h:i<l.length):l[i]?=some l[i]:=List.getElem?_eq_getElem h
theorem dZ{α β:Type}{f:α->β}{a:α}{l:List α}:(a::l).map f=f a::l.map f:=TR
theorem lg{α:Type}{a b:α}(h:a∈[b]):a=b:=TY.mp h
theorem rK{α β:Type}{f:α->β}{l:List α}{b:β}(h:b∈l.map f):∃a,a∈l/\f a=b:=UH.mp h
theorem tM{α:Type}{a:α}{s t:List α}(h:a∈s++t):a∈s\/a∈t:=Ue.mp h
theorem mQ{α:Type}{s t:List α}:(s++t).length=s.length+t.length:=Ua
theorem ay{s t:FS}{env env':PV.Env}(h:s env=.ok (.nx env')):sSeq s t env=t env':=by rw[Jh,h,IF]
theorem bS{ds:List D}(h:ds.length<=16777216):ds.length<=sizeLine:=line_le h
theorem lR{l:List Int}{k:Nat}(h:k<l.length):Ju (l.map D.int) (k:Int)=some (.int (l.getD k 0)):=fR (by rw[List.getElem?_map,List.getD_eq_getElem?_getD,iy h];rfl)
theorem at2{α:Type}(a b c:α):Ju [a,b,c] (2:Int)=some c:=rfl
theorem eU:∀l:LNN,fJ (l.map D.str)=some l
 |[]=>rfl
 |a::l=>by
  rw[dZ,fJ,eU l];rfl
theorem kU(x y:D)(t1 t2:Option R)(eC:PV.Env):ng 2 (bg (aH 0) (bg (aH 1) fT)) (.tup [x,y]) (t1::t2::eC)=.ok (some (.f,x)::some (.f,y)::eC):=by
 rw[LJ,TF (by simp),Js,JL,TF (by simp),IF,Js,JL,TF (by simp),IF];rfl
theorem kW{α:Type}(lt:α->α->Bool)(l:List α):(aU lt l).length=l.length:=(dN lt l).length_eq
theorem vZ(l:LNN)(h:l.length<64):fW [.lst (l.map D.str)]=.ok (.l .f,.lst ((aU Mc l).map D.str)):=by
 unfold fW;dsimp only;rw[TF (by rw[bL];exact h)];unfold kr;cases l with
 |nil=>rfl
 |cons a l=>
  have e:dH ((a::l).map D.str)=none:=rfl;rw[e,eU]
def KL:List Nat:=[97,98,99,100,101,102,103,104,105,106,107,108,109,110,111,112,113,114,115,116,117,118,119,120,121,122]
theorem DY(j:Nat)(h:j<26):KL[j]?=some (97+j):=by
 have:∀j:_root_.Fin 26,KL[j.1]?=some (97+j.1):=by decide
 exact this ⟨j,h⟩
theorem DZ(j:Int)(h0:0<=j)(h:j<26):Ju KL j=some (97+j.toNat):=by
 obtain⟨n,rfl⟩:=Up h0;exact fR (DY n (by lia))
theorem eV(x b:Int)(h:0<b):0<=x%b/\x%b<b:=⟨Int.emod_nonneg _ (by lia),Int.emod_lt_of_pos _ h⟩
theorem GP(n:Nat)(h:n<=200):xE (.int 10) (.int (n:Int))=.ok (.f,.int (10 ^ n)):=by
 rw[DP,TF (by lia),UD]
theorem jI(x b:Int)(h:0<b):fI (.int x) (.int b)=.ok (.f,.int (x%b)):=by rw[DO,TF h]
theorem gU(x b:Int)(h:0<b)(h2:b<1073741824):dF (.int x) (.int b)=.ok (.f,.int (x / b)):=by rw[Bj,TF ⟨h,h2⟩]
theorem GQ(x y:Int)(h:dy y=true):i6 (.int x) (.int y)=.ok (.f,.int (x*y)):=by rw[vX,qg,h,Bool.or_true,TF rfl]
theorem HM(x y:List Nat)(h:x.length+y.length<=1000):cW (.str x) (.str y)=.ok (.f,.str (x++y)):=by rw[Bp,TF (line_le (by lia))]
theorem mR{α:Type}(l:List α)(k:Nat):iL l none (some (k:Int))=l.take k:=by
 unfold iL;rw[HT.qC,HT.lW,XH,Nat.sub_zero];by_cases h:k<=l.length
 ·rw[V4 h]
 ·rw[Nat.min_eq_right (by lia),UU (TB _),UU (by lia)]
theorem ya{α:Type}(l:List α)(k:Nat):iL l (some (k:Int)) none=l.drop k:=by
 unfold iL;rw[HT.qC,HT.lW];by_cases h:k<=l.length
 ·rw[V4 h,UU (by rw[UK];exact TB _)]
 ·rw[Nat.min_eq_right (by lia),V9 (TB _),V9 (by lia),X7]
theorem d4{α:Type}(f:Nat->α)(n:Nat)(h:∀i j,i<n->j<n->f i=f j->i=j):((List.range n).map f).Nodup:=by
 rw[VJ,We];refine List.pairwise_lt_range.imp_of_mem fun{a b} ha hb hl e=>?_
 have:=h a b (Uq.mp ha) (Uq.mp hb) e;lia
theorem ET(j:Int)(h0:0<=j)(h:j<=1000)(fo:FO)(env env':PV.Env)(o:Opd)(e1:fo env=.ok (o,env'))(e2:JC env' o=.ok (.int j)):c9 fo env=.ok ((List.range j.toNat).map fun(k:Nat)=>D.int (k:Int),env'):=by
 rw[KU,e1,IF];dsimp only;rw[e2,IF];dsimp only;rw[TF (by lia)]
theorem Br{α:Type}(l:List α)(a b:Nat)(h:a<=b)(hb:b<=l.length):iL l (some (a:Int)) (some (b:Int))=(l.drop a).take (b-a):=by
 unfold iL;rw[HT.lW,HT.lW,V4 hb,V4 (Uc h hb)]
theorem oY(x:Int)(h:-1000000<=x)(h2:x<=1000000):dy x=true:=by
 unfold dy;rw[TQ];lia
theorem wa(d:D)(h:plainD 40 d=true):JW d d=.ok (.f,.bl true):=by
 unfold JW;rw[h,iN d 40 h];rfl
theorem kX(d:D)(h:plainD 40 d=true):Lg d d=.ok (.f,.bl false):=by
 unfold Lg;rw[h,iN d 40 h];rfl
theorem yb(l:List Int):plainD 40 (.tup (l.map D.int))=true:=by
 rw[plainD,gO]
theorem HN{c:FT}{s t:FS}{env env':PV.Env}(h:c env=.ok (false,env')):Jt c s t env=t env':=by rw[MT,h,IF];rfl
theorem HP{c:FT}{s t:FS}{env env':PV.Env}(h:c env=.ok (true,env')):Jt c s t env=s env':=by rw[MT,h,IF];rfl
theorem Bs(n k:Nat)(h:k<n):ixN n (k:Int)=some k:=by
 unfold ixN;rw[TF (by lia),TF (by lia)];rfl
theorem isT(ds:List D):xG "tuple" (.tup ds)=true:=rfl
theorem qi{α β:Type}(f:α->β)(l:List α)(lo hi:Option Int):iL (l.map f) lo hi=(iL l lo hi).map f:=by
 unfold iL;rw[bL,<-X8,<-Ww]
theorem jS{α:Type}{l:List α}(h:l.length<=100000):l.length<sizeLine:=TL (VA _) (line_le (by lia))
section
variable(env:PV.Env)(f:FX)(fs:FOs)(fo:FO)
theorem Bt(i:Nat)(c:O)(F:Addr->List D->Res R):eFunW c F i fs env=Res.bnd (fs env) (f:=⟨fun p=>match p.1 with
 | .var j::os=>if j=i then(match p.2[i]? with
  |some (some (ow,d0))=>if oF c ow then Res.bnd (iG (p.2.set i none) os) (f:=⟨fun ds=>Res.bnd (jj F c d0 ds) (f:=⟨fun x=>if aQ x.1.1 x.1.2&&aQ c x.2 then .ok (x.1,(p.2.set i none).set i (some (ow,x.2))) else .ok (x.1,((p.2.set i none).map frz).set i (some (ow,x.2)))⟩)⟩) else .bad
  |_=>.bad) else .bad
 |_=>.bad⟩):=id rfl
theorem yc(r:R):frz (some r)=some (.f,r.2):=id rfl
theorem Bu:frz none=none:=id rfl
theorem zb(gg:List D->List D->Res R):FW gg fo fs env=Res.bnd (fo env) (f:=⟨fun p=>Res.bnd (JC p.2 p.1) (f:=⟨fun d=>match d with
 | .lst _=>Res.bnd (fs p.2) (f:=⟨fun q=>Res.bnd (JC q.2 p.1) (f:=⟨fun d2=>match d2 with
  | .lst l=>Res.bnd (m9 q.2 q.1) (f:=⟨fun ds=>Res.bnd (gg l ds) (f:=⟨fun r=>.ok (r,q.2)⟩)⟩)
  |_=>.bad⟩)⟩)
 |_=>.bad⟩)⟩):=id rfl
end
theorem o_isnT(ds:List D):isnO (.tup ds) .non=.ok (.f,.bl true):=id rfl
theorem kY:isnO .non .non=.ok (.f,.bl false):=id rfl
abbrev IC:=Int×List Nat×Int
def eA(a:IC):D:=.tup [.int a.1,.str a.2.1,.int a.2.2]
theorem mS:∀(n:Nat) {l:List Int},l.Nodup->(∀x∈l,0<=x/\x<(n:Int))->l.length<=n
 | 0,l,_,hb=>by
  cases l with
  |nil=>exact TB _
  |cons a l=>have:=hb a Ts;lia
 |n+1,l,nd,hb=>by
  have h1:=mS n (l:=l.erase (n:Int)) (nd.erase _) fun x hx=>by
   have h2:=(nd.mem_erase_iff.mp hx)
   have h3:=hb x h2.2;have h4:=h2.1;lia
  have:=List.length_erase_le (a:=(n:Int)) (l:=l);have h5:l.length<=(l.erase (n:Int)).length+1:=by
   by_cases hm:(n:Int)∈l
   ·rw[WV hm];have:=Wa hm;lia
   ·rw[List.erase_of_not_mem hm];lia
  lia
def IG(names:LNN)(am:List IC):D:=.tup [.tup (names.map D.str),.lst (am.map eA)]
theorem kZ(a:IC)(t1 t2 t3:Option R)(eC:PV.Env):ng 3 (bg (aH 0) (bg (aH 1) (bg (aH 2) fT))) (eA a) (t1::t2::t3::eC)=.ok (some (.f,.int a.1)::some (.f,.str a.2.1)::some (.f,.int a.2.2)::eC):=by
 unfold eA;rw[LJ,TF (by simp),Js,JL,TF (by simp),IF,Js,JL,TF (by simp),IF,Js,JL,TF (by simp),IF];rfl
theorem yd{α:Type}{f:α->D}{p:α->Bool}{l:List α}(h:l.length<=16777216):((l.filter p).map f).length<=sizeLine:=by
 rw[bL];exact line_le (Uc (List.length_filter_le _ _) h)
theorem D1(l:List Int):(oj (.lst (l.map D.int))).bind dH=some l:=sY l
def rL(a:IC):Int:=if a.1<a.2.2 then a.2.2 else a.1
def aY(am:List IC):Int:=1+NX.maxD (am.map rL) 0
theorem rM{α:Type}{f:α->D}{l:List α}(h:∀a,flatD (f a)=true):flatDs (l.map f)=true:=by
 rw[cU,U7,T8];intro a _;exact h a
theorem qj(names:LNN)(am:List IC)(hl:am.length<=16777216):cx [IG names am]=.ok (.f,.int (aY am)):=by
 unfold cx kF;rw[bD (h:=by rfl)];simp only[pv,seval,op,IG];rw[cJ (r:=fun a:IC=>D.int (rL a)) (fun env=>∃t1 t2 t3,env=[t1,t2,t3]) am ?_ _ ⟨_,_,_,rfl⟩]
 ·rw[IF,TF (bS (by rw[bL];exact hl)),IF,rM fun a=>jX _];simp only[pv,seval,op];have e:(some (am.map fun a=>D.int (rL a))).bind dH=some (am.map rL):=by
   have:=D1 (am.map rL);rw[TZ]at this;exact this
  rw[e];rfl
 ·rintro a _ env ⟨t1,t2,t3,rfl⟩;refine⟨_,kZ a t1 t2 t3 _,?_⟩;simp only[pv,seval,op];exact⟨_,_,rfl,_,_,_,rfl⟩
theorem HQ(w:LNN)(m:List Nat)(h:w.length<=1000):cW (.tup (w.map D.str)) (.tup [.str m])=.ok (.f,.tup ((w++[m]).map D.str)):=by
 rw[Bq,TF (.inl (line_le (by rw[bL,TN,US];lia))),TV];rfl
def ak(a:IC):List Key:=[.inl a.1,.inr (S a.2.1),.inl a.2.2]
def bp(a b:IC):Bool:=dE (ak a) (ak b)
theorem S_inj{a b:List Nat}(h:S a=S b):a=b:=by
 have:=UP (fun s:Str=>s.cps.toList) h;simpa only[dr] using this
theorem Gb(a:IC):kT (ak a)=eA a:=by
 unfold kT ak eA;simp only[dZ,Ut,kD,dr]
theorem wb{α β:Type}(f:α->β)(lt:β->β->Bool)(x:α):∀l:List α,ins lt (f x) (l.map f)=(ins (fun a b=>lt (f a) (f b)) x l).map f
 |[]=>rfl
 |y::ys=>by
  rw[dZ,ins,ins];cases lt (f y) (f x) with
  |true=>rw[TF rfl,TF rfl,wb f lt x ys,dZ]
  |false=>rw[TJ Tz,TJ Tz,dZ,dZ]
theorem oZ{α β:Type}(f:α->β)(lt:β->β->Bool):∀l:List α,aU lt (l.map f)=(aU (fun a b=>lt (f a) (f b)) l).map f
 |[]=>rfl
 |x::l=>by
  show ins lt (f x) (aU lt (l.map f))=_;rw[oZ f lt l,wb];rfl
theorem wc(as:List IC):as.map eA=(as.map ak).map kT:=by
 rw[TZ];exact Ur fun a _=>(Gb a).symm
theorem Ge(a b:IC):Ig (eA a) (eA b)=decide (a=b):=by
 obtain⟨x,y,z⟩:=a;obtain⟨x',y',z'⟩:=b;unfold eA;simp only[Ig,iw];rw[T5];simp
theorem gx:∀(l:List Int) (b:Int),b<=l.foldl max b/\(∀x∈l,x<=l.foldl max b)/\(l.foldl max b=b\/l.foldl max b∈l)
 |[],b=>⟨YY _,fun _ h=>(nomatch h),.inl rfl⟩
 |a::l,b=>by
  obtain⟨h1,h2,h3⟩:=gx l (max b a);rw[VF];refine⟨by lia,fun x hx=>?_,?_⟩
  ·rcases TK.mp hx with rfl|hx
   ·lia
   ·exact h2 x hx
  ·rcases h3 with h3|h3
   ·rw[h3];by_cases h:b<=a
    ·exact .inr (by rw[Int.max_eq_right h];exact Ts)
    ·exact .inl (Int.max_eq_left (by lia))
   ·exact .inr (Tx _ h3)
theorem ye{ns:List Int}{x:Int}(h:x∈ns):x<=sM ns:=(gx ns _).2.1 x h
theorem yf{ns:List Int}(h:ns≠[]):sM ns∈ns:=by
 cases ns with
 |nil=>exact absurd rfl h
 |cons a l=>
  rcases(gx (a::l) a).2.2 with e|e
  ·show List.foldl max a (a::l)∈a::l;rw[e];exact Ts
  ·exact e
theorem Bv{ns:List Int}{d x:Int}(h:x∈ns):x<=NX.maxD ns d:=by
 unfold NX.maxD;rw[TJ (List.ne_nil_of_mem h)];exact ye h
theorem we(ns:List Int)(d:Int):(ns=[]/\NX.maxD ns d=d)\/NX.maxD ns d∈ns:=by
 unfold NX.maxD;by_cases h:ns=[]
 ·exact .inl ⟨h,TF h⟩
 ·rw[TJ h];exact .inr (yf h)
theorem ql(a:IC):a.1<=rL a/\a.2.2<=rL a/\(rL a=a.1\/rL a=a.2.2):=by
 unfold rL;split
 ·exact⟨by lia,by lia,.inr rfl⟩
 ·exact⟨by lia,by lia,.inl rfl⟩
theorem o5{am:List IC}{a:IC}(h:a∈am):a.1<aY am/\a.2.2<aY am:=by
 have h1:=Bv (d:=0) (UH.mpr ⟨a,h,rfl⟩:rL a∈am.map rL);obtain⟨h2,h3,_⟩:=ql a;unfold aY;lia
theorem tN{am:List IC}(h:∀a∈am,0<=a.1/\0<=a.2.2):1<=aY am:=by
 unfold aY;rcases we (am.map rL) 0 with⟨_,e⟩|e
 ·lia
 ·obtain⟨a,ha,e2⟩:=rK e;have:=h a ha;obtain⟨h1,h2,_⟩:=ql a;lia
theorem gy{α:Type}(lt:α->α->Bool){l:List α}{a:α}:a∈aU lt l<->a∈l:=(dN lt l).mem_iff
structure Ra(names:LNN)(as:List IC)(mZ:Nat):Prop where
 mm:1<=mZ/\mZ<=12
 len:as.length<=60
 bd:∀a∈as,(0<=a.1/\a.1<(mZ:Int))/\0<=a.2.2/\a.2.2<(mZ:Int)
 nm:∀a∈as,a.2.1∈names
 rc:∀j:Nat,1<=j->j<mZ->∃a∈as,a.2.2=(j:Int)/\∃b:Nat,b<j/\a.1=(b:Int)
theorem o6{am:List IC}{mZ:Nat}(hm:1<=mZ)(h:∀a∈am,(0<=a.1/\a.1<(mZ:Int))/\0<=a.2.2/\a.2.2<(mZ:Int)):1<=aY am/\aY am<=(mZ:Int):=by
 refine⟨tN fun a ha=>?_,?_⟩
 ·have:=h a ha;lia
 ·unfold aY;rcases we (am.map rL) 0 with⟨_,e⟩|e
  ·lia
  ·obtain⟨a,ha,e2⟩:=rK e;have:=h a ha;obtain⟨h1,h2,h3⟩:=ql a;lia
theorem Ra.sort{names:LNN}{as:List IC}{mZ:Nat}(r:Ra names as mZ):Ra names (aU bp as) mZ:=by
 have mem:∀{a:IC},a∈aU bp as<->a∈as:=gy bp;refine⟨r.mm,by rw[kW];exact r.len,fun a ha=>r.bd a (mem.mp ha),fun a ha=>r.nm a (mem.mp ha),fun j h1 h2=>?_⟩;obtain⟨a,ha,q⟩:=r.rc j h1 h2;exact⟨a,mem.mpr ha,q⟩
theorem Bw(as:List IC)(h:as.length<64):fW [.lst (as.map eA)]=.ok (.l .f,.lst ((aU bp as).map eA)):=by
 have key:kr (as.map eA)=some ((aU bp as).map eA):=by
  cases as with
  |nil=>rfl
  |cons a as=>
   have e1:jx ((a::as).map eA)=some ((a::as).map ak):=by rw[wc,jh]
   have e2:sameKinds (ak a) (as.map ak)=true:=by
    unfold sameKinds;rw[U7,TM,T8];exact⟨rfl,fun b _=>rfl⟩
   unfold kr;rw[e1,dZ,dZ];dsimp only[eA,dH,fJ];rw[TF e2,<-dZ,oZ ak dE,wc];rfl
 unfold fW;dsimp only;rw[TF (by rw[bL];exact h),key]
theorem tP{α:Type}{l:List α}{x:α}{j:Nat}{y:α}(h:(l++[x])[j]?=some y):l[j]?=some y\/(j=l.length/\y=x):=by
 by_cases hj:j<l.length
 ·rw[List.getElem?_append_left hj]at h;exact .inl h
 ·rw[List.getElem?_append_right (by lia)]at h;by_cases e:j-l.length=0
  ·rw[e]at h;exact .inr ⟨by lia,by simpa using h.symm⟩
  ·rw[List.getElem?_eq_none (by simp;lia)]at h;cases h
def cell(ns:List Int)(k:Nat):Int:=ns.getD k 0
theorem k4(ns:List Int)(k:Nat):aJ [.lst (ns.map D.int),.int (k:Int)]=.ok (.f,.int (cell ns k)):=by
 unfold aJ g6 cell;rw[bD (h:=by rfl)];simp only[pv,seval,op,bL];by_cases h:k<ns.length
 ·have h1:(k:Int)<(ns.length:Int):=by lia
  simp only[h1,Vn,pv,seval,lR h]
 ·have h1:¬ (k:Int)<(ns.length:Int):=by lia
  simp only[h1,U8,pv,seval,eI,List.getD_eq_getElem?_getD,List.getElem?_eq_none (Nat.le_of_not_lt h),Ve]
theorem D2(x y:Int)(h:dy x=true):AL (.int x) (.int y)=.ok (.f,.int (x*y)):=by rw[qg,h,Bool.true_or,TF rfl]
theorem GR(x y:Int)(h:dy y=true):AL (.int x) (.int y)=.ok (.f,.int (x*y)):=by rw[qg,h,Bool.or_true,TF rfl]
theorem rN(x:Int)(h:0<=x)(h2:x<=4294967296):dy x=true:=by
 unfold dy;rw[TQ];lia
def wX(c k:Int):Int:=((((c%2147483647+48271*(k+1))*(c%2147483647+48271*(k+1))+69621*k)%2147483647)*(((c%2147483647+48271*(k+1))*(c%2147483647+48271*(k+1))+69621*k)%2147483647)+16807*k+1)%2147483647
theorem mT(c k:Int)(hk:0<=k)(P6:k<=1000):aW [.int c,.int k]=.ok (.f,.int (wX c k)):=by
 have b1:=eV c 2147483647 (by decide);have b2:=eV ((c%2147483647+48271*(k+1))*(c%2147483647+48271*(k+1))+69621*k) 2147483647 (by decide);unfold aW jD wX;rw[bD (h:=by rfl)];rw[ay (env':=[some (.f,.int c),some (.f,.int k),some (.f,.int (c%2147483647+48271*(k+1)))]) (by simp only[pv,↓reduceIte,Nat.reduceAdd,Nat.reduceLT,Nat.reduceLeDiff,Nat.reduceEqDiff,op,jI _ 2147483647 (by decide),D2 48271 (k+1) (by decide)])];have hs:dy (c%2147483647+48271*(k+1))=true:=rN _ (by lia) (by lia);generalize c%2147483647+48271*(k+1)=x at *;rw[ay (env':=[some (.f,.int c),some (.f,.int k),some (.f,.int ((x*x+69621*k)%2147483647))]) (by simp only[pv,↓reduceIte,Nat.reduceAdd,Nat.reduceLT,Nat.reduceLeDiff,Nat.reduceEqDiff,op,jI _ 2147483647 (by decide),D2 x x hs,D2 69621 k (by decide)])];generalize (x*x+69621*k)%2147483647=y at *;have hs:dy y=true:=rN _ (by lia) (by lia);simp only[pv,↓reduceIte,Nat.reduceAdd,Nat.reduceLT,Nat.reduceLeDiff,Nat.reduceEqDiff,op,jI _ 2147483647 (by decide),D2 y y hs,D2 16807 k (by decide)]
theorem rO:∀l:List Nat,joinL [] (l.map fun c=>[c])=l
 |[]=>rfl
 |[c]=>rfl
 |c::d::l=>by
  have ih:=rO (d::l);show[c]++[]++joinL [] ((d::l).map fun c=>[c])=_;rw[ih];rfl
theorem wg:∀l:List Nat,((l.map fun c=>[c]).map List.length).sum=l.length
 |[]=>rfl
 |c::l=>by
  rw[dZ,dZ,X6,wg l];show 1+l.length=l.length+1;lia
theorem Bx(l:List Nat)(h:l.length<=1000):vH [] [.lst ((l.map fun c=>[c]).map D.str)]=.ok (.f,.str l):=by
 unfold vH;dsimp only;rw[eU];dsimp only;rw[TF (by rw[wg,US,Nat.mul_zero];lia),rO]
theorem zc(a:List Nat)(l:LNN):MI (.str a) (.lst (l.map D.str))=.ok (.f,.bl (decide (a∈l))):=by
 unfold MI;dsimp only;rw[gP,x4,plainD];all_goals simp
def Mu(base:List Int)(wd sp:Nat)(tk:Bool)(k:Nat):List Int:=if tk then base.take (k+1) else(base.take wd).set sp ((base.getD sp 0+(k:Int))%26)
def KN(base:List Int)(wd sp:Nat)(tk:Bool)(k:Nat):List Nat:=(Mu base wd sp tk k).map fun j=>97+j.toNat
theorem By(l:List Int)(hb:∀j∈l,0<=j/\j<26):dv (aH 0) fH (aA Ih (aw 1) (aw 0)) (l.map D.int) [none,some (.f,.str KL)]=.ok (((l.map fun j=>97+j.toNat).map fun c=>[c]).map D.str):=by
 rw[cJ (r:=fun j:Int=>D.str [97+j.toNat]) (fun env=>∃t,env=[t,some (.f,.str KL)]) l ?_ _ ⟨none,rfl⟩]
 ·rw[TZ,TZ];rfl
 ·rintro j hj env ⟨t,rfl⟩;obtain⟨h0,h1⟩:=hb j hj;refine⟨[some (.f,.int j),some (.f,.str KL)],rfl,.f,[some (.f,.int j),some (.f,.str KL)],?_,_,rfl⟩;simp only[pv,seval,op,DZ j h0 h1]
theorem Gf(base:List Int)(hb:∀j∈base,0<=j/\j<26)(wd sp:Nat)(tk:Bool)(k:Nat):∀j∈Mu base wd sp tk k,0<=j/\j<26:=by
 intro j hj;unfold Mu at hj;split at hj
 ·exact hb j (Ws hj)
 ·rcases List.mem_or_eq_of_mem_set hj with h|h
  ·exact hb j (Ws h)
  ·rw[h];exact eV _ _ (by decide)
theorem wj(base:List Int)(hl:base.length=8)(wd sp:Nat)(tk:Bool)(k:Nat):(Mu base wd sp tk k).length<=8:=by
 unfold Mu;split
 ·rw[Ud];lia
 ·rw[Uw,Ud];lia
theorem D3(Jl:Int)(base:List Int)(hl:base.length=8)(hb:∀j∈base,0<=j/\j<26)(wd sp:Nat)(hw:wd<=8)(hs:sp<wd)(tk:Bool)(Ro:(Jl / 64%4==1)=tk)(l:LNN)(KG:l.length<=10)(k:Nat)(t7:Option R):
  ∃u7,de [some (.f,.int Jl),some (.f,.str KL),some (.l .f,.lst (base.map D.int)),some (.f,.int (wd:Int)),some (.f,.int (sp:Int)),some (.l .f,.lst (l.map D.str)),some (.f,.int (k:Int)),t7]=.ok (.nx [some (.f,.int Jl),some (.f,.str KL),some (.l .f,.lst (base.map D.int)),some (.f,.int (wd:Int)),some (.f,.int (sp:Int)),some (.l .f,.lst ((l++[KN base wd sp tk k]).map D.str)),some (.f,.int (k:Int)),u7]):=by
 have Pg:iL (base.map D.int) none (some (wd:Int))=(base.take wd).map D.int:=by rw[mR,Ww]
 have Lh:Ju ((base.take wd).map D.int) (sp:Int)=some (.int (base.getD sp 0)):=by
  rw[lR (by rw[Ud];lia)];congr 2
  rw[List.getD_eq_getElem?_getD,List.getD_eq_getElem?_getD,List.getElem?_take_of_lt hs]
 have JU:ixN (base.take wd).length (sp:Int)=some sp:=Bs _ _ (by rw[Ud];lia);have hnl:=wj base hl wd sp tk k;have NU:=By (Mu base wd sp tk k) (Gf base hb wd sp tk k);have hj:=Bx (KN base wd sp tk k) (by unfold KN;rw[bL];lia);have hz:(l.map D.str).length<sizeLine:=jS (by rw[bL];lia);have hzl:(((KN base wd sp tk k).map fun c=>[c]).map D.str).length<=sizeLine:=bS (by unfold KN;rw[bL,bL,bL];lia);have QF:=PV.flat_strs ((KN base wd sp tk k).map fun c=>[c]);have NU:dv (aH 0) fH (aA Ih (aw 1) (aw 0)) ((Mu base wd sp tk k).map D.int) [none,some (.f,.str KL)]=.ok (((KN base wd sp tk k).map fun c=>[c]).map D.str):=NU;unfold de;rw[ay (env':=[some (.f,.int Jl),some (.f,.str KL),some (.l .f,.lst (base.map D.int)),some (.f,.int (wd:Int)),some (.f,.int (sp:Int)),some (.l .f,.lst (l.map D.str)),some (.f,.int (k:Int)),some (.l .f,.lst ((base.take wd).map D.int))]) (by simp only[pv,seval,op,Pg])];rw[ay (env':=[some (.f,.int Jl),some (.f,.str KL),some (.l .f,.lst (base.map D.int)),some (.f,.int (wd:Int)),some (.f,.int (sp:Int)),some (.l .f,.lst (l.map D.str)),some (.f,.int (k:Int)),some (.l .f,.lst (((base.take wd).set sp ((base.getD sp 0+(k:Int))%26)).map D.int))]) (by
  rw[List.map_set];simp only[pv,seval,op,Lh,jI _ 26 (by decide),bL,JU])]
 rw[ay (env':=[some (.f,.int Jl),some (.f,.str KL),some (.l .f,.lst (base.map D.int)),some (.f,.int (wd:Int)),some (.f,.int (sp:Int)),some (.l .f,.lst (l.map D.str)),some (.f,.int (k:Int)),some (.l .f,.lst ((Mu base wd sp tk k).map D.int))]) (by
  unfold Mu;cases tk with
  |true=>
   have QH:iL (base.map D.int) none (some ((k:Int)+1))=(base.take (k+1)).map D.int:=by rw[show(k:Int)+1=((k+1:Nat):Int) by lia,mR,Ww]
   simp only[pv,seval,op,gU _ 64 (by decide) (by decide),jI _ 4 (by decide),Ro,QH]
  |false=>simp only[pv,seval,op,gU _ 64 (by decide) (by decide),jI _ 4 (by decide),Ro,eI])]
 refine⟨some (.l .f,.lst ((Mu base wd sp tk k).map D.int)),?_⟩;generalize Mu base wd sp tk k=W at *;generalize KN base wd sp tk k=V at *;rw[TV,dZ,Ut];generalize (aA Ih (aw 1) (aw 0))=GG at NU ⊢;simp only[pv,seval,op,NU,hzl,QF,hj,hz]
theorem Bz(base:List Int)(hl:base.length=8)(hb:∀j∈base,0<=j/\j<26)(wd sp:Nat)(hw:wd<=8)(hs:sp<wd)(tk:Bool)(k k':Nat)(hk:k<=5)(S2:k'<=5)(e:KN base wd sp tk k=KN base wd sp tk k'):k=k':=by
 unfold KN Mu at e;cases tk with
 |true=>
  have:=UP List.length e;simp only[VY,bL,Ud]at this;lia
 |false=>
  have e2:=UP (fun l=>l[sp]?) e;have IQ:sp<(base.take wd).length:=by rw[Ud];lia
  simp only[eI,Wg,List.getElem?_map,List.getElem?_set_self IQ,Option.map_some,Wf]at e2;have b1:=eV (base.getD sp 0+(k:Int)) 26 (by decide);have b2:=eV (base.getD sp 0+(k':Int)) 26 (by decide);generalize base.getD sp 0=z at *;lia
theorem BA(Jl:Int):∃l:LNN,l.length=5/\l.Nodup/\l.Pairwise (fun a b=>Mc b a=false)/\cX [.int Jl]=.ok (.l .f,.lst (l.map D.str)):=by
 unfold cX jE;rw[bD (h:=by rfl)];rw[ay (env':=[some (.f,.int Jl),some (.f,.str KL),none,none,none,none,none,none]) (by simp only[pv,seval,op];rfl)];have hc:dv (aH 0) fH (aA fI (aq (dM aW (ag (aw 1) (ag (aw 0) aG)))) (aq (aF (.int 26)))) ((List.range 8).map fun(k:Nat)=>D.int (k:Int)) [none,some (.f,.int Jl)]=.ok (((List.range 8).map fun(k:Nat)=>wX Jl (k:Int)%26).map D.int):=by
  rw[cJ (r:=fun k:Nat=>D.int (wX Jl (k:Int)%26)) (fun env=>∃t,env=[t,some (.f,.int Jl)]) (List.range 8) ?_ _ ⟨none,rfl⟩]
  ·rw[TZ];rfl
  ·rintro k hk env ⟨t,rfl⟩;have hk:=Uq.mp hk;refine⟨[some (.f,.int (k:Int)),some (.f,.int Jl)],rfl,.f,[some (.f,.int (k:Int)),some (.f,.int Jl)],?_,_,rfl⟩;simp only[pv,seval,op,mT Jl (k:Int) (by lia) (by lia),jI _ 26 (by decide)]
 have Rp:((List.range 8).map fun(k:Nat)=>wX Jl (k:Int)%26).length=8:=rfl;have PZ:∀j∈((List.range 8).map fun(k:Nat)=>wX Jl (k:Int)%26),0<=j/\j<26:=by
  intro j hj;obtain⟨k,_,rfl⟩:=rK hj;exact eV _ _ (by decide)
 generalize ((List.range 8).map fun(k:Nat)=>wX Jl (k:Int)%26)=base at hc Rp PZ;have hlen:(base.map D.int).length<=sizeLine:=bS (by rw[bL];lia);have Oe:=Ik base;rw[ay (env':=[some (.f,.int Jl),some (.f,.str KL),some (.l .f,.lst (base.map D.int)),none,none,none,none,none]) (by
  generalize (aA fI (aq (dM aW (ag (aw 1) (ag (aw 0) aG)))) (aq (aF (.int 26))))=GG at hc ⊢;simp only[pv,seval,op];rw[TF (by decide)];simp only[pv,seval,op,show(8:Int).toNat=8 from rfl,hc,hlen,Oe])]
 have m8:=eV Jl 8 (by decide);obtain⟨wd,ew⟩:=Up (show 0<=1+Jl%8 by lia);have msp:=eV (Jl / 8) (wd:Int) (by lia);obtain⟨sp,es⟩:=Up msp.1;rw[ay (env':=[some (.f,.int Jl),some (.f,.str KL),some (.l .f,.lst (base.map D.int)),some (.f,.int (wd:Int)),none,none,none,none]) (by simp only[pv,seval,op,jI _ 8 (by decide),ew])];rw[ay (env':=[some (.f,.int Jl),some (.f,.str KL),some (.l .f,.lst (base.map D.int)),some (.f,.int (wd:Int)),some (.f,.int (sp:Int)),none,none,none]) (by simp only[pv,seval,op,gU _ 8 (by decide) (by decide),jI _ (wd:Int) (by lia),es])];rw[ay (env':=[some (.f,.int Jl),some (.f,.str KL),some (.l .f,.lst (base.map D.int)),some (.f,.int (wd:Int)),some (.f,.int (sp:Int)),some (.l .f,.lst []),none,none]) (by simp only[pv,seval,op])];obtain⟨tk,Ro⟩:∃tk,(Jl / 64%4==1)=tk:=⟨_,rfl⟩
 obtain⟨env',ef,t6,t7,rfl⟩:=kS (a:=aH 6) (g:=de) (e:=fun k=>D.int (k:Int)) 5 (fun i env=>∃(t6 t7:Option R),env=[some (.f,.int Jl),some (.f,.str KL),some (.l .f,.lst (base.map D.int)),some (.f,.int (wd:Int)),some (.f,.int (sp:Int)),some (.l .f,.lst (((List.range i).map (KN base wd sp tk)).map D.str)),t6,t7]) (by
  rintro k env hk ⟨t6,t7,rfl⟩;obtain⟨u7,e⟩:=D3 Jl base Rp PZ wd sp (by lia) (by lia) tk Ro ((List.range k).map (KN base wd sp tk)) (by rw[bL,T3];lia) k t7;rw[show((List.range k).map (KN base wd sp tk))++[KN base wd sp tk k]=(List.range (k+1)).map (KN base wd sp tk) by rw[List.range_succ,TV];rfl]at e;exact⟨_,rfl,_,e,_,_,rfl⟩) _ ⟨none,none,rfl⟩
 rw[List.range_zero,Ut,Ut]at ef;rw[ay (env':=_) (by
  unfold g7;simp only[pv,seval,op];rw[TF (by decide)];simp only[pv,seval,op,show(5:Int).toNat=5 from rfl];exact ef)]
 unfold fZ;have MW:((List.range 5).map (KN base wd sp tk)).length=5:=by rw[bL,T3]
 have OF:((List.range 5).map (KN base wd sp tk)).Nodup:=d4 _ 5 fun i j hi hj e=>Bz base Rp PZ wd sp (by lia) (by lia) tk i j (by lia) (by lia) e
 have S3:∀n∈((List.range 5).map (KN base wd sp tk)),n.length<=8:=by
  intro n hn;obtain⟨k,_,rfl⟩:=rK hn;unfold KN;rw[bL];exact wj base Rp wd sp tk k
 generalize ((List.range 5).map (KN base wd sp tk))=l at MW OF S3;by_cases hm:[109,111,118,101,115]∈l
 ·have Lc:dv (aH 0) fH (aA cW (aq (aF (.str [115]))) (aw 0)) (l.map D.str) [none]=.ok ((l.map fun n=>115::n).map D.str):=by
   rw[cJ (r:=fun n:List Nat=>D.str (115::n)) (fun env=>∃t,env=[t]) l ?_ _ ⟨none,rfl⟩]
   ·rw[TZ];rfl
   ·rintro n hn env ⟨t,rfl⟩;have:=S3 n hn;refine⟨[some (.f,.str n)],rfl,.f,[some (.f,.str n)],?_,_,rfl⟩;simp only[pv,seval,op,HM [115] n (by rw[Um];lia)]
  have Se:((l.map fun n=>115::n).map D.str).length<=sizeLine:=bS (by rw[bL,bL];lia);have hnd2:(l.map fun n=>115::n).Nodup:=by
   rw[VJ,We];exact(VJ.mp OF).imp fun{a b} h e=>h (Vj e).2
  have QF:=PV.flat_strs (l.map fun n=>115::n);rw[ay (env':=[some (.f,.int Jl),some (.f,.str KL),some (.l .f,.lst (base.map D.int)),some (.f,.int (wd:Int)),some (.f,.int (sp:Int)),some (.l .f,.lst ((l.map fun n=>115::n).map D.str)),t6,t7]) (by
   generalize (aA cW (aq (aF (.str [115]))) (aw 0))=GG at Lc ⊢;simp only[pv,seval,op,zc,hm,Vn,Lc,Se,QF])]
  refine⟨aU Mc (l.map fun n=>115::n),by rw[kW,bL];exact MW,(dN Mc _).nodup_iff.mpr hnd2,d7 pR _,?_⟩;simp only[pv,seval,op,vZ (l.map fun n=>115::n) (by rw[bL];lia)]
 ·rw[ay (env':=[some (.f,.int Jl),some (.f,.str KL),some (.l .f,.lst (base.map D.int)),some (.f,.int (wd:Int)),some (.f,.int (sp:Int)),some (.l .f,.lst (l.map D.str)),t6,t7]) (by simp only[pv,seval,op,zc,hm,U8,eI])];refine⟨aU Mc l,by rw[kW];exact MW,(dN Mc _).nodup_iff.mpr OF,d7 pR _,?_⟩;simp only[pv,seval,op,vZ l (by lia)]
theorem D4(env:PV.Env)(fo:FO)(fp Ie fq:FP):FY fo fp Ie fq env=Res.bnd (fo env) (f:=⟨fun p=>Res.bnd (fp p.2) (f:=⟨fun q=>Res.bnd (Ie q.2) (f:=⟨fun t=>Res.bnd (fq t.2) (f:=⟨fun u=>Res.bnd (JC u.2 p.1) (f:=⟨fun d=>Res.bnd (DE d q.1 t.1 u.1) (f:=⟨fun r=>.ok (r,u.2)⟩)⟩)⟩)⟩)⟩)⟩):=id rfl
theorem BB(env:PV.Env)(fa fb fc:FX):A5 fa fb fc env=Res.bnd (fa env) (f:=⟨fun p=>Res.bnd (fb p.2) (f:=⟨fun q=>Res.bnd (fc q.2) (f:=⟨fun t=>.ok ((.t [.f,q.1.1,t.1.1],.tup [p.1.2,q.1.2,t.1.2]),t.2)⟩)⟩)⟩):=id rfl
theorem yg{α β:Type}(f:α->β)(l:List α)(lo hi:Option Int)(c:Int):fX (l.map f) lo hi c=(fX l lo hi c).map f:=by
 unfold fX;rw[bL,List.map_filterMap];congr 1
 funext i
 rw[List.getElem?_map]
theorem Gg(ds:List D)(lo hi:Option Int):DE (.lst ds) lo hi (some 6)=.ok (.l .f,.lst (fX ds lo hi 6)):=id rfl
theorem D5(ns:List Int)(first k:Int)(hk:0<=k/\k<=1000):∃v:Int,di [.lst (ns.map D.int),.int first,.int k]=.ok (.f,.int v):=by
 unfold di kJ;rw[bD (h:=by rfl)];rw[ay (env':=[some (.f,.lst (ns.map D.int)),some (.f,.int first),some (.f,.int k),some (.f,.int (7+k)),none]) (by simp only[pv,↓reduceIte,Nat.reduceAdd,Nat.reduceLT,Nat.reduceLeDiff,Nat.reduceEqDiff,op])];obtain⟨env',ef,v,t4,rfl⟩:=for_list (a:=aH 4) (g:=eF) (e:=D.int) (fX ns (some (first+k)) (some (first+84)) 6) (fun j env=>∃(v:Int) (t4:Option R),env=[some (.f,.lst (ns.map D.int)),some (.f,.int first),some (.f,.int k),some (.f,.int v),t4]) (by
  rintro j c env hj ⟨v,t4,rfl⟩;refine⟨_,rfl,_,?_,wX (c+v) k,some (.f,.int c),rfl⟩;unfold eF;simp only[pv,↓reduceIte,Nat.reduceAdd,Nat.reduceLT,Nat.reduceLeDiff,Nat.reduceEqDiff,op,mT (c+v) k hk.1 hk.2]) _ ⟨7+k,none,rfl⟩
 rw[ay (env':=_) (by
  unfold iV;simp only[pv,↓reduceIte,Nat.reduceAdd,Nat.reduceLT,Nat.reduceLeDiff,Nat.reduceEqDiff,op,D4,Gg,yg];exact ef)]
 unfold g9;exact⟨v,by simp only[pv,↓reduceIte,Nat.reduceAdd,Nat.reduceLT,Nat.reduceLeDiff,Nat.reduceEqDiff,op]⟩
def Tk(l:List Int)(cnt:Nat):Prop:=l.length=cnt/\∀x∈l,0<=x/\x<=10
theorem Tk.app{l:List Int}{cnt:Nat}(h:Tk l cnt){x:Int}(hx:0<=x/\x<=10):Tk (l++[x]) (cnt+1):=by
 refine⟨by rw[mQ,h.1];rfl,fun y hy=>?_⟩;rcases tM hy with hy|hy
 ·exact h.2 y hy
 ·rw[lg hy];exact hx
theorem BC(number:Int)(cnt:Nat)(hc:cnt<=10):∃(b:Int) (ts gs:List Int),(0<=b/\b<=10)/\Tk ts cnt/\Tk gs cnt/\cY [.int number,.int (cnt:Int)]=.ok (.t [.f,.l .f,.l .f],.tup [.int b,.lst (ts.map D.int),.lst (gs.map D.int)]):=by
 unfold cY jF;rw[bD (h:=by rfl)];rw[ay (env':=[some (.f,.int number),some (.f,.int (cnt:Int)),some (.l .f,.lst []),none,none,none,none,none]) (by simp only[pv,seval,op])];rw[ay (env':=[some (.f,.int number),some (.f,.int (cnt:Int)),some (.l .f,.lst []),some (.l .f,.lst []),none,none,none,none]) (by simp only[pv,seval,op])];obtain⟨env',ef,ts,gs,t4,t5,t6,t7,h1,h2,rfl⟩:=kS (a:=aH 4) (g:=dX) (e:=fun k=>D.int (k:Int)) cnt (fun i env=>∃(ts gs:List Int) (t4 t5 t6 t7:Option R),Tk ts i/\Tk gs i/\env=[some (.f,.int number),some (.f,.int (cnt:Int)),some (.l .f,.lst (ts.map D.int)),some (.l .f,.lst (gs.map D.int)),t4,t5,t6,t7]) (by
  rintro j env hj ⟨ts,gs,t4,t5,t6,t7,h1,h2,rfl⟩;have z1:(ts.map D.int).length<sizeLine:=jS (by rw[bL,h1.1];lia);have z2:(gs.map D.int).length<sizeLine:=jS (by rw[bL,h2.1];lia);have QJ:=mT number (j:Int) (by lia) (by lia);generalize wX number (j:Int)=x at QJ;have b1:=eV x 5 (by decide);have b2:=eV (x / 8) 4 (by decide);refine⟨[some (.f,.int number),some (.f,.int (cnt:Int)),some (.l .f,.lst (ts.map D.int)),some (.l .f,.lst (gs.map D.int)),some (.f,.int (j:Int)),t5,t6,t7],rfl,_,?_,ts++[(if 0<0-(x%5-2) then 0-(x%5-2) else 0)+x / 8%4 / 3],gs++[(if 0<x%5-2 then x%5-2 else 0)+x / 8%4 / 3],some (.f,.int (j:Int)),some (.f,.int x),some (.f,.int (x%5-2)),some (.f,.int (x / 8%4 / 3)),h1.app ?_,h2.app ?_,rfl⟩
  ·unfold dX;rw[ay (env':=[some (.f,.int number),some (.f,.int (cnt:Int)),some (.l .f,.lst (ts.map D.int)),some (.l .f,.lst (gs.map D.int)),some (.f,.int (j:Int)),some (.f,.int x),t6,t7]) (by simp only[pv,seval,op,QJ])];rw[ay (env':=[some (.f,.int number),some (.f,.int (cnt:Int)),some (.l .f,.lst (ts.map D.int)),some (.l .f,.lst (gs.map D.int)),some (.f,.int (j:Int)),some (.f,.int x),some (.f,.int (x%5-2)),t7]) (by simp only[pv,seval,op,jI _ 5 (by decide)])];generalize x%5-2=y;rw[ay (env':=[some (.f,.int number),some (.f,.int (cnt:Int)),some (.l .f,.lst (ts.map D.int)),some (.l .f,.lst (gs.map D.int)),some (.f,.int (j:Int)),some (.f,.int x),some (.f,.int y),some (.f,.int (x / 8%4 / 3))]) (by simp only[pv,seval,op,jI _ 4 (by decide),gU _ 8 (by decide) (by decide),gU _ 3 (by decide) (by decide)])];generalize x / 8%4 / 3=z;rw[TV,TV,dZ,dZ,Ut];rw[ay (env':=[some (.f,.int number),some (.f,.int (cnt:Int)),some (.l .f,.lst (ts.map D.int++[.int ((if 0<0-y then 0-y else 0)+z)])),some (.l .f,.lst (gs.map D.int)),some (.f,.int (j:Int)),some (.f,.int x),some (.f,.int y),some (.f,.int z)]) (by simp only[pv,seval,op,z1])];simp only[pv,seval,op,z2]
  ·split <;> lia
  ·split <;> lia) _ ⟨[],[],none,none,none,none,⟨rfl,(fun _ h=>nomatch h)⟩,⟨rfl,(fun _ h=>nomatch h)⟩,rfl⟩
 rw[Ut]at ef;rw[ay (env':=_) (by
  unfold hJ;simp only[pv,seval,op];rw[TF (by lia)];simp only[pv,seval,op,UD];exact ef)]
 unfold f7;have b:=eV (number / 16) 4 (by decide);exact⟨number / 16%4,ts,gs,by lia,h1,h2,by simp only[pv,seval,op,BB,gU _ 16 (by decide) (by decide),jI _ 4 (by decide)]⟩
abbrev Pl:=Int×List Int×List Int
def eP(p:Pl):D:=.tup [.int p.1,.tup (p.2.1.map D.int),.tup (p.2.2.map D.int)]
def JQ(p:Pl)(cnt:Nat):Prop:=p.2.1.length=cnt/\p.2.2.length=cnt
theorem D6(f:Int)(l:List Int)(h:∀x∈l,0<=x/\x<=10):dv (aH 0) fH (aA i6 (aw 1) (aw 0)) (l.map D.int) [none,some (.f,.int f)]=.ok ((l.map fun x=>f*x).map D.int):=by
 rw[cJ (r:=fun x:Int=>D.int (f*x)) (fun env=>∃t,env=[t,some (.f,.int f)]) l ?_ _ ⟨none,rfl⟩]
 ·rw[TZ];rfl
 ·rintro x hx env ⟨t,rfl⟩;have:=h x hx;refine⟨[some (.f,.int x),some (.f,.int f)],rfl,.f,[some (.f,.int x),some (.f,.int f)],?_,_,rfl⟩;simp only[pv,seval,op,GR f x (oY x (by lia) (by lia))]
theorem rP(b:Int)(hb:0<=b/\b<=10)(ts gs:List Int)(cnt:Nat)(hc:cnt<=10)(h1:Tk ts cnt)(h2:Tk gs cnt)(Jl:Int):∃p:Pl,JQ p cnt/\bX [.tup [.int b,.lst (ts.map D.int),.lst (gs.map D.int)],.int Jl]=.ok (.f,eP p):=by
 have p50:xE (.int 10) (.int 50)=.ok (.f,.int (10 ^ 50)):=GP 50 (by decide);have m50:=eV Jl (10 ^ 50) (by decide);unfold bX iW;rw[bD (h:=by rfl)];rw[ay (env':=[some (.f,.tup [.int b,.lst (ts.map D.int),.lst (gs.map D.int)]),some (.f,.int Jl),some (.f,.int (1+Jl%10 ^ 50)),none,none,none]) (by simp only[pv,↓reduceIte,Nat.reduceAdd,Nat.reduceLT,Nat.reduceLeDiff,Nat.reduceEqDiff,op,p50,jI _ (10 ^ 50) (by decide)])];have hf:0<1+Jl%10 ^ 50:=by
  generalize Jl%10 ^ 50=q at m50;lia
 generalize 1+Jl%10 ^ 50=f at hf;rw[ay (env':=[some (.f,.tup [.int b,.lst (ts.map D.int),.lst (gs.map D.int)]),some (.f,.int Jl),some (.f,.int f),some (.f,.int b),some (.f,.lst (ts.map D.int)),some (.f,.lst (gs.map D.int))]) (by simp only[pv,↓reduceIte,Nat.reduceAdd,Nat.reduceLT,Nat.reduceLeDiff,Nat.reduceEqDiff,op])];have c1:=D6 f ts h1.2;have c2:=D6 f gs h2.2;have l1:((ts.map fun x=>f*x).map D.int).length<=sizeLine:=bS (by rw[bL,bL,h1.1];lia);have l2:((gs.map fun x=>f*x).map D.int).length<=sizeLine:=bS (by rw[bL,bL,h2.1];lia);have f1:=Ik (ts.map fun x=>f*x);have f2:=Ik (gs.map fun x=>f*x);refine⟨(f*b+Jl / 7%f,ts.map fun x=>f*x,gs.map fun x=>f*x),⟨by rw[bL];exact h1.1,by rw[bL];exact h2.1⟩,?_⟩;unfold eP;dsimp only;generalize (ts.map fun x=>f*x).map D.int=T1 at *;generalize (gs.map fun x=>f*x).map D.int=T2 at *;have S4:=GR f b (oY b (by lia) (by lia));have QK:=jI (Jl / 7) f hf;have hdiv:=gU Jl 7 (by decide) (by decide);generalize f*b=fb at S4 ⊢;generalize (Jl / 7)%f=cf at QK ⊢;rw[ay (env':=[some (.f,.tup [.int b,.lst (ts.map D.int),.lst (gs.map D.int)]),some (.f,.int Jl),some (.f,.int f),some (.f,.int b),some (.f,.tup T1),some (.f,.lst (gs.map D.int))]) (by
  generalize (aA i6 (aw 1) (aw 0))=GG at c1 ⊢;simp only[pv,↓reduceIte,Nat.reduceAdd,Nat.reduceLT,Nat.reduceLeDiff,Nat.reduceEqDiff,op,c1,l1,f1])]
 have S5:∀GG,GG=(aA i6 (aw 1) (aw 0))->dv (aH 0) fH GG (gs.map D.int) [none,some (.f,.int f)]=.ok T2:=fun GG h=>by rw[h];exact c2
 rw[show(eY (eW (az (aA cW (aq (aA i6 (aw 2) (aw 3))) (aq (aA fI (aq (aA dF (aw 1) (aq (aF (.int 7))))) (aw 2)))) (az (aR 4) (az (aX cV (ag (aq (dw (JO (jO 5) (JO (iJ (aR 5)) (iK (aR 5)))) [none,some 2] (aH 0) fH (aA i6 (aw 1) (aw 0)))) aG)) bC)))))=(fun GG=>eY (eW (az (aA cW (aq (aA i6 (aw 2) (aw 3))) (aq (aA fI (aq (aA dF (aw 1) (aq (aF (.int 7))))) (aw 2)))) (az (aR 4) (az (aX cV (ag (aq (dw (JO (jO 5) (JO (iJ (aR 5)) (iK (aR 5)))) [none,some 2] (aH 0) fH GG)) aG)) bC))))) (aA i6 (aw 1) (aw 0)) from rfl];generalize eGG:(aA i6 (aw 1) (aw 0))=GG;have c2:=S5 GG eGG.symm;clear eGG S5;simp only[pv,↓reduceIte,Nat.reduceAdd,Nat.reduceLT,Nat.reduceLeDiff,Nat.reduceEqDiff,op,S4,QK,hdiv,c2,l2,f2]
theorem yh(ns:List Int)(first:Nat)(cnt:Nat)(hc:cnt<=10)(ps:List Pl)(S6:∀p∈ps,JQ p cnt)(hl:ps.length<=100)(k:Nat)(hk:k<=100)(t5 t6 t7:Option R):
  ∃(JF:List Pl) (u5 u6 u7:Option R),(∀p∈JF,JQ p cnt)/\ps.length+1<=JF.length/\JF.length<=ps.length+2/\cO [some (.f,.lst (ns.map D.int)),some (.f,.int (first:Int)),some (.f,.int (cnt:Int)),some (.l .f,.lst (ps.map eP)),some (.f,.int (k:Int)),t5,t6,t7]=.ok (.nx [some (.f,.lst (ns.map D.int)),some (.f,.int (first:Int)),some (.f,.int (cnt:Int)),some (.l .f,.lst (JF.map eP)),some (.f,.int (k:Int)),u5,u6,u7]):=by
 obtain⟨v,ev⟩:=D5 ns (first:Int) (k:Int) (by lia);obtain⟨b,ts,gs,hb,h1,h2,ep⟩:=BC v cnt hc;have c1:=k4 ns (first+k);rw[show((first+k:Nat):Int)=(first:Int)+(k:Int) by lia]at c1;have c2:=k4 ns (first+6+k);rw[show((first+6+k:Nat):Int)=(first:Int)+6+(k:Int) by lia]at c2;obtain⟨p1,S7,e1⟩:=rP b hb ts gs cnt hc h1 h2 (cell ns (first+k));have m4:=eV (v / 256) 4 (by decide);obtain⟨p2,Ob,e2⟩:=rP (v / 256%4) (by lia) gs ts cnt hc h2 h1 (cell ns (first+6+k));have K0:aQ (.t [.f,.l .f,.l .f]) (.tup [.int b,.lst (ts.map D.int),.lst (gs.map D.int)])=true:=by
  have f1:=Ik ts;have f2:=Ik gs;simp only[aQ,nX,flatD];rw[<-cU,<-cU,f1,f2];rfl
 have Rq:∀p:Pl,flatD (eP p)=true:=fun p=>by
  unfold eP;rw[cI];simp only[flatDs,cI,Ik,jX];rfl
 have hz1:(ps.map eP).length<sizeLine:=jS (by rw[bL];lia);have M5:(ps.map eP++[eP p1]).length<sizeLine:=jS (by rw[mQ,bL,Um];lia);unfold cO;rw[ay (env':=[some (.f,.lst (ns.map D.int)),some (.f,.int (first:Int)),some (.f,.int (cnt:Int)),some (.l .f,.lst (ps.map eP)),some (.f,.int (k:Int)),some (.f,.int v),t6,t7]) (by simp only[pv,↓reduceIte,Nat.reduceAdd,Nat.reduceLT,Nat.reduceLeDiff,Nat.reduceEqDiff,op,ev])];rw[ay (env':=[some (.f,.lst (ns.map D.int)),some (.f,.int (first:Int)),some (.f,.int (cnt:Int)),some (.l .f,.lst (ps.map eP)),some (.f,.int (k:Int)),some (.f,.int v),some (.t [.f,.l .f,.l .f],.tup [.int b,.lst (ts.map D.int),.lst (gs.map D.int)]),t7]) (by simp only[pv,↓reduceIte,Nat.reduceAdd,Nat.reduceLT,Nat.reduceLeDiff,Nat.reduceEqDiff,op,ep,K0])];rw[ay (env':=[some (.f,.lst (ns.map D.int)),some (.f,.int (first:Int)),some (.f,.int (cnt:Int)),some (.l .f,.lst (ps.map eP++[eP p1])),some (.f,.int (k:Int)),some (.f,.int v),some (.t [.f,.l .f,.l .f],.tup [.int b,.lst (ts.map D.int),.lst (gs.map D.int)]),t7]) (by simp only[pv,↓reduceIte,Nat.reduceAdd,Nat.reduceLT,Nat.reduceLeDiff,Nat.reduceEqDiff,op,c1,e1,Rq,hz1])];by_cases h3:0<v / 64%3
 ·refine⟨ps++[p1,p2],some (.f,.int v),some (.f,.tup [.int b,.lst (ts.map D.int),.lst (gs.map D.int)]),some (.f,.tup [.int (v / 256%4),.lst (gs.map D.int),.lst (ts.map D.int)]),fun p hp=>?_,by rw[mQ];simp,by rw[mQ];simp,?_⟩
  ·rcases tM hp with hp|hp
   ·exact S6 p hp
   ·rcases TK.mp hp with rfl|hp
    ·exact S7
    ·rw[lg hp];exact Ob
  ·rw[TV,dZ,dZ,Ut,show ps.map eP++[eP p1,eP p2]=(ps.map eP++[eP p1])++[eP p2] by rw[Ul];rfl];simp only[pv,↓reduceIte,Nat.reduceAdd,Nat.reduceLT,Nat.reduceLeDiff,Nat.reduceEqDiff,op,gU _ 64 (by decide) (by decide),gU _ 256 (by decide) (by decide),jI _ 3 (by decide),jI _ 4 (by decide),gt_iff_lt,h3,Vn,at2,c2,e2,Rq,M5]
 ·refine⟨ps++[p1],some (.f,.int v),some (.t [.f,.l .f,.l .f],.tup [.int b,.lst (ts.map D.int),.lst (gs.map D.int)]),t7,fun p hp=>?_,by rw[mQ];simp,by rw[mQ];simp,?_⟩
  ·rcases tM hp with hp|hp
   ·exact S6 p hp
   ·rw[lg hp];exact S7
  ·rw[TV,dZ,Ut];simp only[pv,↓reduceIte,Nat.reduceAdd,Nat.reduceLT,Nat.reduceLeDiff,Nat.reduceEqDiff,op,gU _ 64 (by decide) (by decide),jI _ 3 (by decide),gt_iff_lt,h3,U8,eI]
theorem yi(ns:List Int)(first:Nat)(cnt:Nat)(hc:cnt<=10):∃ps:List Pl,(∀p∈ps,JQ p cnt)/\ps≠[]/\ps.length<=8/\cF [.lst (ns.map D.int),.int (first:Int),.int (cnt:Int)]=.ok (.l .f,.lst (ps.map eP)):=by
 have c1:aJ [.lst (ns.map D.int),.int 1]=.ok (.f,.int (cell ns 1)):=k4 ns 1;have m4:=eV (cell ns 1 / 4) 4 (by decide);unfold cF iX;rw[bD (h:=by rfl)];rw[ay (env':=[some (.f,.lst (ns.map D.int)),some (.f,.int (first:Int)),some (.f,.int (cnt:Int)),some (.l .f,.lst []),none,none,none,none]) (by simp only[pv,seval,op])];obtain⟨env',ef,ps,t4,t5,t6,t7,h1,h2,h3,rfl⟩:=kS (a:=aH 4) (g:=cO) (e:=fun k=>D.int (k:Int)) (1+cell ns 1 / 4%4).toNat (fun i env=>∃(ps:List Pl) (t4 t5 t6 t7:Option R),(∀p∈ps,JQ p cnt)/\i<=ps.length/\ps.length<=2*i/\env=[some (.f,.lst (ns.map D.int)),some (.f,.int (first:Int)),some (.f,.int (cnt:Int)),some (.l .f,.lst (ps.map eP)),t4,t5,t6,t7]) (by
  rintro k env hk ⟨ps,t4,t5,t6,t7,h1,h2,h3,rfl⟩;obtain⟨JF,u5,u6,u7,h1',RN,h3',e⟩:=yh ns first cnt hc ps h1 (by lia) k (by lia) t5 t6 t7
  exact⟨_,rfl,_,e,JF,_,_,_,_,h1',by lia,by lia,rfl⟩) _ ⟨[],none,none,none,none,(fun _ h=>nomatch h),TB _,TB _,rfl⟩
 rw[Ut]at ef;rw[ay (env':=_) (by
  unfold f9;simp only[pv,seval,op,c1,gU _ 4 (by decide) (by decide),jI _ 4 (by decide)];rw[TF (by lia)];simp only[pv,seval,op];exact ef)]
 unfold fL;refine⟨ps,h1,?_,by lia,by simp only[pv,seval,op]⟩;intro h;rw[h,US]at h2;lia
theorem D7{α:Type}{l:List α}(h:l.Nodup)(lo hi:Option Int):(iL l lo hi).Nodup:=by
 unfold iL;exact(h.sublist (List.drop_sublist _ _)).sublist (WN _ _)
theorem D8{α:Type}{l:List α}{r:α->α->Prop}(h:l.Pairwise r)(lo hi:Option Int):(iL l lo hi).Pairwise r:=by
 unfold iL;exact(h.sublist (List.drop_sublist _ _)).sublist (WN _ _)
theorem BD(ns:List Int):∃names:LNN,names≠[]/\names.length<=3/\names.Nodup/\names.Pairwise (fun a b=>Mc b a=false)/\cZ [.lst (ns.map D.int)]=.ok (.f,.tup (names.map D.str)):=by
 have c0:aJ [.lst (ns.map D.int),.int 0]=.ok (.f,.int (cell ns 0)):=k4 ns 0;have c1:aJ [.lst (ns.map D.int),.int 1]=.ok (.f,.int (cell ns 1)):=k4 ns 1;obtain⟨l,hl,OF,hpw,en⟩:=BA (cell ns 0);have m3:=eV (cell ns 1) 3 (by decide);unfold cZ jG;rw[bD (h:=by rfl)];rw[ay (env':=[some (.f,.lst (ns.map D.int)),some (.l .f,.lst (l.map D.str)),none,none,none]) (by simp only[pv,seval,op,c0,en])];rw[ay (env':=[some (.f,.lst (ns.map D.int)),some (.l .f,.lst (l.map D.str)),some (.f,.int (cell ns 1)),none,none]) (by simp only[pv,seval,op,c1])];rw[ay (env':=[some (.f,.lst (ns.map D.int)),some (.l .f,.lst (l.map D.str)),some (.f,.int (cell ns 1)),some (.f,.int (1+cell ns 1%3)),none]) (by simp only[pv,seval,op,jI _ 3 (by decide)])];obtain⟨cnt,ec⟩:=Up (show 0<=1+cell ns 1%3 by lia);rw[ec];have ms:=eV (cell ns 1 / 32) (6-(cnt:Int)) (by lia);obtain⟨st,es⟩:=Up ms.1;rw[ay (env':=[some (.f,.lst (ns.map D.int)),some (.l .f,.lst (l.map D.str)),some (.f,.int (cell ns 1)),some (.f,.int (cnt:Int)),some (.f,.int (st:Int))]) (by simp only[pv,seval,op,gU _ 32 (by decide) (by decide),jI _ (6-(cnt:Int)) (by lia),es])];have Pg:=Br l st (st+cnt) (by lia) (by lia);have hlen:(iL l (some (st:Int)) (some ((st+cnt:Nat):Int))).length=cnt:=by
  rw[Pg,Ud,UK];lia
 rw[show((st+cnt:Nat):Int)=(st:Int)+(cnt:Int) by lia]at hlen;refine⟨iL l (some (st:Int)) (some ((st:Int)+(cnt:Int))),?_,by lia,D7 OF _ _,D8 hpw _ _,?_⟩
 ·intro h;rw[h,US]at hlen;lia
 ·simp only[pv,seval,op,qi]
def bz(k:Nat):List (Int×Pl)->Option (List Int)
 |[]=>some []
 |z::zs=>if z.1<z.2.2.1.getD k 0 then none else(bz k zs).map fun r=>(z.1-z.2.2.1.getD k 0+z.2.2.2.getD k 0)::r
theorem o7(k:Nat):∀{zs:List (Int×Pl)}{r:List Int},bz k zs=some r->r.length=zs.length
 |[],r,h=>by cases h;rfl
 |z::zs,r,h=>by
  rw[bz]at h;split at h
  ·cases h
  ·rw[Uh]at h;obtain⟨r',h1,rfl⟩:=h;rw[TN,TN,o7 k h1]
theorem jY(k:Nat):∀{zs:List (Int×Pl)}{r:List Int}{j:Nat}{z:Int×Pl},bz k zs=some r->zs[j]?=some z->¬ z.1<z.2.2.1.getD k 0/\r[j]?=some (z.1-z.2.2.1.getD k 0+z.2.2.2.getD k 0)
 |[],r,j,z,h,e=>by cases e
 |y::zs,r,j,z,h,e=>by
  rw[bz]at h;split at h
  ·cases h
  ·rename_i hn;rw[Uh]at h;obtain⟨r',h1,rfl⟩:=h;cases j with
   |zero=>
    rw[List.getElem?_cons_zero]at e;cases e;exact⟨hn,rfl⟩
   |succ j=>
    rw[List.getElem?_cons_succ]at e ⊢;exact jY k h1 e
theorem D9(A0 A1 A2:Option R)(k cnt:Nat)(hk:k<cnt)(acc:List Int)(hl:acc.length<=1000)(z:Int×Pl)(hz:JQ z.2 cnt):cN [A0,A1,A2,some (.f,.int (k:Int)),some (.l .f,.lst (acc.map D.int)),some (.f,.int z.1),some (.f,eP z.2)]=if z.1<z.2.2.1.getD k 0 then .ok (.rt (.f,.non)) else .ok (.nx [A0,A1,A2,some (.f,.int (k:Int)),some (.l .f,.lst ((acc++[z.1-z.2.2.1.getD k 0+z.2.2.2.getD k 0]).map D.int)),some (.f,.int z.1),some (.f,eP z.2)]):=by
 have h1:Ju (z.2.2.1.map D.int) (k:Int)=some (.int (z.2.2.1.getD k 0)):=lR (by rw[hz.1];exact hk);have h2:Ju (z.2.2.2.map D.int) (k:Int)=some (.int (z.2.2.2.getD k 0)):=lR (by rw[hz.2];exact hk);have Se:(acc.map D.int).length<sizeLine:=jS (by rw[bL];lia);unfold cN eP;by_cases h:z.1<z.2.2.1.getD k 0
 ·rw[TF h];simp only[pv,↓reduceIte,Nat.reduceAdd,Nat.reduceLT,Nat.reduceLeDiff,Nat.reduceEqDiff,op,h1,h,Vn]
 ·rw[TJ h,TV,dZ,Ut];simp only[pv,↓reduceIte,Nat.reduceAdd,Nat.reduceLT,Nat.reduceLeDiff,Nat.reduceEqDiff,op,h1,h2,at2,h,U8,eI,Se]
theorem o8(A0 A1 A2:Option R)(k cnt:Nat)(hk:k<cnt):∀(zs:List (Int×Pl)) (acc:List Int) (t5 t6:Option R),acc.length+zs.length<=1000->(∀z∈zs,JQ z.2 cnt)->
  (bz k zs=none/\d6 (ng 2 (bg (aH 5) (bg (aH 6) fT))) cN (zs.map fun z:Int×Pl=>D.tup [D.int z.1,eP z.2]) [A0,A1,A2,some (.f,.int (k:Int)),some (.l .f,.lst (acc.map D.int)),t5,t6]=.ok (.rt (.f,.non)))\/
  ∃r u5 u6,bz k zs=some r/\d6 (ng 2 (bg (aH 5) (bg (aH 6) fT))) cN (zs.map fun z:Int×Pl=>D.tup [D.int z.1,eP z.2]) [A0,A1,A2,some (.f,.int (k:Int)),some (.l .f,.lst (acc.map D.int)),t5,t6]=.ok (.nx [A0,A1,A2,some (.f,.int (k:Int)),some (.l .f,.lst ((acc++r).map D.int)),u5,u6])
 |[],acc,t5,t6,_,_=>.inr ⟨[],t5,t6,rfl,by rw[T7];rfl⟩
 |z::zs,acc,t5,t6,hl,hp=>by
  have h1:=D9 A0 A1 A2 k cnt hk acc (by rw[TN]at hl;lia) z (hp z Ts);have ha:ng 2 (bg (aH 5) (bg (aH 6) fT)) (D.tup [D.int z.1,eP z.2]) [A0,A1,A2,some (.f,.int (k:Int)),some (.l .f,.lst (acc.map D.int)),t5,t6]=.ok [A0,A1,A2,some (.f,.int (k:Int)),some (.l .f,.lst (acc.map D.int)),some (.f,.int z.1),some (.f,eP z.2)]:=by simp only[pv,↓reduceIte,Nat.reduceAdd,Nat.reduceLT,Nat.reduceLeDiff,Nat.reduceEqDiff]
  rw[dZ,cB,ha,IF,h1,bz];by_cases h:z.1<z.2.2.1.getD k 0
  ·left;rw[TF h,TF h];exact⟨rfl,by rw[IF]⟩
  ·rw[TJ h,TJ h,IF];rcases o8 A0 A1 A2 k cnt hk zs (acc++[z.1-z.2.2.1.getD k 0+z.2.2.2.getD k 0]) (some (.f,.int z.1)) (some (.f,eP z.2)) (by rw[TN]at hl;rw[mQ,Um];lia) (fun y hy=>hp y (Tx _ hy)) with⟨e1,e2⟩|⟨r,u5,u6,e1,e2⟩
   ·left;exact⟨by rw[e1];rfl,e2⟩
   ·right;refine⟨_,u5,u6,by rw[e1];rfl,?_⟩;rw[Ul]at e2;exact e2
def eN(names:LNN)(ps:List Pl):D:=.tup [.tup (names.map D.str),.lst (ps.map eP)]
def eM(m:List Int):D:=.tup (m.map D.int)
theorem qm {names : LNN} {m : List Nat} (h : m ∈ names) : oC (names.map D.str) [.str m] = .ok (.f, .int ((names.idxOf m : Nat) : Int)) := by
  first
    | (unfold oC
       dsimp only
       rw [eU]
       dsimp only
       rw [TF h])
    | (unfold oC
       simp only [eU, h, VY])
theorem jZ{α β:Type}(f:α->D)(g:β->D)(xs:List α)(ys:List β):((xs.map f).zip (ys.map g)).map (fun z=>D.tup [z.1,z.2])=(xs.zip ys).map fun z=>D.tup [f z.1,g z.2]:=by
 rw[List.zip_map,TZ];rfl
theorem Ea(names:LNN)(ps:List Pl)(hl:ps.length<=100)(hp:∀p∈ps,JQ p names.length)(m:List Int)(mv:List Nat)(hm:mv∈names):
  (bz (names.idxOf mv) (m.zip ps)=none/\cS [eN names ps,eM m,.str mv]=.ok (.f,.non))\/∃r,bz (names.idxOf mv) (m.zip ps)=some r/\cS [eN names ps,eM m,.str mv]=.ok (.f,eM r):=by
 have JU:=qm hm;have hk:=Uk hm;generalize names.idxOf mv=k at JU hk;unfold cS kI eN eM;rw[bD (h:=by rfl)];rw[ay (env':=[some (.f,.tup [.tup (names.map D.str),.lst (ps.map eP)]),some (.f,.tup (m.map D.int)),some (.f,.str mv),some (.f,.int (k:Int)),none,none,none]) (by simp only[pv,seval,op,JU])];rw[ay (env':=[some (.f,.tup [.tup (names.map D.str),.lst (ps.map eP)]),some (.f,.tup (m.map D.int)),some (.f,.str mv),some (.f,.int (k:Int)),some (.l .f,.lst []),none,none]) (by simp only[pv,seval,op])];rcases o8 (some (.f,.tup [.tup (names.map D.str),.lst (ps.map eP)])) (some (.f,.tup (m.map D.int))) (some (.f,.str mv)) k names.length hk (m.zip ps) [] none none (by rw[US,V1];lia) (fun z hz=>hp _ (Vr (show(z.1,z.2)∈m.zip ps from hz)).2) with⟨e1,e2⟩|⟨r,u5,u6,e1,e2⟩
 ·left;refine⟨e1,?_⟩;rw[Ut]at e2;unfold fg;simp only[pv,seval,op,jZ,e2]
 ·right;refine⟨r,e1,?_⟩;rw[Ut,VH]at e2;unfold fg g8;simp only[pv,seval,op,jZ,e2]
theorem eqDs_ints:∀a b:List Int,iw (a.map D.int) (b.map D.int)=decide (a=b)
 |[],[]=>rfl
 |[],_::_=>rfl
 |_::_,[]=>rfl
 |x::a,y::b=>by
  rw[dZ,dZ,iw,eqDs_ints a b,Ig,T5];simp
theorem wm(a b:List Int):Ig (eM a) (eM b)=decide (a=b):=by
 unfold eM;rw[Ig,eqDs_ints]
theorem gA(a:List Int):plainD 40 (eM a)=true:=yb a
theorem mU(l:List (List Int)):plainDs 40 (l.map eM)=true:=by
 induction l with
 |nil=>rfl
 |cons a l ih=>
  rw[dZ,plainDs,ih,V3];exact gA a
theorem k7{α:Type}[DecidableEq α](a:α):∀l:List α,a∉l->((l++[a]).findIdx fun x=>decide (x=a))=l.length
 |[],_=>by simp
 |x::l,h=>by
  rw[TK,not_or]at h;rw[Vg,WW,k7 a l h.2,T4 (fun e=>h.1 e.symm)];rfl
theorem Gh{α:Type}[DecidableEq α]{e:α->D}(he:∀a b,Ig (e a) (e b)=decide (a=b))(hp:∀l:List α,plainDs 40 (l.map e)=true)(hq:∀a,plainD 40 (e a)=true)(l:List α)(a:α)(h:a∉l):pZ (l.map e++[e a]) [e a]=.ok (.f,.int (l.length:Int)):=by
 have e0:l.map e++[e a]=(l++[a]).map e:=by rw[TV];rfl
 have e1:((l++[a]).map e).any (fun d=>Ig d (e a))=true:=by
  rw[VU,U3];exact⟨a,Tv _ (TY.mpr rfl),by show Ig (e a) (e a)=true;rw[he,T9 rfl]⟩
 have e2:((l++[a]).map e).findIdx (fun d=>Ig d (e a))=l.length:=by
  rw[List.findIdx_map];rw[<-k7 a l h];congr 1
  funext x
  exact he x a
 unfold pZ;dsimp only;rw[e0,hq,hp,e1,e2];rfl
theorem HR{α:Type}[DecidableEq α]{e:α->D}(he:∀a b,Ig (e a) (e b)=decide (a=b))(hp:∀l:List α,plainDs 40 (l.map e)=true)(hq:∀a,plainD 40 (e a)=true)(l:List α)(a:α):B2 (e a) (.lst (l.map e))=.ok (.f,.bl (!decide (a∈l))):=by
 have e1:wV (e a) (l.map e)=decide (a∈l):=by
  unfold wV;rw[VU,T5,U3,TQ];constructor
  ·rintro⟨x,hx,e1⟩;have e1:Ig (e x) (e a)=true:=e1;rw[he,TQ]at e1;rw[<-e1];exact hx
  ·intro h;refine⟨a,h,?_⟩;show Ig (e a) (e a)=true;rw[he,TQ]
 unfold B2 MI;dsimp only;rw[hq,hp,UG,TF rfl,e1];rfl
structure Rm(names:LNN)(ps:List Pl)(S:List (List Int))(A:List IC)(m:Nat):Prop where
 nd:S.Nodup
 z:S[0]?=some (ps.map (·.1))
 ln:∀s∈S,s.length=ps.length
 le:S.length<=8
 ab:∀a∈A,a.2.1∈names/\∃i j:Nat,i<m/\a.1=(i:Int)/\a.2.2=(j:Int)/\∃s t,S[i]?=some s/\S[j]?=some t/\bz (names.idxOf a.2.1) (s.zip ps)=some t
 rc:∀j:Nat,1<=j->j<S.length->∃a∈A,a.2.2=(j:Int)/\∃b:Nat,b<j/\a.1=(b:Int)
theorem Rm.more{names:LNN}{ps:List Pl}{S:List (List Int)}{A:List IC}{m m':Nat}(r:Rm names ps S A m)(h:m<=m'):Rm names ps S A m':=⟨r.nd,r.z,r.ln,r.le,fun a ha=>by
 obtain⟨h1,i,j,h2,h3⟩:=r.ab a ha;exact⟨h1,i,j,by lia,h3⟩,r.rc⟩
theorem Rm.old{names:LNN}{ps:List Pl}{S:List (List Int)}{A:List IC}{d:Nat}(r:Rm names ps S A (d+1)){mv:List Nat}(hn:mv∈names){s t:List Int}(hs:S[d]?=some s){i:Nat}(ht:S[i]?=some t)(hf:bz (names.idxOf mv) (s.zip ps)=some t):Rm names ps S (A++[((d:Int),mv,(i:Int))]) (d+1):=by
 refine⟨r.nd,r.z,r.ln,r.le,fun a ha=>?_,fun j j1 j2=>?_⟩
 ·rcases tM ha with ha|ha
  ·exact r.ab a ha
  ·rw[lg ha];exact⟨hn,d,i,by lia,rfl,rfl,s,t,hs,ht,hf⟩
 ·obtain⟨a,ha,q⟩:=r.rc j j1 j2;exact⟨a,TC _ ha,q⟩
theorem Rm.new{names:LNN}{ps:List Pl}{S:List (List Int)}{A:List IC}{d:Nat}(r:Rm names ps S A (d+1)){mv:List Nat}(hn:mv∈names){s t:List Int}(hs:S[d]?=some s)(ht:t∉S)(hf:bz (names.idxOf mv) (s.zip ps)=some t)(h8:S.length<8):Rm names ps (S++[t]) (A++[((d:Int),mv,(S.length:Int))]) (d+1):=by
 have hd:=(mP hs).1;have hl:(S++[t]).length=S.length+1:=by rw[mQ];rfl
 have up:∀{i:Nat}{x:List Int},S[i]?=some x->(S++[t])[i]?=some x:=fun{i x} h=>by
  rw[List.getElem?_append_left (mP h).1];exact h
 refine⟨Ub.mpr ⟨r.nd,Ui.mpr ⟨UM,Vm⟩,fun x hx y hy=>?_⟩,up r.z,fun x hx=>?_,by lia,fun a ha=>?_,fun j j1 j2=>?_⟩
 ·rw[lg hy];rintro rfl;exact ht hx
 ·rcases tM hx with hx|hx
  ·exact r.ln x hx
  ·rw[lg hx,o7 _ hf,V1,r.ln s (T6 hs),Nat.min_self]
 ·rcases tM ha with ha|ha
  ·obtain⟨h1,i,j,h2,h3,h4,x,y,h5,h6,h7⟩:=r.ab a ha;exact⟨h1,i,j,h2,h3,h4,x,y,up h5,up h6,h7⟩
  ·rw[lg ha];exact⟨hn,d,S.length,by lia,rfl,rfl,s,t,up hs,by rw[List.getElem?_append_right (TB _),Xw];rfl,hf⟩
 ·by_cases e:j=S.length
  ·subst e;exact⟨_,Tv _ (TY.mpr rfl),rfl,d,hd,rfl⟩
  ·obtain⟨a,ha,q⟩:=r.rc j j1 (by lia);exact⟨a,TC _ ha,q⟩
theorem lS(t:List Int):flatD (eM t)=true:=by
 unfold eM;rw[cI,Ik]
def Fu(names:LNN)(ps:List Pl)(S:List (List Int))(A:List IC)(d j:Nat):Prop:=∀i k:Nat,(i<d\/(i=d/\k<j))->∀mv,names[k]?=some mv->∀s t,S[i]?=some s->bz (names.idxOf mv) (s.zip ps)=some t->∃m:Nat,S[m]?=some t/\((i:Int),mv,(m:Int))∈A
theorem Fu.next{names:LNN}{ps:List Pl}{S S':List (List Int)}{A A':List IC}{d j:Nat}(fu:Fu names ps S A d j){s0:List Int}(hd:S[d]?=some s0)(up:∀(i:Nat) (x:List Int),S[i]?=some x->S'[i]?=some x)(ua:∀a∈A,a∈A'){mv:List Nat}(hj:names[j]?=some mv)(new:∀t,bz (names.idxOf mv) (s0.zip ps)=some t->∃m:Nat,S'[m]?=some t/\((d:Int),mv,(m:Int))∈A'):Fu names ps S' A' d (j+1):=by
 intro i k h mv' hk s t hs hf;have hdl:=(mP hd).1;have Mt:i<S.length:=by lia
 have Sg:S[i]?=some s:=by
  have:=up i _ (iy Mt);rw[hs]at this;rw[iy Mt,this]
 by_cases h2:i<d\/(i=d/\k<j)
 ·obtain⟨m,h3,h4⟩:=fu i k h2 mv' hk s t Sg hf;exact⟨m,up _ _ h3,ua _ h4⟩
 ·have e1:i=d:=by lia
  have e2:k=j:=by lia
  subst e1 e2;rw[hj]at hk;cases hk;rw[hd]at Sg;cases Sg;exact new t hf
theorem Fu.row{names:LNN}{ps:List Pl}{S:List (List Int)}{A:List IC}{d:Nat}(fu:Fu names ps S A d names.length):Fu names ps S A (d+1) 0:=fun i k h mv hk s t hs hf=>fu i k (by
 have:=(mP hk).1;lia) mv hk s t hs hf
def I0(k:Nat)(p:Pl):Int:=p.2.1.getD k 0
def Kk(k:Nat)(p:Pl):Int:=p.2.2.getD k 0
def wY(k:Nat)(zs:List (Int×Pl)):Bool:=zs.all fun z=>decide (I0 k z.2<=z.1)
theorem gQ(k:Nat):∀zs:List (Int×Pl),bz k zs=if wY k zs then some (zs.map fun z=>z.1-I0 k z.2+Kk k z.2) else none
 |[]=>rfl
 |z::zs=>by
  rw[bz,gQ k zs];unfold wY;rw[Vz];by_cases h:z.1<z.2.2.1.getD k 0
  ·have h2:decide (I0 k z.2<=z.1)=false:=T4 (by unfold I0;lia);rw[TF h,h2,VL,TJ Tz]
  ·have h2:decide (I0 k z.2<=z.1)=true:=T9 (by unfold I0;lia);rw[TJ h,h2,X9];cases(zs.all fun z=>decide (I0 k z.2<=z.1)) with
   |true=>rw[TF rfl,TF rfl];rfl
   |false=>rw[TJ Tz,TJ Tz];rfl
theorem BE(names:LNN)(ps:List Pl)(hl:ps.length<=100):bR [eN names ps]=.ok (.f,eM (ps.map (·.1))):=by
 have hc:dv (aH 0) fH (aA Ih (aw 0) (aq (aF (.int 0)))) (ps.map eP) [none]=.ok ((ps.map (·.1)).map D.int):=by
  rw[TZ];refine cJ (fun env=>∃t,env=[t]) _ ?_ _ ⟨_,rfl⟩;rintro p _ env ⟨t,rfl⟩;refine⟨[some (.f,eP p)],by simp only[pv,seval],?_⟩;unfold eP;simp only[pv,seval,op,Rl];exact⟨_,_,rfl,_,rfl⟩
 have NV:((ps.map (·.1)).map D.int).length<=sizeLine:=line_le (by rw[bL,bL];lia);unfold bR fY eN;rw[bD (h:=by rfl)];simp only[pv,seval,op,Pz,hc,NV,Ik];rfl
theorem yj{p:Pl}{k cnt:Nat}(h:JQ p cnt)(hk:k<cnt):Ju (p.2.1.map D.int) (k:Int)=some (.int (I0 k p)):=lR (by rw[h.1];exact hk)
theorem BF{p:Pl}{k cnt:Nat}(h:JQ p cnt)(hk:k<cnt):Ju (p.2.2.map D.int) (k:Int)=some (.int (Kk k p)):=lR (by rw[h.2];exact hk)
theorem yk(names:LNN)(ps:List Pl)(hl:ps.length<=100)(hp:∀p∈ps,JQ p names.length)(m:List Int)(mv:List Nat)(hm:mv∈names):gN [eN names ps,eM m,.str mv]=.ok (.f,.bl (wY (names.idxOf mv) (m.zip ps))):=by
 have JU:=qm hm;have hk:=Uk hm;generalize names.idxOf mv=k at JU hk;have hc:dv (ng 2 (bg (aH 0) (bg (aH 1) fT))) fH (aA Qf (aw 0) (aq (aA Ih (aq (aA Ih (aw 1) (aq (aF (.int 1))))) (aw 2)))) ((m.zip ps).map fun z=>D.tup [.int z.1,eP z.2]) [none,none,some (.f,.int (k:Int))]=.ok (((m.zip ps).map fun z=>decide (I0 k z.2<=z.1)).map D.bl):=by
  rw[TZ];refine cJ (fun env=>∃t u,env=[t,u,some (.f,.int (k:Int))]) _ ?_ _ ⟨_,_,rfl⟩;rintro⟨x,p⟩ hz env ⟨t,u,rfl⟩;have e1:=yj (hp p (Vr hz).2) hk;refine⟨_,kU _ _ _ _ _,?_⟩;unfold eP;simp only[pv,seval,op,Pz,e1];exact⟨_,_,rfl,_,_,rfl⟩
 have NV:(((m.zip ps).map fun z=>decide (I0 k z.2<=z.1)).map D.bl).length<=sizeLine:=line_le (by rw[bL,bL,V1];lia);unfold gN rE eN eM;rw[bD (h:=by rfl)];rw[ay (env':=[some (.f,.tup [.tup (names.map D.str),.lst (ps.map eP)]),some (.f,.tup (m.map D.int)),some (.f,.str mv),some (.f,.int (k:Int))]) (by simp only[pv,seval,op,Rl,JU])];simp only[pv,seval,op,Pz,jZ,hc,NV,rJ,za];unfold wY;rw[U7];rfl
def eO:Option (List Int)->D
 |none=>.non
 |some r=>eM r
theorem BG(o:Option (List Int)):flatD (eO o)=true:=by
 cases o with
 |none=>rfl
 |some r=>exact lS r
theorem BH(names:LNN)(ps:List Pl)(hl:ps.length<=100)(hp:∀p∈ps,JQ p names.length)(m:List Int)(mv:List Nat)(hm:mv∈names):jl [eN names ps,eM m,.str mv]=.ok (.f,eO (bz (names.idxOf mv) (m.zip ps))):=by
 have hg:=yk names ps hl hp m mv hm;have JU:=qm hm;have hk:=Uk hm;rw[gQ];generalize names.idxOf mv=k at JU hk hg;have hc:dv (ng 2 (bg (aH 0) (bg (aH 1) fT))) fH (aA cW (aq (aA wU (aw 0) (aq (aA Ih (aq (aA Ih (aw 1) (aq (aF (.int 1))))) (aw 2))))) (aq (aA Ih (aq (aA Ih (aw 1) (aq (aF (.int 2))))) (aw 2)))) ((m.zip ps).map fun z=>D.tup [.int z.1,eP z.2]) [none,none,some (.f,.int (k:Int))]=.ok (((m.zip ps).map fun z=>z.1-I0 k z.2+Kk k z.2).map D.int):=by
  rw[TZ];refine cJ (fun env=>∃t u,env=[t,u,some (.f,.int (k:Int))]) _ ?_ _ ⟨_,_,rfl⟩;rintro⟨x,p⟩ hz env ⟨t,u,rfl⟩;have e1:=yj (hp p (Vr hz).2) hk;have e2:=BF (hp p (Vr hz).2) hk;refine⟨_,kU _ _ _ _ _,?_⟩;unfold eP;simp only[pv,seval,op,Pz,at2,e1,e2];exact⟨_,_,rfl,_,_,rfl⟩
 have NV:(((m.zip ps).map fun z=>z.1-I0 k z.2+Kk k z.2).map D.int).length<=sizeLine:=line_le (by rw[bL,bL,V1];lia);unfold jl vP;rw[bD (h:=by rfl)];cases hz:wY k (m.zip ps) with
 |false=>
  rw[hz]at hg;simp only[pv,seval,hg,qe,qf,VO,eI];rfl
 |true=>
  rw[hz]at hg;unfold eN eM at hg ⊢;rw[ay (env':=[some (.f,.tup [.tup (names.map D.str),.lst (ps.map eP)]),some (.f,.tup (m.map D.int)),some (.f,.str mv),none]) (by simp only[pv,seval,hg,qe,qf,VI,eI])];rw[ay (env':=[some (.f,.tup [.tup (names.map D.str),.lst (ps.map eP)]),some (.f,.tup (m.map D.int)),some (.f,.str mv),some (.f,.int (k:Int))]) (by simp only[pv,seval,op,Rl,JU])];simp only[pv,seval,op,Pz,jZ,hc,NV,Ik];rfl
abbrev Rn:=List (List Int)×List IC
def pos(S:List (List Int))(t:List Int):Nat:=S.findIdx fun x=>decide (x=t)
noncomputable def gW(names:LNN)(ps:List Pl)(d:Nat)(mv:List Nat)(r:Rn):Option Rn:=match bz (names.idxOf mv) ((r.1.getD d []).zip ps) with
 |none=>some r
 |some t=>if t∈r.1 then some (r.1,r.2++[((d:Int),mv,(pos r.1 t:Int))]) else if r.1.length=8 then none else some (r.1++[t],r.2++[((d:Int),mv,(r.1.length:Int))])
def pA(names:LNN)(ps:List Pl)(d:Nat):LNN->Rn->Option Rn
 |[],r=>some r
 |mv::l,r=>(gW names ps d mv r).bind (pA names ps d l)
def tR(names:LNN)(ps:List Pl):Nat->Nat->Rn->Option Rn
 | 0,_,r=>some r
 |f+1,d,r=>if d<r.1.length then(pA names ps d names r).bind (tR names ps f (d+1)) else some r
theorem HS{α:Type}[DecidableEq α]{e:α->D}(he:∀a b,Ig (e a) (e b)=decide (a=b))(hp:∀l:List α,plainDs 40 (l.map e)=true)(hq:∀a,plainD 40 (e a)=true)(l:List α)(a:α)(h:a∈l):pZ (l.map e) [e a]=.ok (.f,.int ((l.findIdx fun x=>decide (x=a):Nat):Int)):=by
 have e1:(l.map e).any (fun d=>Ig d (e a))=true:=by
  rw[VU,U3];exact⟨a,h,by show Ig (e a) (e a)=true;rw[he,T9 rfl]⟩
 have e2:(l.map e).findIdx (fun d=>Ig d (e a))=l.findIdx fun x=>decide (x=a):=by
  rw[List.findIdx_map];congr 1
  funext x
  exact he x a
 unfold pZ;dsimp only;rw[hq,hp,e1,e2];rfl
theorem Eb(names:LNN)(ps:List Pl)(hl:ps.length<=100)(hp:∀p∈ps,JQ p names.length)(S:List (List Int))(A:List IC)(hA:A.length<=1000)(hS:S.length<=8)(d:Nat)(hd:d<S.length)(mv:List Nat)(hn:mv∈names)(t6:Option R):
  match gW names ps d mv (S,A) with
  |some (S',A')=>∃u6,bW [some (.f,eN names ps),some (.f,.int 8),some (.l .f,.lst (S.map eM)),some (.l .f,.lst (A.map eA)),some (.f,.int ((d:Nat):Int)),some (.f,.str mv),t6]=.ok (.nx [some (.f,eN names ps),some (.f,.int 8),some (.l .f,.lst (S'.map eM)),some (.l .f,.lst (A'.map eA)),some (.f,.int ((d:Nat):Int)),some (.f,.str mv),u6])
  |none=>bW [some (.f,eN names ps),some (.f,.int 8),some (.l .f,.lst (S.map eM)),some (.l .f,.lst (A.map eA)),some (.f,.int ((d:Nat):Int)),some (.f,.str mv),t6]=.ok (.rt (.f,.non)):=by
 have NW:S[d]?=some S[d]:=iy hd;have QL:S.getD d []=S[d]:=by rw[List.getD_eq_getElem?_getD,NW];rfl
 have Lh:Ju (S.map eM) (d:Int)=some (eM S[d]):=fR (by rw[List.getElem?_map,NW];rfl);have hzA:(A.map eA).length<sizeLine:=jS (by rw[bL];lia);have hzS:(S.map eM).length<sizeLine:=jS (by rw[bL];lia);have PB:flatD .non=true:=rfl;unfold gW;dsimp only;rw[QL];unfold bW;rcases Ea names ps hl hp S[d] mv hn with⟨hf,e⟩|⟨t,hf,e⟩
 ·rw[hf];dsimp only;refine⟨some (.f,.non),?_⟩;rw[ay (env':=[some (.f,eN names ps),some (.f,.int 8),some (.l .f,.lst (S.map eM)),some (.l .f,.lst (A.map eA)),some (.f,.int ((d:Nat):Int)),some (.f,.str mv),some (.f,.non)]) (by simp only[pv,↓reduceIte,Nat.reduceAdd,Nat.reduceLT,Nat.reduceLeDiff,Nat.reduceEqDiff,op,Lh,e,PB])];simp only[pv,↓reduceIte,Nat.reduceAdd,Nat.reduceLT,Nat.reduceLeDiff,Nat.reduceEqDiff,op,kY,eI]
 ·rw[hf];dsimp only;have hft:=lS t;have Ph:=HR wm mU gA S t;have Sh:isnO (eM t) .non=.ok (.f,.bl true):=id rfl;rw[ay (env':=[some (.f,eN names ps),some (.f,.int 8),some (.l .f,.lst (S.map eM)),some (.l .f,.lst (A.map eA)),some (.f,.int ((d:Nat):Int)),some (.f,.str mv),some (.f,eM t)]) (by simp only[pv,↓reduceIte,Nat.reduceAdd,Nat.reduceLT,Nat.reduceLeDiff,Nat.reduceEqDiff,op,Lh,e,hft])];by_cases hm:t∈S
  ·rw[TF hm];have JU:=HS wm mU gA S t hm;dsimp only;refine⟨some (.f,eM t),?_⟩;unfold pos;rw[TV];simp only[pv,↓reduceIte,Nat.reduceAdd,Nat.reduceLT,Nat.reduceLeDiff,Nat.reduceEqDiff,op,Sh,Ph,hm,Vn,VI,eI,zb,JU,hzA];rfl
  ·rw[TJ hm];by_cases h9:S.length=8
   ·rw[TF h9];dsimp only;have he:((S.length:Int)==8)=true:=by rw[h9];rfl
    simp only[pv,↓reduceIte,Nat.reduceAdd,Nat.reduceLT,Nat.reduceLeDiff,Nat.reduceEqDiff,op,Sh,Ph,hm,U8,VO,bL,he]
   ·rw[TJ h9];dsimp only;have he:((S.length:Int)==8)=false:=by
     rw[UW];lia
    have JU:=Gh wm mU gA S t hm;refine⟨some (.f,eM t),?_⟩;rw[TV,TV,dZ,Ut];have hzS':S.length<sizeLine:=jS (by lia);have hzA':A.length<sizeLine:=jS (by lia);simp only[pv,↓reduceIte,Nat.reduceAdd,Nat.reduceLT,Nat.reduceLeDiff,Nat.reduceEqDiff,op,Sh,Ph,hm,U8,VO,eI,bL,he,zb,JU,hzA',hzS'];rfl
theorem rQ{names:LNN}{ps:List Pl}{d:Nat}{mv:List Nat}{r r':Rn}(h:gW names ps d mv r=some r')(h8:r.1.length<=8):r.1.length<=r'.1.length/\r'.1.length<=8/\r'.2.length<=r.2.length+1:=by
 unfold gW at h;split at h
 ·cases h;lia
 ·split at h
  ·cases h;refine⟨TB _,h8,?_⟩;rw[mQ];exact TB _
  ·split at h
   ·cases h
   ·cases h;dsimp only;rw[mQ,mQ,Um,Um];lia
theorem ym{names:LNN}{ps:List Pl}{d:Nat}:∀(l:LNN) {r r':Rn},pA names ps d l r=some r'->r.1.length<=8->r.1.length<=r'.1.length/\r'.1.length<=8/\r'.2.length<=r.2.length+l.length
 |[],r,r',h,h8=>by
  cases h;exact⟨TB _,h8,TB _⟩
 |mv::l,r,r',h,h8=>by
  unfold pA at h;obtain⟨r1,h1,h2⟩:=Uj.mp h;have b1:=rQ h1 h8;have b2:=ym l h2 b1.2.1;rw[TN];lia
theorem zd(names:LNN)(ps:List Pl)(hl:ps.length<=100)(hp:∀p∈ps,JQ p names.length)(d:Nat):∀(l:LNN),(∀mv∈l,mv∈names)->∀(r:Rn),r.2.length+l.length<=1000->r.1.length<=8->d<r.1.length->∀t5 t6:Option R,
  match pA names ps d l r with
  |some r'=>∃u5 u6,d6 (aH 5) bW (l.map D.str) [some (.f,eN names ps),some (.f,.int 8),some (.l .f,.lst (r.1.map eM)),some (.l .f,.lst (r.2.map eA)),some (.f,.int ((d:Nat):Int)),t5,t6]=.ok (.nx [some (.f,eN names ps),some (.f,.int 8),some (.l .f,.lst (r'.1.map eM)),some (.l .f,.lst (r'.2.map eA)),some (.f,.int ((d:Nat):Int)),u5,u6])
  |none=>d6 (aH 5) bW (l.map D.str) [some (.f,eN names ps),some (.f,.int 8),some (.l .f,.lst (r.1.map eM)),some (.l .f,.lst (r.2.map eA)),some (.f,.int ((d:Nat):Int)),t5,t6]=.ok (.rt (.f,.non))
 |[],_,r,_,_,_,t5,t6=>⟨t5,t6,rfl⟩
 |mv::l,hm,r,hA,h8,hd,t5,t6=>by
  have h1:=Eb names ps hl hp r.1 r.2 (by lia) h8 d hd mv (hm mv Ts) t6;have ha:aH 5 (.str mv) [some (.f,eN names ps),some (.f,.int 8),some (.l .f,.lst (r.1.map eM)),some (.l .f,.lst (r.2.map eA)),some (.f,.int ((d:Nat):Int)),t5,t6]=.ok [some (.f,eN names ps),some (.f,.int 8),some (.l .f,.lst (r.1.map eM)),some (.l .f,.lst (r.2.map eA)),some (.f,.int ((d:Nat):Int)),some (.f,.str mv),t6]:=rfl;unfold pA;cases hs:gW names ps d mv r with
  |none=>
   have Ox:gW names ps d mv (r.1,r.2)=none:=hs;rw[Ox]at h1;dsimp only[Option.bind]at h1 ⊢;rw[dZ,cB,ha,IF,h1,IF]
  |some r1=>
   have Ox:gW names ps d mv (r.1,r.2)=some r1:=hs;have b:=rQ hs h8;rw[Ox]at h1;obtain⟨u6,h1⟩:=h1;rw[TN]at hA;have ih:=zd names ps hl hp d l (fun x hx=>hm x (Tx _ hx)) r1 (by lia) b.2.1 (by lia) (some (.f,.str mv)) u6;dsimp only[Option.bind];cases hr:pA names ps d l r1 with
   |none=>
    rw[hr]at ih;dsimp only at ih ⊢;rw[dZ,cB,ha,IF,h1,IF];exact ih
   |some r2=>
    rw[hr]at ih;dsimp only at ih ⊢;obtain⟨v5,v6,ih⟩:=ih;refine⟨v5,v6,?_⟩;rw[dZ,cB,ha,IF,h1,IF];exact ih
theorem Ec(names:LNN)(hn:names.length<=3)(ps:List Pl)(hl:ps.length<=100)(hp:∀p∈ps,JQ p names.length):∀(f F d:Nat) (r:Rn),r.1.length<=8->d<=r.1.length->r.2.length<=3*d->9<=f+d->f<=F->∀t5 t6:Option R,
  match tR names ps f d r with
  |some r'=>r'.2.length<=24/\∃u4 u5 u6,dt (IU (aA Lr (aw 4) (aq (aX fO (ag (aw 2) aG))))) cE F [some (.f,eN names ps),some (.f,.int 8),some (.l .f,.lst (r.1.map eM)),some (.l .f,.lst (r.2.map eA)),some (.f,.int ((d:Nat):Int)),t5,t6]=.ok (.nx [some (.f,eN names ps),some (.f,.int 8),some (.l .f,.lst (r'.1.map eM)),some (.l .f,.lst (r'.2.map eA)),u4,u5,u6])
  |none=>dt (IU (aA Lr (aw 4) (aq (aX fO (ag (aw 2) aG))))) cE F [some (.f,eN names ps),some (.f,.int 8),some (.l .f,.lst (r.1.map eM)),some (.l .f,.lst (r.2.map eA)),some (.f,.int ((d:Nat):Int)),t5,t6]=.ok (.rt (.f,.non))
 | 0,F,d,r,h8,hd,hA,hf,hF,t5,t6=>by lia
 |f+1,0,d,r,h8,hd,hA,hf,hF,t5,t6=>by lia
 |f+1,F+1,d,r,h8,hd,hA,hf,hF,t5,t6=>by
  unfold tR;by_cases IQ:d<r.1.length
  ·rw[TF IQ];have h1:=zd names ps hl hp d names (fun _ h=>h) r (by lia) h8 IQ t5 t6;have hc:(IU (aA Lr (aw 4) (aq (aX fO (ag (aw 2) aG))))) [some (.f,eN names ps),some (.f,.int 8),some (.l .f,.lst (r.1.map eM)),some (.l .f,.lst (r.2.map eA)),some (.f,.int ((d:Nat):Int)),t5,t6]=.ok (true,[some (.f,eN names ps),some (.f,.int 8),some (.l .f,.lst (r.1.map eM)),some (.l .f,.lst (r.2.map eA)),some (.f,.int ((d:Nat):Int)),t5,t6]):=by
    have:(d:Int)<(r.1.length:Int):=by lia
    simp only[pv,seval,op,bL,this,Vn]
   have go:∀q:Res Out,d6 (aH 5) bW (names.map D.str) [some (.f,eN names ps),some (.f,.int 8),some (.l .f,.lst (r.1.map eM)),some (.l .f,.lst (r.2.map eA)),some (.f,.int ((d:Nat):Int)),t5,t6]=q->f6 [some (.f,eN names ps),some (.f,.int 8),some (.l .f,.lst (r.1.map eM)),some (.l .f,.lst (r.2.map eA)),some (.f,.int ((d:Nat):Int)),t5,t6]=q:=fun q h=>by
    unfold f6;unfold eN at h ⊢;simp only[pv,seval,op];exact h
   cases hr:pA names ps d names r with
   |none=>
    rw[hr]at h1;dsimp only[Option.bind]at h1 ⊢;rw[eB,hc,IF];dsimp only;rw[TF rfl];unfold cE;rw[Jh,go _ h1,IF];rfl
   |some r1=>
    rw[hr]at h1;dsimp only[Option.bind]at h1 ⊢;obtain⟨u5,u6,h1⟩:=h1;have b:=ym names hr h8;have e2:cE [some (.f,eN names ps),some (.f,.int 8),some (.l .f,.lst (r.1.map eM)),some (.l .f,.lst (r.2.map eA)),some (.f,.int ((d:Nat):Int)),t5,t6]=.ok (.nx [some (.f,eN names ps),some (.f,.int 8),some (.l .f,.lst (r1.1.map eM)),some (.l .f,.lst (r1.2.map eA)),some (.f,.int ((d+1:Nat):Int)),u5,u6]):=by
     unfold cE;rw[ay (go _ h1)];unfold iT;simp only[pv,seval,op,Xx,V5]
    have ih:=Ec names hn ps hl hp f F (d+1) r1 b.2.1 (by lia) (by lia) (by lia) (by lia) u5 u6;cases hq:tR names ps f (d+1) r1 with
    |none=>
     rw[hq]at ih;dsimp only at ih ⊢;rw[eB,hc,IF];dsimp only;rw[TF rfl,e2,IF];exact ih
    |some r2=>
     rw[hq]at ih;dsimp only at ih ⊢;obtain⟨hb,v4,v5,v6,ih⟩:=ih;refine⟨hb,v4,v5,v6,?_⟩;rw[eB,hc,IF];dsimp only;rw[TF rfl,e2,IF];exact ih
  ·rw[TJ IQ];dsimp only;refine⟨by lia,some (.f,.int ((d:Nat):Int)),t5,t6,?_⟩;have hc:(IU (aA Lr (aw 4) (aq (aX fO (ag (aw 2) aG))))) [some (.f,eN names ps),some (.f,.int 8),some (.l .f,.lst (r.1.map eM)),some (.l .f,.lst (r.2.map eA)),some (.f,.int ((d:Nat):Int)),t5,t6]=.ok (false,[some (.f,eN names ps),some (.f,.int 8),some (.l .f,.lst (r.1.map eM)),some (.l .f,.lst (r.2.map eA)),some (.f,.int ((d:Nat):Int)),t5,t6]):=by
    have:¬ (d:Int)<(r.1.length:Int):=by lia
    simp only[pv,seval,op,bL,this,U8]
   rw[eB,hc,IF];rfl
abbrev b8(names:LNN)(ps:List Pl):Option Rn:=tR names ps 9 0 ([ps.map (·.1)],[])
theorem wo(names:LNN)(hn:names.length<=3)(ps:List Pl)(hl:ps.length<=100)(hp:∀p∈ps,JQ p names.length):
  ba [eN names ps,.int 8]=.ok (.f,match b8 names ps with
   |some r=>.tup [.lst ((aU bp r.2).map eA),.lst (r.1.map eM)]
   |none=>.non):=by
 unfold ba lO;rw[bD (h:=by rfl)];have hc:dv (ng 3 (bg (aH 0) (bg (aH 1) (bg (aH 2) fT)))) fH (aR 0) (ps.map eP) [none,none,none]=.ok ((ps.map (·.1)).map D.int):=by
  rw[cJ (r:=fun p:Pl=>D.int p.1) (fun env=>∃t u w,env=[t,u,w]) ps ?_ _ ⟨none,none,none,rfl⟩]
  ·rw[TZ];rfl
  ·rintro p _ env ⟨t,u,w,rfl⟩;exact⟨[some (.f,.int p.1),some (.f,.tup (p.2.1.map D.int)),some (.f,.tup (p.2.2.map D.int))],by unfold eP;simp only[pv,↓reduceIte,Nat.reduceAdd,Nat.reduceLT,Nat.reduceLeDiff,Nat.reduceEqDiff],.f,_,rfl,_,_,_,rfl⟩
 have hlen:((ps.map (·.1)).map D.int).length<=sizeLine:=bS (by rw[bL,bL];lia);have QF:=Ik (ps.map (·.1));rw[ay (env':=[some (.f,eN names ps),some (.f,.int 8),some (.l .f,.lst [eM (ps.map (·.1))]),none,none,none,none]) (by
  unfold eN eM;simp only[pv,↓reduceIte,Nat.reduceAdd,Nat.reduceLT,Nat.reduceLeDiff,Nat.reduceEqDiff,op,hc,hlen,QF])]
 rw[ay (env':=[some (.f,eN names ps),some (.f,.int 8),some (.l .f,.lst [eM (ps.map (·.1))]),some (.l .f,.lst []),none,none,none]) (by simp only[pv,↓reduceIte,Nat.reduceAdd,Nat.reduceLT,Nat.reduceLeDiff,Nat.reduceEqDiff,op])];rw[ay (env':=[some (.f,eN names ps),some (.f,.int 8),some (.l .f,.lst [eM (ps.map (·.1))]),some (.l .f,.lst []),some (.f,.int 0),none,none]) (by simp only[pv,↓reduceIte,Nat.reduceAdd,Nat.reduceLT,Nat.reduceLeDiff,Nat.reduceEqDiff,op])];have w:=Ec names hn ps hl hp 9 100000 0 ([ps.map (·.1)],[]) (by show 1<=8;decide) (Ug _) (TB _) (by decide) (by decide) none none;unfold b8;cases hr:tR names ps 9 0 ([ps.map (·.1)],[]) with
 |some r=>
  rw[hr]at w;obtain⟨hA,u4,u5,u6,w⟩:=w;rw[ay (env':=_) (by
   unfold d9;exact w)]
  unfold iU;simp only[pv,↓reduceIte,Nat.reduceAdd,Nat.reduceLT,Nat.reduceLeDiff,Nat.reduceEqDiff,op,Bw r.2 (by lia)]
 |none=>
  rw[hr]at w;have w2:d9 [some (.f,eN names ps),some (.f,.int 8),some (.l .f,.lst [eM (ps.map (·.1))]),some (.l .f,.lst []),some (.f,.int 0),none,none]=.ok (.rt (.f,.non)):=by
   unfold d9;exact w
  rw[Jh,w2];simp only[pv,↓reduceIte,Nat.reduceAdd,Nat.reduceLT,Nat.reduceLeDiff,Nat.reduceEqDiff]
def Kr{α:Type}(k:Nat)(x:α)(l:List α):List α:=l.take k++x::l.drop k
theorem qo{α:Type}(k:Nat)(x:α)(l:List α):(Kr k x l).length=l.length+1:=by
 unfold Kr;rw[mQ,TN,Ud,UK];lia
theorem wq{α β:Type}(f:α->β)(k:Nat)(x:α)(l:List α):(Kr k x l).map f=Kr k (f x) (l.map f):=by
 unfold Kr;rw[TV,dZ,Ww,X8]
theorem BI{α β:Type}(k:Nat)(x:α)(y:β)(l:List α)(m:List β)(h:l.length=m.length):(Kr k x l).zip (Kr k y m)=Kr k (x,y) (l.zip m):=by
 unfold Kr;rw[List.zip_append (by rw[Ud,Ud,h]),UI];simp only[List.zip_eq_zipWith,List.take_zipWith,List.drop_zipWith]
theorem BJ{α:Type}(k:Nat){x y:α}{l m:List α}(hl:l.length=m.length)(h:Kr k x l=Kr k y m):l=m:=by
 unfold Kr at h;obtain⟨h1,h2⟩:=List.append_inj h (by rw[Ud,Ud,hl]);have h3:=(Vj h2).2;rw[<-Wl k l,<-Wl k m,h1,h3]
theorem BK(j k:Nat)(z:Int×Pl)(zs:List (Int×Pl)):wY j (Kr k z zs)=(wY j zs&&decide (I0 j z.2<=z.1)):=by
 unfold wY Kr;rw[List.all_append,Vz];conv=>rhs;rw[<-Wl k zs,List.all_append]
 cases(List.take k zs).all fun z=>decide (I0 j z.2<=z.1) <;> cases(List.drop k zs).all fun z=>decide (I0 j z.2<=z.1) <;> cases decide (I0 j z.2<=z.1) <;> rfl
structure Im(names:LNN)(ps:List Pl)(q:Pl)(K4:List Int->Int):Prop where
 z:K4 (ps.map (·.1))=q.1
 mv:∀(j:Nat) (m m':List Int),j<names.length->m.length=ps.length->bz j (m.zip ps)=some m'->I0 j q<=K4 m/\K4 m'=K4 m-I0 j q+Kk j q
theorem yn{names:LNN}{ps:List Pl}{q:Pl}{K4:List Int->Int}(im:Im names ps q K4)(k j:Nat)(hj:j<names.length)(m:List Int)(hm:m.length=ps.length):
  bz j ((Kr k (K4 m) m).zip (Kr k q ps))=(bz j (m.zip ps)).map fun m'=>Kr k (K4 m') m':=by
 rw[BI k _ _ m ps hm,gQ,BK];cases hc:wY j (m.zip ps) with
 |false=>
  have hf:bz j (m.zip ps)=none:=by rw[gQ,hc];rfl
  rw[hf];rfl
 |true=>
  have hf:bz j (m.zip ps)=some ((m.zip ps).map fun z=>z.1-I0 j z.2+Kk j z.2):=by rw[gQ,hc];rfl
  obtain⟨h1,h2⟩:=im.mv j m _ hj hm hf;rw[hf,Option.map_some,h2,T9 h1,wq];rfl
theorem ze{S:List (List Int)}{t:List Int}(h:t∈S):S[pos S t]?=some t:=by
 have h3:(S.findIdx fun x=>decide (x=t))<S.length:=List.findIdx_lt_length_of_exists ⟨t,h,T9 rfl⟩;have h4:=XG (p:=fun x=>decide (x=t)) (xs:=S) (w:=h3);unfold pos;rw[iy h3];congr 1
 simpa using h4
def Zr(names:LNN)(ps:List Pl):Prop:=∃S A m,Rm names ps S A m/\S.length=8
section
variable{names:LNN}{ps:List Pl}
theorem BL{d j:Nat}{mv:List Nat}{r:Rn}(rm:Rm names ps r.1 r.2 (d+1))(hd:d<r.1.length)(hj:names[j]?=some mv)(fu:Fu names ps r.1 r.2 d j):
  match gW names ps d mv r with
  |some r'=>Rm names ps r'.1 r'.2 (d+1)/\Fu names ps r'.1 r'.2 d (j+1)
  |none=>Zr names ps:=by
 have hn:=T6 hj;have NW:r.1[d]?=some r.1[d]:=iy hd;have QL:r.1.getD d []=r.1[d]:=by rw[List.getD_eq_getElem?_getD,NW];rfl
 unfold gW;rw[QL];cases hf:bz (names.idxOf mv) (r.1[d].zip ps) with
 |none=>exact⟨rm,fu.next NW (fun _ _ h=>h) (fun _ h=>h) hj fun t h=>by rw[hf]at h;cases h⟩
 |some t=>
  dsimp only;by_cases hm:t∈r.1
  ·rw[TF hm];exact⟨rm.old hn NW (ze hm) hf,fu.next NW (fun _ _ h=>h) (fun _ h=>TC _ h) hj fun t' h=>by rw[hf]at h;cases h;exact⟨_,ze hm,Tv _ (TY.mpr rfl)⟩⟩
  ·rw[TJ hm];by_cases h9:r.1.length=8
   ·rw[TF h9];exact⟨_,_,_,rm,h9⟩
   ·rw[TJ h9];have:=rm.le;exact⟨rm.new hn NW hm hf (by lia),fu.next NW (fun i x h=>by rw[List.getElem?_append_left (mP h).1];exact h) (fun _ h=>TC _ h) hj fun t' h=>by rw[hf]at h;cases h;exact⟨r.1.length,by rw[List.getElem?_append_right (TB _),Xw];rfl,Tv _ (TY.mpr rfl)⟩⟩
theorem zf{d:Nat}:∀(l:LNN) (j:Nat) (r:Rn),names.drop j=l->Rm names ps r.1 r.2 (d+1)->d<r.1.length->Fu names ps r.1 r.2 d j->
  match pA names ps d l r with
  |some r'=>Rm names ps r'.1 r'.2 (d+1)/\Fu names ps r'.1 r'.2 d (j+l.length)
  |none=>Zr names ps
 |[],j,r,_,rm,_,fu=>⟨rm,fu⟩
 |mv::l,j,r,hl,rm,hd,fu=>by
  have hj:names[j]?=some mv:=by
   have:(names.drop j)[0]?=some mv:=by rw[hl];rfl
   rw[List.getElem?_drop]at this;exact this
  have S8:names.drop (j+1)=l:=by
   rw[<-List.tail_drop,hl];rfl
  have h1:=BL rm hd hj fu;unfold pA;cases hs:gW names ps d mv r with
  |none=>
   rw[hs]at h1;exact h1
  |some r1=>
   rw[hs]at h1;have b:=rQ hs rm.le;have ih:=zf l (j+1) r1 S8 h1.1 (by lia) h1.2;rw[TN,show j+(l.length+1)=j+1+l.length by lia];exact ih
theorem zg(hn:names.length<=3):∀(f d:Nat) (r:Rn),Rm names ps r.1 r.2 d->d<=r.1.length->r.2.length<=3*d->Fu names ps r.1 r.2 d 0->9<=f+d->
  match tR names ps f d r with
  |some r'=>(∃m,Rm names ps r'.1 r'.2 m)/\Fu names ps r'.1 r'.2 r'.1.length 0/\r'.2.length<=24
  |none=>Zr names ps
 | 0,d,r,rm,hd,_,_,hf=>by
  have:=rm.le;lia
 |f+1,d,r,rm,hd,hA,fu,hf=>by
  have h8:=rm.le;unfold tR;by_cases IQ:d<r.1.length
  ·rw[TF IQ];have h1:=zf names 0 r rfl (rm.more (Vl d)) IQ fu;cases hs:pA names ps d names r with
   |none=>
    rw[hs]at h1;exact h1
   |some r1=>
    rw[hs,Yx]at h1;have b:=ym names hs h8;exact zg hn f (d+1) r1 h1.1 (by lia) (by lia) h1.2.row (by lia)
  ·rw[TJ IQ];have:d=r.1.length:=by lia
   exact⟨⟨d,rm⟩,this▸fu,by lia⟩
theorem rm0:Rm names ps [ps.map (·.1)] [] 0:=⟨Ui.mpr ⟨UM,Vm⟩,rfl,fun x hx=>by rw[lg hx,bL],by simp,(fun _ h=>nomatch h),fun j j1 j2=>by rw[Um]at j2;lia⟩
theorem iZ(hn:names.length<=3):
  match b8 names ps with
  |some r'=>(∃m,Rm names ps r'.1 r'.2 m)/\Fu names ps r'.1 r'.2 r'.1.length 0/\r'.2.length<=24
  |none=>Zr names ps:=zg hn 9 0 ([ps.map (·.1)],[]) rm0 (Ug _) (TB _) (fun i k h=>by lia) (by decide)
theorem rR{d:Nat}{mv:List Nat}{r r':Rn}(h:gW names ps d mv r=some r'):∀m∈r.1,m∈r'.1:=by
 unfold gW at h;split at h
 ·cases h;exact fun _ h=>h
 ·split at h
  ·cases h;exact fun _ h=>h
  ·split at h
   ·cases h
   ·cases h;exact fun _ h=>TC _ h
theorem qp{d:Nat}:∀(l:LNN) {r r':Rn},pA names ps d l r=some r'->∀m∈r.1,m∈r'.1
 |[],r,r',h=>by cases h;exact fun _ h=>h
 |mv::l,r,r',h=>by
  unfold pA at h;obtain⟨r1,h1,h2⟩:=Uj.mp h;exact fun m hm=>qp l h2 m (rR h1 m hm)
theorem wt:∀(f d:Nat) {r r':Rn},tR names ps f d r=some r'->∀m∈r.1,m∈r'.1
 | 0,d,r,r',h=>by cases h;exact fun _ h=>h
 |f+1,d,r,r',h=>by
  unfold tR at h;split at h
  ·obtain⟨r1,h1,h2⟩:=Uj.mp h;exact fun m hm=>wt f (d+1) h2 m (qp names h1 m hm)
  ·cases h;exact fun _ h=>h
end
section
variable{names:LNN}{ps JF:List Pl}{h:List Int->List Int}{Sf:List (List Int)}
theorem Ed(inj:∀m∈Sf,∀m'∈Sf,h m=h m'->m=m'){t:List Int}(ht:t∈Sf):∀{S:List (List Int)},(∀m∈S,m∈Sf)->pos (S.map h) (h t)=pos S t
 |[],_=>rfl
 |m::S,hS=>by
  have ih:=Ed inj ht (S:=S) fun x hx=>hS x (Tx _ hx)
  unfold pos at ih ⊢;rw[dZ,WW,WW,ih];have:decide (h m=h t)=decide (m=t):=by
   rw[decide_eq_decide];exact⟨fun e=>inj m (hS m Ts) t ht e,fun e=>by rw[e]⟩
  rw[this]
structure Sim(names:LNN)(ps JF:List Pl)(h:List Int->List Int)(Sf:List (List Int)):Prop where
 z:h (ps.map (·.1))=JF.map (·.1)
 fi:∀m∈Sf,∀mv∈names,bz (names.idxOf mv) ((h m).zip JF)=(bz (names.idxOf mv) (m.zip ps)).map h
 inj:∀m∈Sf,∀m'∈Sf,h m=h m'->m=m'
def hR(h:List Int->List Int)(r:Rn):Rn:=(r.1.map h,r.2)
theorem yo(s:Sim names ps JF h Sf){d:Nat}{mv:List Nat}(Ls:mv∈names){r r':Rn}(hd:d<r.1.length)(hs:gW names ps d mv r=some r')(sub:∀m∈r'.1,m∈Sf):gW names JF d mv (hR h r)=some (hR h r'):=by
 have QL:r.1.getD d []=r.1[d]:=by rw[List.getD_eq_getElem?_getD,iy hd];rfl
 have hgu:(hR h r).1.getD d []=h r.1[d]:=by
  unfold hR;rw[List.getD_eq_getElem?_getD,List.getElem?_map,iy hd];rfl
 have NY:∀m∈r.1,m∈Sf:=fun m hm=>sub m (rR hs m hm)
 unfold gW at hs ⊢;rw[QL]at hs;rw[hgu,s.fi _ (NY _ (VB hd)) mv Ls];cases hf:bz (names.idxOf mv) (r.1[d].zip ps) with
 |none=>
  rw[hf]at hs;cases hs;rfl
 |some t=>
  rw[hf]at hs;have e3:(hR h r).1.length=r.1.length:=bL _;dsimp only[Option.map]at hs ⊢;rw[e3];by_cases hm:t∈r.1
  ·rw[TF hm]at hs;cases hs;rw[TF (show h t∈(hR h r).1 from UH.mpr ⟨t,hm,rfl⟩),show pos (hR h r).1 (h t)=pos r.1 t from Ed s.inj (NY t hm) NY];rfl
  ·rw[TJ hm]at hs;by_cases h8:r.1.length=8
   ·rw[TF h8]at hs;cases hs
   ·rw[TJ h8]at hs;cases hs;have ht:t∈Sf:=sub t (Tv _ (TY.mpr rfl));rw[TJ (fun q=>by
     obtain⟨m,M6,e⟩:=rK q;exact hm (s.inj m (NY m M6) t ht e▸M6)),TJ h8]
    unfold hR;dsimp only;rw[TV];rfl
theorem wu(s:Sim names ps JF h Sf){d:Nat}:∀(l:LNN),(∀mv∈l,mv∈names)->∀{r r':Rn},r.1.length<=8->d<r.1.length->pA names ps d l r=some r'->(∀m∈r'.1,m∈Sf)->pA names JF d l (hR h r)=some (hR h r')
 |[],_,r,r',_,_,e,_=>by cases e;rfl
 |mv::l,hl,r,r',h8,hd,e,sub=>by
  unfold pA at e ⊢;obtain⟨r1,h1,h2⟩:=Uj.mp e;have b:=rQ h1 h8;rw[yo s (hl mv Ts) hd h1 fun m hm=>sub m (qp l h2 m hm)];exact wu s l (fun x hx=>hl x (Tx _ hx)) b.2.1 (by lia) h2 sub
theorem wx(s:Sim names ps JF h Sf):∀(f d:Nat) {r r':Rn},r.1.length<=8->tR names ps f d r=some r'->(∀m∈r'.1,m∈Sf)->tR names JF f d (hR h r)=some (hR h r')
 | 0,d,r,r',_,e,_=>by cases e;rfl
 |f+1,d,r,r',h8,e,sub=>by
  have e3:(hR h r).1.length=r.1.length:=bL _;unfold tR at e ⊢;rw[e3];by_cases hd:d<r.1.length
  ·rw[TF hd]at e ⊢;obtain⟨r1,h1,h2⟩:=Uj.mp e;rw[wu s names (fun _ h=>h) h8 hd h1 fun m hm=>sub m (wt f (d+1) h2 m hm)];exact wx s f (d+1) (ym names h1 h8).2.1 h2 sub
  ·rw[TJ hd]at e ⊢;cases e;rfl
theorem lT{r:Rn}(e:b8 names ps=some r)(s:Sim names ps JF h r.1):b8 names JF=some (hR h r):=by
 have:=wx s 9 0 (r:=([ps.map (·.1)],[])) (by show 1<=8;decide) e fun _ h=>h
 unfold b8;rw[<-this];unfold hR;rw[dZ,Ut,s.z]
end
theorem flat_P(p:Pl):flatD (eP p)=true:=by
 unfold eP;rw[cI];simp only[flatDs,cI,Ik,jX];rfl
theorem BM(ps:List Pl):flatDs (ps.map eP)=true:=by
 rw[cU,U7,T8];exact fun p _=>flat_P p
theorem qq{α:Type}[DecidableEq α]:∀(l m:List α),l.Nodup->(∀x∈l,x∈m)->l.length<=m.length
 |[],m,_,_=>Ug _
 |a::l,m,nd,h=>by
  rw[Ui]at nd;have ha:=h a Ts;have:=qq l (m.erase a) nd.2 fun x hx=>(List.mem_erase_of_ne (fun e=>nd.1 (by rw[<-e];exact hx))).mpr (h x (Tx _ hx))
  rw[WV ha]at this;have:=Wa ha;rw[TN];lia
def ni(names:LNN)(b:Int):Pl:=(b,names.map fun _=>1,names.map fun _=>0)
theorem rS(names:LNN)(c:Int){k:Nat}(h:k<names.length):(names.map fun _=>c).getD k 0=c:=by
 rw[List.getD_eq_getElem?_getD,List.getElem?_map,iy h];rfl
theorem wy{names:LNN}{ps:List Pl}{b:Int}{k:Nat}(hk:k<names.length){s t:List Int}(hs:s.length=(ps++[ni names b]).length)(hf:bz k (s.zip (ps++[ni names b]))=some t):1<=s.getD ps.length 0/\t.getD ps.length 0=s.getD ps.length 0-1:=by
 rw[mQ,Um]at hs;have IQ:ps.length<s.length:=by lia
 have e:(s.zip (ps++[ni names b]))[ps.length]?=some (s[ps.length],ni names b):=by
  rw[List.getElem?_zip_eq_some];exact⟨iy IQ,by rw[List.getElem?_append_right (TB _),Xw];rfl⟩
 obtain⟨h1,h2⟩:=jY k hf e;have e1:(ni names b).2.1.getD k 0=1:=rS names 1 hk;have e2:(ni names b).2.2.getD k 0=0:=rS names 0 hk;dsimp only at h1 h2;rw[e1]at h1;rw[e1,e2]at h2;have e3:s.getD ps.length 0=s[ps.length]:=by rw[List.getD_eq_getElem?_getD,iy IQ];rfl
 rw[e3,List.getD_eq_getElem?_getD,h2];exact⟨by lia,by show _=_;simp⟩
theorem yp{names:LNN}{ps:List Pl}{S:List (List Int)}{A:List IC}{m:Nat}(r:Rm names (ps++[ni names 1]) S A m):S.length<=1+names.length:=by
 have hz:=r.z;cases hS:S with
 |nil=>exact Ug _
 |cons s0 tl=>
  rw[hS,List.getElem?_cons_zero,Wf]at hz;have h0:s0.getD ps.length 0=1:=by
   rw[hz,List.getD_eq_getElem?_getD,List.getElem?_map,List.getElem?_append_right (TB _),Xw];rfl
  have key:∀j:Nat,1<=j->∀s,S[j]?=some s->s.getD ps.length 0=0/\∃mv∈names,bz (names.idxOf mv) (s0.zip (ps++[ni names 1]))=some s:=by
   intro j;induction j using Nat.strongRecOn with
   |_ j ih=>
    intro hj s hs;obtain⟨a,ha,e1,b,hb,e2⟩:=r.rc j hj (mP hs).1;obtain⟨hn,i',j',_,e3,e4,x,y,hx,hy,hf⟩:=r.ab a ha;have:i'=b:=by lia
    subst this;have:j'=j:=by lia
    subst this;rw[hs]at hy;cases hy;have hd:=wy (Uk hn) (r.ln x (T6 hx)) hf;cases i' with
    |zero=>
     rw[hS,List.getElem?_cons_zero,Wf]at hx;subst hx;exact⟨by lia,_,hn,hf⟩
    |succ i'=>
     have:=(ih (i'+1) hb (by lia) x hx).1;lia
  have nd:=r.nd;rw[hS]at nd;have:=qq tl (names.filterMap fun mv=>bz (names.idxOf mv) (s0.zip (ps++[ni names 1]))) (Ui.mp nd).2 fun s hs=>by
   obtain⟨i,hi⟩:=Uv.mp hs;obtain⟨_,mv,Ls,hf⟩:=key (i+1) (by lia) s (by rw[hS,List.getElem?_cons_succ];exact hi);exact WJ.mpr ⟨mv,Ls,hf⟩
  have h2:=List.length_filterMap_le (fun mv=>bz (names.idxOf mv) (s0.zip (ps++[ni names 1]))) names;rw[TN];lia
theorem o9(names:LNN)(c:Int):dv (aH 0) fH (aF (.int c)) (names.map D.str) [none]=.ok ((names.map fun _=>c).map D.int):=by
 rw[cJ (r:=fun _:List Nat=>D.int c) (fun env=>∃t,env=[t]) names ?_ _ ⟨none,rfl⟩]
 ·rw[TZ];rfl
 ·rintro n _ env ⟨t,rfl⟩;exact⟨[some (.f,.str n)],rfl,.f,_,rfl,_,rfl⟩
theorem HU(ps:List Pl)(hl:ps.length<=100)(d:D):cW (.lst (ps.map eP)) (.lst [d])=.ok (.l .f,.lst (ps.map eP++[d])):=by
 rw[vY,TF (line_le (by rw[bL,Um];lia))]
structure Nt(names:LNN)(ps:List Pl)(r:Rn):Prop where
 n0:names≠[]
 n3:names.length<=3
 nn:names.Nodup
 p0:ps≠[]
 p9:ps.length<=12
 po:∀p∈ps,JQ p names.length
 e:b8 names ps=some r
theorem rT(names:LNN)(hn:names.length<=3)(ps:List Pl)(hl:ps.length<=100)(hp:∀p∈ps,JQ p names.length):
  (∃r,b8 names ps=some r/\ba [eN names ps,.int 8]=.ok (.f,.tup [.lst ((aU bp r.2).map eA),.lst (r.1.map eM)]))\/(b8 names ps=none/\ba [eN names ps,.int 8]=.ok (.f,.non)/\Zr names ps):=by
 have h:=wo names hn ps hl hp;have z:=iZ (ps:=ps) hn;cases e:b8 names ps with
 |some r=>
  rw[e]at h;exact .inl ⟨r,rfl,h⟩
 |none=>
  rw[e]at h z;exact .inr ⟨rfl,h,z⟩
theorem Gi(ns:List Int)(first:Nat):∃names ps r,Nt names ps r/\ps.length<=9/\dk [.lst (ns.map D.int),.int (first:Int)]=.ok (.f,eN names ps):=by
 obtain⟨names,n0,n3,nn,nw,en⟩:=BD ns;obtain⟨ps,Si,hp0,hp8,ep⟩:=yi ns first names.length (by lia)
 have Rq:=BM ps;have Mr:flatD (.tup (names.map D.str))=true:=by rw[cI,PV.flat_strs]
 have PB:flatD .non=true:=rfl;have Of:∀(x y:List D),flatDs [.lst x,.lst y]=false:=fun _ _=>rfl
 unfold dk lP;rw[bD (h:=by rfl)];rw[ay (env':=[some (.f,.lst (ns.map D.int)),some (.f,.int (first:Int)),some (.f,.tup (names.map D.str)),none,none,none,none]) (by simp only[pv,seval,op,en,Mr])];rw[ay (env':=[some (.f,.lst (ns.map D.int)),some (.f,.int (first:Int)),some (.f,.tup (names.map D.str)),some (.f,.int (names.length:Int)),none,none,none]) (by simp only[pv,seval,op,bL])];rw[ay (env':=[some (.f,.lst (ns.map D.int)),some (.f,.int (first:Int)),some (.f,.tup (names.map D.str)),some (.f,.int (names.length:Int)),some (.l .f,.lst (ps.map eP)),none,none]) (by simp only[pv,seval,op,ep,Rq])];rcases rT names n3 ps (by lia) Si with⟨r,e,er⟩|⟨_,er,_⟩
 ·refine⟨names,ps,r,⟨n0,n3,nn,hp0,by lia,Si,e⟩,by lia,?_⟩;unfold eN at er ⊢;simp only[pv,seval,op,er,Of,eI,o_isnT,yc,Bu]
 ·unfold eN at er;rw[ay (env':=[some (.f,.lst (ns.map D.int)),some (.f,.int (first:Int)),some (.f,.tup (names.map D.str)),some (.f,.int (names.length:Int)),some (.f,.lst (ps.map eP)),none,none]) (by simp only[pv,seval,op,er,PB,kY,eI])];have c1:=o9 names 1;have c0:=o9 names 0;have l1:((names.map fun _=>(1:Int)).map D.int).length<=sizeLine:=bS (by rw[bL,bL];lia);have l0:((names.map fun _=>(0:Int)).map D.int).length<=sizeLine:=bS (by rw[bL,bL];lia);have f1:=Ik (names.map fun _=>(1:Int));have f0:=Ik (names.map fun _=>(0:Int));rw[ay (env':=[some (.f,.lst (ns.map D.int)),some (.f,.int (first:Int)),some (.f,.tup (names.map D.str)),some (.f,.int (names.length:Int)),some (.f,.lst (ps.map eP)),some (.f,.tup ((names.map fun _=>(1:Int)).map D.int)),none]) (by simp only[pv,seval,op,c1,l1,f1])];rw[ay (env':=[some (.f,.lst (ns.map D.int)),some (.f,.int (first:Int)),some (.f,.tup (names.map D.str)),some (.f,.int (names.length:Int)),some (.f,.lst (ps.map eP)),some (.f,.tup ((names.map fun _=>(1:Int)).map D.int)),some (.f,.tup ((names.map fun _=>(0:Int)).map D.int))]) (by simp only[pv,seval,op,c0,l0,f0])];have Og:∀b:Int,(ps++[ni names b]).map eP=ps.map eP++[.tup [.int b,.tup ((names.map fun _=>(1:Int)).map D.int),.tup ((names.map fun _=>(0:Int)).map D.int)]]:=fun b=>by
   rw[TV];rfl
  have NZ:∀b:Int,∀p∈ps++[ni names b],JQ p names.length:=fun b p hp=>by
   rcases tM hp with hp|hp
   ·exact Si p hp
   ·rw[lg hp];exact⟨bL _,bL _⟩
  have KW:∀b:Int,(ps++[ni names b]).length<=9:=fun b=>by
   rw[mQ,Um];lia
  have QM:∀b:Int,ps++[ni names b]≠[]:=fun b h=>by simp at h
  have Sj:=fun d=>HU ps (by lia) d
  have lo:((ps.map eP).length)<=100:=by rw[bL];lia
  rcases rT names n3 (ps++[ni names 2]) (by have:=KW 2;lia) (NZ 2) with⟨r,e,er2⟩|⟨_,er2,_⟩
  ·refine⟨names,ps++[ni names 2],r,⟨n0,n3,nn,QM 2,by have:=KW 2;lia,NZ 2,e⟩,KW 2,?_⟩;unfold eN at er2 ⊢;rw[Og]at er2 ⊢;simp only[pv,seval,op,Sj,er2,Of,eI,o_isnT,yc,Bu]
  ·rcases rT names n3 (ps++[ni names 1]) (by have:=KW 1;lia) (NZ 1) with⟨r,e,er3⟩|⟨_,_,S,A,m,r,h8⟩
   ·refine⟨names,ps++[ni names 1],r,⟨n0,n3,nn,QM 1,by have:=KW 1;lia,NZ 1,e⟩,KW 1,?_⟩;unfold eN at er2 ⊢;rw[Og]at er2 ⊢;rw[ay (env':=[some (.f,.lst (ns.map D.int)),some (.f,.int (first:Int)),some (.f,.tup (names.map D.str)),some (.f,.int (names.length:Int)),some (.f,.lst (ps.map eP)),some (.f,.tup ((names.map fun _=>(1:Int)).map D.int)),some (.f,.tup ((names.map fun _=>(0:Int)).map D.int))]) (by simp only[pv,seval,op,Sj,er2,PB,kY,eI])];simp only[pv,seval,op,Sj]
   ·have:=yp r;lia
theorem zh{names:LNN}{ps:List Pl}{r:Rn}(hn:names.length<=3)(e:b8 names ps=some r):Ra names r.2 r.1.length:=by
 have h:=iZ (ps:=ps) hn;rw[e]at h;obtain⟨⟨m,rm⟩,_,Ld⟩:=h;have h8:=rm.le;have h0:=(mP rm.z).1;refine⟨by lia,by lia,fun a ha=>?_,fun a ha=>(rm.ab a ha).1,rm.rc⟩;obtain⟨_,i,j,_,e1,e2,s,t,hs,ht,_⟩:=rm.ab a ha;have h1:=(mP hs).1;have h2:=(mP ht).1;lia
abbrev Gt:=Int×List Int×LNN
def wD(w:LNN):D:=.tup (w.map D.str)
def vG(n:Gt):D:=.tup [eM n.2.1,wD n.2.2]
def dG(N:List Gt):D:=.dct false (N.map fun n=>D.int n.1) (N.map vG)
theorem BN:∀(N:List Gt) (s:Int),getD (N.map fun n=>D.int n.1) (N.map vG) (.int s)=(N.find? fun n=>n.1==s).map vG
 |[],s=>rfl
 |z::L,s=>by
  have ih:=BN L s;unfold getD at ih ⊢;rw[dZ,dZ,UI];by_cases e:z.1=s
  ·rw[List.find?_cons_of_pos (by show Ig (.int s) (.int z.1)=true;rw[Ig,Us];exact e.symm),List.find?_cons_of_pos (by simpa using e)];rfl
  ·rw[List.find?_cons_of_neg (by show ¬ Ig (.int s) (.int z.1)=true;rw[Ig,Us];exact fun q=>e q.symm),List.find?_cons_of_neg (by simpa using e)];exact ih
theorem rV:∀{N:List Gt},(N.map (·.1)).Nodup->∀{n:Gt},n∈N->(N.find? fun z=>z.1==n.1)=some n
 |z::N,nd,n,h=>by
  rw[dZ,Ui]at nd;rcases TK.mp h with e|h
  ·subst e;rw[List.find?_cons_of_pos (by simp)]
  ·rw[List.find?_cons_of_neg (by
    simp only[Us];intro e;exact nd.1 (e▸UH.mpr ⟨n,h,rfl⟩))]
   exact rV nd.2 h
theorem EU{N:List Gt}{s:Int}{n:Gt}(h:(N.find? fun z=>z.1==s)=some n):Md (dG N) (.int s)=.ok (.f,vG n):=by
 unfold Md dG;dsimp only;rw[TF (show eE false (.int s)=true from rfl),BN,h];rfl
theorem Gj(N:List Gt)(s:Int):AS (.int s) (dG N)=.ok (.f,.bl (N.find? fun z=>z.1==s).isNone):=by
 unfold AS dG;dsimp only;rw[TF (show eE false (.int s)=true from rfl),BN];cases(N.find? fun z=>z.1==s) <;> rfl
theorem Gk{N:List Gt}{s:Int}(h:(N.find? fun z=>z.1==s)=none)(m:List Int)(w:LNN):pS (N.map fun n=>D.int n.1) (N.map vG) (.int s) (.tup [eM m,wD w])=((N++[(s,m,w)]).map (fun n=>D.int n.1),(N++[(s,m,w)]).map vG):=by
 rw[List.find?_eq_none]at h;have e:(N.map fun n=>D.int n.1).any (Ig (.int s))=false:=by
  rw[VU,List.any_eq_false];intro x hx;show ¬ Ig (.int s) (.int x.1)=true;rw[Ig,Us];intro q;exact h x hx (by simp[q])
 unfold pS;rw[e,TJ Tz,TV,TV];rfl
theorem gB(w:LNN):flatD (wD w)=true:=by
 unfold wD;rw[cI,PV.flat_strs]
theorem BO(n:Gt):flatD (vG n)=true:=by
 unfold vG;rw[cI];simp only[flatDs,lS,gB,UG]
theorem yq(N:List Gt):flatDs (N.map vG)=true:=rM fun n=>BO n
theorem BP(i:Nat)(f g:FX)(env:PV.Env):sPutP i f g env=Res.bnd (g env) (f:=⟨fun(p:R×PV.Env)=>Res.bnd (f p.2) (f:=⟨fun(q:R×PV.Env)=>match p.2[i]?,q.2[i]? with
 |some (some _),some (some (.pin pp .d,.dct tk ks vs))=>if eE tk q.1.2&&decide (ks.length<sizeLine) then .ok (.nx (q.2.set i (some (.pin pp .d,.dct tk (pS ks vs q.1.2 p.1.2).1 (pS ks vs q.1.2 p.1.2).2)))) else .bad
 |_,_=>.bad⟩)⟩):=id rfl
def zi(w w':LNN):D:=.tup [.str [111,110,101],wD w,wD w']
def GS(w w':LNN):D:=.tup [.str [116,119,111],wD w,wD w']
def tS(s:Int)(m:List Int)(n:Gt):Bool:=!(n.1==s)&&decide (n.2.1=m)
noncomputable def jr(N:List Gt)(s:Int)(m:List Int)(w:LNN):D ⊕ List Gt:=match N.find? (tS s m) with
 |some n=>.inl (zi n.2.2 w)
 |none=>match N.find? (fun n=>n.1==s) with
  |none=>.inr (N++[(s,m,w)])
  |some n=>if n.2.1=m then .inr N else .inl (GS n.2.2 w)
theorem Gm(a b:List Int):JW (eM a) (eM b)=.ok (.f,.bl (decide (a=b))):=by
 unfold JW;rw[gA,gA,wm];rfl
theorem Gn(a b:List Int):Lg (eM a) (eM b)=.ok (.f,.bl (!decide (a=b))):=by
 unfold Lg;rw[gA,gA,wm];rfl
theorem KY(a b:D):Ih (.tup [a,b]) (.int 0)=.ok (.f,a):=rfl
theorem LK(a b:D):Ih (.tup [a,b]) (.int 1)=.ok (.f,b):=rfl
theorem BQ(N:List Gt)(nd:(N.map (·.1)).Nodup)(s:Int)(m:List Int)(w:LNN)(p:Addr)(n:Gt)(hn:n∈N):
  dS [some (.pin p .f,dG N),some (.f,.int s),some (.f,eM m),some (.f,wD w),some (.f,.int n.1)]=if tS s m n then .ok (.rt (.t [.f,.pin p .f],.tup [zi n.2.2 w,dG N])) else .ok (.nx [some (.pin p .f,dG N),some (.f,.int s),some (.f,eM m),some (.f,wD w),some (.f,.int n.1)]):=by
 have hd:=EU (rV nd hn);have he:=Gm n.2.1 m;have f1:=gB n.2.2;unfold vG at hd;unfold dS tS;generalize hG:dG N=GG at hd ⊢;cases h1:(n.1==s) with
 |true=>simp only[pv,seval,op,h1,VI,VL,eI]
 |false=>
  cases h2:decide (n.2.1=m) with
  |false=>simp only[pv,seval,op,h1,h2,hd,KY,he,VO,X9,eI]
  |true=>
   simp only[pv,seval,op,gw,h1,h2,hd,KY,LK,he,VO,X9];rfl
theorem pb(N:List Gt)(nd:(N.map (·.1)).Nodup)(s:Int)(m:List Int)(w:LNN)(p:Addr):∀(L:List Gt),(∀n∈L,n∈N)->∀t4:Option R,
  match L.find? (tS s m) with
  |some n=>d6 (aH 4) dS (L.map fun n=>D.int n.1) [some (.pin p .f,dG N),some (.f,.int s),some (.f,eM m),some (.f,wD w),t4]=.ok (.rt (.t [.f,.pin p .f],.tup [zi n.2.2 w,dG N]))
  |none=>∃t,(t=t4\/∃k:Int,t=some (.f,.int k))/\d6 (aH 4) dS (L.map fun n=>D.int n.1) [some (.pin p .f,dG N),some (.f,.int s),some (.f,eM m),some (.f,wD w),t4]=.ok (.nx [some (.pin p .f,dG N),some (.f,.int s),some (.f,eM m),some (.f,wD w),t])
 |[],_,t4=>⟨t4,.inl rfl,rfl⟩
 |n::L,h,t4=>by
  have hi:=BQ N nd s m w p n (h n Ts);have ha:aH 4 (.int n.1) [some (.pin p .f,dG N),some (.f,.int s),some (.f,eM m),some (.f,wD w),t4]=.ok [some (.pin p .f,dG N),some (.f,.int s),some (.f,eM m),some (.f,wD w),some (.f,.int n.1)]:=rfl;cases hc:tS s m n with
  |true=>
   rw[List.find?_cons_of_pos hc];rw[hc,TF rfl]at hi;show d6 _ _ (D.int n.1::L.map _) _=_;rw[cB,ha,IF,hi,IF]
  |false=>
   rw[List.find?_cons_of_neg (by rw[hc];exact Tz)];rw[hc,TJ Tz]at hi;have ih:=pb N nd s m w p L (fun n hn=>h n (Tx _ hn)) (some (.f,.int n.1));cases hf:L.find? (tS s m) with
   |some n'=>
    rw[hf]at ih;dsimp only at ih ⊢;show d6 _ _ (D.int n.1::L.map _) _=_;rw[cB,ha,IF,hi,IF];exact ih
   |none=>
    rw[hf]at ih;dsimp only at ih ⊢;obtain⟨t,ht,e⟩:=ih;refine⟨t,.inr (ht.elim (fun z=>⟨n.1,z⟩) id),?_⟩;show d6 _ _ (D.int n.1::L.map _) _=_;rw[cB,ha,IF,hi,IF];exact e
def BR(N:List Gt):D ⊕ List Gt->D×D
 | .inl d=>(d,dG N)
 | .inr N'=>(.non,dG N')
theorem Ee(N:List Gt)(nd:(N.map (·.1)).Nodup)(hN:N.length<=100)(s:Int)(m:List Int)(w:LNN)(p:Addr):kG p [dG N,.int s,eM m,wD w]=.ok (.t [.f,.pin p .d],.tup [(BR N (jr N s m w)).1,(BR N (jr N s m w)).2]):=by
 have fm:=lS m;have fw:=gB w;have N1:=pb N nd s m w p N (fun _ h=>h) none;unfold kG y8;rw[x9 (h:=by rfl)];have e0:(dG N)=.dct false (N.map fun n=>D.int n.1) (N.map vG):=rfl;unfold jr;cases hf:N.find? (tS s m) with
 |some n=>
  rw[hf]at N1;dsimp only at N1 ⊢;have e:iS [some (.pin p .d,dG N),some (.f,.int s),some (.f,eM m),some (.f,wD w),none]=.ok (.rt (.t [.f,.pin p .d],.tup [zi n.2.2 w,dG N])):=by
   unfold iS;show(d6 (aH 4) dS (N.map fun n=>D.int n.1) [some (.pin p .f,dG N),some (.f,.int s),some (.f,eM m),some (.f,wD w),none]).bind (tu 0 p (dG N))=_;rw[N1];show(if decide (p=p)&&aQ .f (zi n.2.2 w) then Res.ok (Out.rt (.t [.f,.pin p .d],.tup [zi n.2.2 w,dG N])) else .bad)=_;have fr:aQ .f (zi n.2.2 w)=true:=by
    unfold zi;rw[aQ,cI];simp only[flatDs,gB,flatD,UG]
   rw[fr,T9 rfl];rfl
  simp only[List.map,List.replicate,Vg,VH];rw[Jh,e,IF];rfl
 |none=>
  rw[hf]at N1;dsimp only at N1 ⊢;obtain⟨t,ht,N1⟩:=N1;have e:iS [some (.pin p .d,dG N),some (.f,.int s),some (.f,eM m),some (.f,wD w),none]=.ok (.nx [some (.pin p .d,dG N),some (.f,.int s),some (.f,eM m),some (.f,wD w),t]):=by
   unfold iS;show(d6 (aH 4) dS (N.map fun n=>D.int n.1) [some (.pin p .f,dG N),some (.f,.int s),some (.f,eM m),some (.f,wD w),none]).bind (tu 0 p (dG N))=_;rw[N1];show(if xV 0 p [some (.pin p .f,dG N),some (.f,.int s),some (.f,eM m),some (.f,wD w),t]&&cleanE 0 [some (.pin p .f,dG N),some (.f,.int s),some (.f,eM m),some (.f,wD w),t] then Res.ok (Out.nx [some (.pin p .d,dG N),some (.f,.int s),some (.f,eM m),some (.f,wD w),t]) else .bad)=_;have f1:xV 0 p [some (.pin p .f,dG N),some (.f,.int s),some (.f,eM m),some (.f,wD w),t]=true:=by
    show decide (p=p)=true;exact T9 rfl
   have f2:cleanE 0 [some (.pin p .f,dG N),some (.f,.int s),some (.f,eM m),some (.f,wD w),t]=true:=by
    rcases ht with e|⟨k,e⟩ <;> subst e <;> simp only[cleanE,List.set_cons_zero,Vz,List.all_nil,aQ,fm,fw,flatD,UG]
   rw[f1,f2];rfl
  simp only[List.map,List.replicate,Vg,VH];rw[ay e];have hn:=Gj N s;unfold oO;cases hs:N.find? fun n=>n.1==s with
  |none=>
   rw[hs]at hn;have hp:=Gk hs m w;have hz:(N.map fun n=>D.int n.1).length<sizeLine:=jS (by rw[bL];lia);have e2:sPutP 0 (aR 1) (eW (az (aR 2) (az (aR 3) bC))) [some (.pin p .d,dG N),some (.f,.int s),some (.f,eM m),some (.f,wD w),t]=.ok (.nx [some (.pin p .d,dG (N++[(s,m,w)])),some (.f,.int s),some (.f,eM m),some (.f,wD w),t]):=by
    rw[BP];unfold dG;simp only[pv,seval,op,hp,hz,Vn];rfl
   rw[ay (env':=[some (.pin p .d,dG (N++[(s,m,w)])),some (.f,.int s),some (.f,eM m),some (.f,wD w),t]) (by
    generalize dG (N++[(s,m,w)])=G2 at e2 ⊢;generalize dG N=G1 at e2 hn ⊢;generalize (sPutP 0 (aR 1) (eW (az (aR 2) (az (aR 3) bC))))=TT at e2 ⊢;simp only[pv,seval,op,hn,Ya,e2])]
   show _=Res.ok (O.t [.f,.pin p .d],D.tup [.non,dG (N++[(s,m,w)])]);generalize dG (N++[(s,m,w)])=G2;simp only[pv,seval,op,gw]
  |some n=>
   rw[hs]at hn;have hd:=EU hs;unfold vG at hd;have Km:=Gn n.2.1 m;by_cases hm:n.2.1=m
   ·rw[T9 hm]at Km;dsimp only;rw[TF hm];show _=Res.ok (O.t [.f,.pin p .d],D.tup [.non,dG N]);generalize dG N=G1 at hd hn ⊢;rw[ay (env':=[some (.pin p .d,G1),some (.f,.int s),some (.f,eM m),some (.f,wD w),t]) (by simp only[pv,seval,op,hn,V6,hd,KY,Km,VI,eI])];simp only[pv,seval,op,gw]
   ·rw[T4 hm]at Km;dsimp only;rw[TJ hm];show _=Res.ok (O.t [.f,.pin p .d],D.tup [GS n.2.2 w,dG N]);generalize dG N=G1 at hd hn ⊢;rw[Jh];simp only[pv,seval,op,gw,hn,V6,hd,KY,LK,Km,VO,eI];rfl
def i4(am:List IC)(s:Int)(m:List Nat):List Int:=(am.filter fun a=>a.1==s&&a.2.1==m).map fun a=>a.2.2
theorem wz(names:LNN)(am:List IC)(s:Int)(m:List Nat)(hl:am.length<=16777216):eR [IG names am,.int s,.str m]=.ok (.l .f,.lst ((i4 am s m).map D.int)):=by
 unfold eR oN;rw[bD (h:=by rfl)];simp only[pv,seval,op,IG];rw[x5 (p:=fun a:IC=>a.1==s&&a.2.1==m) (r:=fun a:IC=>D.int a.2.2) (fun env=>∃t1 t2 t3,env=[t1,t2,t3,some (.f,.int s),some (.f,.str m)]) am ?_ _ ⟨_,_,_,rfl⟩]
 ·rw[IF,TF (yd hl),IF];unfold i4;rw[TZ];rfl
 ·rintro a _ env ⟨t1,t2,t3,rfl⟩;refine⟨_,kZ a t1 t2 t3 _,?_⟩;simp only[pv,seval,op];cases h1:a.1==s with
  |true=>
   cases h2:a.2.1==m with
   |true=>exact⟨_,rfl,_,_,rfl,_,_,_,rfl⟩
   |false=>exact⟨_,rfl,_,_,_,rfl⟩
  |false=>exact⟨_,rfl,_,_,_,rfl⟩
def Ef(w:LNN)(mv:List Nat):D:=.tup [.str [115,116,117,99,107],wD w,.str mv]
def Eg(w:LNN)(mv:List Nat):D:=.tup [.str [102,114,101,101],wD w,.str mv]
abbrev So:=Option D×List Gt
def bZ(N:List Gt)(s:Int)(m:List Int)(w:LNN):So:=match jr N s m w with
 | .inl d=>(some d,N)
 | .inr N'=>(none,N')
def bJ(m:List Int)(w:LNN):List Int->List Gt->So
 |[],N=>(none,N)
 |s::ss,N=>match bZ N s m w with
  |(some d,N')=>(some d,N')
  |(none,N')=>bJ m w ss N'
noncomputable def c6(names:LNN)(ps:List Pl)(am:List IC)(n:Gt)(mv:List Nat)(N:List Gt):So:=match bz (names.idxOf mv) (n.2.1.zip ps),i4 am n.1 mv with
 |none,[]=>(none,N)
 |none,_::_=>(some (Ef n.2.2 mv),N)
 |some _,[]=>(some (Eg n.2.2 mv),N)
 |some t,s::ss=>bJ t (n.2.2++[mv]) (s::ss) N
def aT(names:LNN)(ps:List Pl)(am:List IC)(n:Gt):LNN->List Gt->So
 |[],N=>(none,N)
 |mv::r,N=>match c6 names ps am n mv N with
  |(some d,N')=>(some d,N')
  |(none,N')=>aT names ps am n r N'
structure Iv(N:List Gt):Prop where
 nd:(N.map (·.1)).Nodup
 bd:∀n∈N,0<=n.1/\n.1<12
 wl:∀(k:Nat) (n:Gt),N[k]?=some n->n.2.2.length<=k
theorem Iv.le{N:List Gt}(i:Iv N):N.length<=12:=by
 have:=mS 12 i.nd (fun x hx=>by
  obtain⟨n,hn,e⟩:=rK hx;rw[<-e];exact i.bd n hn)
 rwa [bL]at this
structure Gr(N N':List Gt)(o:Option D):Prop where
 iv:Iv N'
 ex:∃more,N'=N++more
 fl:flatD (o.getD .non)=true
theorem Gr.refl{N:List Gt}(i:Iv N):Gr N N none:=⟨i,⟨[],(T7 N).symm⟩,rfl⟩
theorem Gr.trans{N N' N2:List Gt}{o o':Option D}(a:Gr N N' o)(b:Gr N' N2 o'):Gr N N2 o':=by
 obtain⟨m1,e1⟩:=a.ex;obtain⟨m2,e2⟩:=b.ex;exact⟨b.iv,⟨m1++m2,by rw[e2,e1,Ul]⟩,b.fl⟩
theorem Gr.le{N N':List Gt}{o:Option D}(a:Gr N N' o):N.length<=N'.length:=by
 obtain⟨m,e⟩:=a.ex;rw[e,mQ];lia
theorem yr(l:List Nat)(a b:D)(ha:flatD a=true)(hb:flatD b=true):flatD (.tup [.str l,a,b])=true:=by
 rw[cI];simp only[flatDs,ha,hb,flatD,UG]
theorem mV{N:List Gt}(i:Iv N){s:Int}(hs:0<=s/\s<12)(m:List Int){w:LNN}(hw:w.length<=N.length):Gr N (bZ N s m w).2 (bZ N s m w).1:=by
 unfold bZ jr;split
 ·rename_i d hd;refine⟨i,⟨[],(T7 N).symm⟩,?_⟩;split at hd
  ·cases hd;exact yr _ _ _ (gB _) (gB _)
  ·split at hd
   ·cases hd
   ·split at hd
    ·cases hd
    ·cases hd;exact yr _ _ _ (gB _) (gB _)
 ·rename_i N' hd;split at hd
  ·cases hd
  ·split at hd
   ·rename_i hf;cases hd;rw[List.find?_eq_none]at hf;refine⟨⟨?_,fun n hn=>?_,fun k n hk=>?_⟩,⟨_,rfl⟩,rfl⟩
    ·rw[TV];refine Ub.mpr ⟨i.nd,Ui.mpr ⟨UM,Vm⟩,fun x hx y hy e=>?_⟩;obtain⟨n,hn,en⟩:=rK hx;have hy:y=s:=lg hy;exact hf n hn (by rw[Us,en,e,hy])
    ·rcases tM hn with hn|hn
     ·exact i.bd n hn
     ·rw[lg hn];exact hs
    ·rcases tP hk with h|⟨e1,e2⟩
     ·exact i.wl k n h
     ·rw[e2,e1];exact hw
   ·split at hd
    ·cases hd;exact Gr.refl i
    ·cases hd
theorem mW(m:List Int)(w:LNN):∀(ss:List Int) {N:List Gt},Iv N->(∀s∈ss,0<=s/\s<12)->w.length<=N.length->Gr N (bJ m w ss N).2 (bJ m w ss N).1
 |[],N,i,_,_=>Gr.refl i
 |s::ss,N,i,hs,hw=>by
  have g:=mV i (hs s Ts) m hw;unfold bJ;split
  ·rename_i d N' e;rw[e]at g;exact g
  ·rename_i N' e;rw[e]at g;exact g.trans (mW m w ss g.iv (fun x hx=>hs x (Tx _ hx)) (Uc hw g.le))
theorem qr{names:LNN}{ps:List Pl}{am:List IC}(hb:∀a∈am,0<=a.2.2/\a.2.2<12){n:Gt}(mv:List Nat){N:List Gt}(i:Iv N)(hw:n.2.2.length+1<=N.length):Gr N (c6 names ps am n mv N).2 (c6 names ps am n mv N).1:=by
 unfold c6;have hg:∀s∈i4 am n.1 mv,0<=s/\s<12:=fun s hs=>by
  unfold i4 at hs;obtain⟨a,ha,e⟩:=rK hs;rw[<-e];exact hb a (VD.mp ha).1
 split
 ·exact Gr.refl i
 ·exact⟨i,⟨[],(T7 N).symm⟩,yr _ _ _ (gB _) rfl⟩
 ·exact⟨i,⟨[],(T7 N).symm⟩,yr _ _ _ (gB _) rfl⟩
 ·rename_i t s ss _ e;rw[e]at hg;exact mW t _ (s::ss) i hg (by rw[mQ];exact hw)
theorem gR{names:LNN}{ps:List Pl}{am:List IC}(hb:∀a∈am,0<=a.2.2/\a.2.2<12){n:Gt}:∀(l:LNN) {N:List Gt},Iv N->n.2.2.length+1<=N.length->Gr N (aT names ps am n l N).2 (aT names ps am n l N).1
 |[],N,i,_=>Gr.refl i
 |mv::l,N,i,hw=>by
  have g:=qr (names:=names) (ps:=ps) hb mv i hw;unfold aT;split
  ·rename_i d N' e;rw[e]at g;exact g
  ·rename_i N' e;rw[e]at g;exact g.trans (gR hb l g.iv (Uc hw g.le))
theorem BS(N:List Gt)(s:Int)(m:List Int)(w:LNN):BR N (jr N s m w)=((bZ N s m w).1.getD .non,dG (bZ N s m w).2):=by
 unfold bZ;cases jr N s m w <;> rfl
theorem wA(N:List Gt)(i:Iv N)(s:Int)(m:List Int)(w:LNN):jj kG .d (dG N) [.int s,eM m,wD w]=.ok ((.f,(bZ N s m w).1.getD .non),dG (bZ N s m w).2):=rj (r:=(.f,(bZ N s m w).1.getD .non)) fun p=>by
 have:=i.le;have h:=Ee N i.nd (by lia) s m w p;rw[BS]at h;exact h
theorem rW(N:List Gt):aQ .d (dG N)=true:=by
 unfold dG;rw[aQ];exact yq N
theorem zj(ds:List D):isnO (.tup ds) (.non)=.ok (.f,.bl true):=id rfl
theorem lU(N:List Gt)(s:Int)(m:List Int)(w:LNN):(bZ N s m w).1=none\/∃ds,(bZ N s m w).1=some (.tup ds):=by
 unfold bZ jr;split
 ·rename_i d hd;right;split at hd
  ·cases hd;exact⟨_,rfl⟩
  ·split at hd
   ·cases hd
   ·split at hd
    ·cases hd
    ·cases hd;exact⟨_,rfl⟩
 ·exact .inl rfl
theorem Eh(CH NE:D)(p:Addr)(N:List Gt)(i:Iv N)(st:Int)(m0:List Int)(w:LNN)(hw:w.length+1<=N.length)(mv:List Nat)(t:List Int)(s:Int)(hs:0<=s/\s<12)(t8 JD:Option R):
  match(bZ N s t (w++[mv])).1 with
  |some d=>cy [some (.f,CH),some (.f,NE),some (.pin p .d,dG N),some (.f,.int st),some (.f,eM m0),some (.f,wD w),some (.f,.str mv),some (.f,eM t),t8,some (.f,.int s),JD]=.ok (.rt (.t [.f,.pin p .d],.tup [d,dG (bZ N s t (w++[mv])).2]))
  |none=>cy [some (.f,CH),some (.f,NE),some (.pin p .d,dG N),some (.f,.int st),some (.f,eM m0),some (.f,wD w),some (.f,.str mv),some (.f,eM t),t8,some (.f,.int s),JD]=.ok (.nx [some (.f,CH),some (.f,NE),some (.pin p .d,dG (bZ N s t (w++[mv])).2),some (.f,.int st),some (.f,eM m0),some (.f,wD w),some (.f,.str mv),some (.f,eM t),t8,some (.f,.int s),some (.f,.non)]):=by
 have hle:=i.le;have ha:=HQ w mv (by lia);have hc:=wA N i s t (w++[mv]);have gr:=mV i hs t (w:=w++[mv]) (by rw[mQ];exact hw);have cl:=rW (bZ N s t (w++[mv])).2;have fl:=gr.fl;have sh:=lU N s t (w++[mv]);revert hc cl fl sh;generalize (bZ N s t (w++[mv])).1=o;generalize dG (bZ N s t (w++[mv])).2=G2;generalize dG N=G1;intro hc cl fl sh;unfold wD at hc ⊢;have cf:aQ .f (o.getD .non)=true:=by rw[aQ];exact fl
 unfold cy;rw[ay (env':=[some (.f,CH),some (.f,NE),some (.pin p .d,G2),some (.f,.int st),some (.f,eM m0),some (.f,.tup (w.map D.str)),some (.f,.str mv),some (.f,eM t),t8,some (.f,.int s),some (.f,o.getD .non)]) (by
  simp only[pv,seval,op,Bt,ha,hc,cl,cf,UG];rfl)]
 rcases sh with e|⟨ds,e⟩
 ·subst e;simp only[pv,seval,op,kY,Ve,eI]
 ·subst e;simp only[pv,seval,op,gw,zj,VP]
theorem wB(CH NE:D)(p:Addr)(st:Int)(m0:List Int)(w:LNN)(mv:List Nat)(t:List Int)(t8:Option R):∀(ss:List Int) (N:List Gt),Iv N->w.length+1<=N.length->(∀s∈ss,0<=s/\s<12)->∀t9 JD:Option R,
  match(bJ t (w++[mv]) ss N).1 with
  |some d=>d6 (aH 9) cy (ss.map D.int) [some (.f,CH),some (.f,NE),some (.pin p .d,dG N),some (.f,.int st),some (.f,eM m0),some (.f,wD w),some (.f,.str mv),some (.f,eM t),t8,t9,JD]=.ok (.rt (.t [.f,.pin p .d],.tup [d,dG (bJ t (w++[mv]) ss N).2]))
  |none=>∃u9 LY,d6 (aH 9) cy (ss.map D.int) [some (.f,CH),some (.f,NE),some (.pin p .d,dG N),some (.f,.int st),some (.f,eM m0),some (.f,wD w),some (.f,.str mv),some (.f,eM t),t8,t9,JD]=.ok (.nx [some (.f,CH),some (.f,NE),some (.pin p .d,dG (bJ t (w++[mv]) ss N).2),some (.f,.int st),some (.f,eM m0),some (.f,wD w),some (.f,.str mv),some (.f,eM t),t8,u9,LY])
 |[],N,_,_,_,t9,JD=>⟨t9,JD,rfl⟩
 |s::ss,N,i,hw,hs,t9,JD=>by
  have h1:=Eh CH NE p N i st m0 w hw mv t s (hs s Ts) t8 JD;have gr:=mV i (hs s Ts) t (w:=w++[mv]) (by rw[mQ];exact hw);have ha:aH 9 (.int s) [some (.f,CH),some (.f,NE),some (.pin p .d,dG N),some (.f,.int st),some (.f,eM m0),some (.f,wD w),some (.f,.str mv),some (.f,eM t),t8,t9,JD]=.ok [some (.f,CH),some (.f,NE),some (.pin p .d,dG N),some (.f,.int st),some (.f,eM m0),some (.f,wD w),some (.f,.str mv),some (.f,eM t),t8,some (.f,.int s),JD]:=rfl;unfold bJ;cases hg:bZ N s t (w++[mv]) with
  |mk o N'=>
   rw[hg]at h1 gr;cases o with
   |some d=>
    dsimp only at h1 ⊢;rw[dZ,cB,ha,IF,h1,IF]
   |none=>
    dsimp only at h1 ⊢;have ih:=wB CH NE p st m0 w mv t t8 ss N' gr.iv (Uc hw gr.le) (fun x hx=>hs x (Tx _ hx)) (some (.f,.int s)) (some (.f,.non));cases hgs:(bJ t (w++[mv]) ss N').1 with
    |some d=>
     rw[hgs]at ih;dsimp only at ih ⊢;rw[dZ,cB,ha,IF,h1,IF];exact ih
    |none=>
     rw[hgs]at ih;dsimp only at ih ⊢;obtain⟨u9,LY,ih⟩:=ih;refine⟨u9,LY,?_⟩;rw[dZ,cB,ha,IF,h1,IF];exact ih
theorem Ei(t:List Int):Nm (eM t) .non=.ok (.f,.bl false):=id rfl
theorem zk(t:List Int):isnO (eM t) .non=.ok (.f,.bl true):=id rfl
theorem zl:Nm .non .non=.ok (.f,.bl true):=id rfl
theorem Ej(names:LNN)(ps:List Pl)(hl:ps.length<=100)(hp:∀q∈ps,JQ q names.length)(am:List IC)(Ld:am.length<=60)(hb:∀a∈am,0<=a.2.2/\a.2.2<12)(p:Addr)(N:List Gt)(i:Iv N)(n:Gt)(hw:n.2.2.length+1<=N.length)(mv:List Nat)(hm:mv∈names)(t7 t8 t9 JD:Option R):
  match(c6 names ps am n mv N).1 with
  |some d=>cz [some (.f,IG names am),some (.f,eN names ps),some (.pin p .d,dG N),some (.f,.int n.1),some (.f,eM n.2.1),some (.f,wD n.2.2),some (.f,.str mv),t7,t8,t9,JD]=.ok (.rt (.t [.f,.pin p .d],.tup [d,dG (c6 names ps am n mv N).2]))
  |none=>∃u7 u8 u9 LY,cz [some (.f,IG names am),some (.f,eN names ps),some (.pin p .d,dG N),some (.f,.int n.1),some (.f,eM n.2.1),some (.f,wD n.2.2),some (.f,.str mv),t7,t8,t9,JD]=.ok (.nx [some (.f,IG names am),some (.f,eN names ps),some (.pin p .d,dG (c6 names ps am n mv N).2),some (.f,.int n.1),some (.f,eM n.2.1),some (.f,wD n.2.2),some (.f,.str mv),u7,u8,u9,LY]):=by
 have Ls:=BH names ps hl hp n.2.1 mv hm;have LZ:=wz names am n.1 mv (by lia);have S9:=BG (bz (names.idxOf mv) (n.2.1.zip ps));have hfg:=Ik (i4 am n.1 mv);have hg:∀s∈i4 am n.1 mv,0<=s/\s<12:=fun s hs=>by
  unfold i4 at hs;obtain⟨a,ha,e⟩:=rK hs;rw[<-e];exact hb a (VD.mp ha).1
 unfold c6;unfold cz;rw[ay (env':=[some (.f,IG names am),some (.f,eN names ps),some (.pin p .d,dG N),some (.f,.int n.1),some (.f,eM n.2.1),some (.f,wD n.2.2),some (.f,.str mv),some (.f,eO (bz (names.idxOf mv) (n.2.1.zip ps))),t8,t9,JD]) (by
  generalize eN names ps=NE at Ls ⊢;generalize IG names am=CE at LZ ⊢;simp only[pv,seval,op,Ls,S9])]
 rw[ay (env':=[some (.f,IG names am),some (.f,eN names ps),some (.pin p .d,dG N),some (.f,.int n.1),some (.f,eM n.2.1),some (.f,wD n.2.2),some (.f,.str mv),some (.f,eO (bz (names.idxOf mv) (n.2.1.zip ps))),some (.l .f,.lst ((i4 am n.1 mv).map D.int)),t9,JD]) (by
  generalize eN names ps=NE at Ls ⊢;generalize IG names am=CE at LZ ⊢;simp only[pv,seval,op,LZ,hfg])]
 clear Ls LZ S9;have lp:=fun t=>wB (IG names am) (eN names ps) p n.1 n.2.1 n.2.2 mv t (some (.f,.lst ((i4 am n.1 mv).map D.int))) (i4 am n.1 mv) N i hw hg t9 JD
 generalize eN names ps=NE at lp ⊢;generalize IG names am=CE at lp ⊢;cases bz (names.idxOf mv) (n.2.1.zip ps) with
 |none=>
  cases hgs:i4 am n.1 mv with
  |nil=>
   dsimp only;refine⟨some (.f,.non),some (.f,.lst []),t9,JD,?_⟩;have c0:((0:Int)<((0:Nat):Int))=False:=by simp
   unfold eO;generalize dG N=G1;rw[ay (env':=[some (.f,CE),some (.f,NE),some (.pin p .d,G1),some (.f,.int n.1),some (.f,eM n.2.1),some (.f,wD n.2.2),some (.f,.str mv),some (.f,.non),some (.l .f,.lst []),t9,JD]) (by simp only[pv,seval,op,zl,Ut,US,V5,U8,eI] <;> rfl)];rw[ay (env':=[some (.f,CE),some (.f,NE),some (.pin p .d,G1),some (.f,.int n.1),some (.f,eM n.2.1),some (.f,wD n.2.2),some (.f,.str mv),some (.f,.non),some (.l .f,.lst []),t9,JD]) (by simp only[pv,seval,op,kY,Ut,eI])];unfold fe;simp only[pv,seval,op]
  |cons s ss=>
   dsimp only;unfold eO;generalize dG N=G1;have c0:decide ((0:Int)<((ss.length+1:Nat):Int))=true:=T9 (by lia);rw[Jh];simp only[pv,seval,op,zl,gw,bL,c0];rfl
 |some t=>
  have Pj:=lp t;clear lp;cases hgs:i4 am n.1 mv with
  |nil=>
   dsimp only;show _=Res.ok (Out.rt (O.t [.f,.pin p .d],D.tup [Eg n.2.2 mv,dG N]));show(sSeq _ _) [some (.f,CE),some (.f,NE),some (.pin p .d,dG N),some (.f,.int n.1),some (.f,eM n.2.1),some (.f,wD n.2.2),some (.f,.str mv),some (.f,eM t),some (.l .f,.lst []),t9,JD]=_;generalize dG N=G1;rw[ay (env':=[some (.f,CE),some (.f,NE),some (.pin p .d,G1),some (.f,.int n.1),some (.f,eM n.2.1),some (.f,wD n.2.2),some (.f,.str mv),some (.f,eM t),some (.l .f,.lst []),t9,JD]) (by simp only[pv,seval,op,Ei,eI])];rw[Jh];simp only[pv,seval,op,zk,gw,US];rfl
  |cons s ss=>
   rw[hgs]at Pj;dsimp only;show match(bJ t (n.2.2++[mv]) (s::ss) N).1 with
    |some d=>(sSeq _ _) [some (.f,CE),some (.f,NE),some (.pin p .d,dG N),some (.f,.int n.1),some (.f,eM n.2.1),some (.f,wD n.2.2),some (.f,.str mv),some (.f,eM t),some (.l .f,.lst ((s::ss).map D.int)),t9,JD]=.ok (.rt (.t [.f,.pin p .d],.tup [d,dG (bJ t (n.2.2++[mv]) (s::ss) N).2]))
    |none=>∃u7 u8 u9 LY,(sSeq _ _) [some (.f,CE),some (.f,NE),some (.pin p .d,dG N),some (.f,.int n.1),some (.f,eM n.2.1),some (.f,wD n.2.2),some (.f,.str mv),some (.f,eM t),some (.l .f,.lst ((s::ss).map D.int)),t9,JD]=.ok (.nx [some (.f,CE),some (.f,NE),some (.pin p .d,dG (bJ t (n.2.2++[mv]) (s::ss) N).2),some (.f,.int n.1),some (.f,eM n.2.1),some (.f,wD n.2.2),some (.f,.str mv),u7,u8,u9,LY])
   have c0:(((ss.length+1:Nat):Int)==0)=false:=by
    rw[UW];lia
   rw[ay (env':=[some (.f,CE),some (.f,NE),some (.pin p .d,dG N),some (.f,.int n.1),some (.f,eM n.2.1),some (.f,wD n.2.2),some (.f,.str mv),some (.f,eM t),some (.l .f,.lst ((s::ss).map D.int)),t9,JD]) (by
    generalize dG N=G1;simp only[pv,seval,op,Ei,eI])]
   rw[ay (env':=[some (.f,CE),some (.f,NE),some (.pin p .d,dG N),some (.f,.int n.1),some (.f,eM n.2.1),some (.f,wD n.2.2),some (.f,.str mv),some (.f,eM t),some (.l .f,.lst ((s::ss).map D.int)),t9,JD]) (by
    generalize dG N=G1;simp only[pv,seval,op,zk,bL,c0,eI])]
   have go:∀env':Res Out,d6 (aH 9) cy ((s::ss).map D.int) [some (.f,CE),some (.f,NE),some (.pin p .d,dG N),some (.f,.int n.1),some (.f,eM n.2.1),some (.f,wD n.2.2),some (.f,.str mv),some (.f,eM t),some (.f,.lst ((s::ss).map D.int)),t9,JD]=env'->fe [some (.f,CE),some (.f,NE),some (.pin p .d,dG N),some (.f,.int n.1),some (.f,eM n.2.1),some (.f,wD n.2.2),some (.f,.str mv),some (.f,eM t),some (.l .f,.lst ((s::ss).map D.int)),t9,JD]=env':=fun env' h=>by
    unfold fe;generalize dG N=G1 at h ⊢;generalize ((s::ss).map D.int)=LL at h ⊢;simp only[pv,seval,op];exact h
   cases LZ:(bJ t (n.2.2++[mv]) (s::ss) N).1 with
   |some d=>
    rw[LZ]at Pj;exact go _ Pj
   |none=>
    rw[LZ]at Pj;obtain⟨u9,LY,Pj⟩:=Pj;exact⟨_,_,u9,LY,go _ Pj⟩
structure Nc(names:LNN)(ps:List Pl)(am:List IC):Prop where
 pl:ps.length<=100
 po:∀q∈ps,JQ q names.length
 al:am.length<=60
 ab:∀a∈am,0<=a.2.2/\a.2.2<12
theorem wC{names:LNN}{ps:List Pl}{am:List IC}(c:Nc names ps am)(p:Addr)(n:Gt):∀(l:LNN),(∀mv∈l,mv∈names)->∀(N:List Gt),Iv N->n.2.2.length+1<=N.length->∀t6 t7 t8 t9 JD:Option R,
  match(aT names ps am n l N).1 with
  |some d=>d6 (aH 6) cz (l.map D.str) [some (.f,IG names am),some (.f,eN names ps),some (.pin p .d,dG N),some (.f,.int n.1),some (.f,eM n.2.1),some (.f,wD n.2.2),t6,t7,t8,t9,JD]=.ok (.rt (.t [.f,.pin p .d],.tup [d,dG (aT names ps am n l N).2]))
  |none=>∃u6 u7 u8 u9 LY,d6 (aH 6) cz (l.map D.str) [some (.f,IG names am),some (.f,eN names ps),some (.pin p .d,dG N),some (.f,.int n.1),some (.f,eM n.2.1),some (.f,wD n.2.2),t6,t7,t8,t9,JD]=.ok (.nx [some (.f,IG names am),some (.f,eN names ps),some (.pin p .d,dG (aT names ps am n l N).2),some (.f,.int n.1),some (.f,eM n.2.1),some (.f,wD n.2.2),u6,u7,u8,u9,LY])
 |[],_,N,_,_,t6,t7,t8,t9,JD=>⟨t6,t7,t8,t9,JD,rfl⟩
 |mv::l,hm,N,i,hw,t6,t7,t8,t9,JD=>by
  have h1:=Ej names ps c.pl c.po am c.al c.ab p N i n hw mv (hm mv Ts) t7 t8 t9 JD;have gr:=qr (names:=names) (ps:=ps) c.ab mv i hw;have ha:aH 6 (.str mv) [some (.f,IG names am),some (.f,eN names ps),some (.pin p .d,dG N),some (.f,.int n.1),some (.f,eM n.2.1),some (.f,wD n.2.2),t6,t7,t8,t9,JD]=.ok [some (.f,IG names am),some (.f,eN names ps),some (.pin p .d,dG N),some (.f,.int n.1),some (.f,eM n.2.1),some (.f,wD n.2.2),some (.f,.str mv),t7,t8,t9,JD]:=rfl;unfold aT;cases hg:c6 names ps am n mv N with
  |mk o N'=>
   rw[hg]at h1 gr;cases o with
   |some d=>
    dsimp only at h1 ⊢;rw[dZ,cB,ha,IF,h1,IF]
   |none=>
    dsimp only at h1 ⊢;obtain⟨u7,u8,u9,LY,h1⟩:=h1;have ih:=wC c p n l (fun x hx=>hm x (Tx _ hx)) N' gr.iv (Uc hw gr.le) (some (.f,.str mv)) u7 u8 u9 LY;cases hgs:(aT names ps am n l N').1 with
    |some d=>
     rw[hgs]at ih;dsimp only at ih ⊢;rw[dZ,cB,ha,IF,h1,IF];exact ih
    |none=>
     rw[hgs]at ih;dsimp only at ih ⊢;obtain⟨v6,v7,v8,v9,v10,ih⟩:=ih;refine⟨v6,v7,v8,v9,v10,?_⟩;rw[dZ,cB,ha,IF,h1,IF];exact ih
theorem tU(nn:Nat)(c:O)(g:FS)(p:Addr)(d0 d1 d2 d3:D):fBodyJ 2 4 nn c g p [d0,d1,d2,d3]=Res.bnd (g ([some (.f,d1),some (.f,d2),some (.pin p c,d0),some (.f,d3)]++List.replicate nn none)) (f:=⟨fun o=>match o with | .rt r=>.ok r|_=>.bad⟩):=by
 unfold fBodyJ;dsimp only;rw[TF ⟨rfl,(by decide:2<=3)⟩];rfl
theorem wF{names:LNN}{ps:List Pl}{am:List IC}(c:Nc names ps am)(p:Addr)(N:List Gt)(i:Iv N)(n:Gt)(hn:n∈N)(hw:n.2.2.length+1<=N.length):
  dB p [dG N,IG names am,eN names ps,.int n.1]=.ok (.t [.f,.pin p .d],.tup [(aT names ps am n names N).1.getD .non,dG (aT names ps am n names N).2]):=by
 have hd:=EU (rV i.nd hn);unfold vG at hd;have fm:=lS n.2.1;have fw:=gB n.2.2;have lp:=wC c p n names (fun _ h=>h) N i hw none none none none none;unfold dB oP;rw[tU];simp only[List.replicate,Vg,VH];rw[ay (env':=[some (.f,IG names am),some (.f,eN names ps),some (.pin p .d,dG N),some (.f,.int n.1),some (.f,eM n.2.1),none,none,none,none,none,none]) (by
  generalize dG N=G1 at hd ⊢;simp only[pv,seval,op,hd,KY,fm])]
 rw[ay (env':=[some (.f,IG names am),some (.f,eN names ps),some (.pin p .d,dG N),some (.f,.int n.1),some (.f,eM n.2.1),some (.f,wD n.2.2),none,none,none,none,none]) (by
  generalize dG N=G1 at hd ⊢;simp only[pv,seval,op,hd,LK,fw])]
 have go:∀r:Res Out,d6 (aH 6) cz (names.map D.str) [some (.f,IG names am),some (.f,eN names ps),some (.pin p .d,dG N),some (.f,.int n.1),some (.f,eM n.2.1),some (.f,wD n.2.2),none,none,none,none,none]=r->ij [some (.f,IG names am),some (.f,eN names ps),some (.pin p .d,dG N),some (.f,.int n.1),some (.f,eM n.2.1),some (.f,wD n.2.2),none,none,none,none,none]=r:=fun r h=>by
  unfold ij;generalize dG N=G1 at h ⊢;unfold IG at h ⊢;generalize eN names ps=NE at h ⊢;simp only[pv,seval,op];exact h
 cases LZ:(aT names ps am n names N).1 with
 |some d=>
  rw[LZ]at lp;rw[Jh,go _ lp,IF];rfl
 |none=>
  rw[LZ]at lp;obtain⟨u6,u7,u8,u9,LY,lp⟩:=lp;rw[ay (go _ lp)];unfold jB;generalize dG (aT names ps am n names N).2=G2;generalize eN names ps=NE;generalize IG names am=CE;simp only[pv,seval,op,gw,Ve]
theorem Ek{names:LNN}{ps:List Pl}{am:List IC}(c:Nc names ps am)(N:List Gt)(i:Iv N)(n:Gt)(hn:n∈N)(hw:n.2.2.length+1<=N.length):jj dB .d (dG N) [IG names am,eN names ps,.int n.1]=.ok ((.f,(aT names ps am n names N).1.getD .non),dG (aT names ps am n names N).2):=
 rj (r:=(.f,(aT names ps am n names N).1.getD .non)) fun p=>wF c p N i n hn hw
noncomputable def cC(names:LNN)(ps:List Pl)(am:List IC):Nat->Nat->List Gt->So
 | 0,_,N=>(none,N)
 |f+1,k,N=>match N[k]? with
  |none=>(none,N)
  |some n=>match aT names ps am n names N with
   |(some d,N')=>(some d,N')
   |(none,N')=>cC names ps am f (k+1) N'
theorem El{c:O}{F:Addr->List D->Res R}{i:Nat}{fs:FOs}{env e:PV.Env}{o0 o1 o2:Opd}{ow:O}{d0:D}{ds:List D}{x:R×D}(h:fs env=.ok ([o0,o1,.var i,o2],e))(hi:e[i]?=some (some (ow,d0)))(ho:oF c ow=true)(hd:iG (e.set i none) [o0,o1,o2]=.ok ds)(hc:jj F c d0 ds=.ok x)(K0:(aQ x.1.1 x.1.2&&aQ c x.2)=true):
  vK 2 c F i fs env=.ok (x.1,(e.set i none).set i (some (ow,x.2))):=by
 unfold vK;rw[h];show(match([o0,o1,Opd.var i,o2]:List Opd)[2]? with
  |some (.var j')=>if j'=i then(match e[i]? with
   |some (some (ow,d0))=>if oF c ow then(iG (e.set i none) (([o0,o1,Opd.var i,o2]:List Opd).eraseIdx 2)).bind fun ds=>(jj F c d0 ds).bind fun x=>if aQ x.1.1 x.1.2&&aQ c x.2 then .ok (x.1,(e.set i none).set i (some (ow,x.2))) else .ok (x.1,((e.set i none).map frz).set i (some (ow,x.2))) else .bad
   |_=>.bad) else .bad
  |_=>.bad)=_
 show(if i=i then(match e[i]? with
   |some (some (ow,d0))=>if oF c ow then(iG (e.set i none) [o0,o1,o2]).bind fun ds=>(jj F c d0 ds).bind fun x=>if aQ x.1.1 x.1.2&&aQ c x.2 then .ok (x.1,(e.set i none).set i (some (ow,x.2))) else .ok (x.1,((e.set i none).map frz).set i (some (ow,x.2))) else .bad
   |_=>.bad) else .bad)=_
 rw[TF rfl,hi];dsimp only;rw[TF ho,hd];show((jj F c d0 ds).bind fun x=>if aQ x.1.1 x.1.2&&aQ c x.2 then .ok (x.1,(e.set i none).set i (some (ow,x.2))) else .ok (x.1,((e.set i none).map frz).set i (some (ow,x.2))))=_;rw[hc];show(if aQ x.1.1 x.1.2&&aQ c x.2 then Res.ok (x.1,(e.set i none).set i (some (ow,x.2))) else .ok (x.1,((e.set i none).map frz).set i (some (ow,x.2))))=_;rw[TF K0]
theorem tV(names:LNN)(ps:List Pl)(am:List IC)(n:Gt)(mv:List Nat)(N:List Gt):∀d,(c6 names ps am n mv N).1=some d->∃ds,d=.tup ds:=by
 have gs:∀(m:List Int) (w:LNN) (ss:List Int) (N:List Gt) d,(bJ m w ss N).1=some d->∃ds,d=.tup ds:=by
  intro m w ss;induction ss with
  |nil=>intro N d h;cases h
  |cons s ss ih=>
   intro N d h;unfold bJ at h;rcases lU N s m w with e|⟨ds,e⟩
   ·split at h
    ·rename_i d' N' e';rw[e']at e;cases e
    ·exact ih _ d h
   ·split at h
    ·rename_i d' N' e';rw[e']at e;cases e;cases h;exact⟨ds,rfl⟩
    ·rename_i N' e';rw[e']at e;cases e
 intro d h;unfold c6 at h;split at h
 ·cases h
 ·cases h;exact⟨_,rfl⟩
 ·cases h;exact⟨_,rfl⟩
 ·exact gs _ _ _ _ d h
theorem k8(names:LNN)(ps:List Pl)(am:List IC)(n:Gt):∀(l:LNN) (N:List Gt) d,(aT names ps am n l N).1=some d->∃ds,d=.tup ds
 |[],N,d,h=>by cases h
 |mv::l,N,d,h=>by
  unfold aT at h;split at h
  ·rename_i d' N' e;cases h;exact tV names ps am n mv N d (by rw[e])
  ·exact k8 names ps am n l _ d h
theorem BU(N:List Gt):vF [dG N]=.ok (.l .f,.lst (N.map fun n=>D.int n.1)):=rfl
theorem Em{names:LNN}{ps:List Pl}{am:List IC}(c:Nc names ps am)(N:List Gt)(i:Iv N)(k:Nat)(n:Gt)(hk:N[k]?=some n)(t4:Option R):
  match(aT names ps am n names N).1 with
  |some d=>eS [some (.f,IG names am),some (.f,eN names ps),some (.d,dG N),some (.f,.int (k:Int)),t4]=.ok (.rt (.f,d))
  |none=>eS [some (.f,IG names am),some (.f,eN names ps),some (.d,dG N),some (.f,.int (k:Int)),t4]=.ok (.nx [some (.f,IG names am),some (.f,eN names ps),some (.d,dG (aT names ps am n names N).2),some (.f,.int ((k+1:Nat):Int)),some (.f,.non)]):=by
 have hn:n∈N:=T6 hk;have hkl:=(mP hk).1;have Oq:=i.wl k n hk;have hw:n.2.2.length+1<=N.length:=by lia
 have gr:=gR (names:=names) (ps:=ps) c.ab names i hw (n:=n);have hc:=Ek c N i n hn hw;have cl:=rW (aT names ps am n names N).2;have sh:=k8 names ps am n names N;have cf:aQ .f ((aT names ps am n names N).1.getD .non)=true:=by rw[aQ];exact gr.fl
 have Lh:Ju (N.map fun n=>D.int n.1) (k:Int)=some (.int n.1):=fR (by rw[List.getElem?_map,hk];rfl);have Ta:=BU N;revert hc cl sh cf;generalize (aT names ps am n names N).1=o;generalize dG (aT names ps am n names N).2=G2;intro hc cl sh cf;unfold eS;have e1:vK 2 (.d) dB 2 (ag (aw 0) (ag (aw 1) (ag (aw 2) (ag (aq (aA Ih (aq (aX vF (ag (aw 2) aG))) (aw 3))) aG)))) [some (.f,IG names am),some (.f,eN names ps),some (.d,dG N),some (.f,.int (k:Int)),t4]=.ok ((.f,o.getD .non),[some (.f,IG names am),some (.f,eN names ps),some (.d,G2),some (.f,.int (k:Int)),t4]):=by
  generalize dG N=G1 at Ta hc ⊢;generalize eN names ps=NE at hc ⊢;generalize IG names am=CE at hc ⊢;rw[El (o0:=.var 0) (o1:=.var 1) (o2:=.val (.int n.1)) (e:=[some (.f,CE),some (.f,NE),some (.d,G1),some (.f,.int (k:Int)),t4]) (ow:=.d) (d0:=G1) (ds:=[CE,NE,.int n.1]) (by simp only[pv,seval,op,Ta,Lh]) rfl rfl rfl hc (by
   show(aQ .f (o.getD .non)&&aQ .d G2)=true;rw[cf,cl];rfl)]
  rfl
 rw[ay (env':=[some (.f,IG names am),some (.f,eN names ps),some (.d,G2),some (.f,.int (k:Int)),some (.f,o.getD .non)]) (by
  generalize dG N=G1 at e1 ⊢;generalize eN names ps=NE at e1 ⊢;generalize IG names am=CE at e1 ⊢;rw[MS,e1,IF];rfl)]
 generalize eN names ps=NE;generalize IG names am=CE;cases o with
 |some d=>
  obtain⟨ds,rfl⟩:=sh d rfl;dsimp only;rw[Jh];simp only[pv,seval,op,zj,VP]
 |none=>
  dsimp only;rw[ay (env':=[some (.f,CE),some (.f,NE),some (.d,G2),some (.f,.int (k:Int)),some (.f,.non)]) (by simp only[pv,seval,op,kY,Ve,eI])];simp only[pv,seval,op,Xx,V5]
theorem En(N:List Gt):fO [dG N]=.ok (.f,.int (N.length:Int)):=by
 show Res.ok (O.f,D.int (((N.map fun n=>D.int n.1).length:Nat):Int))=_;rw[bL]
section
variable{names:LNN}{ps:List Pl}{am:List IC}{f k:Nat}{N N':List Gt}{n:Gt}{d:D}
theorem gS(h:N[k]?=none):cC names ps am (f+1) k N=(none,N):=by rw[cC,h]
theorem i5(h:N[k]?=some n)(hm:aT names ps am n names N=(some d,N')):cC names ps am (f+1) k N=(some d,N'):=by
 rw[cC,h];dsimp only;rw[hm]
theorem jt(h:N[k]?=some n)(hm:aT names ps am n names N=(none,N')):cC names ps am (f+1) k N=cC names ps am f (k+1) N':=by
 rw[cC,h];dsimp only;rw[hm]
end
theorem held_w{names:LNN}{ps:List Pl}{am:List IC}(c:Nc names ps am):∀(f F k:Nat) (N:List Gt),Iv N->k<=N.length->13<=f+k->f<=F->∀t4:Option R,
  match(cC names ps am f k N).1 with
  |some d=>dt (IU (aA Lr (aw 3) (aq (aX fO (ag (aw 2) aG))))) eS F [some (.f,IG names am),some (.f,eN names ps),some (.d,dG N),some (.f,.int (k:Int)),t4]=.ok (.rt (.f,d))
  |none=>∃u4,dt (IU (aA Lr (aw 3) (aq (aX fO (ag (aw 2) aG))))) eS F [some (.f,IG names am),some (.f,eN names ps),some (.d,dG N),some (.f,.int (k:Int)),t4]=.ok (.nx [some (.f,IG names am),some (.f,eN names ps),some (.d,dG (cC names ps am f k N).2),some (.f,.int ((cC names ps am f k N).2.length:Int)),u4])
 | 0,F,k,N,i,hk,hf,_,t4=>by
  have:=i.le;lia
 |f+1,0,k,N,i,hk,hf,hF,t4=>by lia
 |f+1,F+1,k,N,i,hk,hf,hF,t4=>by
  have hlen:=En N;by_cases IQ:k<N.length
  ·have KZ:N[k]?=some N[k]:=iy IQ;have h1:=Em c N i k N[k] KZ t4;have Oq:=i.wl k _ KZ;have gr:=gR (names:=names) (ps:=ps) c.ab names i (n:=N[k]) (by lia);have hc:(IU (aA Lr (aw 3) (aq (aX fO (ag (aw 2) aG))))) [some (.f,IG names am),some (.f,eN names ps),some (.d,dG N),some (.f,.int (k:Int)),t4]=.ok (true,[some (.f,IG names am),some (.f,eN names ps),some (.d,dG N),some (.f,.int (k:Int)),t4]):=by
    have:(k:Int)<(N.length:Int):=by lia
    generalize dG N=G1 at hlen ⊢;generalize eN names ps=NE;generalize IG names am=CE;simp only[pv,seval,op,hlen,this,Vn]
   cases hg:aT names ps am N[k] names N with
   |mk o N'=>
    rw[hg]at h1 gr;cases o with
    |some d=>
     rw[i5 KZ hg];dsimp only at h1 ⊢;rw[eB,hc,IF];dsimp only;rw[TF rfl,h1,IF]
    |none=>
     rw[jt KZ hg];dsimp only at h1 gr ⊢;have hl:=gr.le;have ih:=held_w c f F (k+1) N' gr.iv (by lia) (by lia) (by lia) (some (.f,.non));cases hgs:(cC names ps am f (k+1) N').1 with
     |some d=>
      rw[hgs]at ih;dsimp only at ih ⊢;rw[eB,hc,IF];dsimp only;rw[TF rfl,h1,IF];exact ih
     |none=>
      rw[hgs]at ih;dsimp only at ih ⊢;obtain⟨w4,ih⟩:=ih;refine⟨w4,?_⟩;rw[eB,hc,IF];dsimp only;rw[TF rfl,h1,IF];exact ih
  ·have KZ:N[k]?=none:=List.getElem?_eq_none (by lia);have ek:k=N.length:=by lia
   rw[gS KZ];dsimp only;refine⟨t4,?_⟩;have hc:(IU (aA Lr (aw 3) (aq (aX fO (ag (aw 2) aG))))) [some (.f,IG names am),some (.f,eN names ps),some (.d,dG N),some (.f,.int (k:Int)),t4]=.ok (false,[some (.f,IG names am),some (.f,eN names ps),some (.d,dG N),some (.f,.int (k:Int)),t4]):=by
    have:¬ (k:Int)<(N.length:Int):=by lia
    generalize dG N=G1 at hlen ⊢;generalize eN names ps=NE;generalize IG names am=CE;simp only[pv,seval,op,hlen,this,U8]
   rw[eB,hc,IF];dsimp only;rw[TJ Tz,ek]
def N0(ps:List Pl):List Gt:=[(0,ps.map (·.1),[])]
theorem Sk(ps:List Pl):Iv (N0 ps):=by
 refine⟨?_,fun n hn=>?_,fun k n hk=>?_⟩
 ·show[(0:Int)].Nodup;exact Ui.mpr ⟨UM,Vm⟩
 ·rw[lg hn];exact⟨YY 0,(by decide:(0:Int)<12)⟩
 ·cases k with
  |zero=>
   cases hk;exact TB _
  |succ k=>simp[N0]at hk
abbrev walk(names:LNN)(ps:List Pl)(am:List IC):So:=cC names ps am 13 0 (N0 ps)
def mk(N:List Gt)(s:Int):List Int:=((N.find? fun z=>z.1==s).map (·.2.1)).getD []
theorem Eo{N:List Gt}{s:Int}{n:Gt}(h:(N.find? fun z=>z.1==s)=some n):mk N s=n.2.1:=by
 unfold mk;rw[h];rfl
theorem yt{N:List Gt}{s:Int}(h:s∈N.map (·.1)):∃n,(N.find? fun z=>z.1==s)=some n:=by
 cases hf:N.find? fun z=>z.1==s with
 |none=>
  rw[List.find?_eq_none]at hf;obtain⟨z,hz,e⟩:=rK h;exact absurd (Us.mpr e) (hf z hz)
 |some n=>exact⟨n,rfl⟩
def Ep(l:List (List Int)):D:=.tup [.str [115,97,109,101],.lst (l.map eM)]
theorem Er(N:List Gt)(k:Nat)(all:∀s:Nat,s<k->(s:Int)∈N.map (·.1)):dv (aH 0) fH (aA Ih (aq (aA Md (aw 1) (aw 0))) (aq (aF (.int 0)))) ((List.range k).map fun(s:Nat)=>D.int (s:Int)) [none,some (.f,dG N)]=.ok (((List.range k).map fun(s:Nat)=>mk N (s:Int)).map eM):=by
 rw[cJ (r:=fun s:Nat=>eM (mk N (s:Int))) (fun env=>∃t,env=[t,some (.f,dG N)]) (List.range k) ?_ _ ⟨none,rfl⟩]
 ·rw[TZ];rfl
 ·rintro s hs env ⟨t,rfl⟩;obtain⟨n,hn⟩:=yt (all s (Uq.mp hs));have hd:=EU hn;unfold vG at hd;rw[Eo hn];generalize dG N=G1 at hd ⊢;exact⟨[some (.f,.int (s:Int)),some (.f,G1)],rfl,.f,[some (.f,.int (s:Int)),some (.f,G1)],by simp only[pv,seval,op,hd,KY],_,rfl⟩
theorem Es{names:LNN}{ps:List Pl}{am:List IC}(c:Nc names ps am)(L1:0<=aY am/\aY am<=12)(all:(walk names ps am).1=none->∀s:Nat,s<(aY am).toNat->(s:Int)∈(walk names ps am).2.map (·.1)):
  lN [IG names am,eN names ps]=.ok (.f,((walk names ps am).1).getD (Ep ((List.range (aY am).toNat).map fun(s:Nat)=>mk (walk names ps am).2 (s:Int)))):=by
 have JJ:=c.pl;have Ld:=c.al;have Tb:=BE names ps (by lia);have fm:=lS (ps.map (·.1));have Tc:=qj names am (by lia);have hw:=held_w c 13 100000 0 (N0 ps) (Sk ps) (Ug _) (by lia) (by lia) none;have Km:Lg (.tup (names.map D.str)) (.tup (names.map D.str))=.ok (.f,.bl false):=kX _ (by rw[plainD];exact gP _ _);have QN:Ih (IG names am) (.int 0)=.ok (.f,.tup (names.map D.str)):=rfl;have Ks:Ih (eN names ps) (.int 0)=.ok (.f,.tup (names.map D.str)):=rfl;unfold lN y9;rw[bD (h:=by rfl)];rw[ay (env':=[some (.f,IG names am),some (.f,eN names ps),none,none,none]) (by
  generalize eN names ps=NE at Ks ⊢;generalize IG names am=CE at QN ⊢;simp only[pv,↓reduceIte,Nat.reduceAdd,Nat.reduceLT,Nat.reduceLeDiff,Nat.reduceEqDiff,op,QN,Ks,Km,eI])]
 rw[ay (env':=[some (.f,IG names am),some (.f,eN names ps),some (.d,dG (N0 ps)),none,none]) (by
  generalize eN names ps=NE at Tb ⊢;generalize IG names am=CE;simp only[pv,↓reduceIte,Nat.reduceAdd,Nat.reduceLT,Nat.reduceLeDiff,Nat.reduceEqDiff,op,Tb,fm];rfl)]
 rw[ay (env':=[some (.f,IG names am),some (.f,eN names ps),some (.d,dG (N0 ps)),some (.f,.int ((0:Nat):Int)),none]) (by
  generalize dG (N0 ps)=G0;simp only[pv,↓reduceIte,Nat.reduceAdd,Nat.reduceLT,Nat.reduceLeDiff,Nat.reduceEqDiff,op];rfl)]
 unfold walk at all ⊢;cases LZ:(cC names ps am 13 0 (N0 ps)).1 with
 |some d=>
  rw[LZ]at hw;dsimp only at hw;rw[Jh];unfold mG;rw[hw,IF];rfl
 |none=>
  rw[LZ]at hw;obtain⟨u4,hw⟩:=hw;have Rr:=Er (cC names ps am 13 0 (N0 ps)).2 (aY am).toNat (all LZ)
  rw[ay (env':=_) (by
   unfold mG;exact hw)]
  unfold oQ;have Sd:(((List.range (aY am).toNat).map fun(s:Nat)=>mk (cC names ps am 13 0 (N0 ps)).2 (s:Int)).map eM).length<=sizeLine:=bS (by
   rw[bL,bL,T3];lia)
  generalize ((List.range (aY am).toNat).map fun(s:Nat)=>mk (cC names ps am 13 0 (N0 ps)).2 (s:Int))=RR at Rr Sd ⊢;generalize dG (cC names ps am 13 0 (N0 ps)).2=G2 at Rr ⊢;generalize eN names ps=NE;generalize IG names am=CE at Tc ⊢;have hr:=ET (aY am) L1.1 (by lia) (aq (dM cx (ag (aw 0) aG))) [some (.f,CE),some (.f,NE),some (.d,G2),some (.f,.int ((cC names ps am 13 0 (N0 ps)).2.length:Int)),u4] [some (.f,CE),some (.f,NE),some (.d,G2),some (.f,.int ((cC names ps am 13 0 (N0 ps)).2.length:Int)),u4] (.val (.int (aY am))) (by simp only[pv,↓reduceIte,Nat.reduceAdd,Nat.reduceLT,Nat.reduceLeDiff,Nat.reduceEqDiff,op,Tc]) rfl;generalize c9 (aq (dM cx (ag (aw 0) aG)))=IT at hr ⊢;generalize (aA Ih (aq (aA Md (aw 1) (aw 0))) (aq (aF (.int 0))))=GG at Rr ⊢;simp only[pv,↓reduceIte,Nat.reduceAdd,Nat.reduceLT,Nat.reduceLeDiff,Nat.reduceEqDiff,op,hr,Rr,Sd];rfl
theorem fD{am:List IC}{x s:Int}{mv:List Nat}:s∈i4 am x mv<->((x,mv,s):IC)∈am:=by
 unfold i4;rw[UH];constructor
 ·rintro⟨a,ha,e⟩;obtain⟨h1,h2⟩:=VD.mp ha;rw[TM,Us,Us]at h2;obtain⟨a1,a2,a3⟩:=a;obtain⟨e1,e2⟩:=h2;cases e1;cases e2;cases e;exact h1
 ·intro h;exact⟨(x,mv,s),VD.mpr ⟨h,by simp⟩,rfl⟩
theorem yu{N:List Gt}{s:Int}{m:List Int}{w:LNN}(h:(bZ N s m w).1=none):s∈(bZ N s m w).2.map (·.1):=by
 unfold bZ jr at h ⊢;cases hf:N.find? (tS s m) with
 |some n=>
  rw[hf]at h;cases h
 |none=>
  rw[hf]at h;dsimp only at h ⊢;cases hs:N.find? fun n=>n.1==s with
  |none=>
   dsimp only;rw[TV];exact Tv _ (TY.mpr rfl)
  |some n=>
   rw[hs]at h;dsimp only at h ⊢;by_cases hm:n.2.1=m
   ·rw[TF hm];have h1:=List.find?_some hs;have h1:n.1=s:=by simpa using h1
    exact UH.mpr ⟨n,List.mem_of_find?_eq_some hs,h1⟩
   ·rw[TJ hm]at h;cases h
theorem Gr.up{N N':List Gt}{o:Option D}(g:Gr N N' o){s:Int}(h:s∈N.map (·.1)):s∈N'.map (·.1):=by
 obtain⟨m,e⟩:=g.ex;rw[e,TV];exact TC _ h
theorem pd(m:List Int)(w:LNN):∀(ss:List Int) (N:List Gt),Iv N->(∀s∈ss,0<=s/\s<12)->w.length<=N.length->(bJ m w ss N).1=none->∀s∈ss,s∈(bJ m w ss N).2.map (·.1)
 |[],N,_,_,_,_=>fun _ h=>nomatch h
 |s::ss,N,i,hs,hw,h=>by
  have gr:=mV i (hs s Ts) m hw;have gh:=yu (N:=N) (s:=s) (m:=m) (w:=w);unfold bJ at h ⊢;cases hg:bZ N s m w with
  |mk o N'=>
   rw[hg]at gr gh h;cases o with
   |some d=>cases h
   |none=>
    dsimp only at gr gh h ⊢;have g2:=mW m w ss gr.iv (fun x hx=>hs x (Tx _ hx)) (Uc hw gr.le);have ih:=pd m w ss N' gr.iv (fun x hx=>hs x (Tx _ hx)) (Uc hw gr.le) h;intro x hx;rcases TK.mp hx with e|hx
    ·rw[e];exact g2.up (gh rfl)
    ·exact ih x hx
theorem BV{am:List IC}(hb:∀a∈am,0<=a.2.2/\a.2.2<12){x:Int}{mv:List Nat}:∀s∈i4 am x mv,0<=s/\s<12:=fun s hs=>hb _ (fD.mp hs)
theorem pe{names:LNN}{ps:List Pl}{am:List IC}(hb:∀a∈am,0<=a.2.2/\a.2.2<12){n:Gt}:∀(l:LNN) (N:List Gt),Iv N->n.2.2.length+1<=N.length->(aT names ps am n l N).1=none->∀mv∈l,∀s∈i4 am n.1 mv,s∈(aT names ps am n l N).2.map (·.1)
 |[],N,_,_,_=>fun _ h=>nomatch h
 |mv::l,N,i,hw,h=>by
  have gr:=qr (names:=names) (ps:=ps) hb mv i hw;have mh:(c6 names ps am n mv N).1=none->∀s∈i4 am n.1 mv,s∈(c6 names ps am n mv N).2.map (·.1):=fun h=>by
   unfold c6 at h ⊢;have hg:=BV hb (x:=n.1) (mv:=mv);cases hf:bz (names.idxOf mv) (n.2.1.zip ps) with
   |none=>
    rw[hf]at h;cases hgs:i4 am n.1 mv with
    |nil=>exact fun _ h=>nomatch h
    |cons s ss=>rw[hgs]at h;cases h
   |some t=>
    rw[hf]at h;cases hgs:i4 am n.1 mv with
    |nil=>rw[hgs]at h;cases h
    |cons s ss=>
     rw[hgs]at h hg;exact pd t (n.2.2++[mv]) (s::ss) N i hg (by rw[mQ];exact hw) h
  unfold aT at h ⊢;cases hg:c6 names ps am n mv N with
  |mk o N'=>
   rw[hg]at gr mh h;cases o with
   |some d=>cases h
   |none=>
    dsimp only at gr mh h ⊢;have g2:=gR (names:=names) (ps:=ps) hb l gr.iv (n:=n) (Uc hw gr.le);have ih:=pe hb l N' gr.iv (Uc hw gr.le) h;intro x hx s hs;rcases TK.mp hx with e|hx
    ·rw[e]at hs;exact g2.up (mh rfl s hs)
    ·exact ih x hx s hs
def Cl(names:LNN)(am:List IC)(N:List Gt)(k:Nat):Prop:=∀(j:Nat) (n:Gt),j<k->N[j]?=some n->∀mv∈names,∀s∈i4 am n.1 mv,s∈N.map (·.1)
theorem rX{names:LNN}{ps:List Pl}{am:List IC}(hb:∀a∈am,0<=a.2.2/\a.2.2<12):∀(f k:Nat) (N:List Gt),Iv N->k<=N.length->13<=f+k->Cl names am N k->(cC names ps am f k N).1=none->Gr N (cC names ps am f k N).2 none/\Cl names am (cC names ps am f k N).2 (cC names ps am f k N).2.length
 | 0,k,N,i,hk,hf,_,_=>by
  have:=i.le;lia
 |f+1,k,N,i,hk,hf,cl,h=>by
  by_cases IQ:k<N.length
  ·have KZ:N[k]?=some N[k]:=iy IQ;have Oq:=i.wl k _ KZ;have gr:=gR (names:=names) (ps:=ps) hb names i (n:=N[k]) (by lia);have mh:=pe (names:=names) (ps:=ps) hb (n:=N[k]) names N i (by lia);cases hg:aT names ps am N[k] names N with
   |mk o N'=>
    rw[hg]at gr mh;cases o with
    |some d=>rw[i5 KZ hg]at h;cases h
    |none=>
     rw[jt KZ hg]at h ⊢;dsimp only at gr mh;have hl:=gr.le;obtain⟨more,em⟩:=gr.ex;have cl':Cl names am N' (k+1):=fun j n hj hn mv Ls s hs=>by
      have Pk:N[j]?=some n:=by rw[em,List.getElem?_append_left (by lia)]at hn;exact hn
      by_cases ej:j=k
      ·subst ej;rw[KZ]at Pk;cases Pk;exact mh rfl mv Ls s hs
      ·exact gr.up (cl j n (by lia) Pk mv Ls s hs)
     obtain⟨g2,c2⟩:=rX hb f (k+1) N' gr.iv (by lia) (by lia) cl' h;exact⟨gr.trans g2,c2⟩
  ·have KZ:N[k]?=none:=List.getElem?_eq_none (by lia);have ek:k=N.length:=by lia
   rw[gS KZ];exact⟨Gr.refl i,ek▸cl⟩
section
variable{P:Int->Prop}
theorem Et{N:List Gt}{s:Int}{m:List Int}{w:LNN}(h:∀n∈N,P n.1)(hs:P s):∀n∈(bZ N s m w).2,P n.1:=by
 unfold bZ jr;cases N.find? (tS s m) with
 |some n=>exact h
 |none=>
  dsimp only;cases N.find? fun n=>n.1==s with
  |none=>
   intro n hn;rcases tM hn with hn|hn
   ·exact h n hn
   ·rw[lg hn];exact hs
  |some n=>
   dsimp only;by_cases hm:n.2.1=m
   ·rw[TF hm];exact h
   ·rw[TJ hm];exact h
theorem wG(m:List Int)(w:LNN):∀(ss:List Int) (N:List Gt),(∀n∈N,P n.1)->(∀s∈ss,P s)->∀n∈(bJ m w ss N).2,P n.1
 |[],N,h,_=>h
 |s::ss,N,h,hs=>by
  have g:=Et (m:=m) (w:=w) h (hs s Ts);unfold bJ;cases hg:bZ N s m w with
  |mk o N'=>
   rw[hg]at g;cases o with
   |some d=>exact g
   |none=>exact wG m w ss N' g fun x hx=>hs x (Tx _ hx)
theorem wH{names:LNN}{ps:List Pl}{am:List IC}(ha:∀a∈am,P a.2.2){n:Gt}:∀(l:LNN) (N:List Gt),(∀n∈N,P n.1)->∀n'∈(aT names ps am n l N).2,P n'.1
 |[],N,h=>h
 |mv::l,N,h=>by
  have g:∀n'∈(c6 names ps am n mv N).2,P n'.1:=by
   unfold c6;split
   ·exact h
   ·exact h
   ·exact h
   ·rename_i t s ss _ e;exact wG t _ (s::ss) N h fun x hx=>ha _ (fD.mp (by rw[e];exact hx))
  unfold aT;cases hg:c6 names ps am n mv N with
  |mk o N'=>
   rw[hg]at g;cases o with
   |some d=>exact g
   |none=>exact wH ha l N' g
theorem zm{names:LNN}{ps:List Pl}{am:List IC}(ha:∀a∈am,P a.2.2):∀(f k:Nat) (N:List Gt),(∀n∈N,P n.1)->∀n∈(cC names ps am f k N).2,P n.1
 | 0,k,N,h=>h
 |f+1,k,N,h=>by
  cases hk:N[k]? with
  |none=>rw[gS hk];exact h
  |some n=>
   have g:=wH (names:=names) (ps:=ps) ha (n:=n) names N h;cases hg:aT names ps am n names N with
   |mk o N'=>
    rw[hg]at g;cases o with
    |some d=>rw[i5 hk hg];exact g
    |none=>rw[jt hk hg];exact zm ha f (k+1) N' g
end
theorem walk_all{names:LNN}{ps:List Pl}{am:List IC}{mZ:Nat}(r:Ra names am mZ)(h:(walk names ps am).1=none):
  (walk names ps am).2.length<=12/\((walk names ps am).2.length:Int)=aY am/\∀s:Nat,s<(walk names ps am).2.length->(s:Int)∈(walk names ps am).2.map (·.1):=by
 have hm:=r.mm;have hb:∀a∈am,0<=a.2.2/\a.2.2<12:=fun a ha=>by
  have:=r.bd a ha;lia
 have L1:=o6 hm.1 r.bd;obtain⟨g,cl⟩:=rX (names:=names) (ps:=ps) hb 13 0 (N0 ps) (Sk ps) (Ug _) (by lia) (fun j n hj=>by lia) h;have kp:=zm (P:=fun s=>0<=s/\s<aY am) (names:=names) (ps:=ps) (am:=am) (fun a ha=>⟨(hb a ha).1,(o5 ha).2⟩) 13 0 (N0 ps) (fun n hn=>by
  rw[lg hn];exact⟨YY 0,by show(0:Int)<_;lia⟩)
 unfold walk at h ⊢;generalize cC names ps am 13 0 (N0 ps)=W at h g cl kp ⊢;have z0:(0:Int)∈W.2.map (·.1):=g.up (TY.mpr rfl);have key:∀j:Nat,j<mZ->(j:Int)∈W.2.map (·.1):=by
  intro j;induction j using Nat.strongRecOn with
  |_ j ih=>
   intro hj;cases j with
   |zero=>exact z0
   |succ j=>
    obtain⟨a,ha,e1,b,hbj,e2⟩:=r.rc (j+1) (by lia) hj;obtain⟨n,hn,en⟩:=rK (ih b hbj (by lia));obtain⟨x,hx,ex⟩:=Vy hn;have:=cl x n hx (by rw[iy hx,ex]) a.2.1 (r.nm a ha) a.2.2 (fD.mpr (by rw[en,<-e2];exact ha));rw[e1]at this;exact this
 have len:(W.2.length:Int)=aY am:=by
  have l1:W.2.length<=(aY am).toNat:=by
   have:=mS (aY am).toNat g.iv.nd (fun x hx=>by
    obtain⟨n,hn,e⟩:=rK hx;rw[<-e];have:=kp n hn;lia)
   rwa [bL]at this
  have l2:(aY am).toNat<=W.2.length:=by
   have:=qq ((List.range (aY am).toNat).map fun(s:Nat)=>(s:Int)) (W.2.map (·.1)) (d4 _ _ fun i j _ _ e=>by lia) (fun x hx=>by
    obtain⟨s,hs,e⟩:=rK hx;rw[<-e];exact key s (by have:=Uq.mp hs;lia))
   rwa [bL,T3,bL]at this
  lia
 exact⟨g.iv.le,len,fun s hs=>key s (by lia)⟩
def Ow(S:List (List Int))(N:List Gt):Prop:=∀n∈N,∃j:Nat,n.1=(j:Int)/\S[j]?=some n.2.1
theorem yv{S:List (List Int)}(nd:S.Nodup){N:List Gt}(o:Ow S N){j:Nat}{t:List Int}(hj:S[j]?=some t)(w:LNN):(bZ N (j:Int) t w).1=none/\Ow S (bZ N (j:Int) t w).2:=by
 have hf:N.find? (tS (j:Int) t)=none:=by
  rw[List.find?_eq_none];intro n hn h;unfold tS at h;rw[TM,TQ]at h;obtain⟨i,e1,e2⟩:=o n hn;rw[h.2]at e2;obtain⟨h1,h2⟩:=mP e2;obtain⟨h3,h4⟩:=mP hj;have:i=j:=by
   have pw:=VN.mp nd;rcases Nat.lt_trichotomy i j with hl|hl|hl
   ·exact absurd (h2.trans h4.symm) (pw i j h1 h3 hl)
   ·exact hl
   ·exact absurd (h4.trans h2.symm) (pw j i h3 h1 hl)
  rw[e1,this]at h;simp at h
 unfold bZ jr;rw[hf];dsimp only;cases hs:N.find? fun n=>n.1==(j:Int) with
 |none=>
  refine⟨rfl,fun n hn=>?_⟩;rcases tM hn with hn|hn
  ·exact o n hn
  ·rw[lg hn];exact⟨j,rfl,hj⟩
 |some n=>
  dsimp only;have h1:=List.find?_some hs;have h1:n.1=(j:Int):=by simpa using h1
  obtain⟨i,e1,e2⟩:=o n (List.mem_of_find?_eq_some hs);have:i=j:=by lia
  rw[this,hj]at e2;have e3:n.2.1=t:=(TX e2).symm;rw[TF e3];exact⟨rfl,o⟩
theorem pg{S:List (List Int)}(nd:S.Nodup){t:List Int}(w:LNN):∀(ss:List Int) (N:List Gt),Ow S N->(∀s∈ss,∃j:Nat,s=(j:Int)/\S[j]?=some t)->(bJ t w ss N).1=none/\Ow S (bJ t w ss N).2
 |[],N,o,_=>⟨rfl,o⟩
 |s::ss,N,o,h=>by
  obtain⟨j,e,hj⟩:=h s Ts;subst e;obtain⟨g1,g2⟩:=yv nd o hj w;unfold bJ;cases hg:bZ N (j:Int) t w with
  |mk q N'=>
   rw[hg]at g1 g2;dsimp only at g1;subst g1;exact pg nd w ss N' g2 fun x hx=>h x (Tx _ hx)
structure Or(names:LNN)(ps:List Pl)(S:List (List Int))(am:List IC):Prop where
 nd:S.Nodup
 z:S[0]?=some (ps.map (·.1))
 ab:∀(x s:Int) (mv:List Nat),((x,mv,s):IC)∈am->∃i j:Nat,x=(i:Int)/\s=(j:Int)/\∃a b,S[i]?=some a/\S[j]?=some b/\bz (names.idxOf mv) (a.zip ps)=some b
 fu:∀(i:Nat) (mv:List Nat) (a t:List Int),mv∈names->S[i]?=some a->bz (names.idxOf mv) (a.zip ps)=some t->∃m:Nat,(((i:Int),mv,(m:Int)):IC)∈am
theorem yw{names:LNN}{ps:List Pl}{S:List (List Int)}{am:List IC}(r:Or names ps S am){n:Gt}(hn:∃j:Nat,n.1=(j:Int)/\S[j]?=some n.2.1)(mv:List Nat)(hm:mv∈names){N:List Gt}(o:Ow S N):(c6 names ps am n mv N).1=none/\Ow S (c6 names ps am n mv N).2:=by
 obtain⟨i,e1,e2⟩:=hn;have ar:∀s∈i4 am n.1 mv,∃(j:Nat) (t:List Int),s=(j:Int)/\S[j]?=some t/\bz (names.idxOf mv) (n.2.1.zip ps)=some t:=fun s hs=>by
  obtain⟨i',j,h1,h2,a,b,h3,h4,h5⟩:=r.ab _ _ _ (fD.mp hs);have:i'=i:=by lia
  rw[this,e2]at h3;rw[<-TX h3]at h5;exact⟨j,b,h2,h4,h5⟩
 unfold c6;cases hf:bz (names.idxOf mv) (n.2.1.zip ps) with
 |none=>
  cases hg:i4 am n.1 mv with
  |nil=>exact⟨rfl,o⟩
  |cons s ss=>
   exfalso;rw[hg,hf]at ar;obtain⟨j,t,_,_,h⟩:=ar s Ts;cases h
 |some t=>
  cases hg:i4 am n.1 mv with
  |nil=>
   exfalso;obtain⟨m,hm⟩:=r.fu i mv n.2.1 t hm e2 hf;have:=fD.mpr hm;rw[<-e1,hg]at this;cases this
  |cons s ss=>
   rw[hg,hf]at ar;refine pg r.nd _ (s::ss) N o fun x hx=>?_
   obtain⟨j,t',h1,h2,h3⟩:=ar x hx;rw[<-TX h3]at h2;exact⟨j,h1,h2⟩
theorem ph{names:LNN}{ps:List Pl}{S:List (List Int)}{am:List IC}(r:Or names ps S am){n:Gt}(hn:∃j:Nat,n.1=(j:Int)/\S[j]?=some n.2.1):∀(l:LNN),(∀mv∈l,mv∈names)->∀N,Ow S N->(aT names ps am n l N).1=none/\Ow S (aT names ps am n l N).2
 |[],_,N,o=>⟨rfl,o⟩
 |mv::l,hl,N,o=>by
  obtain⟨g1,g2⟩:=yw r hn mv (hl mv Ts) o;unfold aT;cases hg:c6 names ps am n mv N with
  |mk q N'=>
   rw[hg]at g1 g2;dsimp only at g1;subst g1;exact ph r hn l (fun x hx=>hl x (Tx _ hx)) N' g2
theorem rY{names:LNN}{ps:List Pl}{S:List (List Int)}{am:List IC}(r:Or names ps S am):∀(f k:Nat) (N:List Gt),Ow S N->(cC names ps am f k N).1=none
 | 0,k,N,o=>rfl
 |f+1,k,N,o=>by
  cases hk:N[k]? with
  |none=>rw[gS hk]
  |some n=>
   obtain⟨g1,g2⟩:=ph r (o n (T6 hk)) names (fun _ h=>h) N o;cases hg:aT names ps am n names N with
   |mk q N'=>
    rw[hg]at g1 g2;dsimp only at g1;subst g1;rw[jt hk hg];exact rY r f (k+1) N' g2
theorem rZ{names:LNN}{ps:List Pl}{S:List (List Int)}{am:List IC}(r:Or names ps S am):(walk names ps am).1=none:=
 rY r 13 0 (N0 ps) fun n hn=>by
  rw[lg hn];exact⟨0,rfl,r.z⟩
theorem wI{names:LNN}{ps:List Pl}{r:Rn}(hn:names.length<=3)(e:b8 names ps=some r):Or names ps r.1 (aU bp r.2):=by
 have h:=iZ (ps:=ps) hn;rw[e]at h;obtain⟨⟨m,rm⟩,fu,_⟩:=h;refine⟨rm.nd,rm.z,fun x s mv h=>?_,fun i mv a t hm hs hf=>?_⟩
 ·obtain⟨_,i,j,_,h1,h2,a,b,h3,h4,h5⟩:=rm.ab _ ((gy bp).mp h);exact⟨i,j,h1,h2,a,b,h3,h4,h5⟩
 ·obtain⟨k,hk,e⟩:=Vy hm;obtain⟨m,h1,h2⟩:=fu i k (.inl (mP hs).1) mv (by rw[iy hk,e]) a t hs hf;exact⟨m,(gy bp).mpr h2⟩
def lvl(all:List Pl)(m:List Int)(q:Pl):Int:=m.getD (all.idxOf q) 0
def sel(all P:List Pl)(m:List Int):List Int:=P.map (lvl all m)
section
variable{names:LNN}{all P P':List Pl}{S:List (List Int)}{A:List IC}
theorem r6{j:Nat}{m m':List Int}(hm:m.length=all.length)(h:bz j (m.zip all)=some m'){q:Pl}(hq:q∈all):I0 j q<=lvl all m q/\lvl all m' q=lvl all m q-I0 j q+Kk j q:=by
 have hi:all.idxOf q<all.length:=Uk hq;have Td:all.idxOf q<m.length:=by lia
 have e:(m.zip all)[all.idxOf q]?=some (m[all.idxOf q],q):=by
  rw[List.getElem?_zip_eq_some];exact⟨iy Td,by rw[iy hi,WL]⟩
 obtain⟨h1,h2⟩:=jY j h e;have e1:lvl all m q=m[all.idxOf q]:=by unfold lvl;rw[List.getD_eq_getElem?_getD,iy Td];rfl
 have e2:lvl all m' q=m[all.idxOf q]-I0 j q+Kk j q:=by unfold lvl;rw[List.getD_eq_getElem?_getD,h2];rfl
 unfold I0 at e2 ⊢;dsimp only at h1;rw[e1,e2];exact⟨by lia,rfl⟩
theorem mX(j:Nat)(m:List Int):bz j ((sel all P m).zip P)=if P.all (fun q=>decide (I0 j q<=lvl all m q)) then some (P.map fun q=>lvl all m q-I0 j q+Kk j q) else none:=by
 have e:(sel all P m).zip P=P.map fun q=>(lvl all m q,q):=by
  unfold sel;induction P with
  |nil=>rfl
  |cons q P ih=>rw[dZ,UI,ih,dZ]
 rw[e,gQ];unfold wY;rw[U7,TZ];rfl
theorem zo(hP:∀q∈P,q∈all){j:Nat}{m m':List Int}(hm:m.length=all.length)(h:bz j (m.zip all)=some m'):bz j ((sel all P m).zip P)=some (sel all P m'):=by
 rw[mX,TF (by
  rw[T8];exact fun q hq=>T9 (r6 hm h (hP q hq)).1)]
 congr 1
 unfold sel;exact Ur fun q hq=>(r6 hm h (hP q hq)).2.symm
theorem Eu(hP:∀q∈P,q∈all):sel all P (all.map (·.1))=P.map (·.1):=by
 unfold sel;refine Ur fun q hq=>?_
 have hi:all.idxOf q<all.length:=Uk (hP q hq);unfold lvl;rw[List.getD_eq_getElem?_getD,List.getElem?_map,iy hi,WL];rfl
structure Gd(names:LNN)(all:List Pl)(S:List (List Int))(P:List Pl):Prop where
 st:∀m∈S,∀mv∈names,bz (names.idxOf mv) (m.zip all)=none->∃q∈P,lvl all m q<I0 (names.idxOf mv) q
 ap:∀m∈S,∀m'∈S,m≠m'->∃q∈P,lvl all m q≠lvl all m' q
theorem Gd.mono(g:Gd names all S P)(h:∀q∈P,q∈P'):Gd names all S P':=⟨fun m hm mv hv hf=>by
 obtain⟨q,hq,e⟩:=g.st m hm mv hv hf;exact⟨q,h q hq,e⟩,fun m hm m' M6 Km=>by
 obtain⟨q,hq,e⟩:=g.ap m hm m' M6 Km;exact⟨q,h q hq,e⟩⟩
theorem Ew{m m':List Int}(e:sel all P m=sel all P m'){q:Pl}(hq:q∈P):lvl all m q=lvl all m' q:=by
 unfold sel at e;exact List.map_inj_left.mp e q hq
theorem Gd.sim(g:Gd names all S P)(hP:∀q∈P,q∈all)(ln:∀m∈S,m.length=all.length):Sim names all P (sel all P) S:=by
 refine⟨Eu hP,fun m hm mv hv=>?_,fun m hm m' M6 e=>?_⟩
 ·cases hf:bz (names.idxOf mv) (m.zip all) with
  |some m'=>exact zo hP (ln m hm) hf
  |none=>
   obtain⟨q,hq,IQ⟩:=g.st m hm mv hv hf;rw[mX,TJ (fun h=>by
    rw[T8]at h;have:=Vs (h q hq);lia)]
   rfl
 ·by_cases h:m=m'
  ·exact h
  ·obtain⟨q,hq,Km⟩:=g.ap m hm m' M6 h;exact absurd (Ew e hq) Km
theorem Or.gd{m0:Nat}{S':List (List Int)}{am:List IC}(r:Rm names all S A m0)(ha:∀a,a∈am<->a∈A)(hP:∀q∈P,q∈all)(o:Or names P S' am):Gd names all S P:=by
 have key:∀(i:Nat) (s:List Int),S[i]?=some s->S'[i]?=some (sel all P s):=by
  intro i;induction i using Nat.strongRecOn with
  |_ i ih=>
   intro s hs;have Mt:=(mP hs).1;by_cases h0:i=0
   ·subst h0;rw[r.z,Wf]at hs;rw[<-hs,Eu hP];exact o.z
   ·obtain⟨a,Te,e1,b,hb,e2⟩:=r.rc i (by lia) Mt;obtain⟨hn,i',j',_,e3,e4,x,y,hx,hy,hf⟩:=r.ab a Te;have:i'=b:=by lia
    subst this;have:j'=i:=by lia
    subst this;rw[hs]at hy;cases hy;obtain⟨i2,j2,q1,q2,u,v,hu,hv,QQ⟩:=o.ab a.1 a.2.2 a.2.1 ((ha _).mpr Te);have:i2=i':=by lia
    subst this;have:j2=j':=by lia
    subst this;rw[ih i2 hb x hx]at hu;cases hu;rw[zo hP (r.ln x (T6 hx)) hf]at QQ;cases QQ;exact hv
 refine⟨fun m hm mv hv hf=>?_,fun m hm m' M6 Km=>?_⟩
 ·obtain⟨i,hi⟩:=Uv.mp hm;cases hc:P.all (fun q=>decide (I0 (names.idxOf mv) q<=lvl all m q)) with
  |true=>
   exfalso;obtain⟨k,hk⟩:=o.fu i mv _ _ hv (key i m hi) (by rw[mX,hc,TF rfl]);obtain⟨_,i',j',_,e3,_,x,y,hx,_,QQ⟩:=r.ab _ ((ha _).mp hk);have:i'=i:=by
    have:(i:Int)=(i':Int):=e3;lia
   subst this;rw[hi]at hx;cases hx;rw[hf]at QQ;cases QQ
  |false=>
   rw[List.all_eq_false]at hc;obtain⟨q,hq,h⟩:=hc;rw[TQ]at h;exact⟨q,hq,by lia⟩
 ·obtain⟨i,hi⟩:=Uv.mp hm;obtain⟨j,hj⟩:=Uv.mp M6;cases hc:P.all (fun q=>decide (lvl all m q=lvl all m' q)) with
  |true=>
   exfalso;rw[T8]at hc;have e:sel all P m=sel all P m':=Ur fun q hq=>Vs (hc q hq)
   have k1:=key i m hi;have k2:=key j m' hj;rw[e]at k1;obtain⟨h1,h2⟩:=mP k1;obtain⟨h3,h4⟩:=mP k2;have:i=j:=by
    have pw:=VN.mp o.nd;rcases Nat.lt_trichotomy i j with hl|hl|hl
    ·exact absurd (h2.trans h4.symm) (pw i j h1 h3 hl)
    ·exact hl
    ·exact absurd (h4.trans h2.symm) (pw j i h3 h1 hl)
   subst this;rw[hi]at hj;exact Km (TX hj)
  |false=>
   rw[List.all_eq_false]at hc;obtain⟨q,hq,h⟩:=hc;rw[TQ]at h;exact⟨q,hq,h⟩
end
section
variable{ok:List Pl->Bool}
def fP(ok:List Pl->Bool):Nat->List Pl->List Pl
 | 0,P=>P
 |k+1,P=>if ok (P.eraseIdx k) then fP ok k (P.eraseIdx k) else fP ok k P
theorem mY:∀(k:Nat) (P:List Pl),(fP ok k P).Sublist P
 | 0,P=>List.Sublist.refl _
 |k+1,P=>by
  unfold fP;split
  ·exact(mY k _).trans (List.eraseIdx_sublist _ _)
  ·exact mY k P
theorem qu:∀(k:Nat) {P:List Pl},ok P=true->ok (fP ok k P)=true
 | 0,P,h=>h
 |k+1,P,h=>by
  unfold fP;split
  ·rename_i h';exact qu k h'
  ·exact qu k h
theorem m5{all:List Pl}(mono:∀P P',ok P=true->(∀q∈P,q∈P')->(∀q∈P',q∈all)->ok P'=true):∀(k:Nat) (P:List Pl),k<=P.length->(∀q∈P,q∈all)->(∀j,k<=j->j<P.length->ok (P.eraseIdx j)=false)->∀j,j<(fP ok k P).length->ok ((fP ok k P).eraseIdx j)=false
 | 0,P,_,_,h=>fun j hj=>h j (Ug _) hj
 |k+1,P,hk,hP,h=>by
  unfold fP;split
  ·rename_i hok;have hl:(P.eraseIdx k).length=P.length-1:=List.length_eraseIdx_of_lt (by lia);refine m5 mono k (P.eraseIdx k) (by lia) (fun q hq=>hP q (UO hq)) fun j h1 h2=>?_
   cases hc:ok ((P.eraseIdx k).eraseIdx j) with
   |false=>rfl
   |true=>
    rw[<-h (j+1) (by lia) (by lia)];refine(mono _ _ hc (fun q hq=>?_) fun q hq=>hP q (UO hq)).symm;rw[List.mem_eraseIdx_iff_getElem?]at hq ⊢;obtain⟨i,hi,e⟩:=hq;rw[List.getElem?_eraseIdx]at e;split at e
    ·exact⟨i,by lia,e⟩
    ·exact⟨i+1,by lia,e⟩
  ·rename_i Q1;refine m5 mono k P (by lia) hP fun j h1 h2=>?_
   by_cases e:j=k
   ·subst e;simpa using Q1
   ·exact h j (by lia) h2
theorem lV{F:List Pl}(h:∀j,j<F.length->ok (F.eraseIdx j)=false):∀k,k<=F.length->fP ok k F=F
 | 0,_=>rfl
 |k+1,hk=>by
  unfold fP;rw[h k (by lia),TJ Tz];exact lV h k (by lia)
end
def Dj(N:List Gt):Prop:=∀n∈N,∀n'∈N,n.2.1=n'.2.1->n.1=n'.1
def Has(N:List Gt)(s:Int)(m:List Int):Prop:=∃n∈N,n.1=s/\n.2.1=m
theorem BW{N:List Gt}{s:Int}{m:List Int}{w:LNN}(h:(bZ N s m w).1=none)(dj:Dj N):Dj (bZ N s m w).2/\Has (bZ N s m w).2 s m/\∀n∈N,n∈(bZ N s m w).2:=by
 unfold bZ jr at h ⊢;cases hf:N.find? (tS s m) with
 |some n=>
  rw[hf]at h;cases h
 |none=>
  rw[hf]at h;rw[List.find?_eq_none]at hf;have no:∀n∈N,n.2.1=m->n.1=s:=fun n hn e=>by
   have:=hf n hn;unfold tS at this;rw[e,T9 rfl,V3]at this;simpa using this
  dsimp only at h ⊢;cases hs:N.find? fun n=>n.1==s with
  |none=>
   dsimp only;refine⟨fun n hn n' Oj e=>?_,⟨(s,m,w),Tv _ (TY.mpr rfl),rfl,rfl⟩,fun n hn=>TC _ hn⟩;rcases tM hn with h1|h1 <;> rcases tM Oj with h2|h2
   ·exact dj n h1 n' h2 e
   ·rw[lg h2]at e ⊢;exact no n h1 e
   ·rw[lg h1]at e ⊢;exact(no n' h2 e.symm).symm
   ·rw[lg h1,lg h2]
  |some n=>
   rw[hs]at h;dsimp only at h ⊢;have h1:=List.find?_some hs;have h1:n.1=s:=by simpa using h1
   by_cases hm:n.2.1=m
   ·rw[TF hm];exact⟨dj,⟨n,List.mem_of_find?_eq_some hs,h1,hm⟩,fun _ h=>h⟩
   ·rw[TJ hm]at h;cases h
theorem Has.up{N N':List Gt}{s:Int}{m:List Int}(h:Has N s m)(u:∀n∈N,n∈N'):Has N' s m:=by
 obtain⟨n,hn,e⟩:=h;exact⟨n,u n hn,e⟩
theorem r9(m:List Int)(w:LNN):∀(ss:List Int) (N:List Gt),(bJ m w ss N).1=none->Dj N->Dj (bJ m w ss N).2/\(∀s∈ss,Has (bJ m w ss N).2 s m)/\∀n∈N,n∈(bJ m w ss N).2
 |[],N,_,dj=>⟨dj,(fun _ h=>nomatch h),fun _ h=>h⟩
 |s::ss,N,h,dj=>by
  have g:=BW (N:=N) (s:=s) (m:=m) (w:=w);unfold bJ at h ⊢;cases hg:bZ N s m w with
  |mk o N'=>
   rw[hg]at g h;cases o with
   |some d=>cases h
   |none=>
    dsimp only at g h ⊢;obtain⟨g1,g2,g3⟩:=g rfl dj;obtain⟨i1,i2,i3⟩:=r9 m w ss N' h g1;refine⟨i1,fun x hx=>?_,fun n hn=>i3 n (g3 n hn)⟩;rcases TK.mp hx with rfl|hx
    ·exact g2.up i3
    ·exact i2 x hx
section
variable{names:LNN}{ps:List Pl}{am:List IC}
structure Mk(names:LNN)(ps:List Pl)(am:List IC)(N:List Gt)(n:Gt)(mv:List Nat):Prop where
 a:∀s∈i4 am n.1 mv,∃t,bz (names.idxOf mv) (n.2.1.zip ps)=some t/\Has N s t
 b:∀t,bz (names.idxOf mv) (n.2.1.zip ps)=some t->∃s,s∈i4 am n.1 mv
theorem Mk.up{N N':List Gt}{n:Gt}{mv:List Nat}(k:Mk names ps am N n mv)(u:∀n∈N,n∈N'):Mk names ps am N' n mv:=⟨fun s hs=>by
 obtain⟨t,h1,h2⟩:=k.a s hs;exact⟨t,h1,h2.up u⟩,k.b⟩
theorem BX{n:Gt}{mv:List Nat}{N:List Gt}(h:(c6 names ps am n mv N).1=none)(dj:Dj N):Dj (c6 names ps am n mv N).2/\Mk names ps am (c6 names ps am n mv N).2 n mv/\∀x∈N,x∈(c6 names ps am n mv N).2:=by
 unfold c6 at h ⊢;cases hf:bz (names.idxOf mv) (n.2.1.zip ps) with
 |none=>
  rw[hf]at h;cases hgs:i4 am n.1 mv with
  |nil=>exact⟨dj,⟨(fun s hs=>by rw[hgs]at hs;cases hs),(fun t ht=>by rw[hf]at ht;cases ht)⟩,fun _ h=>h⟩
  |cons s ss=>rw[hgs]at h;cases h
 |some t=>
  rw[hf]at h;cases hgs:i4 am n.1 mv with
  |nil=>rw[hgs]at h;cases h
  |cons s ss=>
   rw[hgs]at h;obtain⟨g1,g2,g3⟩:=r9 t (n.2.2++[mv]) (s::ss) N h dj;exact⟨g1,⟨fun x hx=>⟨t,hf,g2 x (by rw[hgs]at hx;exact hx)⟩,fun _ _=>⟨s,by rw[hgs];exact Ts⟩⟩,g3⟩
theorem sd{n:Gt}:∀(l:LNN) (N:List Gt),(aT names ps am n l N).1=none->Dj N->Dj (aT names ps am n l N).2/\(∀mv∈l,Mk names ps am (aT names ps am n l N).2 n mv)/\∀x∈N,x∈(aT names ps am n l N).2
 |[],N,_,dj=>⟨dj,(fun _ h=>nomatch h),fun _ h=>h⟩
 |mv::l,N,h,dj=>by
  have g:=BX (names:=names) (ps:=ps) (am:=am) (n:=n) (mv:=mv) (N:=N);unfold aT at h ⊢;cases hg:c6 names ps am n mv N with
  |mk o N'=>
   rw[hg]at g h;cases o with
   |some d=>cases h
   |none=>
    dsimp only at g h ⊢;obtain⟨g1,g2,g3⟩:=g rfl dj;obtain⟨i1,i2,i3⟩:=sd l N' h g1;refine⟨i1,fun x hx=>?_,fun n hn=>i3 n (g3 n hn)⟩;rcases TK.mp hx with rfl|hx
    ·exact g2.up i3
    ·exact i2 x hx
def Ck(names:LNN)(ps:List Pl)(am:List IC)(N:List Gt)(k:Nat):Prop:=∀(j:Nat) (n:Gt),j<k->N[j]?=some n->∀mv∈names,Mk names ps am N n mv
theorem wJ(hb:∀a∈am,0<=a.2.2/\a.2.2<12):∀(f k:Nat) (N:List Gt),Iv N->k<=N.length->13<=f+k->Dj N->Ck names ps am N k->(cC names ps am f k N).1=none->Iv (cC names ps am f k N).2/\Dj (cC names ps am f k N).2/\Ck names ps am (cC names ps am f k N).2 (cC names ps am f k N).2.length/\∀x∈N,x∈(cC names ps am f k N).2
 | 0,k,N,i,hk,hf,_,_,_=>by
  have:=i.le;lia
 |f+1,k,N,i,hk,hf,dj,ck,h=>by
  by_cases IQ:k<N.length
  ·have KZ:N[k]?=some N[k]:=iy IQ;have Oq:=i.wl k _ KZ;have gr:=gR (names:=names) (ps:=ps) hb names i (n:=N[k]) (by lia);have md:=sd (names:=names) (ps:=ps) (am:=am) (n:=N[k]) names N;cases hg:aT names ps am N[k] names N with
   |mk o N'=>
    rw[hg]at gr md;cases o with
    |some d=>rw[i5 KZ hg]at h;cases h
    |none=>
     rw[jt KZ hg]at h ⊢;dsimp only at gr md;obtain⟨g1,g2,g3⟩:=md rfl dj;have hl:=gr.le;obtain⟨more,em⟩:=gr.ex;obtain⟨i0,i1,i2,i3⟩:=wJ hb f (k+1) N' gr.iv (by lia) (by lia) g1 (fun j n hj hn mv Ls=>by
      have Pk:N[j]?=some n:=by rw[em,List.getElem?_append_left (by lia)]at hn;exact hn
      by_cases ej:j=k
      ·subst ej;rw[KZ]at Pk;cases Pk;exact g2 mv Ls
      ·exact(ck j n (by lia) Pk mv Ls).up g3) h
     exact⟨i0,i1,i2,fun x hx=>i3 x (g3 x hx)⟩
  ·have KZ:N[k]?=none:=List.getElem?_eq_none (by lia);have ek:k=N.length:=by lia
   rw[gS KZ];exact⟨i,dj,ek▸ck,fun _ h=>h⟩
theorem BY{mZ:Nat}(r:Ra names am mZ)(h:(walk names ps am).1=none):∃S,Or names ps S am:=by
 have hm:=r.mm;have hb:∀a∈am,0<=a.2.2/\a.2.2<12:=fun a ha=>by
  have:=r.bd a ha;lia
 obtain⟨_,w2,w3⟩:=walk_all r h;obtain⟨iv,dj,ck,up⟩:=wJ (names:=names) (ps:=ps) hb 13 0 (N0 ps) (Sk ps) (Ug _) (by lia) (fun n hn n' Oj _=>by rw[lg hn,lg Oj]) (fun j n hj=>by lia) h;unfold walk at h w2 w3;generalize cC names ps am 13 0 (N0 ps)=W at h w2 w3 iv dj ck up;have ent:∀{s:Int}{m:List Int},Has W.2 s m->mk W.2 s=m:=fun{s m} h=>by
  obtain⟨n,hn,e1,e2⟩:=h;rw[<-e1,Eo (rV iv.nd hn),e2]
 have get:∀s:Nat,s<W.2.length->∃n∈W.2,n.1=(s:Int)/\mk W.2 (s:Int)=n.2.1:=fun s hs=>by
  obtain⟨n,hn,e⟩:=rK (w3 s hs);exact⟨n,hn,e,ent ⟨n,hn,e,rfl⟩⟩
 have at_:∀s:Nat,s<W.2.length->((List.range W.2.length).map fun(s:Nat)=>mk W.2 (s:Int))[s]?=some (mk W.2 (s:Int)):=fun s hs=>by
  rw[List.getElem?_map,List.getElem?_range hs];rfl
 have z:((0:Int),ps.map (·.1),([]:LNN))∈W.2:=up _ (TY.mpr rfl);refine⟨(List.range W.2.length).map fun(s:Nat)=>mk W.2 (s:Int),d4 _ _ fun i j hi hj e=>?_,?_,fun x s mv ha=>?_,fun i mv a t Ls hi hf=>?_⟩
 ·obtain⟨n,hn,e1,e2⟩:=get i hi;obtain⟨n',Oj,Pw,OA⟩:=get j hj;have:=dj n hn n' Oj (by rw[<-e2,<-OA];exact e);lia
 ·rw[at_ 0 (Wa z)];congr 1
  exact ent ⟨_,z,rfl,rfl⟩
 ·have bd:=r.bd _ ha;have lt:=o5 ha;dsimp only at bd lt;obtain⟨i,rfl⟩:=Up bd.1.1;obtain⟨j,rfl⟩:=Up bd.2.1;obtain⟨n,hn,e1,e2⟩:=get i (by lia);obtain⟨k,hk,ek⟩:=Vy hn;obtain⟨t,ht,hs⟩:=(ck k n hk (by rw[iy hk,ek]) mv (r.nm _ ha)).a j (fD.mpr (by rw[e1];exact ha));exact⟨i,j,rfl,rfl,_,_,at_ i (by lia),at_ j (by lia),by rw[e2,ent hs];exact ht⟩
 ·have Mt:=(mP hi).1;rw[bL,T3]at Mt;rw[at_ i Mt]at hi;obtain⟨n,hn,e1,e2⟩:=get i Mt;obtain⟨k,hk,ek⟩:=Vy hn;rw[<-TX hi,e2]at hf;obtain⟨s,hs⟩:=(ck k n hk (by rw[iy hk,ek]) mv Ls).b t hf;have hs:=fD.mp hs;have bd:=r.bd _ hs;dsimp only at bd;obtain⟨j,rfl⟩:=Up bd.2.1;exact⟨j,by rw[<-e1];exact hs⟩
end
section
variable{names:LNN}{ps:List Pl}{q q' q2:Pl}{K4 QR:List Int->Int}
theorem Im.run(im:Im names ps q K4)(k:Nat){r:Rn}(e:b8 names ps=some r)(ln:∀m∈r.1,m.length=ps.length):b8 names (Kr k q ps)=some (hR (fun m=>Kr k (K4 m) m) r):=
 lT e ⟨by rw[wq,im.z],fun m hm mv hv=>yn im k _ (Uk hv) m (ln m hm),fun m hm m' M6 e=>BJ k ((ln m hm).trans (ln m' M6).symm) e⟩
theorem Im.at{i:Nat}(hi:ps[i]?=some q):Im names ps q fun m=>m.getD i 0:=by
 have hl:=(mP hi).1;refine⟨by rw[List.getD_eq_getElem?_getD,List.getElem?_map,hi];rfl,fun j m m' _ hm hf=>?_⟩;have NV:i<m.length:=by lia
 have e:(m.zip ps)[i]?=some (m[i],q):=by
  rw[List.getElem?_zip_eq_some];exact⟨iy NV,hi⟩
 obtain⟨h1,h2⟩:=jY j hf e;have e1:m.getD i 0=m[i]:=by rw[List.getD_eq_getElem?_getD,iy NV];rfl
 have e2:m'.getD i 0=m[i]-I0 j q+Kk j q:=by rw[List.getD_eq_getElem?_getD,h2];rfl
 unfold I0 at e2 ⊢;dsimp only at h1 ⊢;rw[e1,e2];exact⟨by lia,rfl⟩
theorem Im.sum(a:Im names ps q K4)(b:Im names ps q' QR)(h0:q2.1=q.1+q'.1)(ht:∀j,j<names.length->I0 j q2=I0 j q+I0 j q')(hg:∀j,j<names.length->Kk j q2=Kk j q+Kk j q'):Im names ps q2 fun m=>K4 m+QR m:=by
 refine⟨by rw[a.z,b.z,h0],fun j m m' hj hm hf=>?_⟩;have h1:=a.mv j m m' hj hm hf;have h2:=b.mv j m m' hj hm hf;have h3:=ht j hj;have h4:=hg j hj;lia
theorem Im.more(a:Im names ps q K4)(c:Int)(hc:0<=c):Im names ps (q.1+c,q.2) fun m=>K4 m+c:=by
 refine⟨by rw[a.z],fun j m m' hj hm hf=>?_⟩;have h1:=a.mv j m m' hj hm hf;have e1:I0 j (q.1+c,q.2)=I0 j q:=rfl;have e2:Kk j (q.1+c,q.2)=Kk j q:=rfl;lia
theorem Im.three(a:Im names ps q K4)(h0:q2.1=q.1*3)(ht:∀j,j<names.length->I0 j q2=I0 j q*3)(hg:∀j,j<names.length->Kk j q2=Kk j q*3):Im names ps q2 fun m=>K4 m*3:=by
 refine⟨by rw[a.z,h0],fun j m m' hj hm hf=>?_⟩;have h1:=a.mv j m m' hj hm hf;have h3:=ht j hj;have h4:=hg j hj;lia
end
section
variable{names:LNN}{ps P:List Pl}{r:Rn}
theorem m6(hn:names.length<=3)(e:b8 names ps=some r):∃m,Rm names ps r.1 r.2 m:=by
 have h:=iZ (ps:=ps) hn;rw[e]at h;exact h.1
theorem Ex(hn:names.length<=3)(e:b8 names ps=some r)(hP:∀q∈P,q∈ps){r':Rn}(e':b8 names P=some r')(ea:aU bp r'.2=aU bp r.2):Gd names ps r.1 P:=by
 obtain⟨m,rm⟩:=m6 hn e;have o:=wI hn e';rw[ea]at o;exact o.gd rm (fun a=>gy bp) hP
theorem zp(hn:names.length<=3)(e:b8 names ps=some r)(hP:∀q∈P,q∈ps)(g:Gd names ps r.1 P):b8 names P=some (hR (sel ps P) r):=by
 obtain⟨m,rm⟩:=m6 hn e;exact lT e (g.sim hP rm.ln)
theorem Gp(hn:names.length<=3)(e:b8 names ps=some r)(hP:∀q∈P,q∈ps):(walk names P (aU bp r.2)).1=none<->Gd names ps r.1 P:=by
 obtain⟨m,rm⟩:=m6 hn e;constructor
 ·intro h;obtain⟨S,o⟩:=BY (zh hn e).sort h;exact o.gd rm (fun a=>gy bp) hP
 ·intro g;exact rZ (wI (r:=hR (sel ps P) r) hn (zp hn e hP g))
end
def okb(names:LNN)(am:List IC)(P:List Pl):Bool:=(walk names P am).1.isNone
theorem sf{names:LNN}{ps P:List Pl}{r:Rn}(hn:names.length<=3)(e:b8 names ps=some r)(hP:∀q∈P,q∈ps):okb names (aU bp r.2) P=true<->Gd names ps r.1 P:=by
 rw[<-Gp hn e hP];unfold okb;rw[Option.isNone_iff_eq_none]
theorem si{names:LNN}{ps:List Pl}{r:Rn}(hn:names.length<=3)(e:b8 names ps=some r)(P P':List Pl)(h:okb names (aU bp r.2) P=true)(h1:∀q∈P,q∈P')(h2:∀q∈P',q∈ps):okb names (aU bp r.2) P'=true:=
 (sf hn e h2).mpr (((sf hn e fun q hq=>h2 q (h1 q hq)).mp h).mono h1)
theorem yx{names:LNN}{ps:List Pl}{r:Rn}(hn:names.length<=3)(e:b8 names ps=some r):okb names (aU bp r.2) ps=true:=by
 unfold okb;rw[rZ (wI hn e)];rfl
def qw:List Nat:=[115,97,109,101]
def Df(d:D):Prop:=∃l a b,d=.tup [.str l,a,b]/\l≠qw
theorem BZ{N:List Gt}{s:Int}{m:List Int}{w:LNN}:∀d,(bZ N s m w).1=some d->Df d:=by
 unfold bZ jr;intro d h;split at h
 ·rename_i d' hd;cases h;split at hd
  ·cases hd;exact⟨_,_,_,rfl,by decide⟩
  ·split at hd
   ·cases hd
   ·split at hd
    ·cases hd
    ·cases hd;exact⟨_,_,_,rfl,by decide⟩
 ·cases h
theorem sj(m:List Int)(w:LNN):∀(ss:List Int) (N:List Gt) d,(bJ m w ss N).1=some d->Df d
 |[],N,d,h=>by cases h
 |s::ss,N,d,h=>by
  unfold bJ at h;split at h
  ·rename_i d' N' e;cases h;exact BZ (N:=N) (s:=s) (m:=m) (w:=w) d (by rw[e])
  ·exact sj m w ss _ d h
theorem sk(names:LNN)(ps:List Pl)(am:List IC)(n:Gt):∀(l:LNN) (N:List Gt) d,(aT names ps am n l N).1=some d->Df d
 |[],N,d,h=>by cases h
 |mv::l,N,d,h=>by
  unfold aT at h;split at h
  ·rename_i d' N' e;cases h;have h:(c6 names ps am n mv N).1=some d:=by rw[e]
   unfold c6 at h;split at h
   ·cases h
   ·cases h;exact⟨_,_,_,rfl,by decide⟩
   ·cases h;exact⟨_,_,_,rfl,by decide⟩
   ·exact sj _ _ _ _ d h
  ·exact sk names ps am n l _ d h
theorem wK(names:LNN)(ps:List Pl)(am:List IC):∀(f k:Nat) (N:List Gt) d,(cC names ps am f k N).1=some d->Df d
 | 0,k,N,d,h=>by cases h
 |f+1,k,N,d,h=>by
  cases hk:N[k]? with
  |none=>rw[gS hk]at h;cases h
  |some n=>
   cases hg:aT names ps am n names N with
   |mk o N'=>
    cases o with
    |some d'=>
     rw[i5 hk hg]at h;cases h;exact sk names ps am n names N d (by rw[hg])
    |none=>
     rw[jt hk hg]at h;exact wK names ps am f (k+1) N' d h
theorem Ra.nc{names:LNN}{ps:List Pl}{am:List IC}{mZ:Nat}(r:Ra names am mZ)(hl:ps.length<=100)(hp:∀q∈ps,JQ q names.length):Nc names ps am:=⟨hl,hp,r.len,fun a ha=>by
 have:=r.bd a ha;have:=r.mm;lia⟩
theorem pj{names:LNN}{P:List Pl}{am:List IC}{mZ:Nat}(ra:Ra names am mZ)(hl:P.length<=100)(hp:∀q∈P,JQ q names.length):dU [IG names am,eN names P]=.ok (.f,.bl (okb names am P)):=by
 have c:=ra.nc hl hp;have hm:=ra.mm;have L1:=o6 hm.1 ra.bd;have hh:=Es c ⟨by lia,by lia⟩ fun h s hs=>(walk_all ra h).2.2 s (by have:=(walk_all ra h).2.1;lia)
 have e:∀l:List Nat,JW (.str l) (.str [115,97,109,101])=.ok (.f,.bl (decide (l=qw))):=fun l=>by
  have z:(l==qw)=decide (l=qw):=by
   rw[T5];simp
  show Res.ok (O.f,D.bl (l==qw))=_;rw[z]
 unfold dU oR okb;rw[bD (h:=by rfl)];generalize eN names P=NE at hh ⊢;generalize IG names am=CE at hh ⊢;cases hw:(walk names P am).1 with
 |some d=>
  rw[hw]at hh;obtain⟨l,a,b,rfl,Km⟩:=wK names P am 13 0 (N0 P) d hw;have a0:Ju [D.str l,a,b] (0:Int)=some (.str l):=rfl;have el:=e l;rw[T4 Km]at el;rw[VP]at hh;cases hfd:flatD (.tup [.str l,a,b]) with
  |true=>simp only[pv,seval,op,hh,hfd,a0,el,V6]
  |false=>simp only[pv,seval,op,hh,hfd,a0,el,V6,yc,eI]
 |none=>
  rw[hw,Ve]at hh;unfold Ep at hh;have a0:∀x y:D,Ju (x::y::[]) (0:Int)=some x:=fun _ _=>rfl
  have el:=e qw;rw[T9 rfl]at el;unfold qw at el;simp only[pv,seval,op,hh,a0,el,Ya]
theorem zq(P:List Pl)(k:Nat)(hl:P.length<=100):cW (.lst (iL (P.map eP) none (some (k:Int)))) (.lst (iL (P.map eP) (some ((k:Int)+1)) none))=.ok (.l .f,.lst ((P.eraseIdx k).map eP)):=by
 have e:(k:Int)+1=((k+1:Nat):Int):=by lia
 rw[qi,qi,mR,e,ya,vY,TF (line_le (by rw[bL,bL,Ud,UK];lia)),List.eraseIdx_eq_take_drop_succ,TV]
theorem Ey{names:LNN}{am:List IC}{mZ:Nat}(ra:Ra names am mZ)(ps P:List Pl)(hl:P.length<=100)(hp:∀q∈P,JQ q names.length)(o2:O)(ho:sV o2=true)(k:Nat)(t4:Option R):
  ∃u4 o3,sV o3=true/\d8 [some (.f,IG names am),some (.f,eN names ps),some (o2,.lst (P.map eP)),some (.f,.int (k:Int)),t4]=.ok (.nx [some (.f,IG names am),some (.f,eN names ps),some (o3,.lst ((if okb names am (P.eraseIdx k) then P.eraseIdx k else P).map eP)),some (.f,.int (k:Int)),u4]):=by
 have hr:=pj (P:=P.eraseIdx k) ra (by have:=V7 P k;lia) fun q hq=>hp q (UO hq)
 have Ks:Ih (eN names ps) (.int 0)=.ok (.f,.tup (names.map D.str)):=rfl;have ha:=zq P k hl;unfold d8;rw[show eN names (P.eraseIdx k)=.tup [.tup (names.map D.str),.lst ((P.eraseIdx k).map eP)] from rfl]at hr;generalize eN names ps=NE at Ks ⊢;generalize IG names am=CE at hr ⊢;rw[ay (env':=[some (.f,CE),some (.f,NE),some (o2,.lst (P.map eP)),some (.f,.int (k:Int)),some (.l .f,.lst ((P.eraseIdx k).map eP))]) (by
  simp only[pv,seval,op,ha,ho])]
 cases hb:okb names am (P.eraseIdx k) with
 |true=>
  rw[hb]at hr;rw[TF rfl];refine⟨some (.f,.lst ((P.eraseIdx k).map eP)),.f,rfl,?_⟩;simp only[pv,seval,op,Ks,hr]
 |false=>
  rw[hb]at hr;rw[TJ Tz];refine⟨some (.f,.lst ((P.eraseIdx k).map eP)),o2,ho,?_⟩;simp only[pv,seval,op,Ks,hr,eI]
def Ez:Nat->List D
 | 0=>[]
 |k+1=>.int (k:Int)::Ez k
theorem wL:∀n:Nat,(List.range n).map (fun(k:Nat)=>D.int (((n:Int)-1)+(k:Int) * -1))=Ez n
 | 0=>rfl
 |n+1=>by
  rw[Ez,Xg,dZ,TZ,<-wL n];congr 1
  ·congr 1
   lia
  ·refine Ur fun k _=>?_
   show D.int _=D.int _;congr 1
   lia
theorem k9{names:LNN}{am:List IC}{mZ:Nat}(ra:Ra names am mZ)(ps:List Pl):∀(k:Nat) (P:List Pl),P.length<=100->(∀q∈P,JQ q names.length)->∀(o2:O),sV o2=true->∀t3 t4:Option R,
  ∃u3 u4 o3,sV o3=true/\d6 (aH 3) d8 (Ez k) [some (.f,IG names am),some (.f,eN names ps),some (o2,.lst (P.map eP)),t3,t4]=.ok (.nx [some (.f,IG names am),some (.f,eN names ps),some (o3,.lst ((fP (okb names am) k P).map eP)),u3,u4])
 | 0,P,_,_,o2,ho,t3,t4=>⟨t3,t4,o2,ho,rfl⟩
 |k+1,P,hl,hp,o2,ho,t3,t4=>by
  obtain⟨v4,o3,Rt,e⟩:=Ey ra ps P hl hp o2 ho k t4;have ha:aH 3 (.int (k:Int)) [some (.f,IG names am),some (.f,eN names ps),some (o2,.lst (P.map eP)),t3,t4]=.ok [some (.f,IG names am),some (.f,eN names ps),some (o2,.lst (P.map eP)),some (.f,.int (k:Int)),t4]:=rfl;unfold fP Ez;cases hb:okb names am (P.eraseIdx k) with
  |true=>
   rw[hb,TF rfl]at e;obtain⟨u3,u4,o4,h4,e4⟩:=k9 ra ps k (P.eraseIdx k) (by have:=V7 P k;lia) (fun q hq=>hp q (UO hq)) o3 Rt (some (.f,.int (k:Int))) v4;refine⟨u3,u4,o4,h4,?_⟩;rw[TF rfl,cB,ha,IF,e,IF];exact e4
  |false=>
   rw[hb,TJ Tz]at e;obtain⟨u3,u4,o4,h4,e4⟩:=k9 ra ps k P hl hp o3 Rt (some (.f,.int (k:Int))) v4;refine⟨u3,u4,o4,h4,?_⟩;rw[TJ Tz,cB,ha,IF,e,IF];exact e4
theorem pk{names:LNN}{am:List IC}{mZ:Nat}(ra:Ra names am mZ)(ps:List Pl)(hl:ps.length<=100)(hp:∀q∈ps,JQ q names.length)(hok:okb names am ps=true):
  dW [IG names am,eN names ps]=.ok (.f,eN names (fP (okb names am) ps.length ps)):=by
 have hr:=pj ra hl hp;rw[hok]at hr;obtain⟨u3,u4,o3,Rt,e⟩:=k9 ra ps ps.length ps hl hp (.l .f) rfl none none;have Ks:Ih (eN names ps) (.int 0)=.ok (.f,.tup (names.map D.str)):=rfl;have Mj:Ih (eN names ps) (.int 1)=.ok (.f,.lst (ps.map eP)):=rfl;unfold dW oS;rw[bD (h:=by rfl)];rw[show eN names (fP (okb names am) ps.length ps)=.tup [.tup (names.map D.str),.lst ((fP (okb names am) ps.length ps).map eP)] from rfl];generalize eN names ps=NE at hr e Ks Mj ⊢;generalize IG names am=CE at hr e ⊢;rw[ay (env':=[some (.f,CE),some (.f,NE),none,none,none]) (by
  simp only[pv,seval,op,hr,VI,eI])]
 rw[ay (env':=[some (.f,CE),some (.f,NE),some (.l .f,.lst (ps.map eP)),none,none]) (by
  simp only[pv,seval,op,Mj])]
 have L1:kz ((ps.length:Int)-1) (-1) (-1):=by
  unfold kz;lia
 have hsz:(Builtin.Range.rangeSize ((ps.length:Int)-1) (-1) (-1)).toNat=ps.length:=by
  unfold Builtin.Range.rangeSize;split
  ·lia
  ·split
   ·lia
   ·lia
 rw[ay (env':=[some (.f,CE),some (.f,NE),some (o3,.lst ((fP (okb names am) ps.length ps).map eP)),u3,u4]) (by
  unfold kH;simp only[pv,seval,op,Mj,bL,L1,hsz,VY];rw[wL];exact e)]
 unfold jC;simp only[pv,seval,op,Ks,Rt]
def pq(cnt:Nat)(p q:Pl):Pl:=(p.1+q.1,(List.range cnt).map fun(k:Nat)=>I0 k p+I0 k q,(List.range cnt).map fun(k:Nat)=>Kk k p+Kk k q)
def yy(p:Pl):Pl:=(p.1*3,p.2.1.map (·* 3),p.2.2.map (·* 3))
theorem so(p q:Pl)(cnt:Nat)(c:Int)(f:Nat->Pl->Int)(h1:∀k,k<cnt->∃l,Ju [D.int p.1,.tup (p.2.1.map D.int),.tup (p.2.2.map D.int)] c=some (.tup l)/\Ju l (k:Int)=some (.int (f k p)))(h2:∀k,k<cnt->∃l,Ju [D.int q.1,.tup (q.2.1.map D.int),.tup (q.2.2.map D.int)] c=some (.tup l)/\Ju l (k:Int)=some (.int (f k q))):
  dv (aH 0) fH (aA cW (aq (aA Ih (aq (aA Ih (aw 1) (aq (aF (.int c))))) (aw 0))) (aq (aA Ih (aq (aA Ih (aw 2) (aq (aF (.int c))))) (aw 0)))) ((List.range cnt).map fun(k:Nat)=>D.int (k:Int)) [none,some (.f,eP p),some (.f,eP q)]=.ok (((List.range cnt).map fun(k:Nat)=>f k p+f k q).map D.int):=by
 rw[TZ];refine cJ (fun env=>∃t,env=[t,some (.f,eP p),some (.f,eP q)]) _ ?_ _ ⟨_,rfl⟩;rintro k hk env ⟨t,rfl⟩;obtain⟨l,e1,e2⟩:=h1 k (Uq.mp hk);obtain⟨l',Pw,OA⟩:=h2 k (Uq.mp hk);refine⟨[some (.f,.int (k:Int)),some (.f,eP p),some (.f,eP q)],rfl,?_⟩;unfold eP;simp only[pv,seval,op,e1,e2,Pw,OA];exact⟨_,_,rfl,_,rfl⟩
theorem Gq{p q:Pl}{cnt:Nat}(hc:cnt<=100)(hp:JQ p cnt)(hq:JQ q cnt):dm [eP p,eP q]=.ok (.f,eP (pq cnt p q)):=by
 have c1:=so p q cnt 1 I0 (fun k hk=>⟨_,rfl,yj hp hk⟩) (fun k hk=>⟨_,rfl,yj hq hk⟩);have c2:=so p q cnt 2 Kk (fun k hk=>⟨_,rfl,BF hp hk⟩) (fun k hk=>⟨_,rfl,BF hq hk⟩);have i1:Ih (eP p) (.int 1)=.ok (.f,.tup (p.2.1.map D.int)):=rfl;have i2:Ih (eP p) (.int 2)=.ok (.f,.tup (p.2.2.map D.int)):=rfl;have i0:Ih (eP p) (.int 0)=.ok (.f,.int p.1):=rfl;have j0:Ih (eP q) (.int 0)=.ok (.f,.int q.1):=rfl;have l1:∀f:Nat->Int,(((List.range cnt).map f).map D.int).length<=sizeLine:=fun f=>bS (by rw[bL,bL,T3];lia)
 have f1:∀f:Nat->Int,flatDs (((List.range cnt).map f).map D.int)=true:=fun f=>Ik _
 unfold dm lQ;rw[bD (h:=by rfl)];unfold pq;rw[show eP (p.1+q.1,(List.range cnt).map fun(k:Nat)=>I0 k p+I0 k q,(List.range cnt).map fun(k:Nat)=>Kk k p+Kk k q)=.tup [.int (p.1+q.1),.tup (((List.range cnt).map fun(k:Nat)=>I0 k p+I0 k q).map D.int),.tup (((List.range cnt).map fun(k:Nat)=>Kk k p+Kk k q).map D.int)] from rfl];generalize eP p=EP at c1 c2 i0 i1 i2 ⊢;generalize eP q=EQ at c1 c2 j0 ⊢;have r1:=ET (cnt:Int) (by lia) (by lia) (aq (aX fO (ag (aq (aA Ih (aw 0) (aq (aF (.int 1))))) aG))) [some (.f,EP),some (.f,EQ),none,none] [some (.f,EP),some (.f,EQ),none,none] (.val (.int (cnt:Int))) (by simp only[pv,seval,op,i1,bL,hp.1]) rfl;rw[UD]at r1;rw[ay (env':=[some (.f,EP),some (.f,EQ),some (.f,.tup (((List.range cnt).map fun(k:Nat)=>I0 k p+I0 k q).map D.int)),none]) (by
  generalize c9 (aq (aX fO (ag (aq (aA Ih (aw 0) (aq (aF (.int 1))))) aG)))=IT at r1 ⊢;simp only[pv,seval,op,r1,c1,l1,f1])]
 have r2:=ET (cnt:Int) (by lia) (by lia) (aq (aX fO (ag (aq (aA Ih (aw 0) (aq (aF (.int 2))))) aG))) [some (.f,EP),some (.f,EQ),some (.f,.tup (((List.range cnt).map fun(k:Nat)=>I0 k p+I0 k q).map D.int)),none] [some (.f,EP),some (.f,EQ),some (.f,.tup (((List.range cnt).map fun(k:Nat)=>I0 k p+I0 k q).map D.int)),none] (.val (.int (cnt:Int))) (by simp only[pv,seval,op,i2,bL,hp.2]) rfl;rw[UD]at r2;rw[ay (env':=[some (.f,EP),some (.f,EQ),some (.f,.tup (((List.range cnt).map fun(k:Nat)=>I0 k p+I0 k q).map D.int)),some (.f,.tup (((List.range cnt).map fun(k:Nat)=>Kk k p+Kk k q).map D.int))]) (by
  generalize c9 (aq (aX fO (ag (aq (aA Ih (aw 0) (aq (aF (.int 2))))) aG)))=IT at r2 ⊢;simp only[pv,seval,op,r2,c2,l1,f1])]
 simp only[pv,seval,op,i0,j0]
theorem zr(cnt:Nat)(f:Nat->Int){k:Nat}(h:k<cnt):((List.range cnt).map f).getD k 0=f k:=by
 rw[List.getD_eq_getElem?_getD,List.getElem?_map,List.getElem?_range h];rfl
theorem wM(l:List Int)(k:Nat):(l.map (·* 3)).getD k 0=l.getD k 0*3:=by
 rw[List.getD_eq_getElem?_getD,List.getD_eq_getElem?_getD,List.getElem?_map];cases l[k]? with
 |none=>rfl
 |some x=>rfl
theorem EA(l:List Int):dv (aH 0) fH (aA i6 (aw 0) (aq (aF (.int 3)))) (l.map D.int) [none]=.ok ((l.map (·* 3)).map D.int):=by
 rw[TZ];refine cJ (fun env=>∃t,env=[t]) _ ?_ _ ⟨_,rfl⟩;rintro x _ env ⟨t,rfl⟩;have hm:=GQ x 3 (by decide);exact⟨[some (.f,.int x)],rfl,.f,[some (.f,.int x)],by simp only[pv,seval,hm];rfl,_,rfl⟩
structure Iq(names:LNN)(ps:List Pl)(q:Pl):Prop where
 po:JQ q names.length
 im:∃K4,Im names ps q K4
theorem Iq.sum{names:LNN}{ps:List Pl}{p q:Pl}(a:Iq names ps p)(b:Iq names ps q):Iq names ps (pq names.length p q):=by
 obtain⟨f,hf⟩:=a.im;obtain⟨g,hg⟩:=b.im;unfold pq;exact⟨⟨by show(List.map _ _).length=_;rw[bL,T3],by show(List.map _ _).length=_;rw[bL,T3]⟩,_,hf.sum hg rfl (fun j hj=>zr _ _ hj) (fun j hj=>zr _ _ hj)⟩
theorem Iq.three{names:LNN}{ps:List Pl}{p:Pl}(a:Iq names ps p):Iq names ps (yy p):=by
 obtain⟨f,hf⟩:=a.im;exact⟨⟨by show(List.map _ _).length=_;rw[bL];exact a.po.1,by show(List.map _ _).length=_;rw[bL];exact a.po.2⟩,_,hf.three rfl (fun j hj=>wM _ _) (fun j hj=>wM _ _)⟩
theorem Iq.more{names:LNN}{ps:List Pl}{p:Pl}(a:Iq names ps p)(c:Int)(hc:0<=c):Iq names ps (p.1+c,p.2):=by
 obtain⟨f,hf⟩:=a.im;exact⟨a.po,_,hf.more c hc⟩
theorem Nt.more{names:LNN}{ps:List Pl}{r:Rn}(n:Nt names ps r){q:Pl}(i:Iq names ps q)(k:Nat)(hl:ps.length<12):∃r',Nt names (Kr k q ps) r':=by
 obtain⟨f,hf⟩:=i.im;obtain⟨m,rm⟩:=m6 n.n3 n.e;refine⟨_,n.n0,n.n3,n.nn,fun h=>?_,by rw[qo];lia,fun p hp=>?_,hf.run k n.e rm.ln⟩
 ·have:=qo k q ps;rw[h]at this;cases this
 ·unfold Kr at hp;rcases tM hp with hp|hp
  ·exact n.po p (Ws hp)
  ·rcases TK.mp hp with rfl|hp
   ·exact i.po
   ·exact n.po p (List.mem_of_mem_drop hp)
def Gs:FS:=(b5 6 (dM dm (ag (aw 6) (ag (aw 7) aG))))
noncomputable def yz:FS:=(b5 6 (eW (az (aA cW (aq (aA Ih (aw 6) (aq (aF (.int 0))))) (aq (aA fI (aq (dM aJ (ag (aw 0) (ag (aw 4) aG)))) (aq (aA xE (aq (aF (.int 10))) (aq (aF (.int 40)))))))) (az (aA Ih (aw 6) (aq (aF (.int 1)))) (az (aA Ih (aw 6) (aq (aF (.int 2)))) bC)))))
noncomputable def sr:FS:=(b5 6 (eW (az (aA i6 (aq (aA Ih (aw 6) (aq (aF (.int 0))))) (aq (aF (.int 3)))) (az (aX cV (ag (aq (dw (tw (aA Ih (aw 6) (aq (aF (.int 1))))) [none] (aH 0) fH (aA i6 (aw 0) (aq (aF (.int 3)))))) aG)) (az (aX cV (ag (aq (dw (tw (aA Ih (aw 6) (aq (aF (.int 2))))) [none] (aH 0) fH (aA i6 (aw 0) (aq (aF (.int 3)))))) aG)) bC)))))
def B3(v:Int):FT:=(IU (cj JW (aq (aA fI (aq (aA dF (aw 5) (aq (aF (.int 256))))) (aq (aF (.int 4))))) (aq (aF (.int v)))))
noncomputable def EB:FS:=(Jt (IU (aA OJ (aq (aA fI (aq (aA dF (aw 5) (aq (aF (.int 1024))))) (aq (aF (.int 4))))) (aq (aF (.int 0)))))
  (jc (DI 3 (aA fI (aq (aA dF (aw 5) (aq (aF (.int 4096))))) (aq (aA cW (aq (aX fO (ag (aw 3) aG))) (aq (aF (.int 1)))))) (aR 6)))
  cu)
theorem wN(A0 A1 A2 A3 A4 A6 A7:Option R)(x v:Int):B3 v [A0,A1,A2,A3,A4,some (.f,.int x),A6,A7]=.ok (x / 256%4==v,[A0,A1,A2,A3,A4,some (.f,.int x),A6,A7]):=by
 unfold B3;simp only[pv,seval,op,gU _ 256 (by decide) (by decide),jI _ 4 (by decide)]
theorem B0(ns:List Int)(A1 A2 A3:Option R)(k:Nat)(x:Int)(p:Pl)(A7:Option R):yz [some (.f,.lst (ns.map D.int)),A1,A2,A3,some (.f,.int (k:Int)),some (.f,.int x),some (.f,eP p),A7]=.ok (.nx [some (.f,.lst (ns.map D.int)),A1,A2,A3,some (.f,.int (k:Int)),some (.f,.int x),some (.f,eP (p.1+cell ns k%10 ^ 40,p.2)),A7]):=by
 have Tf:xE (.int 10) (.int 40)=.ok (.f,.int (10 ^ 40)):=GP 40 (by decide);have Tg:=jI (cell ns k) (10 ^ 40) (by decide);have c1:=k4 ns k;have i0:Ih (eP p) (.int 0)=.ok (.f,.int p.1):=rfl;have i1:Ih (eP p) (.int 1)=.ok (.f,.tup (p.2.1.map D.int)):=rfl;have i2:Ih (eP p) (.int 2)=.ok (.f,.tup (p.2.2.map D.int)):=rfl;unfold yz;rw[show eP (p.1+cell ns k%10 ^ 40,p.2)=.tup [.int (p.1+cell ns k%10 ^ 40),.tup (p.2.1.map D.int),.tup (p.2.2.map D.int)] from rfl];generalize (10:Int) ^ 40=T at Tf Tg ⊢;generalize eP p=EP at i0 i1 i2 ⊢;simp only[pv,↓reduceIte,Nat.reduceAdd,Nat.reduceLT,Nat.reduceLeDiff,Nat.reduceEqDiff,op,c1,i0,i1,i2,Tf,Tg]
theorem yA(ns:List Int)(A1 A2 A3:Option R)(k:Nat)(x:Int)(p:Pl)(cnt:Nat)(hc:cnt<=100)(hp:JQ p cnt)(A7:Option R):sr [some (.f,.lst (ns.map D.int)),A1,A2,A3,some (.f,.int (k:Int)),some (.f,.int x),some (.f,eP p),A7]=.ok (.nx [some (.f,.lst (ns.map D.int)),A1,A2,A3,some (.f,.int (k:Int)),some (.f,.int x),some (.f,eP (yy p)),A7]):=by
 have c1:=EA p.2.1;have c2:=EA p.2.2;have m0:=GQ p.1 3 (by decide);have i0:Ih (eP p) (.int 0)=.ok (.f,.int p.1):=rfl;have i1:Ih (eP p) (.int 1)=.ok (.f,.tup (p.2.1.map D.int)):=rfl;have i2:Ih (eP p) (.int 2)=.ok (.f,.tup (p.2.2.map D.int)):=rfl;have l1:((p.2.1.map (·* 3)).map D.int).length<=sizeLine:=bS (by rw[bL,bL,hp.1];lia);have l2:((p.2.2.map (·* 3)).map D.int).length<=sizeLine:=bS (by rw[bL,bL,hp.2];lia);have f1:=Ik (p.2.1.map (·* 3));have f2:=Ik (p.2.2.map (·* 3));unfold sr;rw[show eP (yy p)=.tup [.int (p.1*3),.tup ((p.2.1.map (·* 3)).map D.int),.tup ((p.2.2.map (·* 3)).map D.int)] from rfl];generalize hGG:(aA i6 (aw 0) (aq (aF (.int 3))))=GG at c1 c2 ⊢;clear hGG;generalize (p.2.1.map (·* 3)).map D.int=T1 at *;generalize (p.2.2.map (·* 3)).map D.int=T2 at *;generalize eP p=EP at i0 i1 i2 ⊢;simp only[pv,seval,op,i0,i1,i2,m0,c1,c2,l1,l2,f1,f2]
theorem yB(ns:List Int){names:LNN}(hn:names.length<=3){ps:List Pl}(A1 A2 A3:Option R)(k:Nat)(x:Int){p p2:Pl}(hp:Iq names ps p)(Ob:Iq names ps p2):∃q,Iq names ps q/\∀Ml:FS,sSeq (Jt (B3 0) Gs cu) (sSeq (Jt (B3 1) yz cu) (sSeq (Jt (B3 2) sr cu) Ml)) [some (.f,.lst (ns.map D.int)),A1,A2,A3,some (.f,.int (k:Int)),some (.f,.int x),some (.f,eP p),some (.f,eP p2)]=Ml [some (.f,.lst (ns.map D.int)),A1,A2,A3,some (.f,.int (k:Int)),some (.f,.int x),some (.f,eP q),some (.f,eP p2)]:=by
 have k0:=fun q=>wN (some (.f,.lst (ns.map D.int))) A1 A2 A3 (some (.f,.int (k:Int))) (some (.f,eP q)) (some (.f,eP p2)) x 0
 have k1:=fun q=>wN (some (.f,.lst (ns.map D.int))) A1 A2 A3 (some (.f,.int (k:Int))) (some (.f,eP q)) (some (.f,eP p2)) x 1
 have k2:=fun q=>wN (some (.f,.lst (ns.map D.int))) A1 A2 A3 (some (.f,.int (k:Int))) (some (.f,eP q)) (some (.f,eP p2)) x 2
 have m4:=eV (x / 256) 4 (by decide);generalize x / 256%4=c at k0 k1 k2 m4;have hc:c=0\/c=1\/c=2\/c=3:=by lia
 have no:∀{C:FT}{s:FS}{env:PV.Env}{R:FS},C env=.ok (false,env)->sSeq (Jt C s cu) R env=R env:=fun{C s env R} h=>ay (by rw[HN h];rfl)
 have yes:∀{C:FT}{s:FS}{env env':PV.Env}{R:FS},C env=.ok (true,env)->s env=.ok (.nx env')->sSeq (Jt C s cu) R env=R env':=fun{C s env env' R} h h2=>ay (by rw[HP h];exact h2)
 rcases hc with rfl|rfl|rfl|rfl
 ·refine⟨pq names.length p p2,hp.sum Ob,fun Ml=>?_⟩;have es:=Gq (by lia) hp.po Ob.po;have fs:=flat_P (pq names.length p p2);rw[yes (k0 _) (env':=[some (.f,.lst (ns.map D.int)),A1,A2,A3,some (.f,.int (k:Int)),some (.f,.int x),some (.f,eP (pq names.length p p2)),some (.f,eP p2)]) (by
   unfold Gs;generalize eP (pq names.length p p2)=E3 at es fs ⊢;generalize eP p=E1 at es ⊢;generalize eP p2=E2 at es ⊢;simp only[pv,↓reduceIte,Nat.reduceAdd,Nat.reduceLT,Nat.reduceLeDiff,Nat.reduceEqDiff,op,es,fs]),no (k1 _),no (k2 _)]
 ·refine⟨(p.1+cell ns k%10 ^ 40,p.2),hp.more _ (eV _ _ (by decide)).1,fun Ml=>?_⟩;rw[no (k0 _),yes (k1 _) (B0 ns A1 A2 A3 k x p _),no (k2 _)]
 ·refine⟨yy p,hp.three,fun Ml=>?_⟩;rw[no (k0 _),no (k1 _),yes (k2 _) (yA ns A1 A2 A3 k x p names.length (by lia) hp.po _)]
 ·refine⟨p,hp,fun Ml=>?_⟩;rw[no (k0 _),no (k1 _),no (k2 _)]
theorem EC(i:Nat)(f g:FX)(env:PV.Env):DI i f g env=if pO env i then Res.bnd (f env) (f:=⟨fun p=>Res.bnd (g p.2) (f:=⟨fun q=>match q.2[i]?,p.1.2 with
 |some (some (.l .f,.lst ds)),.int k=>if ds.length<sizeLine/\0<=k/\k.toNat<=ds.length then .ok ((.f,.non),q.2.set i (some (.l .f,.lst (ds.take k.toNat++q.1.2::ds.drop k.toNat)))) else .bad
 |_,_=>.bad⟩)⟩) else .bad:=id rfl
theorem ED(A0 A1 A2 A4 A7:Option R)(x:Int)(ps:List Pl)(hl:ps.length<=100)(q:Pl):∃b k:Nat,EB [A0,A1,A2,some (.l .f,.lst (ps.map eP)),A4,some (.f,.int x),some (.f,eP q),A7]=.ok (.nx [A0,A1,A2,some (.l .f,.lst ((if b=0 then ps else Kr k q ps).map eP)),A4,some (.f,.int x),some (.f,eP q),A7]):=by
 have d1:=gU x 1024 (by decide) (by decide);have d2:=gU x 4096 (by decide) (by decide);have m1:=jI (x / 1024) 4 (by decide);have m2:=jI (x / 4096) ((ps.length:Int)+1) (by lia);have b2:=eV (x / 4096) ((ps.length:Int)+1) (by lia);unfold EB;by_cases h:0<x / 1024%4
 ·refine⟨1,(x / 4096%((ps.length:Int)+1)).toNat,?_⟩;rw[TJ (by decide)];unfold Kr;rw[TV,dZ,Ww,X8];generalize x / 4096%((ps.length:Int)+1)=kk at m2 b2 ⊢;have hz:(ps.map eP).length<sizeLine/\0<=kk/\kk.toNat<=(ps.map eP).length:=⟨jS (by rw[bL];lia),b2.1,by rw[bL];lia⟩
  generalize eP q=EQ;have KG:(ps.map eP).length=ps.length:=bL _;generalize ps.map eP=L at hz KG ⊢;simp only[pv,seval,op,d1,d2,m1,KG,m2,h,Vn,EC];rw[TF (by rw[<-KG];exact hz)];rfl
 ·refine⟨0,0,?_⟩;rw[TF rfl];generalize ps.map eP=L;simp only[pv,seval,op,d1,m1,h,U8,eI]
theorem EE{ps:List Pl}(h0:ps≠[])(y:Int):∃(i:Nat) (p:Pl),y%(ps.length:Int)=(i:Int)/\ps[i]?=some p/\Ju (ps.map eP) (i:Int)=some (eP p):=by
 have hl:=WB.mpr h0;have b:=eV y (ps.length:Int) (by lia);obtain⟨i,ei⟩:=Up b.1;have hi:i<ps.length:=by lia
 exact⟨i,ps[i],ei,iy hi,fR (by rw[List.getElem?_map,iy hi];rfl)⟩
theorem EF(ns:List Int){names:LNN}{ps:List Pl}{r:Rn}(n:Nt names ps r)(hl:ps.length<12)(A1 A2:Option R)(k:Nat)(t5 t6 t7:Option R):
  ∃JF r' u5 u6 u7,Nt names JF r'/\JF.length<=ps.length+1/\bO [some (.f,.lst (ns.map D.int)),A1,A2,some (.l .f,.lst (ps.map eP)),some (.f,.int (k:Int)),t5,t6,t7]=.ok (.nx [some (.f,.lst (ns.map D.int)),A1,A2,some (.l .f,.lst (JF.map eP)),some (.f,.int (k:Int)),u5,u6,u7]):=by
 have ck:=k4 ns k;have QJ:=mT (cell ns k) 31 (by decide) (by decide);generalize wX (cell ns k) 31=x at QJ;obtain⟨i,p,ei,hi,ai⟩:=EE n.p0 x;obtain⟨j,p2,ej,hj,aj⟩:=EE n.p0 (x / 16);have N1:=WB.mpr n.p0;have m1:=jI x (ps.length:Int) (by lia);have m2:=jI (x / 16) (ps.length:Int) (by lia);have d16:=gU x 16 (by decide) (by decide);rw[ei]at m1;rw[ej]at m2;have q1:Iq names ps p:=⟨n.po p (T6 hi),_,Im.at hi⟩
 have q2:Iq names ps p2:=⟨n.po p2 (T6 hj),_,Im.at hj⟩
 obtain⟨q,hq,eq⟩:=yB ns n.n3 A1 A2 (some (.l .f,.lst (ps.map eP))) k x q1 q2;obtain⟨b,kk,Th⟩:=ED (some (.f,.lst (ns.map D.int))) A1 A2 (some (.f,.int (k:Int))) (some (.f,eP p2)) x ps (by lia) q;have hr:∃r',Nt names (if b=0 then ps else Kr kk q ps) r':=by
  by_cases hb:b=0
  ·rw[TF hb];exact⟨r,n⟩
  ·rw[TJ hb];exact n.more hq kk hl
 have hlen:(if b=0 then ps else Kr kk q ps).length<=ps.length+1:=by
  by_cases hb:b=0
  ·rw[TF hb];lia
  ·rw[TJ hb,qo];lia
 obtain⟨r',n'⟩:=hr;refine⟨_,r',some (.f,.int x),some (.f,eP q),some (.f,eP p2),n',hlen,?_⟩;have KG:(ps.map eP).length=ps.length:=bL _;have fp:=flat_P p;have IL:=flat_P p2;unfold bO;rw[ay (env':=[some (.f,.lst (ns.map D.int)),A1,A2,some (.l .f,.lst (ps.map eP)),some (.f,.int (k:Int)),some (.f,.int x),t6,t7]) (by
  generalize ps.map eP=L;simp only[pv,↓reduceIte,Nat.reduceAdd,Nat.reduceLT,Nat.reduceLeDiff,Nat.reduceEqDiff,op,ck,QJ])]
 rw[ay (env':=[some (.f,.lst (ns.map D.int)),A1,A2,some (.l .f,.lst (ps.map eP)),some (.f,.int (k:Int)),some (.f,.int x),some (.f,eP p),t7]) (by
  generalize ps.map eP=L at KG ai aj ⊢;simp only[pv,↓reduceIte,Nat.reduceAdd,Nat.reduceLT,Nat.reduceLeDiff,Nat.reduceEqDiff,op,KG,m1,ai,fp])]
 rw[ay (env':=[some (.f,.lst (ns.map D.int)),A1,A2,some (.l .f,.lst (ps.map eP)),some (.f,.int (k:Int)),some (.f,.int x),some (.f,eP p),some (.f,eP p2)]) (by
  generalize ps.map eP=L at KG ai aj ⊢;generalize eP p=E1;simp only[pv,↓reduceIte,Nat.reduceAdd,Nat.reduceLT,Nat.reduceLeDiff,Nat.reduceEqDiff,op,KG,d16,m2,aj,IL])]
 have e2:=eq EB;unfold Gs yz sr B3 EB at e2;rw[e2];unfold EB at Th;exact Th
theorem EG(ns:List Int){names:LNN}{ps:List Pl}{r:Rn}(n:Nt names ps r)(hl:ps.length<=9):∃JF r',Nt names JF r'/\bx [.lst (ns.map D.int),eN names ps,.int 2]=.ok (.f,eN names JF):=by
 have Ks:Ih (eN names ps) (.int 0)=.ok (.f,.tup (names.map D.str)):=rfl;have Mj:Ih (eN names ps) (.int 1)=.ok (.f,.lst (ps.map eP)):=rfl;obtain⟨env',ef,JF,r',t4,t5,t6,t7,n',_,rfl⟩:=kS (a:=aH 4) (g:=bO) (e:=fun k=>D.int ((2:Int)+(k:Int))) 3 (fun i env=>∃(JF:List Pl) (r':Rn) (t4 t5 t6 t7:Option R),Nt names JF r'/\JF.length<=9+i/\env=[some (.f,.lst (ns.map D.int)),some (.f,eN names ps),some (.f,.int 2),some (.l .f,.lst (JF.map eP)),t4,t5,t6,t7]) (by
  rintro k env hk ⟨JF,r',t4,t5,t6,t7,n',S8,rfl⟩;obtain⟨ps2,r2,u5,u6,u7,n2,NV,e2⟩:=EF ns n' (by lia) (some (.f,eN names ps)) (some (.f,.int 2)) (2+k) t5 t6 t7;rw[show((2+k:Nat):Int)=(2:Int)+(k:Int) by lia]at e2;exact⟨_,rfl,_,e2,ps2,r2,_,_,_,_,n2,by lia,rfl⟩) [some (.f,.lst (ns.map D.int)),some (.f,eN names ps),some (.f,.int 2),some (.l .f,.lst (ps.map eP)),none,none,none,none] ⟨ps,r,none,none,none,none,n,hl,rfl⟩
 refine⟨JF,r',n',?_⟩;unfold bx eg;rw[bD (h:=by rfl)];rw[show eN names JF=.tup [.tup (names.map D.str),.lst (JF.map eP)] from rfl];generalize eN names ps=NE at Ks Mj ef ⊢;rw[ay (env':=[some (.f,.lst (ns.map D.int)),some (.f,NE),some (.f,.int 2),some (.l .f,.lst (ps.map eP)),none,none,none,none]) (by
  simp only[pv,seval,op,Mj])]
 rw[ay (env':=[some (.f,.lst (ns.map D.int)),some (.f,NE),some (.f,.int 2),some (.l .f,.lst (JF.map eP)),t4,t5,t6,t7]) (by
  unfold dI;simp only[pv,seval,op];rw[TF (by decide)];try rw[show(((2:Int)+3)-(2:Int)).toNat=3 by rfl]
  simp only[pv,seval,op];exact ef)]
 unfold dC;simp only[pv,seval,op,Ks]
theorem Gu(p q:Pl):Ig (eP p) (eP q)=decide (p=q):=by
 obtain⟨a,b,c⟩:=p;obtain⟨a',b',c'⟩:=q;unfold eP;simp only[Ig,iw,eqDs_ints];rw[T5];simp
theorem wO(p:Pl):plainD 40 (eP p)=true:=by
 unfold eP;rw[plainD];simp only[plainDs,plainD,gO,UG]
theorem Gv(p q:Pl):JW (eP p) (eP q)=.ok (.f,.bl (decide (p=q))):=by
 unfold JW;rw[wO,wO,Gu];rfl
theorem yC(F P:List Pl)(k:Nat)(p:Pl):cP [some (.f,.lst (F.map eP)),some (.f,.lst (P.map eP)),some (.f,.int (k:Int)),some (.f,eP p)]=.ok (.nx [some (.f,.lst (F.map eP)),some (.f,.lst (P.map eP)),some (.f,.int (if F[k]?=some p then((k+1:Nat):Int) else(k:Int))),some (.f,eP p)]):=by
 unfold cP;have KG:(F.map eP).length=F.length:=bL _;by_cases hk:k<F.length
 ·have Lh:Ju (F.map eP) (k:Int)=some (eP F[k]):=fR (by rw[List.getElem?_map,iy hk];rfl);have he:=Gv F[k] p;have h1:(k:Int)<(F.length:Int):=by lia
  rw[iy hk];by_cases e:F[k]=p
  ·rw[T9 e]at he;rw[TF (by rw[e])];generalize F.map eP=L at KG Lh ⊢;generalize eP F[k]=E1 at Lh he;generalize eP p=E2 at he ⊢;simp only[pv,seval,op,KG,h1,Vn,Lh,he,Xx,V5]
  ·rw[T4 e]at he;rw[TJ (fun h=>e (TX h))];generalize F.map eP=L at KG Lh ⊢;generalize eP F[k]=E1 at Lh he;generalize eP p=E2 at he ⊢;simp only[pv,seval,op,KG,h1,Vn,Lh,he,eI]
 ·have h1:¬ (k:Int)<(F.length:Int):=by lia
  rw[List.getElem?_eq_none (by lia),TJ (by simp)];generalize F.map eP=L at KG ⊢;simp only[pv,seval,op,KG,h1,U8,eI]
theorem yD{F:List Pl}{k:Nat}{p:Pl}{Q:List Pl}(h:(F.drop k).Sublist (p::Q)):(F.drop (if F[k]?=some p then k+1 else k)).Sublist Q:=by
 by_cases hk:k<F.length
 ·rw[UZ hk]at h;by_cases e:F[k]=p
  ·rw[TF (by rw[iy hk,e])];rw[e]at h;exact List.cons_sublist_cons.mp h
  ·rw[TJ (by rw[iy hk];exact fun h=>e (TX h)),UZ hk];cases h with
   |cons _ h=>exact h
   |cons_cons _ h=>exact absurd rfl e
 ·rw[V9 (by split <;> lia)];exact List.nil_sublist _
theorem lb(F P:List Pl):∀(Q:List Pl) (k:Nat),k<=F.length->(F.drop k).Sublist Q->∀t3:Option R,∃u3,d6 (aH 3) cP (Q.map eP) [some (.f,.lst (F.map eP)),some (.f,.lst (P.map eP)),some (.f,.int (k:Int)),t3]=.ok (.nx [some (.f,.lst (F.map eP)),some (.f,.lst (P.map eP)),some (.f,.int (F.length:Int)),u3])
 |[],k,hk,h,t3=>by
  have h0:(F.drop k).length<=0:=h.length_le;rw[UK]at h0;have:k=F.length:=by lia
  subst this;exact⟨t3,rfl⟩
 |p::Q,k,hk,h,t3=>by
  have e:=yC F P k p;have hs:=yD h;have S2:(if F[k]?=some p then k+1 else k)<=F.length:=by
   split
   ·rename_i h;have:=(mP h).1;lia
   ·exact hk
  obtain⟨u3,e3⟩:=lb F P Q _ S2 hs (some (.f,eP p));refine⟨u3,?_⟩;have ha:aH 3 (eP p) [some (.f,.lst (F.map eP)),some (.f,.lst (P.map eP)),some (.f,.int (k:Int)),t3]=.ok [some (.f,.lst (F.map eP)),some (.f,.lst (P.map eP)),some (.f,.int (k:Int)),some (.f,eP p)]:=rfl;rw[dZ,cB,ha,IF,e,IF];dsimp only;rw[<-e3];congr 4
  split <;> rfl
theorem yE(F P:List Pl)(h:F.Sublist P):cG [.lst (F.map eP),.lst (P.map eP)]=.ok (.f,.bl true):=by
 obtain⟨u3,e⟩:=lb F P P 0 (Ug _) h none;have KG:(F.map eP).length=F.length:=bL _;unfold cG iY;rw[bD (h:=by rfl)];rw[ay (env':=[some (.f,.lst (F.map eP)),some (.f,.lst (P.map eP)),some (.f,.int ((0:Nat):Int)),none]) (by
  generalize F.map eP=L;generalize P.map eP=M;simp only[pv,seval,op])]
 rw[ay (env':=[some (.f,.lst (F.map eP)),some (.f,.lst (P.map eP)),some (.f,.int (F.length:Int)),u3]) (by
  unfold gc;generalize F.map eP=L at e ⊢;generalize P.map eP=M at e ⊢;simp only[pv,seval,op];exact e)]
 unfold fM;have hb:((F.length:Int)==(F.length:Int))=true:=UT _;generalize F.map eP=L at KG ⊢;generalize P.map eP=M;simp only[pv,seval,op,KG,hb]
theorem yF(n:Nat)(l:List Pl):plainDs (n+2) (l.map eP)=true:=by
 induction l with
 |nil=>rfl
 |cons a l ih=>
  rw[dZ,plainDs,ih,V3];unfold eP;rw[plainD];simp only[plainDs,plainD,gO,UG]
theorem m7(n:Nat)(l:List IC):plainDs (n+2) (l.map eA)=true:=by
 induction l with
 |nil=>rfl
 |cons a l ih=>
  rw[dZ,plainDs,ih,V3];unfold eA;rw[plainD];simp only[plainDs,plainD,UG]
theorem zt:∀a b:List IC,iw (a.map eA) (b.map eA)=decide (a=b)
 |[],[]=>rfl
 |[],_::_=>rfl
 |_::_,[]=>rfl
 |x::a,y::b=>by
  rw[dZ,dZ,iw,zt a b,Ge,T5];simp
theorem EH(a b:List IC):JW (.lst (a.map eA)) (.lst (b.map eA))=.ok (.f,.bl (decide (a=b))):=by
 unfold JW;rw[plainD,plainD,m7 37,m7 37,Ig,zt];rfl
theorem EI(a:List IC):Lg (.lst (a.map eA)) (.lst (a.map eA))=.ok (.f,.bl false):=kX _ (by rw[plainD];exact m7 37 a)
section
variable{names:LNN}{ps P:List Pl}{r:Rn}
theorem B1(hn:names.length<=3)(e:b8 names ps=some r)(F:List Pl)(hF:∀q∈F,q∈ps)(hl:F.length<=100)(po:∀q∈F,JQ q names.length)(k:Nat)(hk:okb names (aU bp r.2) (F.eraseIdx k)=false)(t4:Option R):
  ∃u4,df [some (.f,IG names (aU bp r.2)),some (.f,eN names P),some (.f,eN names F),some (.f,.lst (F.map eP)),t4,some (.f,.int (k:Int))]=.ok (.nx [some (.f,IG names (aU bp r.2)),some (.f,eN names P),some (.f,eN names F),some (.f,.lst (F.map eP)),u4,some (.f,.int (k:Int))]):=by
 have KY:Ih (IG names (aU bp r.2)) (.int 0)=.ok (.f,.tup (names.map D.str)):=rfl;have LK:Ih (IG names (aU bp r.2)) (.int 1)=.ok (.f,.lst ((aU bp r.2).map eA)):=rfl;have hc:=zq F k hl;have Ti:∀q∈F.eraseIdx k,q∈ps:=fun q hq=>hF q (UO hq)
 have Of:∀(x y:List D),flatDs [.lst x,.lst y]=false:=fun _ _=>rfl
 have PB:flatD .non=true:=rfl;have a0:∀x y:D,Ju (x::y::[]) (0:Int)=some x:=fun _ _=>rfl
 unfold df;rcases rT names hn (F.eraseIdx k) (by have:=V7 F k;lia) (fun q hq=>po q (UO hq)) with⟨r',e',er⟩|⟨_,er,_⟩
 ·have Km:aU bp r'.2≠(aU bp r.2):=fun h=>by
   have:=(sf hn e Ti).mpr (Ex hn e Ti e' h);rw[hk]at this;cases this
  have he:=EH (aU bp r'.2) (aU bp r.2);rw[T4 Km]at he;rw[show eN names (F.eraseIdx k)=.tup [.tup (names.map D.str),.lst ((F.eraseIdx k).map eP)] from rfl]at er;refine⟨some (.f,.tup [.lst ((aU bp r'.2).map eA),.lst (r'.1.map eM)]),?_⟩;generalize IG names (aU bp r.2)=CE at KY LK ⊢;generalize eN names P=NE;generalize eN names F=FE;rw[ay (env':=[some (.f,CE),some (.f,NE),some (.f,FE),some (.f,.lst (F.map eP)),some (.f,.tup [.lst ((aU bp r'.2).map eA),.lst (r'.1.map eM)]),some (.f,.int (k:Int))]) (by
   simp only[pv,seval,op,KY,hc,er,Of,yc,eI])]
  simp only[pv,seval,op,o_isnT,a0,LK,he,eI]
 ·rw[show eN names (F.eraseIdx k)=.tup [.tup (names.map D.str),.lst ((F.eraseIdx k).map eP)] from rfl]at er;refine⟨some (.f,.non),?_⟩;generalize IG names (aU bp r.2)=CE at KY LK ⊢;generalize eN names P=NE;generalize eN names F=FE;rw[ay (env':=[some (.f,CE),some (.f,NE),some (.f,FE),some (.f,.lst (F.map eP)),some (.f,.non),some (.f,.int (k:Int))]) (by
   simp only[pv,seval,op,KY,hc,er,PB])]
  simp only[pv,seval,op,kY,eI]
theorem wQ(hn:names.length<=3)(e:b8 names ps=some r)(hP:∀q∈P,q∈ps)(hl:P.length<=100)(po:∀q∈P,JQ q names.length)(ok:okb names (aU bp r.2) P=true):
  cA [IG names (aU bp r.2),eN names P]=.ok (.f,.bl true):=by
 have ra:=(zh hn e).sort;have mono:=si hn e;have pt:=pk ra P hl po ok;have sub:=mY (ok:=okb names (aU bp r.2)) P.length P;have Sl:=qu (ok:=okb names (aU bp r.2)) P.length ok;have fmin:=m5 mono P.length P (TB _) hP fun j h1 h2=>by lia
 have Tj:=lV fmin;generalize fP (okb names (aU bp r.2)) P.length P=F at pt sub Sl fmin Tj;have hF:∀q∈F,q∈P:=fun q hq=>sub.subset hq
 have Sm:F.length<=100:=Uc sub.length_le hl;have Sn:∀q∈F,JQ q names.length:=fun q hq=>po q (hF q hq)
 have PD:=pk ra F Sm Sn Sl;rw[Tj F.length (TB _)]at PD;have gF:=zp hn e (fun q hq=>hP q (hF q hq)) ((sf hn e fun q hq=>hP q (hF q hq)).mp Sl);have er:=wo names hn F Sm Sn;rw[gF]at er;have er:ba [eN names F,.int 8]=.ok (.f,.tup [.lst ((aU bp r.2).map eA),.lst ((hR (sel ps F) r).1.map eM)]):=er;have hw:=yE F P sub;obtain⟨env',ef,t4,t5,rfl⟩:=kS (a:=aH 5) (g:=df) (e:=fun k=>D.int (k:Int)) F.length (fun i env=>∃t4 t5:Option R,env=[some (.f,IG names (aU bp r.2)),some (.f,eN names P),some (.f,eN names F),some (.f,.lst (F.map eP)),t4,t5]) (by
  rintro k env hk ⟨t4,t5,rfl⟩;obtain⟨u4,e1⟩:=B1 (P:=P) hn e F (fun q hq=>hP q (hF q hq)) Sm Sn k (fmin k hk) t4;exact⟨_,rfl,_,e1,_,_,rfl⟩) [some (.f,IG names (aU bp r.2)),some (.f,eN names P),some (.f,eN names F),some (.f,.lst (F.map eP)),some (.f,.tup [.lst ((aU bp r.2).map eA),.lst ((hR (sel ps F) r).1.map eM)]),none] ⟨_,_,rfl⟩
 have KY:Ih (IG names (aU bp r.2)) (.int 0)=.ok (.f,.tup (names.map D.str)):=rfl;have LK:Ih (IG names (aU bp r.2)) (.int 1)=.ok (.f,.lst ((aU bp r.2).map eA)):=rfl;have Tn:Ih (eN names P) (.int 1)=.ok (.f,.lst (P.map eP)):=rfl;have To:Ih (eN names F) (.int 0)=.ok (.f,.tup (names.map D.str)):=rfl;have Sq:Ih (eN names F) (.int 1)=.ok (.f,.lst (F.map eP)):=rfl;have kl:fO [eN names F]=.ok (.f,.int 2):=rfl;have kt:xG "tuple" (eN names F)=true:=rfl;have klst:∀l:List D,xG "list" (.lst l)=true:=fun _=>rfl
 have Km:Lg (.tup (names.map D.str)) (.tup (names.map D.str))=.ok (.f,.bl false):=kX _ (by rw[plainD];exact gP _ _);have Tp:=EI (aU bp r.2);have hE:JW (eN names F) (eN names F)=.ok (.f,.bl true):=wa _ (by
  unfold eN;rw[plainD];simp only[plainDs,plainD,gP,yF 36 F,UG])
 have Oe:flatD (eN names F)=false:=by
  unfold eN;rw[cI];simp only[flatDs,flatD,VL,Wi]
 have Of:∀(x y:List D),flatDs [.lst x,.lst y]=false:=fun _ _=>rfl
 have a0:∀x y:D,Ju (x::y::[]) (0:Int)=some x:=fun _ _=>rfl
 have KG:(F.map eP).length=F.length:=bL _;have isn:∀l:List D,Nm (.tup l) .non=.ok (.f,.bl false):=fun _=>rfl
 have Ru:eN names F=.tup [.tup (names.map D.str),.lst (F.map eP)]:=rfl;unfold cA jH;rw[bD (h:=by rfl)];rw[Ru]at er PD;have er':=er;generalize (hR (sel ps F) r).1.map eM=MM at er er' ef;generalize (aU bp r.2).map eA=AA at er ef LK Tp;generalize IG names (aU bp r.2)=CE at pt PD ef KY LK ⊢;generalize eN names P=NE at pt ef Tn ⊢;rw[<-Ru]at PD;generalize eN names F=FE at pt PD ef To Sq kl kt hE Oe Ru ⊢;rw[ay (env':=[some (.f,CE),some (.f,NE),some (.f,FE),none,none,none]) (by
  simp only[pv,seval,op,pt,Oe,yc,Bu,eI])]
 rw[ay (env':=[some (.f,CE),some (.f,NE),some (.f,FE),none,none,none]) (by
  simp only[pv,seval,op,kt,kl,To,KY,Sq,Km,klst,VI,eI];try rfl)]
 rw[ay (env':=[some (.f,CE),some (.f,NE),some (.f,FE),some (.f,.lst (F.map eP)),none,none]) (by
  simp only[pv,seval,op,Sq])]
 rw[ay (env':=[some (.f,CE),some (.f,NE),some (.f,FE),some (.f,.lst (F.map eP)),some (.f,.tup [.lst AA,.lst MM]),none]) (by
  simp only[pv,seval,op,KY,er,Of,yc,Bu,eI])]
 rw[ay (env':=[some (.f,CE),some (.f,NE),some (.f,FE),some (.f,.lst (F.map eP)),some (.f,.tup [.lst AA,.lst MM]),none]) (by
  simp only[pv,seval,op,Tn,hw,isn,a0,LK,Tp,VI,eI])]
 have r1:=ET (F.length:Int) (by lia) (by lia) (aq (aX fO (ag (aw 3) aG))) [some (.f,CE),some (.f,NE),some (.f,FE),some (.f,.lst (F.map eP)),some (.f,.tup [.lst AA,.lst MM]),none] [some (.f,CE),some (.f,NE),some (.f,FE),some (.f,.lst (F.map eP)),some (.f,.tup [.lst AA,.lst MM]),none] (.val (.int (F.length:Int))) (by
  generalize F.map eP=L at KG ⊢;simp only[pv,seval,op,KG]) rfl
 rw[UD]at r1;rw[ay (env':=[some (.f,CE),some (.f,NE),some (.f,FE),some (.f,.lst (F.map eP)),t4,t5]) (by
  unfold hU;rw[MU,r1,IF];exact ef)]
 unfold gf;subst Ru;generalize F.map eP=L at *;simp only[pv,seval,op,KY,PD,Oe,hE,yc,Bu,eI]
end
theorem law_plain(ns:List Int)(h63:ns.length<=63):∃o,m_law [.lst (ns.map D.int)]=.ok (o,.bl true):=by
 obtain⟨names,Sr,r0,n0,h9,en⟩:=Gi ns 5;have en:dk [.lst (ns.map D.int),.int 5]=.ok (.f,eN names Sr):=en;obtain⟨ps,r,n,em⟩:=EG ns n0 h9;have hp9:=n.p9;have er:=wo names n.n3 ps (by lia) n.po;rw[n.e]at er;have er:ba [eN names ps,.int 8]=.ok (.f,.tup [.lst ((aU bp r.2).map eA),.lst (r.1.map eM)]):=er;have ok:=yx n.n3 n.e;have h1:=wQ n.n3 n.e (fun _ h=>h) (by lia) n.po ok;have h2:=wQ (P:=ps.reverse) n.n3 n.e (fun _ h=>Wo.mp h) (by rw[VR];lia) (fun q hq=>n.po q (Wo.mp hq)) (si n.n3 n.e _ _ ok (fun _ h=>Wo.mpr h) fun _ h=>Wo.mp h);have Oe:∀ps:List Pl,flatD (eN names ps)=false:=fun ps=>by
  unfold eN;rw[cI];simp only[flatDs,flatD,VL,Wi]
 have Of:∀(x y:List D),flatDs [.lst x,.lst y]=false:=fun _ _=>rfl
 have a0:∀x y:D,Ju (x::y::[]) (0:Int)=some x:=fun _ _=>rfl
 have KY:Ih (eN names ps) (.int 0)=.ok (.f,.tup (names.map D.str)):=rfl;have LK:Ih (eN names ps) (.int 1)=.ok (.f,.lst (ps.map eP)):=rfl;have Mr:=Oe ps;have Tq:=Oe Sr;rw[show IG names (aU bp r.2)=.tup [.tup (names.map D.str),.lst ((aU bp r.2).map eA)] from rfl]at h1 h2;rw[show eN names ps.reverse=.tup [.tup (names.map D.str),.lst ((ps.map eP).reverse)] by unfold eN;rw[List.map_reverse]]at h2;refine⟨.f,?_⟩;unfold m_law DJ;rw[bD (h:=by rfl)];generalize eN names ps=NE at em er h1 KY LK Mr ⊢;generalize eN names Sr=N0 at en em Tq;generalize (aU bp r.2).map eA=AA at er h1 h2;generalize r.1.map eM=MM at er;generalize ps.map eP=L at h2 LK;rw[ay (env':=[some (.f,.lst (ns.map D.int)),some (.f,NE),none]) (by
  simp only[pv,↓reduceIte,Nat.reduceAdd,Nat.reduceLT,Nat.reduceLeDiff,Nat.reduceEqDiff,op,en,em,Mr,Tq,yc,Bu,eI])]
 rw[ay (env':=[some (.f,.lst (ns.map D.int)),some (.f,NE),some (.f,.tup [.tup (names.map D.str),.lst AA])]) (by
  simp only[pv,↓reduceIte,Nat.reduceAdd,Nat.reduceLT,Nat.reduceLeDiff,Nat.reduceEqDiff,op,KY,er,Of,a0,yc,Bu,eI])]
 simp only[pv,↓reduceIte,Nat.reduceAdd,Nat.reduceLT,Nat.reduceLeDiff,Nat.reduceEqDiff,op,Ga,KY,LK,h1,h2]
end LW
namespace FIN
open PySem PySem.Spec PyProof.Rows L2 NX PV LW
theorem EJ{l:PySem.W.OpenLaw}{w:World}{K:W.Frag}{h:Heap}{mg:Str->Option Value}{fa f:Addr}{od an:Option Addr}{sl:Array (Option Value)}{oc kV dc pm cd ct:Value}(X:K.In h)(G:h.Ns mainGlobals mg)(hfa:mg "law" = some (.ref fa))
  (aL:PySem.W.nsIn K mainGlobals "law" = some (some (.ref f))) (lL:K.lookup f=some ⟨oc,od,.func (PySem.W.fnOf "law" "law" (eD mN) (cQ mN) (defScope mN) .none kV dc pm an cd ct),sl⟩) (cL:PySem.W.codeIn K cd "law" = true) (kL:PySem.W.keepIn K (.ref f)=true)
  (JG:Def K mg "states_of" ik) (Kg:Def K mg "goes_to" kK) (Ja:Def K mg "first_marking" dY) (KC:Def K mg "can_go" mH) (K5:Def K mg "moved" p4) (LM:Def K mg "give" vR) (Kh:Def K mg "look_at" kM) (LN:Def K mg "held" vT) (Ki:Def K mg "has_run" kO) (Kj:Def K mg "thinned" kP) (Ji:Def K mg "_law_cell_at" eG) (Jw:Def K mg "_law_mixed" gk) (Jx:Def K mg "_law_names" gm) (JH:Def K mg "_law_step" il) (J0:Def K mg "_law_run" jm) (JI:Def K mg "_law_fold" iq) (Jy:Def K mg "_law_place" gq) (Jn:Def K mg "_law_scaled" fA) (Jo:Def K mg "_law_places" fB) (Jz:Def K mg "_law_moves" gu) (J2:Def K mg "_law_net" jo) (J3:Def K mg "_law_sum" jq) (IP:Def K mg "_law_more_places" dh) (Jp:Def K mg "_law_within" fC) (JA:Def K mg "_law_right" gv)
  (Li:PySem.W.nsIn K mainGlobals "all" = some none) (IJ:PySem.W.nsIn K mainGlobals "isinstance" = some none) (Iz:PySem.W.nsIn K mainGlobals "len" = some none) (IS:PySem.W.nsIn K mainGlobals "list" = some none) (J9:PySem.W.nsIn K mainGlobals "max" = some none) (Ir:PySem.W.nsIn K mainGlobals "range" = some none) (Jg:PySem.W.nsIn K mainGlobals "reversed" = some none) (Jf:PySem.W.nsIn K mainGlobals "sorted" = some none) (Ij:PySem.W.nsIn K mainGlobals "tuple" = some none) (Ka:PySem.W.nsIn K mainGlobals "zip" = some none):
  ∃fd:FuncData,(∀(s:Shared) (v:Value),BindsTo s fd ⟨[v],[]⟩ [("_law_script",v)])/\∀base:Heap,K.In base->base.Ns mainGlobals mg->FnOk l.prog w K mg base L6 8 fa fd ["_law_script"] (xI K):=by
 have e:=hfa.symm.trans (PySem.W.mg_of X G aL);cases e;have F:=yL (st:=mN) lL cL kL;have QU:=Uz X G Li;have K6:=Uz X G IJ;have JT:=Uz X G Iz;have KD:=Uz X G IS;have Oh:=Uz X G J9;have Jm:=Uz X G Ir;have LO:=Uz X G Jg;have Lm:=Uz X G Jf;have IY:=Uz X G Ij;have MX:=Uz X G Ka;refine⟨PySem.W.fnOf "law" "law" (eD mN) (cQ mN) (defScope mN) .none kV dc pm an cd ct,fun s v=>.of_eq rfl,fun base KB GB=>?_⟩;have Ln:Ct l.prog w K mg base "states_of" 1 (spF K cx):=oU JG Oh;have Mm:Ct l.prog w K mg base "goes_to" 1 (spF K eR):=tG Kg;have Kt:Ct l.prog w K mg base "first_marking" 1 (spF K bR):=jR Ja IY;have MY:Ct l.prog w K mg base "can_go" 1 (spF K gN):=vQ KC QU MX;have N3:Ct l.prog w K mg base "moved" 2 (spF K jl):=xX K5 MY IY MX;have wA:Ct l.prog w K mg base "give" 1 (spM K (.d) kG):=Bh LM;have Mn:Ct l.prog w K mg base "look_at" 3 (spJ 2 K (.d) dB):=tH Kh wA Mm N3 JT;have Pm:Ct l.prog w K mg base "held" 4 (spF K lN):=Bi LN Kt Mn Ln JT KD Jm;have Mo:Ct l.prog w K mg base "has_run" 5 (spF K dU):=tJ Ki Pm;have Mp:Ct l.prog w K mg base "thinned" 6 (spF K dW):=tL Kj Mo JT KD Jm;have Jj:Ct l.prog w K mg base "_law_cell_at" 1 (spF K aJ):=kR Ji JT;have Jc:Ct l.prog w K mg base "_law_mixed" 1 (spF K aW):=mI Jw;have K7:Ct l.prog w K mg base "_law_names" 2 (spF K cX):=mJ Jx Jc Jm Lm;have Lo:Ct l.prog w K mg base "_law_step" 1 (spF K cS):=oW JH IY MX;have J4:Ct l.prog w K mg base "_law_run" 2 (spF K ba):=p5 J0 Lo JT Lm IY;have Lp:Ct l.prog w K mg base "_law_fold" 2 (spF K di):=oX JI Jc;have K8:Ct l.prog w K mg base "_law_place" 2 (spF K cY):=mK Jy Jc Oh Jm;have KO:Ct l.prog w K mg base "_law_scaled" 1 (spF K bX):=lq Jn IY;have KP:Ct l.prog w K mg base "_law_places" 3 (spF K cF):=lr Jo Jj Lp K8 KO Jm;have K9:Ct l.prog w K mg base "_law_moves" 3 (spF K cZ):=mL Jz Jj K7 IY;have LP:Ct l.prog w K mg base "_law_net" 4 (spF K dk):=p6 J2 K9 KP J4 JT IY;have LQ:Ct l.prog w K mg base "_law_sum" 1 (spF K dm):=p7 J3 JT Jm IY;have J5:Ct l.prog w K mg base "_law_more_places" 2 (spF K bx):=iu IP Jj Jc LQ JT KD Jm IY;have KQ:Ct l.prog w K mg base "_law_within" 1 (spF K cG):=lu Jp JT;have La:Ct l.prog w K mg base "_law_right" 7 (spF K cA):=mM JA J4 KQ Mp K6 JT KD Jm IY;exact(DK F J5 LP La J4 KD LO).imp (Dn law_plain)
end FIN
def PySem.W.Fast.tw9844905666011217745:=0
def PySem.W.Fast.tw4813254332319244653:=0
def PySem.W.Fast.tw10235574843726360236:=0
def PySem.W.Fast.tw6676224136591570965:=0
def PySem.W.Fast.tw7791096636751363485:=0
def PySem.W.Fast.tw17734800221647873876:=0
def PySem.W.Fast.tw17477094747269249502:=0
def PySem.W.Fast.tw14198542468503656651:=0
def PySem.W.Fast.tw3013747781466936874:=0
def PySem.W.Fast.tw12872372262715931103:=0
def PySem.W.Fast.tw11591312945055364361:=0
def PySem.W.Fast.tw11024815476553232589:=0
def PySem.W.Fast.tw6028900424141872149:=0
def PySem.W.Fast.tw1727861587891453567:=0
def PySem.W.Fast.tw1826642523541904323:=0
def PySem.W.Fast.tw10167275917675426536:=0
def PySem.W.Fast.tw6357167314637110243:=0
def PySem.W.Fast.tw9350581869911065788:=0
def PySem.W.Fast.tw14682639326184843741:=0
def PySem.W.Fast.tw2118826979936221588:=0
def PySem.W.Fast.tw4191254279986011701:=0
def PySem.W.Fast.tw12821095901812185780:=0
def PySem.W.Fast.tw17899041147557643664:=0
def PySem.W.Fast.tw2236116294100962548:=0
def PySem.W.Fast.tw6553678637782536609:=0
def PySem.W.Fast.tw14120436272596882227:=0
def PySem.W.Fast.tw17855948446194715252:=0
def PySem.W.Fast.tw8175511529753463527:=0
def PySem.W.Fast.tw3186299102811673402:=0
def PySem.W.Fast.tw12424988501767313031:=0
def PySem.W.Fast.tw11879514112518700385:=0
open PySem PySem.W PyProof.Rows
set_option maxRecDepth 100000 in
set_option maxHeartbeats 0 in
theorem PySem.Challenge.cw_netfinder_k76_no_place_could_go_holds : PySem.Challenge.rw_netfinder_k76_no_place_could_go.Holds := by
  w_on; o_law; k_head; (case hw => w_witness2)
  k_fill
  refine PV.walk (l := PySem.Challenge.rw_netfinder_k76_no_place_could_go) (k := 8) (x := "_law_script") rfl rfl ⟨rfl, by decide, by decide⟩ (fun w h Y => PySem.W.kIn_of Y) ?F
  case F =>
    intro w mg fa h KX G PY
    refine' FIN.EJ KX G PY ?aL ?lL ?cL ?kL ?JG ?Kg ?Ja ?KC ?K5 ?LM ?Kh ?LN ?Ki ?Kj ?Ji ?Jw ?Jx ?JH ?J0 ?JI ?Jy ?Jn ?Jo ?Jz ?J2 ?J3 ?IP ?Jp ?JA ?Li ?IJ ?Iz ?IS ?J9 ?Ir ?Jg ?Jf ?Ij ?Ka
    (case aL => k_is); (case lL => k_is); (case cL => k_is); (case kL => k_is)
    (case JG => (refine' PV.b7 KX G ?a ?l ?c ?k; (case a => k_is); (case l => k_is); (case c => k_is); (case k => k_is)))
    (case Kg => (refine' PV.b7 KX G ?a ?l ?c ?k; (case a => k_is); (case l => k_is); (case c => k_is); (case k => k_is)))
    (case Ja => (refine' PV.b7 KX G ?a ?l ?c ?k; (case a => k_is); (case l => k_is); (case c => k_is); (case k => k_is)))
    (case KC => (refine' PV.b7 KX G ?a ?l ?c ?k; (case a => k_is); (case l => k_is); (case c => k_is); (case k => k_is)))
    (case K5 => (refine' PV.b7 KX G ?a ?l ?c ?k; (case a => k_is); (case l => k_is); (case c => k_is); (case k => k_is)))
    (case LM => (refine' PV.b7 KX G ?a ?l ?c ?k; (case a => k_is); (case l => k_is); (case c => k_is); (case k => k_is)))
    (case Kh => (refine' PV.b7 KX G ?a ?l ?c ?k; (case a => k_is); (case l => k_is); (case c => k_is); (case k => k_is)))
    (case LN => (refine' PV.b7 KX G ?a ?l ?c ?k; (case a => k_is); (case l => k_is); (case c => k_is); (case k => k_is)))
    (case Ki => (refine' PV.b7 KX G ?a ?l ?c ?k; (case a => k_is); (case l => k_is); (case c => k_is); (case k => k_is)))
    (case Kj => (refine' PV.b7 KX G ?a ?l ?c ?k; (case a => k_is); (case l => k_is); (case c => k_is); (case k => k_is)))
    (case Ji => (refine' PV.b7 KX G ?a ?l ?c ?k; (case a => k_is); (case l => k_is); (case c => k_is); (case k => k_is)))
    (case Jw => (refine' PV.b7 KX G ?a ?l ?c ?k; (case a => k_is); (case l => k_is); (case c => k_is); (case k => k_is)))
    (case Jx => (refine' PV.b7 KX G ?a ?l ?c ?k; (case a => k_is); (case l => k_is); (case c => k_is); (case k => k_is)))
    (case JH => (refine' PV.b7 KX G ?a ?l ?c ?k; (case a => k_is); (case l => k_is); (case c => k_is); (case k => k_is)))
    (case J0 => (refine' PV.b7 KX G ?a ?l ?c ?k; (case a => k_is); (case l => k_is); (case c => k_is); (case k => k_is)))
    (case JI => (refine' PV.b7 KX G ?a ?l ?c ?k; (case a => k_is); (case l => k_is); (case c => k_is); (case k => k_is)))
    (case Jy => (refine' PV.b7 KX G ?a ?l ?c ?k; (case a => k_is); (case l => k_is); (case c => k_is); (case k => k_is)))
    (case Jn => (refine' PV.b7 KX G ?a ?l ?c ?k; (case a => k_is); (case l => k_is); (case c => k_is); (case k => k_is)))
    (case Jo => (refine' PV.b7 KX G ?a ?l ?c ?k; (case a => k_is); (case l => k_is); (case c => k_is); (case k => k_is)))
    (case Jz => (refine' PV.b7 KX G ?a ?l ?c ?k; (case a => k_is); (case l => k_is); (case c => k_is); (case k => k_is)))
    (case J2 => (refine' PV.b7 KX G ?a ?l ?c ?k; (case a => k_is); (case l => k_is); (case c => k_is); (case k => k_is)))
    (case J3 => (refine' PV.b7 KX G ?a ?l ?c ?k; (case a => k_is); (case l => k_is); (case c => k_is); (case k => k_is)))
    (case IP => (refine' PV.b7 KX G ?a ?l ?c ?k; (case a => k_is); (case l => k_is); (case c => k_is); (case k => k_is)))
    (case Jp => (refine' PV.b7 KX G ?a ?l ?c ?k; (case a => k_is); (case l => k_is); (case c => k_is); (case k => k_is)))
    (case JA => (refine' PV.b7 KX G ?a ?l ?c ?k; (case a => k_is); (case l => k_is); (case c => k_is); (case k => k_is)))
    (case Li => k_is)
    (case IJ => k_is)
    (case Iz => k_is)
    (case IS => k_is)
    (case J9 => k_is)
    (case Ir => k_is)
    (case Jg => k_is)
    (case Jf => k_is)
    (case Ij => k_is)
    (case Ka => k_is)
