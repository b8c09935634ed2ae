import PyProof.Rows.All
import Wide.All
import OpenK.AllK
import Wide.FinOn
import Lean
import PyProof.EqAt
import PyProof.EqKinds
import PyProof.TupleCall
import PySem.Challenge.RW_netfinder_k61_solved_or_not
set_option Elab.async false
set_option linter.all false
set_option maxRecDepth 100000
set_option compiler.extract_closed false
set_option bootstrap.genMatcherCode false
noncomputable section
theorem Zz{a b:Prop}(x:a)(y:b):a∧b:=⟨x,y⟩
def Tj:=@PySem.wpAny_bind
def Tn:=@List.mem_append_right
def To:=@List.length_map
def Tp:=@List.mem_cons_self
def Tq:=@List.mem_append_left
def Tr:=@PySem.wpAny_pure
def Ts:=@Nat.le_refl
def Tt:=@if_pos
def Tu:=@List.map_append
def Tv:=@List.size_toArray
def Tw:=@Bool.false_ne_true
def Tx:=@List.mem_cons_of_mem
def Tz:=@List.mem_cons
def TB:=@if_neg
def TC:=@PySem.Heap.lt_size
def TF:=@decide_eq_true_eq
def TH:=@List.length_range
def TJ:=@List.length_cons
def TK:=@Nat.lt_of_lt_of_le
def TL:=@Bool.and_eq_true
def TM:=@List.nodup_append
def TN:=@List.map_map
def TQ:=@PySem.PassesOwn.never
def TR:=@Nat.ne_of_lt
def TU:=@List.mem_singleton
def TV:=@decide_eq_true
def TX:=@List.mem_append
def TY:=@List.nodup_cons
def TZ:=@List.map_cons
def T1:=@beq_self_eq_true
def T3:=@List.mem_of_getElem?
def T4:=@Int.toNat_natCast
def T5:=@Int.eq_ofNat_of_zero_le
def T6:=@beq_iff_eq
def T7:=@Bool.eq_iff_iff
def T8:=@List.all_eq_true
def T9:=@List.append_nil
def Ua:=@Option.some.inj
def Ub:=@List.not_mem_nil
def Uc:=@List.foldl_cons
def Ud:=@List.length_append
def Ue:=@List.eq_nil_of_length_eq_zero
def Ug:=@List.mem_iff_getElem?
def Uh:=@List.zip_cons_cons
def Ui:=@decide_eq_false
def Uj:=@Nat.zero_le
def Uk:=@Option.map_eq_some_iff
def Ul:=@List.map_nil
def Um:=@List.length_nil
def Uo:=@PySem.W.mg_none_of
def Up:=@List.map_congr_left
def Uq:=@Nat.le_trans
def Ur:=@List.mem_map
def Us:=@PySem.wpAny_newObj_type
def Ut:=@List.append_assoc
def Uu:=@List.take_add_one
def Uv:=@PySem.F.slot_tuple_index
def Uw:=@List.nodup_nil
def Ux:=@List.take_length
def Uy:=@List.any_eq_true
def Uz:=@List.mem_range
def UA:=@PySem.wpAny_seqItems
def UB:=@PySem.F.type_tuple_index
def UC:=@beq_eq_false_iff_ne
def UD:=@PySem.sizeLine_eq
def UE:=@List.replicate_succ
def UG:=@List.length_pos_iff
def UH:=@List.idxOf_lt_length_of_mem
def UI:=@List.length_take
def UJ:=@PySem.wpAny_call_entry
def UK:=@List.foldl_append
def UL:=@decide_eq_false_iff_not
def UM:=@Bool.and_self
def UN:=@congrArg
def UO:=@List.length_zip
def UP:=@List.lookup_cons
def UQ:=@Array.length_toList
def UR:=@Option.isSome_iff_exists
def US:=@PySem.wpAny_field
def UT:=@Bool.false_eq_true
def UU:=@List.pairwise_cons
def UW:=@List.filter_cons_of_pos
def UX:=@List.filter_cons_of_neg
def UY:=@Ne.symm
def UZ:=@PySem.wpAny_truthy_bool
def U0:=@PyProof.Rows.slot_tuple_getitem
def U1:=@List.flatten_cons
def U2:=@PySem.wpAny_holding
def U3:=@PySem.wpAny_tryCatch
def U4:=@List.mem_filter
def U5:=@List.length_singleton
def U6:=@List.length_set
def U7:=@List.all_map
def U8:=@List.getElem_range
def U9:=@PySem.wpAny_typeNameOfWhole_keyiter
def Va:=@PySem.Around.under_plainId
def Vb:=@PySem.F.slot_dict_keyiterator_next
def Vc:=@List.map_take
def Vd:=@List.take_zero
def Ve:=@List.any_map
def Vf:=@decide_false
def Vg:=@PyProof.Rows.callWith_type1
def Vh:=@PySem.mem_of_lookup
def Vi:=@PySem.wpAny_letGo
def Vj:=@PyProof.Rows.KeyOrd.kle_refl
def Vk:=@PySem.W.kia_one
def Vl:=@List.nil_append
def Vm:=@decide_true
def Vn:=@List.take_of_length_le
def Vo:=@PySem.F.slot_tuple_iterator_next
def Vp:=@PySem.F.plain_max_loop
def Vq:=@List.getElem_mem
def Vr:=@PySem.F.plain_min_loop
def Vs:=@Nat.lt_irrefl
def Vt:=@PySem.wpAny_pyIter_tuple
def Vu:=@PySem.wpAny_Call_Name_kw
def Vv:=@PySem.wpAny_setField_rec
def Vx:=@Bool.not_true
def Vy:=@Nat.le_succ
def Vz:=@PySem.Heap.size_push
def VA:=@List.mem_of_mem_take
def VB:=@PySem.wpAny_passesOwn
def VC:=@PySem.wpAny_pyIter_list
def VD:=@PySem.plainId_quiet
def VE:=@Option.bind_eq_some_iff
def VF:=@List.length_drop
def VG:=@Nat.lt_succ_self
def VH:=@List.cons_append
def VI:=@Bool.not_false
def VJ:=@PySem.Calls.callWith_builtin
def VL:=@PySem.codeAny_builtin
def VM:=@PySem.wpAny_updateSeq
def VN:=@List.length_filter_le
def VO:=@of_decide_eq_true
def VP:=@List.nodup_iff_pairwise_ne
def VQ:=@if_true
def VR:=@PySem.Calls.call_function_entry
def VT:=@List.drop_eq_getElem_cons
def VU:=@List.toList_toArray
def VW:=@PySem.Heap.SameBut.update
def VX:=@PySem.wpAny_mono
def VY:=@PySem.F.args_tuple_add_2
def VZ:=@PySem.wpAny_typeOf
def V0:=@Nat.zero_add
def V1:=@List.of_mem_zip
def V2:=@PySem.F.entry_tuple_add
def V3:=@PySem.Obj.data_mapFields
def V4:=@PySem.tupleKind_room_in1
def V5:=@PySem.F.plainAttrs_list
def V6:=@PySem.F.slot_tuple_add
def V7:=@PyProof.Rows.KeyOrd.kle_of_klt
def V8:=@List.ext_getElem?
def V9:=@PySem.wpAny_dictEntries
def Wa:=@List.pairwise_map
def Wb:=@PySem.F.args_dict_keyiterator_next_1
def Wc:=@List.set_set
def We:=@PyProof.Rows.KeyOrd.kle_trans
def Wf:=@PySem.F.entry_dict_keyiterator_next
def Wg:=@PySem.wpAny_updateSeq_pair
def Wh:=@PySem.Paired.length
def Wi:=@if_false
def Wj:=@PySem.F.args_tuple_iterator_next_1
def Wl:=@List.cons.inj
def Wm:=@List.all_cons
def Wn:=@List.dropLast_cons_of_ne_nil
def Wo:=@List.dropLast_concat_getLast
def Wq:=@List.filterMap_cons
def Wr:=@PySem.wpAny_execs_nil
def Ws:=@List.range_succ
def Wt:=@PySem.F.entry_tuple_iterator_next
def Wu:=@PySem.F.slot_zip_next
def Wv:=@Array.getD_eq_getD_getElem?
def Ww:=@PySem.Calls.Name_function_global
def Wx:=@Nat.le_of_lt
def Wy:=@Int.cast_ofNat_Int
def Wz:=@List.zip_nil_right
def WA:=@Bool.false_and
def WB:=@PySem.wpAny_setField
def WC:=@bne_self_eq_false
def WD:=@PySem.wpAny_comprehension_free
def WE:=@Nat.lt_succ_of_lt
def WG:=@PySem.wpAny_rule
def WH:=@Option.isSome_map
def WI:=@PySem.F.slot_tuple_count
def WJ:=@List.filterMap_cons_none
def WK:=@List.filterMap_cons_some
def WL:=@List.length_erase_of_mem
def WM:=@List.count_append
def WO:=@PySem.wpAny_onRaise
def WQ:=@PySem.wpAny_attempt
def WR:=@List.not_lt
def WS:=@PySem.F.slot_list_index
def WT:=@List.zip_map'
def WU:=@PySem.noFill_tuple_add
def WV:=@Option.getD_none
def WW:=@PySem.F.entry_max_loop
def WX:=@List.drop_length
def WY:=@PySem.call_meets
def WZ:=@List.cons_ne_nil
def W0:=@PySem.F.entry_min_loop
def W2:=@PySem.W.cellsFrom_some
def W5:=@List.Perm.append_right
def W6:=@List.drop_eq_nil_of_le
def W7:=@List.length_pos_of_mem
def W8:=@List.filter_eq_nil_iff
def Xa:=@Nat.ne_of_gt
def Xb:=@List.length_replicate
def Xc:=@PySem.concat_meets
def Xd:=@Nat.le_of_eq
def Xe:=@List.forIn_cons
def Xf:=@Bool.or_eq_true
def Xh:=@PySem.wpAny_dictEpoch
def Xj:=@List.Perm.append_left
def Xk:=@List.perm_append_comm
def Xl:=@List.idxOf_cons
def Xm:=@Classical.choose_spec
def Xn:=@Nat.not_lt_zero
def Xo:=@Int.natCast_add
def Xp:=@List.count_cons_of_ne
def Xq:=@PySem.typeIs_str
def Xr:=@PySem.typeIs_int
def Xs:=@or_false
def Xv:=@List.length_dropLast
def Xw:=@List.getElem_toArray
def Xx:=@List.findIdx_getElem
def Xy:=@List.dropLast_concat
def Xz:=@List.mem_of_mem_drop
def XA:=@List.drop_zero
def XB:=@Bool.and_false
def XC:=@Nat.mul_le_mul
def XD:=@List.count_nil
def XG:=@PySem.evalArgs_none
def XH:=@PySem.wpAny_of_eq
def XJ:=@List.take_succ_cons
def XM:=@List.drop_succ_cons
def XN:=@Int.le_refl
def XR:=@List.mem_filterMap
def XS:=@PySem.wpAny_standAt
def XT:=@PySem.seq_tuple_add
def XX:=@PySem.wpAny_newList
def XY:=@of_decide_eq_false
def XZ:=@List.any_cons
def X0:=@Int.emod_lt_of_pos
def X1:=@List.map_drop
def X3:=@List.set_cons_zero
def X7:=@PySem.call_meets
def Yi:=@Bool.true_or
def Yj:=@Nat.add_zero
def Yk:=@Nat.mul_comm
def Yl:=@Nat.min_self
def Zo:=@bne_iff_ne
def ZP:=@and_self
namespace L2
open PySem PySem.Spec PyProof.Rows
def IsTupN(h:Heap)(a:Addr)(items:Array Value):Prop:=∃o,h.get? a=some o/\o.cls=.type "tuple"/\(∃n,o.data=.seq items n)/\o.dict=none
theorem IsTupN.tup{h:Heap}{a:Addr}{items:Array Value}(p:IsTupN h a items):IsTup h a items:=by
 obtain⟨o,e,c,n,_⟩:=p;exact⟨o,e,c,n⟩
theorem IsTupN.new(h:Heap)(items:Array Value):IsTupN (h.push {cls:=.type "tuple",data:=.seq items}) h.objs.size items:=⟨_,Heap.get?_push_size _ rfl,rfl,⟨_,rfl⟩,rfl⟩
abbrev Key:=Sum Int Str
def qQ:Key->Value->Bool
 | .inl k,v=>Value.isInt k v
 | .inr x,v=>Value.isStrOf x v
def keyH(w:World):Key->Int
 | .inl k=>hashInt k
 | .inr x=>hashStr w x
theorem ck:∀{k:Key}{v:Value},qQ k v=true->(∃i t,k=Sum.inl i/\v=Value.int i t)\/(∃x t,k=Sum.inr x/\v=Value.str x t)
 | .inl i,v,h=>by
  obtain⟨t,e⟩:=Value.isInt_shape (k:=i) (v:=v) h;exact .inl ⟨i,t,rfl,e⟩
 | .inr x,v,h=>by
  obtain⟨t,e⟩:=Value.isStrOf_shape (x:=x) (v:=v) h;exact .inr ⟨x,t,rfl,e⟩
theorem vA(i:Int)(t:Tok):qQ (.inl i) (.int i t)=true:=by simp[qQ,Value.isInt]
theorem vB(x:Str)(t:Tok):qQ (.inr x) (.str x t)=true:=by simp[qQ,Value.isStrOf]
theorem CB(a b:Int):decide ((Sum.inl a:Key)=Sum.inl b)=(a==b):=by
 by_cases e:a=b
 ·subst e;simp
 ·have h:¬ (Sum.inl a:Key)=Sum.inl b:=fun q=>e (Sum.inl.inj q)
  rw[Ui h];exact(UC.mpr e).symm
theorem CC(a b:Str):decide ((Sum.inr a:Key)=Sum.inr b)=decide (a=b):=by
 by_cases e:a=b
 ·subst e;simp
 ·have h:¬ (Sum.inr a:Key)=Sum.inr b:=fun q=>e (Sum.inr.inj q)
  rw[Ui h,Ui e]
theorem CD(a:Int)(b:Str):decide ((Sum.inl a:Key)=Sum.inr b)=false:=Ui (fun q=>nomatch q)
theorem CF(a:Str)(b:Int):decide ((Sum.inr a:Key)=Sum.inl b)=false:=Ui (fun q=>nomatch q)
noncomputable def mixKind(prog:Program)(w:World):PySem.KeyKind prog w Key where
 is:=qQ
 hash:=keyH w
 inj:=fun v a b ha hb=>by
  rcases ck ha with⟨i,t,rfl,rfl⟩|⟨x,t,rfl,rfl⟩
  ·rcases ck hb with⟨j,u,rfl,e⟩|⟨y,u,rfl,e⟩
   ·injection e with e1 _;rw[e1]
   ·exact nomatch e
  ·rcases ck hb with⟨j,u,rfl,e⟩|⟨y,u,rfl,e⟩
   ·exact nomatch e
   ·injection e with e1 _;rw[e1]
 byValue:=fun k v h=>by
  rcases ck h with⟨i,t,rfl,rfl⟩|⟨x,t,rfl,rfl⟩ <;> rfl
 pyHash:=fun hv h=>by
  rcases ck hv with⟨i,t,rfl,rfl⟩|⟨x,t,rfl,rfl⟩
  ·exact wpAny_pyHash_int h
  ·exact wpAny_pyHash_str h
 eqBool:=fun hu hv h=>by
  rcases ck hu with⟨i,t,rfl,rfl⟩|⟨x,t,rfl,rfl⟩
  ·rcases ck hv with⟨j,u,rfl,rfl⟩|⟨y,u,rfl,rfl⟩
   ·rw[CB]at h;exact wpAny_eqBool_int h
   ·rw[CD]at h;exact SeqAt.EqAt.int_str i t y u _ _ _ _ h
  ·rcases ck hv with⟨j,u,rfl,rfl⟩|⟨y,u,rfl,rfl⟩
   ·rw[CF]at h;exact SeqAt.EqAt.str_int x t j u _ _ _ _ h
   ·rw[CC]at h;exact wpAny_eqBool_str h
 «strs»:=fun k x t v h=>by
  rcases ck h with⟨i,u,rfl,e⟩|⟨y,u,rfl,e⟩
  ·exact nomatch e
  ·injection e with e1 _;subst e1;cases v <;> rfl
theorem uh(prog:Program)(w:World)(k:Key)(v:Value):(mixKind prog w).is k v=qQ k v:=rfl
theorem qR(prog:Program)(w:World)(i:Int)(t:Tok):(mixKind prog w).is (.inl i) (.int i t)=true:=vA i t
theorem qS(prog:Program)(w:World)(x:Str)(t:Tok):(mixKind prog w).is (.inr x) (.str x t)=true:=vB x t
inductive V where
 |non|bl (b:Bool)|int (i:Int)|str (x:Str)|byt (b:Array UInt8)|flt (b:UInt64)|ref (a:Addr)|ty (n:String)
 deriving DecidableEq
noncomputable def RelV:V->Value->Prop
 | .non,u=>u=Value.none
 | .bl b,u=>u=Value.bool b
 | .int i,u=>∃t,u=Value.int i t
 | .str x,u=>∃t,u=Value.str x t
 | .byt b,u=>∃t,u=Value.bytes b t
 | .flt b,u=>∃t,u=Value.float b t
 | .ref a,u=>u=Value.ref a
 | .ty n,u=>u=Value.type n
abbrev Vals:List V->List Value->Prop:=Paired RelV
theorem Vals.length{xs:List V}{us:List Value}(r:Vals xs us):xs.length=us.length:=Wh r
theorem Vals.get:∀{xs:List V}{us:List Value}{i:Nat}{x:V},Vals xs us->xs[i]?=some x->∃u,us[i]?=some u/\RelV x u
 |_,_,_,_,.nil,e=>by simp at e
 |_,_,0,_,.cons r _,e=>by simp at e;subst e;exact⟨_,rfl,r⟩
 |_,_,i+1,x,.cons _ t,e=>by
  obtain⟨u,h1,h2⟩:=Vals.get (i:=i) (x:=x) t (by simpa using e);exact⟨u,by simpa using h1,h2⟩
theorem Vals.append:∀{xs ys:List V}{us ws:List Value},Vals xs us->Vals ys ws->Vals (xs++ys) (us++ws)
 |_,_,_,_,.nil,s=>s
 |_,_,_,_,.cons r t,s=>.cons r (Vals.append t s)
theorem Vals.take:∀{xs:List V}{us:List Value}(n:Nat),Vals xs us->Vals (xs.take n) (us.take n)
 |_,_,0,_=>.nil
 |_,_,_+1,.nil=>.nil
 |_,_,n+1,.cons r t=>.cons r (Vals.take n t)
theorem Vals.drop:∀{xs:List V}{us:List Value}(n:Nat),Vals xs us->Vals (xs.drop n) (us.drop n)
 |_,_,0,r=>r
 |_,_,_+1,.nil=>.nil
 |_,_,n+1,.cons _ t=>Vals.drop n t
theorem Vals.none_of:∀{xs:List V}{us:List Value}{i:Nat},Vals xs us->xs[i]?=none->us[i]?=none:=fun{xs us i} r e=>by
 have h1:=r.length;have h2:xs.length<=i:=List.getElem?_eq_none_iff.mp e;exact List.getElem?_eq_none_iff.mpr (by lia)
def RelO:Option V->Option Value->Prop
 |some v,some u=>RelV v u
 |none,none=>True
 |_,_=>False
def KV{κ:Type}:List (κ×V)->List (κ×Value)->Prop:=Paired fun(p:κ×V) (q:κ×Value)=>p.1=q.1/\RelV p.2 q.2
def kV:Key->V
 | .inl i=>.int i
 | .inr x=>.str x
inductive HO where
 |lst (xs:List V)
 |tup (xs:List V)
 |dK (kvs:List (Key×V))|dT (kvs:List (List Key×V))
 |set (S:Int->Bool) (n:Nat)
 |ins (C dx:Addr) (fs:List (Str×V))
 |own (x:Addr)
 |xd (fs:List (Str×V))
 |met (f x:Addr)
 |rng (lo hi:Int)
 |frz (o:Obj) (u:HO)
 |tbl (ps:Array Value)
 |ext (φ:Heap->Prop)
abbrev Hp:=Addr->Option HO
def upd(H:Hp)(a:Addr)(o:HO):Hp:=fun b=>if b=a then some o else H b
theorem aY{H:Hp}{a:Addr}{o:HO}:upd H a o a=some o:=by unfold upd;rw[Tt rfl]
theorem aJ{H:Hp}{a b:Addr}{o:HO}(h:b≠a):upd H a o b=H b:=by unfold upd;rw[TB h]
theorem EM{H:Hp}{a b:Addr}{o u:HO}(h:H a=some o)(h':H b=some u)(d:o≠u):a≠b:=by
 intro e;subst e;rw[h]at h';exact d (Ua h')
theorem aU{H:Hp}{a b:Addr}{o:HO}(h:H a=some o)(h':H b=none):a≠b:=by
 intro e;subst e;rw[h]at h';cases h'
section
variable(P:Program)(w:World)
noncomputable def ObjOk(H:Hp)(h:Heap)(a:Addr):HO->Prop
 | .lst xs=>xs.length<=sizeLine/\∃(HB:List Value) (n:Nat),Vals xs HB/\h.get? a=some {cls:=.type "list",data:=.seq HB.toArray n}
 | .tup xs=>xs.length<=sizeLine/\∃HB:List Value,Vals xs HB/\IsTupN h a HB.toArray
 | .dK kvs=>kvs.length<=sizeLine/\(a==sysModules)=false/\∃vs,KV kvs vs/\h.DictOf (mixKind P w) a vs
 | .dT kvs=>kvs.length<=sizeLine/\(a==sysModules)=false/\∃xs:List (List Key×Addr×Value),
   Paired (fun(p:List Key×V) (q:List Key×Addr×Value)=>p.1=q.1/\H q.2.1=some (.tup (p.1.map kV))/\RelV p.2 q.2.2) kvs xs/\
   ∃o es ep,h.get? a=some o/\o.ExactDict/\o.data=.dict es ep/\es.toList=xs.map (entryOfKey (tupleKind (mixKind P w)))/\(xs.map (·.1)).Nodup
 | .set S n=>h.SetOf (intKind P w) a S n
 | .ins C dx fs=>H dx=some (.own a)/\fs.length<=1000/\dx≠a/\h.get? a=some (PySem.W.instObj C dx)/\
   ∃mA,h.Ns1 dx mA/\(∀f,RelO (fs.lookup f) (mA f))/\PySem.Within mA (fs.map (·.1))
 | .own _=>∃o,h.get? a=some o
 | .xd fs=>∃mA,h.Ns1 a mA/\∀f,RelO (fs.lookup f) (mA f)
 | .rng lo hi=>∃t u v,h.get? a=some {cls:=.type "range",data:=.fields #[.int lo t,.int hi u,.int 1 v]}
 | .frz o u=>h.get? a=some o/\ObjOk H h a u
 | .tbl ps=>h.get? a=some {cls:=.none,data:=.fields ps}
 | .met f x=>h.get? a=some (PySem.W.methodObj (.ref f) (.ref x))
 | .ext φ=>φ h/\(∃o,h.get? a=some o)/\∀h1 h2:Heap,φ h1->(∀o,h1.get? a=some o->h2.get? a=some o)->φ h2
def HOk(H:Hp)(h:Heap):Prop:=∀a o,H a=some o->ObjOk P w H h a o
end
section
variable{P:Program}{w:World}{H H':Hp}{h h':Heap}{a:Addr}{o:HO}
theorem ObjOk.lt(x:ObjOk P w H h a o):a<h.objs.size:=by
 cases o with
 |lst xs=>obtain⟨_,_,_,_,e⟩:=x;exact TC e
 |tup xs=>obtain⟨_,_,_,p⟩:=x;exact p.tup.lt
 |dK kvs=>obtain⟨_,_,_,_,o,_,_,e,_⟩:=x;exact TC e
 |dT kvs=>obtain⟨_,_,_,_,o,_,_,e,_⟩:=x;exact TC e
 |set S n=>obtain⟨o,_,_,_,e,_⟩:=x;exact TC e
 |ins C dx fs=>obtain⟨_,_,_,e,_⟩:=x;exact TC e
 |own y=>obtain⟨_,e⟩:=x;exact TC e
 |xd fs=>obtain⟨_,⟨_,_,_,e,_⟩,_⟩:=x;exact TC e
 |rng lo hi=>obtain⟨_,_,_,e⟩:=x;exact TC e
 |frz ob u=>obtain⟨e,_⟩:=x;exact TC e
 |tbl ps=>exact TC (show h.get? a=some _ from x)
 |met f y=>exact TC (show h.get? a=some _ from x)
 |ext φ=>obtain⟨_,⟨_,e⟩,_⟩:=x;exact TC e
theorem Paired.mapP{α β:Type}{F G:α->β->Prop}:∀{l₁:List α}{l₂:List β},Paired F l₁ l₂->(∀a b,F a b->G a b)->Paired G l₁ l₂
 |_,_,.nil,_=>.nil
 |_,_,.cons r t,f=>.cons (f _ _ r) (Paired.mapP t f)
theorem ObjOk.stay(x:ObjOk P w H h a o)(k:∀b u,(b=a\/H b=some (.own a))->h.get? b=some u->h'.get? b=some u)
  (ho:∀b,H b=some (.own a)->H' b=some (.own a)) (ht:∀b xs,H b=some (.tup xs)->H' b=some (.tup xs)):ObjOk P w H' h' a o:=by
 induction o with
 |lst xs=>obtain⟨z,HB,n,r,e⟩:=x;exact⟨z,HB,n,r,k _ _ (.inl rfl) e⟩
 |tup xs=>obtain⟨z,HB,r,ob,e,c⟩:=x;exact⟨z,HB,r,ob,k _ _ (.inl rfl) e,c⟩
 |dK kvs=>obtain⟨z,y,vs,r,ob,es,ep,e,c⟩:=x;exact⟨z,y,vs,r,ob,es,ep,k _ _ (.inl rfl) e,c⟩
 |dT kvs=>
  obtain⟨z,y,xs,r,ob,es,ep,e,c⟩:=x;exact⟨z,y,xs,Paired.mapP r fun p q z=>⟨z.1,ht _ _ z.2.1,z.2.2⟩,ob,es,ep,k _ _ (.inl rfl) e,c⟩
 |set S n=>obtain⟨ob,es,ep,t,e,c⟩:=x;exact⟨ob,es,ep,t,k _ _ (.inl rfl) e,c⟩
 |ins C dx fs=>
  obtain⟨d,z,ne,e,mA,⟨od,es,ep,e2,c⟩,r⟩:=x;exact⟨ho _ d,z,ne,k _ _ (.inl rfl) e,mA,⟨od,es,ep,k _ _ (.inr d) e2,c⟩,r⟩
 |own y=>obtain⟨ob,e⟩:=x;exact⟨ob,k _ _ (.inl rfl) e⟩
 |xd fs=>obtain⟨mA,⟨od,es,ep,e,c⟩,r⟩:=x;exact⟨mA,⟨od,es,ep,k _ _ (.inl rfl) e,c⟩,r⟩
 |rng lo hi=>obtain⟨t,u,v,e⟩:=x;exact⟨t,u,v,k _ _ (.inl rfl) e⟩
 |frz ob u ih=>obtain⟨e,q⟩:=x;exact⟨k _ _ (.inl rfl) e,ih q⟩
 |tbl ps=>
  have e:h.get? a=some {cls:=.none,data:=.fields ps}:=x;show h'.get? a=some {cls:=.none,data:=.fields ps};exact k a _ (.inl rfl) e
 |met f y=>
  have e:h.get? a=some (PySem.W.methodObj (.ref f) (.ref y)):=x;show h'.get? a=some (PySem.W.methodObj (.ref f) (.ref y));exact k a _ (.inl rfl) e
 |ext φ=>obtain⟨p,⟨o,e⟩,st⟩:=x;exact⟨st _ _ p fun o q=>k _ _ (.inl rfl) q,⟨o,k _ _ (.inl rfl) e⟩,st⟩
theorem HOk.lt(x:HOk P w H h)(e:H a=some o):a<h.objs.size:=(x a o e).lt
theorem HOk.fresh(x:HOk P w H h)(e:h.objs.size<=a):H a=none:=by
 cases q:H a with
 |none=>rfl
 |some u=>exact absurd (TK (x.lt q) e) (Vs _)
theorem HOk.kept(x:HOk P w H h)(k:∀b u,h.get? b=some u->h'.get? b=some u):HOk P w H h':=fun a o e=>
 (x a o e).stay (fun b u _ q=>k b u q) (fun _ q=>q) fun _ _ q=>q
theorem HOk.laid(x:HOk P w H h)(k:∀b u,h.get? b=some u->h'.get? b=some u)(hp:h.objs.size<=a)(new:ObjOk P w (upd H a o) h' a o):HOk P w (upd H a o) h':=fun b u e=>by
 have hn:=x.fresh hp;by_cases hb:b=a
 ·subst hb;rw[aY]at e;cases e;exact new
 ·rw[aJ hb]at e;exact(x b u e).stay (fun c v _ q=>k c v q) (fun c q=>by rw[aJ (aU q hn)];exact q) fun c xs q=>by rw[aJ (aU q hn)];exact q
end
def Rd(H:Hp)(a:Addr)(u:HO):Prop:=H a=some u\/∃o,H a=some (.frz o u)
theorem Rd.ok{P:Program}{w:World}{H:Hp}{h:Heap}{a:Addr}{u:HO}(r:Rd H a u)(x:HOk P w H h):ObjOk P w H h a u:=by
 rcases r with r|⟨o,r⟩
 ·exact x a u r
 ·obtain⟨_,q⟩:=x a _ r;exact q
def P6:Option HO->Prop
 |some (.lst _)=>True
 |some (.dK _)=>True
 |some (.dT _)=>True
 |some (.set _ _)=>True
 |some (.ins _ _ _)=>True
 |some (.ext _)=>True
 |_=>False
section
variable{P:Program}{w:World}{H:Hp}{h h':Heap}{x e:Addr}{o':HO}
theorem HOk.write(ok:HOk P w H h)(mu:P6 (H x))(he:e=x\/H e=some (.own x))(k:∀b u,b≠e->h.get? b=some u->h'.get? b=some u)(PJ:∃u,h'.get? e=some u)
  (new:ObjOk P w (upd H x o') h' x o'):HOk P w (upd H x o') h':=fun b u q=>by
 have Mi:∀c y,H c=some (.own y)->c≠x:=fun c y r z=>by subst z;rw[r]at mu;exact mu
 have ntup:∀c xs,H c=some (.tup xs)->c≠x:=fun c xs r z=>by subst z;rw[r]at mu;exact mu
 by_cases hb:b=x
 ·subst hb;rw[aY]at q;cases q;exact new
 ·rw[aJ hb]at q;by_cases hbe:b=e
  ·have q':H b=some (.own x):=by
    rcases he with z|z
    ·exact absurd (hbe.trans z) hb
    ·rw[hbe];exact z
   rw[q]at q';cases q';obtain⟨v,hv⟩:=PJ;exact⟨v,by rw[hbe];exact hv⟩
  ·refine(ok b u q).stay (fun c v hc r=>k c v ?_ r) (fun c r=>by rw[aJ (Mi c b r)];exact r) fun c xs r=>by rw[aJ (ntup c xs r)];exact r
   rcases hc with rfl|hc
   ·exact hbe
   ·rintro rfl;rcases he with z|z
    ·exact Mi c b hc z
    ·rw[hc]at z;cases z;exact hb rfl
end
structure Un(fs ex:List Addr)(H H':Hp)(h h':Heap):Prop where
 keep:∀b o,h.get? b=some o->H b=none->b∉fs->b∉ex->h'.get? b=some o
 slot:∀b o,h.get? b=some o->H b=none->b∈fs->b∉ex->∃sl,h'.get? b=some {o with slots:=sl}
 free:∀b o,h.get? b=some o->H b=none->b∉ex->H' b=none
 there:∀b o,h.get? b=some o->b∉ex->∃o',h'.get? b=some o'
 tups:∀b xs,H b=some (.tup xs)->H' b=some (.tup xs)
 frzs:∀b o u,H b=some (.frz o u)->H' b=some (.frz o u)
 tbls:∀b ps,H b=some (.tbl ps)->∃more,H' b=some (.tbl (ps++more))
section
variable{fs fs' ex ex':List Addr}{H H1 H2:Hp}{h h1 h2 h':Heap}{a x e:Addr}{o:HO}
theorem Un.any(u:Un fs ex H H1 h h1){b:Addr}{ob:Obj}(q:h.get? b=some ob)(n:H b=none)(hx:b∉ex):∃sl,h1.get? b=some {ob with slots:=sl}:=by
 by_cases hb:b∈fs
 ·exact u.slot b ob q n hb hx
 ·exact⟨ob.slots,u.keep b ob q n hb hx⟩
theorem Un.kept(k:∀b u,h.get? b=some u->h'.get? b=some u):Un fs ex H H h h':=
 ⟨fun b ob q _ _ _=>k b ob q,fun b ob q _ _ _=>⟨ob.slots,k b ob q⟩,fun _ _ _ n _=>n,fun b ob q _=>⟨ob,k b ob q⟩,fun _ _ q=>q,fun _ _ _ q=>q,fun _ ps q=>⟨#[],by rw[q];simp⟩⟩
theorem Un.refl:Un fs ex H H h h:=Un.kept fun _ _ q=>q
theorem Un.laid(k:∀b u,h.get? b=some u->h'.get? b=some u)(hp:h.objs.size<=a)(hn:H a=none):Un fs ex H (upd H a o) h h' where
 keep:=fun b u q _ _ _=>k b u q
 slot:=fun b u q _ _ _=>⟨u.slots,k b u q⟩
 free:=fun b u q n _=>by rw[aJ (TR (TK (TC q) hp))];exact n
 there:=fun b u q _=>⟨u,k b u q⟩
 tups:=fun b xs q=>by rw[aJ (aU q hn)];exact q
 frzs:=fun b u xs q=>by rw[aJ (aU q hn)];exact q
 tbls:=fun b ps q=>⟨#[],by rw[aJ (aU q hn),q];simp⟩
theorem Un.write(mu:P6 (H x))(he:e=x\/H e=some (.own x))(k:∀b u,b≠e->h.get? b=some u->h'.get? b=some u)(PJ:∃u,h'.get? e=some u):Un fs ex H (upd H x o) h h':=by
 have hx:∀b,H b=none->b≠x:=fun b n z=>by subst z;rw[n]at mu;exact mu
 have hb:∀b,H b=none->b≠e:=fun b n z=>by
  subst z;rcases he with r|r
  ·exact hx b n r
  ·rw[n]at r;cases r
 have hm:∀b u,H b=some u->¬ P6 (some u)->b≠x:=fun b u q nm z=>by subst z;rw[q]at mu;exact nm mu
 refine⟨fun b u q n _ _=>k b u (hb b n) q,fun b u q n _ _=>⟨u.slots,k b u (hb b n) q⟩,fun b u q n _=>by rw[aJ (hx b n)];exact n,fun b u q _=>?_,
  fun b xs q=>by rw[aJ (hm b _ q fun z=>z)];exact q,fun b u xs q=>by rw[aJ (hm b _ q fun z=>z)];exact q,fun b ps q=>⟨#[],by rw[aJ (hm b _ q fun z=>z),q];simp⟩⟩
 by_cases hbe:b=e
 ·subst hbe;exact PJ
 ·exact⟨u,k b u hbe q⟩
end
def trk(h:Heap)(H:Hp):List Addr:=(List.range h.objs.size).filter fun a=>(H a).isSome
def yb(h:Heap)(H:Hp):Heap:=PySem.W.hideAll h (trk h H)
theorem vC(h:Heap)(H:Hp):(yb h H).objs.size=h.objs.size:=PySem.W.hideAll_size _ _
theorem yc{h:Heap}{H:Hp}{b:Addr}{o:Obj}(e:h.get? b=some o)(n:H b=none):(yb h H).get? b=some o:=
 PySem.W.hideAll_get _ e fun hm=>by
  have q:(H b).isSome=true:=(U4.mp hm).2;rw[n]at q;simp at q
theorem As{h:Heap}{H:Hp}{b:Addr}{o:Obj}(e:(yb h H).get? b=some o):h.get? b=some o/\H b=none:=by
 have e':h.get? b=some o:=PySem.W.of_hideAll (trk h H) e;refine⟨e',?_⟩;cases q:H b with
 |none=>rfl
 |some x=>
  have hm:b∈trk h H:=U4.mpr ⟨Uz.mpr (TC e'),by simp[q]⟩;have z:(yb h H).get? b=none:=PySem.W.hideAll_none (trk h H) hm;rw[z]at e;cases e
def Au(g h:Heap)(L:Addr):List (Addr×Obj):=(List.range h.objs.size).filterMap fun a=>if a=L\/(g.get? a).isSome=true then none else(h.get? a).map fun o=>(a,o)
def dS(g h:Heap)(L d:Addr):List (Addr×Obj):=(Au g h L).filter fun p=>decide (p.1≠d)
structure Mod(K:W.Frag)(mg:Str->Option Value)(base:Heap):Prop where
 kin:K.In base
 glob:base.Ns mainGlobals mg
 blt:∃mb,base.Ns builtinsNs mb/\∀x:Str,x≠"__name__"->mb x=bootBuiltins x
 nolimit:base.NoLimit
structure Cx where
 prog:Program
 w:World
 K:W.Frag
 mg:Str->Option Value
 base:Heap
 A:Around
 N:List Str
 s₀:Shared
 H₀:Hp
 env:Env
 outer:List Env
 stack:List Env
 ex:List Addr
 fn:Str->Bool
 calm:Bool
 pn:List (Addr×Obj)
 xe:Value->Shared->Prop
def MH(l:List Env):List Addr:=l.filterMap (·.frame)
abbrev Cx.fs(X:Cx):List Addr:=MH X.outer
def RA(sc:Scope)(x:Str):Prop:=sc.names.lookup x=some .local\/sc.names.lookup x=some .cell\/sc.names.lookup x=some .free
def Loc(sc:Scope)(x:Str):Prop:=sc.names.lookup x=some .local\/sc.names.lookup x=some .cell
def F4(sc:Scope)(x:Str):Bool:=match sc.names.lookup x with
 |some .local=>true
 |some .cell=>true
 |_=>false
theorem lo{sc:Scope}{x:Str}(h:F4 sc x=true):Loc sc x:=by
 unfold F4 at h;split at h
 ·exact .inl (by assumption)
 ·exact .inr (by assumption)
 ·cases h

def Gn(env:Env)(h:Heap)(m:Str->Option Value)(x:Str)(u:Value):Prop:=
 (env.kindOf x=some .local/\m x=some u)\/((env.kindOf x=some .cell\/env.kindOf x=some .free)/\∃c,env.cells.lookup x=some c/\h.IsCell c (some u))
structure Cx.Ok(X:Cx):Prop where
 mod:Mod X.K X.mg X.base
 kind:X.env.scope.kind=.function
 glob:X.env.globals=mainGlobals
 blt:X.env.builtins=builtinsNs
 above:X.s₀.heap.objs.size<=X.env.locals
 inj:∀x y c,X.env.cells.lookup x=some c->X.env.cells.lookup y=some c->x=y
 has:∀x,(X.env.kindOf x=some .cell\/X.env.kindOf x=some .free)->∃c,X.env.cells.lookup x=some c
 cab:∀x c,X.fn x=true->X.env.cells.lookup x=some c->X.s₀.heap.objs.size<=c
 hd:X.calm=true->X.A.handled=none
 frames:X.A.frames=some X.stack
 stk:X.stack=X.outer\/(X.stack=X.env::X.outer/\X.env.frame=some X.env.locals)
 exf:∀b∈X.ex,b≠X.env.locals/\∀x c,X.env.cells.lookup x=some c->c≠b
 bs:∀b o,X.base.get? b=some o->X.s₀.heap.get? b=some o/\X.H₀ b=none
 bsz:X.base.objs.size<=X.s₀.heap.objs.size
 noex:∀b o,X.base.get? b=some o->b∉X.ex
 exfs:∀b∈X.ex,b∉X.fs
 funs:X.s₀.heap.FunFrames X.base X.outer
 frf:∀b∈X.fs,X.H₀ b=none
structure Inv(X:Cx)(pi:List (Addr×Obj))(σ:List (Option V))(H:Hp)(s:Shared):Prop where
 ok:X.Ok
 os:s.os=X.s₀.os
 bare:AllBare s.gens
 base:Un X.fs X.ex X.H₀ H X.s₀.heap s.heap
 loc:∃m,s.heap.Ns X.env.locals m/\∀(i:Nat) (x:Str) (v:V),X.N[i]?=some x->σ[i]?=some (some v)->RA X.env.scope x->∃u,RelV v u/\Gn X.env s.heap m x u
 cell:∀x c,X.env.cells.lookup x=some c->∃v,s.heap.IsCell c v
 free:H X.env.locals=none
 freeC:∀x c,X.env.cells.lookup x=some c->H c=none
 pin:∀p∈X.pn++pi,s.heap.get? p.1=some p.2/\H p.1=none/\p.1≠X.env.locals/\p.1∉X.fs/\∀v,p.2.data≠.cell v
 hok:HOk X.prog X.w H s.heap
 len:σ.length=X.N.length
section
variable{X:Cx}{pi:List (Addr×Obj)}{σ:List (Option V)}{H H':Hp}{s:Shared}{h':Heap}
theorem Cx.Ok.nofr(ok:X.Ok){b:Addr}{o:Obj}(e:X.base.get? b=some o):b∉X.fs:=fun hb=>by
 have:=(ok.funs.mem hb).1;rw[e]at this;cases this
theorem Inv.bs(I:Inv X pi σ H s):∀b o,X.base.get? b=some o->s.heap.get? b=some o/\H b=none:=fun b o e=>
 ⟨I.base.keep b o (I.ok.bs b o e).1 (I.ok.bs b o e).2 (I.ok.nofr e) (I.ok.noex b o e),I.base.free b o (I.ok.bs b o e).1 (I.ok.bs b o e).2 (I.ok.noex b o e)⟩
theorem Inv.bk(I:Inv X pi σ H s):∀b o,X.base.get? b=some o->s.heap.get? b=some o:=fun b o e=>(I.bs b o e).1
theorem Inv.mod(I:Inv X pi σ H s):Mod X.K X.mg X.base:=I.ok.mod
theorem Inv.kIn(I:Inv X pi σ H s):X.K.In s.heap:=I.ok.mod.kin.keeps I.bk
theorem Inv.lt(I:Inv X pi σ H s):X.env.locals<s.heap.objs.size:=let⟨_,hn,_⟩:=I.loc;hn.lt
theorem Inv.sz(I:Inv X pi σ H s):X.s₀.heap.objs.size<=s.heap.objs.size:=Uq I.ok.above (Wx I.lt)
theorem Inv.nofs(I:Inv X pi σ H s){a:Addr}(h:s.heap.objs.size<=a):a∉X.fs:=fun hb=>by
 obtain⟨_,o,ho,_⟩:=I.ok.funs.mem hb;exact absurd (TK (TC ho) (Uq I.sz h)) (Vs _)
theorem Inv.cne(I:Inv X pi σ H s):∀x c,X.env.cells.lookup x=some c->c≠X.env.locals:=fun x c e z=>by
 obtain⟨v,o,ho,hd⟩:=I.cell x c e;obtain⟨m,⟨o',es,ep,Mj,MO,_⟩,_⟩:=I.loc;rw[z,Mj]at ho;cases ho;rw[MO]at hd;cases hd
theorem Inv.funs(I:Inv X pi σ H s):s.heap.FunFrames X.base X.outer:=by
 have all:∀(l:List Env),(∀b∈MH l,b∈X.fs)->X.s₀.heap.FunFrames X.base l->s.heap.FunFrames X.base l:=by
  intro l;induction l with
  |nil=>intro _ _;trivial
  |cons env r ih=>
   intro hs hl;obtain⟨hk,⟨L,o,hf,hn,ho,hd⟩,hr⟩:=hl;have hL:L∈X.fs:=hs L (by unfold MH;rw[Wq,hf];exact Tp);obtain⟨sl,e⟩:=I.base.slot L o ho (I.ok.frf L hL) hL fun z=>I.ok.exfs L z hL
   exact⟨hk,⟨L,_,hf,hn,e,hd⟩,ih (fun b hb=>hs b (by unfold MH;rw[Wq,hf];exact Tx _ hb)) hr⟩
 exact all X.outer (fun _ hb=>hb) I.ok.funs
theorem Inv.stack(I:Inv X pi σ H s):s.heap.FunFrames X.base X.stack:=by
 rcases I.ok.stk with e|⟨e,hf⟩
 ·rw[e];exact I.funs
 ·rw[e];obtain⟨m,hn,_⟩:=I.loc;refine .cons (by rw[I.ok.kind];decide) hf hn ?_ I.funs;exact Heap.get?_none_of_le (Uq I.ok.bsz I.ok.above)
theorem Inv.stkSub(I:Inv X pi σ H s):∀b∈MH X.stack,b∈X.env.locals::X.fs:=fun b hb=>by
 rcases I.ok.stk with e|⟨e,hf⟩
 ·rw[e]at hb;exact Tx _ hb
 ·rw[e]at hb;unfold MH at hb;rw[Wq,hf]at hb;exact hb
theorem Inv.stkFree(I:Inv X pi σ H s):∀b∈MH X.stack,H b=none:=fun b hb=>by
 rcases Tz.mp (I.stkSub b hb) with e|hb
 ·rw[e];exact I.free
 ·obtain⟨_,o,ho,_⟩:=I.ok.funs.mem hb;exact I.base.free b o ho (I.ok.frf b hb) fun z=>I.ok.exfs b z hb
theorem Inv.step{g':Array GenState}{t':Nat}{d':Drawn}{ch:List Addr}(I:Inv X pi σ H s)
  (Nz:∀b∈ch,(b∈X.ex\/X.s₀.heap.objs.size<=b)/\b≠X.env.locals/\(∀x c,X.env.cells.lookup x=some c->c≠b)/\∀p∈X.pn++pi,p.1≠b)
  (keep:∀b o,b≠X.env.locals->b∉X.fs->b∉ch->s.heap.get? b=some o->H b=none->h'.get? b=some o)
  (slot:∀b o,b≠X.env.locals->b∈X.fs->b∉ch->s.heap.get? b=some o->H b=none->∃sl,h'.get? b=some {o with slots:=sl}) (free:∀b o,b∉ch->s.heap.get? b=some o->H b=none->H' b=none)
  (there:∀b o,b∉ch->s.heap.get? b=some o->∃o',h'.get? b=some o')
  (tups:∀b xs,H b=some (.tup xs)->H' b=some (.tup xs)) (frzs:∀b o u,H b=some (.frz o u)->H' b=some (.frz o u)) (tbls:∀b ps,H b=some (.tbl ps)->∃more,H' b=some (.tbl (ps++more)))
  (ns:∀m,s.heap.Ns X.env.locals m->h'.Ns X.env.locals m) (hok:HOk X.prog X.w H' h') (hg:AllBare g'):
  Inv X pi σ H' {s with heap:=h',gens:=g',drawn:=d',toks:=t'}:=by
 have So:∀b o,X.s₀.heap.get? b=some o->b≠X.env.locals:=fun b o e=>TR (TK (TC e) I.ok.above)
 have Rc:∀b o,X.s₀.heap.get? b=some o->b∉X.ex->b∉ch:=fun b o e hx hb=>by
  rcases(Nz b hb).1 with z|z
  ·exact hx z
  ·exact absurd (TK (TC e) z) (Vs _)
 have cellK:∀x c,X.env.cells.lookup x=some c->∀v,s.heap.IsCell c v->h'.IsCell c v:=fun x c e v HP=>by
  obtain⟨o,ho,hd⟩:=HP;have Lz:c∉ch:=fun z=>(Nz c z).2.2.1 x c e rfl
  by_cases hc:c∈X.fs
  ·obtain⟨sl,q⟩:=slot c o (I.cne x c e) hc Lz ho (I.freeC x c e);exact⟨_,q,hd⟩
  ·exact⟨o,keep c o (I.cne x c e) hc Lz ho (I.freeC x c e),hd⟩
 refine⟨I.ok,I.os,hg,⟨fun b o e n hb hx=>?_,fun b o e n hb hx=>?_,fun b o e n hx=>?_,fun b o e hx=>?_,fun b xs e=>tups b xs (I.base.tups b xs e),fun b o xs e=>frzs b o xs (I.base.frzs b o xs e),fun b ps e=>?_⟩,?_,fun x c e=>?_,?_,fun x c e=>?_,fun p hp=>?_,hok,I.len⟩
 ·exact keep b o (So b o e) hb (Rc b o e hx) (I.base.keep b o e n hb hx) (I.base.free b o e n hx)
 ·obtain⟨sl,e1⟩:=I.base.slot b o e n hb hx;obtain⟨sl',e2⟩:=slot b _ (So b o e) hb (Rc b o e hx) e1 (I.base.free b o e n hx);exact⟨sl',e2⟩
 ·obtain⟨o',e1⟩:=I.base.there b o e hx;exact free b o' (Rc b o e hx) e1 (I.base.free b o e n hx)
 ·obtain⟨o',e1⟩:=I.base.there b o e hx;exact there b o' (Rc b o e hx) e1
 ·obtain⟨m1,e1⟩:=I.base.tbls b ps e;obtain⟨m2,e2⟩:=tbls b _ e1;exact⟨m1++m2,by rw[e2,Array.append_assoc]⟩
 ·obtain⟨m,hn,hl⟩:=I.loc;refine⟨m,ns m hn,fun i x v e1 e2 e3=>?_⟩;obtain⟨u,r,l⟩:=hl i x v e1 e2 e3;refine⟨u,r,?_⟩;rcases l with l|⟨k,c,e,z⟩
  ·exact .inl l
  ·exact .inr ⟨k,c,e,cellK x c e _ z⟩
 ·obtain⟨v,z⟩:=I.cell x c e;exact⟨v,cellK x c e v z⟩
 ·obtain⟨m,⟨o,_,_,ho,_⟩,_⟩:=I.loc;exact free _ o (fun z=>(Nz _ z).2.1 rfl) ho I.free
 ·obtain⟨v,o,ho,hd⟩:=I.cell x c e;exact free c o (fun z=>(Nz c z).2.2.1 x c e rfl) ho (I.freeC x c e)
 ·obtain⟨e,n,ne,nf,d⟩:=I.pin p hp;have Lz:p.1∉ch:=fun z=>(Nz p.1 z).2.2.2 p hp rfl
  exact⟨keep p.1 p.2 ne nf Lz e n,free p.1 p.2 Lz e n,ne,nf,d⟩
theorem Inv.un{t':Nat}(I:Inv X pi σ H s)(u:Un X.fs [] H H' s.heap h')(hok:HOk X.prog X.w H' h'):Inv X pi σ H' {s with heap:=h',toks:=t'}:=by
 obtain⟨m,⟨o,es,ep,ho,r⟩,_⟩:=id I.loc;obtain⟨sl,hL⟩:=u.any ho I.free (by simp);exact I.step (g':=s.gens) (d':=s.drawn) (ch:=[]) (fun _ z=>nomatch z) (fun b o _ hb _ e n=>u.keep b o e n hb (by simp)) (fun b o _ hb _ e n=>u.slot b o e n hb (by simp)) (fun b o _ e n=>u.free b o e n (by simp)) (fun b o _ e=>u.there b o e (by simp)) u.tups u.frzs u.tbls (fun m' hm=>by
  obtain⟨o',L8,Rf,Mj,r'⟩:=hm;rw[ho]at Mj;cases Mj;exact⟨_,L8,Rf,hL,r'⟩) hok I.bare
theorem Inv.call{g':Array GenState}{t':Nat}{d':Drawn}{ch:List Addr}(I:Inv X pi σ H s)(u:Un (MH X.stack) ch H H' s.heap h')(hok:HOk X.prog X.w H' h')(hg:AllBare g')
  (Nz:∀b∈ch,(b∈X.ex\/X.s₀.heap.objs.size<=b)/\b≠X.env.locals/\(∀x c,X.env.cells.lookup x=some c->c≠b)/\∀p∈X.pn++pi,p.1≠b):
  Inv X pi σ H' {s with heap:=h',gens:=g',drawn:=d',toks:=t'}:=by
 obtain⟨m,⟨o,es,ep,ho,r⟩,_⟩:=id I.loc;obtain⟨sl,hL⟩:=u.any ho I.free fun z=>(Nz _ z).2.1 rfl
 exact I.step (ch:=ch) Nz (fun b o hL hb hc e n=>u.keep b o e n (fun z=>(Tz.mp (I.stkSub b z)).elim hL hb) hc) (fun b o _ _ hc e n=>u.any e n hc) (fun b o hc e n=>u.free b o e n hc) (fun b o hc e=>u.there b o e hc) u.tups u.frzs u.tbls (fun m' hm=>by
  obtain⟨o',L8,Rf,Mj,r'⟩:=hm;rw[ho]at Mj;cases Mj;exact⟨_,L8,Rf,hL,r'⟩) hok hg
theorem Inv.turned{t':Nat}{it:Addr}(I:Inv X pi σ H s)(k:∀b o,b≠it->s.heap.get? b=some o->h'.get? b=some o)(hn:H it=none)(hL:it≠X.env.locals)
  (h1:it∈X.ex\/X.s₀.heap.objs.size<=it) (h2:∀x c,X.env.cells.lookup x=some c->c≠it) (h3:∀p∈X.pn++pi,p.1≠it):Inv X pi σ H {s with heap:=h',toks:=t'}:=by
 have Sq:∀b u,H b=some u->b≠it:=fun b u e z=>by rw[z,hn]at e;cases e
 refine I.step (g':=s.gens) (d':=s.drawn) (ch:=[it]) (fun b hb=>?_) (fun b o _ _ hc e _=>k b o (fun z=>hc (by simp[z])) e) (fun b o _ _ hc e _=>⟨o.slots,k b o (fun z=>hc (by simp[z])) e⟩) (fun _ _ _ _ n=>n)
  (fun b o hc e=>⟨o,k b o (fun z=>hc (by simp[z])) e⟩) (fun _ _ e=>e) (fun _ _ _ e=>e) (fun b ps e=>⟨#[],by rw[e];simp⟩) (fun m hm=>?_) (fun b u e=>?_) I.bare
 ·have e:b=it:=by simpa using hb
  subst e;exact⟨h1,hL,h2,h3⟩
 ·obtain⟨o,es,ep,ho,r⟩:=hm;exact⟨o,es,ep,k _ o (UY hL) ho,r⟩
 ·refine(I.hok b u e).stay (fun c v hc q=>k c v ?_ q) (fun _ q=>q) fun _ _ q=>q
  rcases hc with z|z
  ·rw[z];exact Sq b u e
  ·exact Sq c _ z
theorem Inv.tok(I:Inv X pi σ H s)(t:Nat):Inv X pi σ H {s with toks:=t}:=I.un (h':=s.heap) (t':=t) Un.refl I.hok
theorem Inv.kept{t':Nat}(I:Inv X pi σ H s)(k:∀b u,s.heap.get? b=some u->h'.get? b=some u):Inv X pi σ H {s with heap:=h',toks:=t'}:=I.un (Un.kept k) (I.hok.kept k)
theorem Inv.laid{a:Addr}{o:HO}{t':Nat}(I:Inv X pi σ H s)(k:∀b u,s.heap.get? b=some u->h'.get? b=some u)(hp:s.heap.objs.size<=a)(new:ObjOk X.prog X.w (upd H a o) h' a o):
  Inv X pi σ (upd H a o) {s with heap:=h',toks:=t'}:=I.un (Un.laid k hp (I.hok.fresh hp)) (I.hok.laid k hp new)
theorem Inv.write{x e:Addr}{o:HO}{t':Nat}(I:Inv X pi σ H s)(mu:P6 (H x))(he:e=x\/H e=some (.own x))(k:∀b u,b≠e->s.heap.get? b=some u->h'.get? b=some u)(PJ:∃u,h'.get? e=some u)
  (new:ObjOk X.prog X.w (upd H x o) h' x o):Inv X pi σ (upd H x o) {s with heap:=h',toks:=t'}:=I.un (Un.write mu he k PJ) (I.hok.write mu he k PJ new)
theorem Inv.pins_of{Ow:List (Addr×Obj)}(I:Inv X pi σ H s)(h:∀p∈Ow,s.heap.get? p.1=some p.2/\H p.1=none/\p.1≠X.env.locals/\p.1∉X.fs/\∀v,p.2.data≠.cell v):Inv X Ow σ H s:=
 ⟨I.ok,I.os,I.bare,I.base,I.loc,I.cell,I.free,I.freeC,fun p hp=>(TX.mp hp).elim (fun z=>I.pin p (Tq _ z)) (h p),I.hok,I.len⟩
theorem si{N:List Str}(hN:N.Nodup){i j:Nat}{x:Str}(a:N[i]?=some x)(b:N[j]?=some x):i=j:=by
 obtain⟨h1,e1⟩:=List.getElem?_eq_some_iff.mp a;obtain⟨h2,e2⟩:=List.getElem?_eq_some_iff.mp b;exact(List.getElem_inj hN).mp (e1.trans e2.symm)
theorem px{M:Model}{A:Around}{E:Value->Shared->Prop}{i:Nat}{x:Str}{v:V}{u:Value}{Q:Unit->Shared->Prop}(I:Inv X pi σ H s)(hN:X.N.Nodup)(hi:X.N[i]?=some x)(hx:Loc X.env.scope x)(r:RelV v u)
  (h:∀s',Inv X pi (σ.set i (some v)) H s'->(∃a,Heap.SameBut a s.heap s'.heap/\(a=X.env.locals\/X.env.cells.lookup x=some a))->Q () s') (hf:X.fn x=true\/X.env.scope.names.lookup x=some .local:=by first|exact .inl rfl|exact .inr rfl|assumption):wpAny M A (storeName X.env x u) Q E s:=by
 obtain⟨m,hn,hl⟩:=id I.loc;have hcls:(X.env.scope.kind==.class||(X.env.scope.kind==.module&&X.env.locals != X.env.globals))=false:=by rw[I.ok.kind];rfl
 have hiσ:i<σ.length:=by rw[I.len];exact(List.getElem?_eq_some_iff.mp hi).1
 have cne:=I.cne;have tracked:∀{a:Addr}{h':Heap},(∃o,s.heap.get? a=some o/\H a=none)->Heap.SameBut a s.heap h'->HOk X.prog X.w H h':=fun{a h'} ha hs b ob e=>by
  obtain⟨_,_,Ox⟩:=ha;refine(I.hok b ob e).stay (fun c w' hc q=>(hs.2 c ?_).trans q) (fun _ q=>q) fun _ _ q=>q
  rintro rfl;rcases hc with rfl|hc
  ·rw[Ox]at e;cases e
  ·rw[Ox]at hc;cases hc
 rcases hx with hk|hk
 ·refine wpAny_storeName_local hk hn (fun h' RB hs=>?_) hcls;obtain⟨oL,_,_,hoL,_⟩:=id hn;refine h _ ⟨I.ok,I.os,I.bare,⟨fun b o e n hb hx=>?_,fun b o e n hb hx=>?_,I.base.free,fun b o e hx=>?_,I.base.tups,I.base.frzs,I.base.tbls⟩,⟨_,RB,fun j y v' e1 e2 e3=>?_⟩,fun y c e=>?_,I.free,I.freeC,fun p hp=>?_,tracked ⟨oL,hoL,I.free⟩ hs,by simpa using I.len⟩ ⟨_,hs,.inl rfl⟩
  ·exact(hs.2 b (TR (TK (TC e) I.ok.above))).trans (I.base.keep b o e n hb hx)
  ·obtain⟨sl,e1⟩:=I.base.slot b o e n hb hx;exact⟨sl,(hs.2 b (TR (TK (TC e) I.ok.above))).trans e1⟩
  ·obtain⟨o',e1⟩:=I.base.there b o e hx;exact⟨o',(hs.2 b (TR (TK (TC e) I.ok.above))).trans e1⟩
  ·by_cases hj:j=i
   ·subst hj;rw[hi]at e1;cases e1;rw[List.getElem?_set_self hiσ]at e2;cases e2;exact⟨u,r,.inl ⟨hk,by simp⟩⟩
   ·rw[List.getElem?_set_ne (UY hj)]at e2;obtain⟨u',r',q⟩:=hl j y v' e1 e2 e3;refine⟨u',r',?_⟩;rcases q with⟨k,e⟩|⟨k,c,e,z⟩
    ·refine .inl ⟨k,?_⟩;have:y≠x:=fun e=>hj (si hN e1 (e▸hi))
     simp[this,e]
    ·exact .inr ⟨k,c,e,z.sameBut hs (cne y c e)⟩
  ·obtain⟨w',z⟩:=I.cell y c e;exact⟨w',z.sameBut hs (cne y c e)⟩
  ·obtain⟨e,n,ne,nf,d⟩:=I.pin p hp;exact⟨(hs.2 p.1 ne).trans e,n,ne,nf,d⟩
 ·have MP:X.fn x=true:=by
   rcases hf with z|z
   ·exact z
   ·rw[z]at hk;cases hk
  obtain⟨c,hc⟩:=I.ok.has x (.inl hk);obtain⟨w',z⟩:=I.cell x c hc;refine wpAny_storeName_cell I.ok.kind hk hc z (fun h' Ks hs=>?_);obtain⟨oc,Sr,hocd⟩:=id z;refine h {s with heap:=h'} ⟨I.ok,I.os,I.bare,⟨fun b o e n hb hx=>?_,fun b o e n hb hx=>?_,I.base.free,fun b o e hx=>?_,I.base.tups,I.base.frzs,I.base.tbls⟩,⟨m,hn.sameBut hs (UY (cne x c hc)),fun j y v' e1 e2 e3=>?_⟩,fun y c' e=>?_,I.free,I.freeC,fun p hp=>?_,tracked ⟨oc,Sr,I.freeC x c hc⟩ hs,by simpa using I.len⟩ ⟨c,hs,.inr hc⟩
  ·exact(hs.2 b (TR (TK (TC e) (I.ok.cab x c MP hc)))).trans (I.base.keep b o e n hb hx)
  ·obtain⟨sl,e1⟩:=I.base.slot b o e n hb hx;exact⟨sl,(hs.2 b (TR (TK (TC e) (I.ok.cab x c MP hc)))).trans e1⟩
  ·obtain⟨o',e1⟩:=I.base.there b o e hx;exact⟨o',(hs.2 b (TR (TK (TC e) (I.ok.cab x c MP hc)))).trans e1⟩
  ·by_cases hj:j=i
   ·subst hj;rw[hi]at e1;cases e1;rw[List.getElem?_set_self hiσ]at e2;cases e2;exact⟨u,r,.inr ⟨.inl hk,c,hc,Ks⟩⟩
   ·rw[List.getElem?_set_ne (UY hj)]at e2;obtain⟨u',r',q⟩:=hl j y v' e1 e2 e3;refine⟨u',r',?_⟩;rcases q with q|⟨k,c',e,z'⟩
    ·exact .inl q
    ·refine .inr ⟨k,c',e,z'.sameBut hs ?_⟩;rintro rfl;exact hj (si hN e1 (I.ok.inj _ _ _ e hc▸hi))
  ·by_cases hcc:c'=c
   ·subst hcc;exact⟨_,Ks⟩
   ·obtain⟨w2,z2⟩:=I.cell y c' e;exact⟨w2,z2.sameBut hs hcc⟩
  ·obtain⟨e,n,ne,nf,d⟩:=I.pin p hp;refine⟨(hs.2 p.1 ?_).trans e,n,ne,nf,d⟩;intro q;rw[q,Sr]at e;have q':oc=p.2:=Ua e;exact d w' (by rw[<-q'];exact hocd)
theorem sj{M:Model}{A:Around}{E:Value->Shared->Prop}{i:Nat}{x:Str}{v:V}{u:Value}{Q:Unit->Shared->Prop}(I:Inv X pi σ H s)(hN:X.N.Nodup)(hi:X.N[i]?=some x)(hx:Loc X.env.scope x)(r:RelV v u)
  (h:∀s',Inv X pi (σ.set i (some v)) H s'->Q () s') (hf:X.fn x=true\/X.env.scope.names.lookup x=some .local:=by first|exact .inl rfl|exact .inr rfl|assumption):wpAny M A (storeName X.env x u) Q E s:=
 px I hN hi hx r (fun s' I' _=>h s' I') hf
theorem Inv.call'{s':Shared}{ch:List Addr}(I:Inv X pi σ H s)(ho:s'.os=s.os)(u:Un (MH X.stack) ch H H' s.heap s'.heap)(hok:HOk X.prog X.w H' s'.heap)(hg:AllBare s'.gens)
  (Nz:∀b∈ch,(b∈X.ex\/X.s₀.heap.objs.size<=b)/\b≠X.env.locals/\(∀x c,X.env.cells.lookup x=some c->c≠b)/\∀p∈X.pn++pi,p.1≠b):Inv X pi σ H' s':=by
 obtain⟨h',g',d',t',o'⟩:=s';have e:o'=s.os:=ho;subst e;exact I.call (g':=g') (t':=t') (d':=d') u hok hg Nz
end
abbrev XK:=Value->Option Addr->Hp->Prop
abbrev St:=List (Option V)
abbrev VK:=V->Hp->Prop
abbrev TE:=St->Hp->VK->Prop
abbrev TT:=St->Hp->(Bool->Hp->Prop)->Prop
abbrev TA:=St->Hp->(List V->Hp->Prop)->Prop
structure Ends where
 nx:St->Hp->Prop
 rt:VK
 bk:St->Hp->Prop:=fun _ _=>False
 ct:St->Hp->Prop:=fun _ _=>False
abbrev TS:=Ends->St->Hp->Prop
def EP(X:Cx)(pi:List (Addr×Obj))(σ:St)(Q:VK)(u:Value)(s':Shared):Prop:=∃v H',Inv X pi σ H' s'/\RelV v u/\Q v H'
def TP(X:Cx)(pi:List (Addr×Obj))(σ:St)(Q:Bool->Hp->Prop)(b:Bool)(s':Shared):Prop:=∃H',Inv X pi σ H' s'/\Q b H'
def AP(X:Cx)(pi:List (Addr×Obj))(σ:St)(Q:List V->Hp->Prop)(us:List Value)(s':Shared):Prop:=∃vs H',Inv X pi σ H' s'/\Vals vs us/\Q vs H'
def SP(X:Cx)(pi:List (Addr×Obj))(D:Ends)(f:Flow)(s':Shared):Prop:=
 match f with
 | .next=>∃σ' H',Inv X pi σ' H' s'/\D.nx σ' H'
 | .brk=>∃σ' H',Inv X pi σ' H' s'/\D.bk σ' H'
 | .cont=>∃σ' H',Inv X pi σ' H' s'/\D.ct σ' H'
 | .ret u=>∃v σ' H',Inv X pi σ' H' s'/\RelV v u/\D.rt v H'
def PE(X:Cx)(e:Expr)(t:TE):Prop:=
 ∀(pi:List (Addr×Obj)) (s:Shared) (σ:St) (H:Hp) (Q:VK),Inv X pi σ H s->t σ H Q->wpAny (model X.prog X.w) X.A (eval e X.env) (EP X pi σ Q) X.xe s
def PT(X:Cx)(e:Expr)(t:TT):Prop:=
 ∀(pi:List (Addr×Obj)) (s:Shared) (σ:St) (H:Hp) (Q:Bool->Hp->Prop),Inv X pi σ H s->t σ H Q->wpAny (model X.prog X.w) X.A (isTrue e X.env (eval e X.env)) (TP X pi σ Q) X.xe s
def PW(X:Cx)(e:Expr)(t:TT):Prop:=
 ∀(whole:Sem Value) (pi:List (Addr×Obj)) (s:Shared) (σ:St) (H:Hp) (Q:Bool->Hp->Prop),Inv X pi σ H s->t σ H Q->wpAny (model X.prog X.w) X.A (isTrue e X.env whole) (TP X pi σ Q) X.xe s
theorem PW.pt{X:Cx}{e:Expr}{t:TT}(h:PW X e t):PT X e t:=h _
def PA(X:Cx)(es:List Expr)(t:TA):Prop:=
 ∀(pos:Pos) (pi:List (Addr×Obj)) (s:Shared) (σ:St) (H:Hp) (Q:List V->Hp->Prop),Inv X pi σ H s->t σ H Q->wpAny (model X.prog X.w) X.A (spliced (backTo pos (starEach es X.env))) (AP X pi σ Q) X.xe s
def PS(X:Cx)(st:Stmt)(t:TS):Prop:=
 ∀(pi:List (Addr×Obj)) (s:Shared) (σ:St) (H:Hp) (D:Ends),Inv X pi σ H s->t D σ H->wpAny (model X.prog X.w) X.A (exec st X.env) (SP X pi D) X.xe s
def PSs(X:Cx)(st:List Stmt)(t:TS):Prop:=
 ∀(pi:List (Addr×Obj)) (s:Shared) (σ:St) (H:Hp) (D:Ends),Inv X pi σ H s->t D σ H->wpAny (model X.prog X.w) X.A (execs st X.env) (SP X pi D) X.xe s
theorem HW{α:Type}{t:Sem α}{Q Q':α->Shared->Prop}{M:Model}{A:Around}{E:Value->Shared->Prop}{s:Shared}(h:wpAny M A t Q E s)(hQ:∀a s,Q a s->Q' a s):wpAny M A t Q' E s:=VX h hQ fun _ _ x=>x
section
variable{X:Cx}
theorem bin{a b:Expr}{ta tb:TE}(ha:PE X a ta)(hb:PE X b tb){pi:List (Addr×Obj)}{s:Shared}{σ:St}{H:Hp}{R:V->V->Hp->Prop}(I:Inv X pi σ H s)(h:ta σ H fun x H1=>tb σ H1 fun y H2=>R x y H2)
  {α:Type}{Q:α->Shared->Prop}{f:Value->Value->Sem α}
  (hf:∀v u s2 x y H2,Inv X pi σ H2 s2->RelV x v->RelV y u->R x y H2->wpAny (model X.prog X.w) X.A (f v u) Q X.xe s2):
  wpAny (model X.prog X.w) X.A (eval a X.env) (fun v s₁=>wpAny (model X.prog X.w) X.A (eval b X.env) (fun u s₂=>wpAny (model X.prog X.w) X.A (f v u) Q X.xe s₂) X.xe s₁) X.xe s:=by
 refine HW (ha pi s σ H _ I h) fun v s1 HY=>?_
 obtain⟨x,H1,I1,r1,q1⟩:=HY;refine HW (hb pi s1 σ H1 _ I1 q1) fun u s2 HY=>?_
 obtain⟨y,H2,I2,r2,q2⟩:=HY;exact hf v u s2 x y H2 I2 r1 r2 q2
def yd(i:Nat):TE:=fun σ H Q=>∃v,σ[i]?=some (some v)/\Q v H
def tC(v:V):TE:=fun _ H Q=>Q v H
theorem CG{i:Nat}{x:Str}{pos:Pos}(hN:X.N[i]?=some x)(hv:RA X.env.scope x)(hd:(x==("__debug__" : Str))=false:=by decide)(MQ:(x==("__classdict__" : Str))=false:=by decide):PE X (.Name x pos) (yd i):=by
 intro pi s σ H Q I h;obtain⟨v,e,h⟩:=h;obtain⟨m,hn,hl⟩:=I.loc;obtain⟨u,r,l⟩:=hl i x v hN e hv;have fin:EP X pi σ Q u s:=⟨v,H,I,r,h⟩
 rcases l with⟨hk,hm⟩|⟨hk,c,hc,Ik⟩
 ·exact wpAny_Name (wpAny_loadName_local I.ok.kind hk hn hm fin) hd
 ·rcases hk with hk|hk
  ·exact wpAny_Name (wpAny_loadName_cell I.ok.kind hk hc Ik fin) hd
  ·exact wpAny_Name (wpAny_loadName_free I.ok.kind hk hc Ik fin MQ) hd
theorem CI{i j pos}:PE X (.Constant (.int i) j pos) (tC (.int i)):=fun _ _ _ H _ I h=>wpAny_Constant_int ⟨.int i,H,I.tok _,⟨_,rfl⟩,h⟩
theorem EN{b j pos}:PE X (.Constant (.bool b) j pos) (tC (.bl b)):=fun _ _ _ H _ I h=>Constant_bool ⟨.bl b,H,I,rfl,h⟩
theorem CJ{j pos}:PE X (.Constant .none j pos) (tC .non):=fun _ _ _ H _ I h=>Constant_none ⟨.non,H,I,rfl,h⟩
theorem CK{x j pos}:PE X (.Constant (.str x) j pos) (tC (.str x)):=fun _ _ _ H _ I h=>Calls.Constant_str ⟨.str x,H,I.tok _,⟨_,rfl⟩,h⟩
def Gl(X:Cx)(x:Str):Prop:=X.env.kindOf x=some .globalImplicit
theorem Av{E:Value->Shared->Prop}{pi:List (Addr×Obj)}{s:Shared}{σ:St}{H:Hp}{x:Str}{u:Value}{pos:Pos}{Q:Value->Shared->Prop}(I:Inv X pi σ H s)(hg:Gl X x)(hm:X.mg x=some u)(h:Q u s)
  (hd:(x==("__debug__" : Str))=false:=by decide):wpAny (model X.prog X.w) X.A (eval (.Name x pos) X.env) Q E s:=
 Ww I.ok.kind hg (Calls.loadGlobal_global (by rw[I.ok.glob];exact I.mod.glob.keeps I.bk) hm h) hd
theorem kG{E:Value->Shared->Prop}{pi:List (Addr×Obj)}{s:Shared}{σ:St}{H:Hp}{x:Str}{u:Value}{pos:Pos}{Q:Value->Shared->Prop}(I:Inv X pi σ H s)(hg:Gl X x)(hm:X.mg x=none)(hv:bootBuiltins x=some u)(h:Q u s)
  (hn:x≠"__name__":=by decide) (hd:(x==("__debug__" : Str))=false:=by decide):wpAny (model X.prog X.w) X.A (eval (.Name x pos) X.env) Q E s:=by
 obtain⟨mb,h1,h2⟩:=I.mod.blt;exact Ww I.ok.kind hg (Calls.loadGlobal_builtin (by rw[I.ok.glob];exact I.mod.glob.keeps I.bk) hm (by rw[I.ok.blt];exact h1.keeps I.bk) ((h2 x hn).trans hv) h) hd
theorem Aw{x:Str}{v:V}{u:Value}{pos:Pos}(hg:Gl X x)(hm:X.mg x=none)(hv:bootBuiltins x=some u)(r:RelV v u)(hn:x≠"__name__":=by decide)(hd:(x==("__debug__" : Str))=false:=by decide):PE X (.Name x pos) (tC v):=
 fun _ _ _ H _ I h=>kG I hg hm hv ⟨v,H,I,r,h⟩ hn hd
variable{a b:Expr}{ta tb:TE}{pos:Pos}
def PC(X:Cx)(op:CmpOp)(a b:Expr)(t:TE):Prop:=
 ∀(pi:List (Addr×Obj)) (s:Shared) (σ:St) (H:Hp) (Q:VK),Inv X pi σ H s->t σ H Q->
  wpAny (model X.prog X.w) X.A (eval a X.env) (fun v s₁=>wpAny (model X.prog X.w) X.A (eval b X.env) (fun u s₂=>wpAny (model X.prog X.w) X.A (compareOp op v u) (EP X pi σ Q) X.xe s₂) X.xe s₁) X.xe s
theorem ye(b:Expr){op:CmpOp}(h:op≠.In)(h2:op≠.NotIn):behindInMarks op b=false:=by
 have e1:(op==CmpOp.In)=false:=by cases op <;> first|rfl|exact absurd rfl h
 have e2:(op==CmpOp.NotIn)=false:=by cases op <;> first|rfl|exact absurd rfl h2
 cases b <;> simp[behindInMarks,e1,e2]
def tB(t:TE):TT:=fun σ H Q=>t σ H fun x H1=>∃c,x=.bl c/\Q c H1
theorem F5{op:CmpOp}{t:TE}(h:PC X op a b t)(h1:behindInMarks op b=false:=by first|exact ye _ (by decide) (by decide)|rfl):PT X (.Compare a [op] [b] pos) (tB t):=by
 intro pi s σ H Q I hw;refine wpAny_isTrue_Compare1 (HW (h pi s σ H _ I hw) fun v s1 h1=>HW h1 fun u s2 h2=>HW h2 fun c s3 ⟨x,H1,I1,r1,q1⟩=>?_) h1;obtain⟨d,rfl,q⟩:=q1;cases r1;exact UZ ⟨H1,I1,q⟩
theorem CL{e:Expr}{t:TE}(h:PE X e t)(he:∀whole,isTrue e X.env whole=(do let v <-whole;standAt e.pos;holding [v] (truthy v)):=by intro _;rfl):PT X e (tB t):=by
 intro pi s σ H Q I hw;refine isTrue_plain (HW (h pi s σ H _ I hw) fun v s1 ⟨x,H1,I1,r1,q1⟩=>?_) (he _);obtain⟨d,rfl,q⟩:=q1;cases r1;exact UZ ⟨H1,I1,q⟩
variable{tA Rg:TT}{dS:List Expr}
def Gp(t u:TT):TT:=fun σ H Q=>t σ H fun c H1=>if c=true then u σ H1 Q else Q false H1
def tOr(t u:TT):TT:=fun σ H Q=>t σ H fun c H1=>if c=true then Q true H1 else u σ H1 Q
def Gq(t:TT):TT:=fun σ H Q=>t σ H fun c H1=>Q (!c) H1
theorem Ax(ha:PT X a tA):PW X (.BoolOp .And [a] pos) tA:=by
 intro wh pi s σ H Q I h;refine isTrue_and (HW (ha pi s σ H Q I h) fun c s1 e=>?_);cases c with
 |true=>exact isTrue_and_nil e
 |false=>exact e
theorem CM(ha:PT X a tA):PW X (.BoolOp .Or [a] pos) tA:=by
 intro wh pi s σ H Q I h;refine isTrue_or (HW (ha pi s σ H Q I h) fun c s1 e=>?_);cases c with
 |false=>exact isTrue_or_nil e
 |true=>exact e
theorem CN(ha:PT X a tA)(hb:PW X (.BoolOp .And (b::dS) pos) Rg):PW X (.BoolOp .And (a::b::dS) pos) (Gp tA Rg):=by
 intro wh pi s σ H Q I h;refine isTrue_and (HW (ha pi s σ H _ I h) fun c s1 HY=>?_);obtain⟨H1,I1,q1⟩:=HY;cases c with
 |true=>exact hb wh pi s1 σ H1 Q I1 q1
 |false=>exact⟨H1,I1,q1⟩
theorem ER(ha:PT X a tA)(hb:PW X (.BoolOp .Or (b::dS) pos) Rg):PW X (.BoolOp .Or (a::b::dS) pos) (tOr tA Rg):=by
 intro wh pi s σ H Q I h;refine isTrue_or (HW (ha pi s σ H _ I h) fun c s1 HY=>?_);obtain⟨H1,I1,q1⟩:=HY;cases c with
 |true=>exact⟨H1,I1,q1⟩
 |false=>exact hb wh pi s1 σ H1 Q I1 q1
theorem CO(ha:PT X a tA):PT X (.UnaryOp .Not a pos) (Gq tA):=by
 intro pi s σ H Q I h;exact isTrue_not (ha pi s σ H (fun c H1=>Q (!c) H1) I h)
def ES(ta tb:TE):TE:=fun σ H Q=>ta σ H fun x H1=>∃c,x=.bl c/\if c=true then tb σ H1 Q else Q (.bl false) H1
def ET(ta:TE):TE:=fun σ H Q=>ta σ H fun x H1=>∃c,x=.bl c/\Q (.bl (!c)) H1
theorem CP{op}{t:TE}(h:PE X a t):PE X (.BoolOp op [a] pos) t:=fun pi s σ H Q I hw=>BoolOp_one (h pi s σ H Q I hw)
theorem CQ(ha:PE X a ta)(hb:PE X (.BoolOp .And (b::dS) pos) tb):PE X (.BoolOp .And (a::b::dS) pos) (ES ta tb):=by
 intro pi s σ H Q I h;refine BoolOp_and (HW (ha pi s σ H _ I h) fun v s1 HY=>?_);obtain⟨x,H1,I1,r1,q1⟩:=HY;obtain⟨c,rfl,q1⟩:=q1;cases r1;refine UZ ?_;cases c with
 |true=>exact hb pi s1 σ H1 Q I1 q1
 |false=>exact⟨.bl false,H1,I1,rfl,q1⟩
theorem CS(ha:PE X a ta):PE X (.UnaryOp .Not a pos) (ET ta):=by
 intro pi s σ H Q I h;refine UnaryOp_ (HW (ha pi s σ H _ I h) fun v s1 HY=>?_);obtain⟨x,H1,I1,r1,q1⟩:=HY;obtain⟨c,rfl,q1⟩:=q1;cases r1;exact not_of (UZ ⟨.bl (!c),H1,I1,rfl,q1⟩)
end
def SqL(K:W.Frag)(H:Hp)(a:Addr)(xs:List V):Prop:=
 Rd H a (.lst xs)\/
  ∃(o:Obj) (HB:Array Value) (n:Nat),K.lookup a=some o/\o.cls=.type "list"/\o.dict=none/\o.data=.seq HB n/\HB.size<=sizeLine/\Vals xs HB.toList
def SqT(K:W.Frag)(H:Hp)(a:Addr)(xs:List V):Prop:=
 Rd H a (.tup xs)\/
  ∃(o:Obj) (HB:Array Value) (n:Nat),K.lookup a=some o/\o.cls=.type "tuple"/\o.dict=none/\o.data=.seq HB n/\HB.size<=sizeLine/\Vals xs HB.toList
def Gr:Value->Option V
 | .none=>some .non
 | .bool b=>some (.bl b)
 | .int i _=>some (.int i)
 | .str x _=>some (.str x)
 | .bytes b _=>some (.byt b)
 | .float b _=>some (.flt b)
 | .ref a=>some (.ref a)
 | .type n=>some (.ty n)
 |_=>none
theorem RelV.abs{x:V}{u:Value}(r:RelV x u):Gr u=some x:=by
 cases x with
 |non=>cases r;rfl
 |bl _=>cases r;rfl
 |int _=>obtain⟨t,rfl⟩:=r;rfl
 |str _=>obtain⟨t,rfl⟩:=r;rfl
 |byt _=>obtain⟨t,rfl⟩:=r;rfl
 |flt _=>obtain⟨t,rfl⟩:=r;rfl
 |ref _=>cases r;rfl
 |ty _=>cases r;rfl
theorem RelV.inj{x y:V}{u:Value}(r:RelV x u)(q:RelV y u):x=y:=Ua (r.abs.symm.trans q.abs)
theorem Vals.inj:∀{xs ys:List V}{us:List Value},Vals xs us->Vals ys us->xs=ys
 |_,_,_,.nil,.nil=>rfl
 |_,_,_,.cons r t,.cons r' t'=>by rw[r.inj r',Vals.inj t t']
section
variable{X:Cx}{pi:List (Addr×Obj)}{σ:St}{H:Hp}{s:Shared}{a:Addr}{xs ys:List V}
theorem SqL.of{K:W.Frag}(h:H a=some (.lst xs)):SqL K H a xs:=.inl (.inl h)
theorem SqT.of{K:W.Frag}(h:H a=some (.tup xs)):SqT K H a xs:=.inl (.inl h)
theorem Inv.list(I:Inv X pi σ H s)(h:SqL X.K H a xs):∃HB:List Value,Vals xs HB/\PlainL s.heap a HB.toArray/\xs.length<=sizeLine:=by
 rcases h with h|⟨o,HB,n,hk,hc,hd,hs,hz,r⟩
 ·obtain⟨z,HB,n,r,e⟩:=h.ok I.hok;exact⟨HB,r,⟨_,n,e,rfl,rfl,rfl⟩,z⟩
 ·refine⟨HB.toList,r,⟨o,n,I.kIn a o hk,hc,hd,by simpa using hs⟩,?_⟩;have e:=r.length;simp only[UQ]at e;lia
theorem Inv.tupleN(I:Inv X pi σ H s)(h:SqT X.K H a xs):∃HB:List Value,Vals xs HB/\IsTupN s.heap a HB.toArray/\xs.length<=sizeLine:=by
 rcases h with h|⟨o,HB,n,hk,hc,hdn,hs,hz,r⟩
 ·obtain⟨z,HB,r,p⟩:=h.ok I.hok;exact⟨HB,r,p,z⟩
 ·refine⟨HB.toList,r,⟨o,I.kIn a o hk,hc,⟨n,by simpa using hs⟩,hdn⟩,?_⟩;have e:=r.length;simp only[UQ]at e;lia
theorem Inv.tuple(I:Inv X pi σ H s)(h:SqT X.K H a xs):∃HB:List Value,Vals xs HB/\IsTup s.heap a HB.toArray/\xs.length<=sizeLine:=by
 obtain⟨HB,r,p,z⟩:=I.tupleN h;exact⟨HB,r,p.tup,z⟩
theorem Inv.list_inj(I:Inv X pi σ H s)(h:SqL X.K H a xs)(h':SqL X.K H a ys):xs=ys:=by
 obtain⟨HB,r,⟨o,n,e,_,_,d⟩,_⟩:=I.list h;obtain⟨its',r',⟨o',n',e',_,_,d'⟩,_⟩:=I.list h';rw[e]at e';cases e';rw[d]at d';injection d' with d1 _;have:HB=its':=by simpa using UN Array.toList d1
 subst this;exact r.inj r'
theorem Inv.tuple_inj(I:Inv X pi σ H s)(h:SqT X.K H a xs)(h':SqT X.K H a ys):xs=ys:=by
 obtain⟨HB,r,⟨o,e,_,n,d⟩,_⟩:=I.tuple h;obtain⟨its',r',⟨o',e',_,n',d'⟩,_⟩:=I.tuple h';rw[e]at e';cases e';rw[d]at d';injection d' with d1 _;have:HB=its':=by simpa using UN Array.toList d1
 subst this;exact r.inj r'
end
abbrev Cx.wish(X:Cx)(E:Value->Shared->Prop):Cx:={X with xe:=E}
abbrev Cx.nox(X:Cx):Cx:=X.wish fun _ _=>False
theorem Cx.Ok.wish{X:Cx}(ok:X.Ok)(E:Value->Shared->Prop):(X.wish E).Ok:=
 ⟨ok.mod,ok.kind,ok.glob,ok.blt,ok.above,ok.inj,ok.has,ok.cab,ok.hd,ok.frames,ok.stk,ok.exf,ok.bs,ok.bsz,ok.noex,ok.exfs,ok.funs,ok.frf⟩
theorem Cx.Ok.unwish{X:Cx}{E:Value->Shared->Prop}(ok:(X.wish E).Ok):X.Ok:=
 ⟨ok.mod,ok.kind,ok.glob,ok.blt,ok.above,ok.inj,ok.has,ok.cab,ok.hd,ok.frames,ok.stk,ok.exf,ok.bs,ok.bsz,ok.noex,ok.exfs,ok.funs,ok.frf⟩
section
variable{X:Cx}{pi:List (Addr×Obj)}{σ:St}{H:Hp}{s:Shared}{E:Value->Shared->Prop}
theorem Inv.wish(I:Inv X pi σ H s)(E:Value->Shared->Prop):Inv (X.wish E) pi σ H s:=⟨I.ok.wish E,I.os,I.bare,I.base,I.loc,I.cell,I.free,I.freeC,I.pin,I.hok,I.len⟩
theorem Inv.unwish(I:Inv (X.wish E) pi σ H s):Inv X pi σ H s:=⟨I.ok.unwish,I.os,I.bare,I.base,I.loc,I.cell,I.free,I.freeC,I.pin,I.hok,I.len⟩
theorem SP.unwish{D:Ends}{f:Flow}{s':Shared}(h:SP (X.wish E) pi D f s'):SP X pi D f s':=by
 cases f with
 |next=>obtain⟨σ',H',I,q⟩:=h;exact⟨σ',H',I.unwish,q⟩
 |brk=>obtain⟨σ',H',I,q⟩:=h;exact⟨σ',H',I.unwish,q⟩
 |cont=>obtain⟨σ',H',I,q⟩:=h;exact⟨σ',H',I.unwish,q⟩
 |ret u=>obtain⟨v,σ',H',I,r,q⟩:=h;exact⟨v,σ',H',I.unwish,r,q⟩
theorem PSs.nox{st:List Stmt}{t:TS}(h:PSs X.nox st t):PSs X st t:=fun pi s σ H D I hw=>
 VX (h pi s σ H D (I.wish _) hw) (fun _ _ q=>q.unwish) fun _ _ z=>False.elim z
end
section
variable{X:Cx}{st:Stmt}{dS:List Stmt}{t u:TS}{e:Expr}{te:TE}{pos:Pos}
def EU:TS:=fun D σ H=>D.nx σ H
def Gs(t u:TS):TS:=fun D σ H=>t {D with nx:=u D} σ H
theorem Ay:PSs X [] EU:=fun _ _ σ H _ I h=>Wr ⟨σ,H,I,h⟩
theorem yf(h1:PS X st t)(h2:PSs X dS u):PSs X (st::dS) (Gs t u):=by
 intro pi s σ H D I h;refine wpAny_execs_cons (HW (h1 pi s σ H {D with nx:=u D} I h) fun f s1 q=>?_);cases f with
 |next=>
  obtain⟨σ',H',I',q⟩:=q;exact h2 pi s1 σ' H' D I' q
 |ret v=>exact q
 |brk=>exact q
 |cont=>exact q
theorem Az(h1:PS X st t):PSs X [st] t:=by
 intro pi s σ H D I h;refine wpAny_execs_cons (HW (h1 pi s σ H D I h) fun f s1 q=>?_);cases f with
 |next=>exact Wr q
 |ret v=>exact q
 |brk=>exact q
 |cont=>exact q
theorem Inv.quiet{pi:List (Addr×Obj)}{σ:St}{H:Hp}{s:Shared}(I:Inv X pi σ H s):interactive X.env=false:=by simp[interactive,I.ok.kind]
def EV(te:TE):TS:=fun D σ H=>te σ H fun _ H1=>D.nx σ H1
theorem AA(he:PE X e te)(hs:swapsWith e none pos.line X.env=pure false:=by rfl):PS X (.Expr e pos) (EV te):=by
 intro pi s σ H D I h;exact wpAny_Expr_any (HW (he pi s σ H _ I h) fun v s1 ⟨x,H1,I1,r1,q1⟩=>⟨σ,H1,I1,q1⟩) I.quiet hs
def Gu(te:TE):TS:=fun D σ H=>te σ H D.rt
theorem zS(he:PE X e te):PS X (.Return (some e) pos) (Gu te):=by
 intro pi s σ H D I h;exact wpAny_Return_some (HW (he pi s σ H _ I h) fun v s1 ⟨x,H1,I1,r1,q1⟩=>⟨x,σ,H1,I1,r1,q1⟩)
def Gv(c:TT)(t u:TS):TS:=fun D σ H=>c σ H fun b H1=>if b=true then t D σ H1 else u D σ H1
theorem EW{c:Expr}{a b:List Stmt}{tc:TT}(hc:PT X c tc)(ha:PSs X a t)(hb:PSs X b u):PS X (.If c a b pos) (Gv tc t u):=by
 intro pi s σ H D I h;refine wpAny_If (HW (hc pi s σ H _ I h) fun d s1 HY=>?_);obtain⟨H1,I1,q1⟩:=HY;cases d with
 |true=>exact ha pi s1 σ H1 D I1 q1
 |false=>exact hb pi s1 σ H1 D I1 q1
def CT:TS:=fun _ _ _=>False
theorem yg:PS X st CT:=fun _ _ _ _ _ _ h=>h.elim
end
abbrev TG:=V->St->Hp->(St->Hp->Prop)->Prop
abbrev Oy:=List V->St->Hp->(St->Hp->Prop)->Prop
def PG(X:Cx)(target:Expr)(t:TG):Prop:=
 ∀(pi:List (Addr×Obj)) (s:Shared) (σ:St) (H:Hp) (v:V) (u:Value) (Q:St->Hp->Prop),Inv X pi σ H s->RelV v u->t v σ H Q->
  wpAny (model X.prog X.w) X.A (assign target X.env u) (fun _ s'=>∃σ' H',Inv X pi σ' H' s'/\Q σ' H') X.xe s
def OL(X:Cx)(ts:List Expr)(t:Oy):Prop:=
 ∀(pi:List (Addr×Obj)) (s:Shared) (σ:St) (H:Hp) (vs:List V) (us:List Value) (Q:St->Hp->Prop),Inv X pi σ H s->Vals vs us->t vs σ H Q->
  wpAny (model X.prog X.w) X.A (assignInOrder ((assignEach ts X.env).map (·.2)) us) (fun _ s'=>∃σ' H',Inv X pi σ' H' s'/\Q σ' H') X.xe s
section
variable{X:Cx}{pos:Pos}
def CU(i:Nat):TG:=fun v σ H Q=>Q (σ.set i (some v)) H
theorem AB{i:Nat}{x:Str}(hN:X.N.Nodup)(hi:X.N[i]?=some x)(hx:Loc X.env.scope x)(hf:X.fn x=true\/X.env.scope.names.lookup x=some .local:=by first|exact .inl rfl|exact .inr rfl|assumption):PG X (.Name x pos) (CU i):=by
 intro pi s σ H v u Q I r h;exact wpAny_assign_Name (sj I hN hi hx r (fun s' I'=>⟨_,H,I',h⟩) hf)
def Gw:Oy:=fun vs σ H Q=>vs=[]/\Q σ H
def EX(t:TG)(u:Oy):Oy:=fun vs σ H Q=>∃v r,vs=v::r/\t v σ H fun σ' H'=>u r σ' H' Q
theorem AD:OL X [] Gw:=by
 intro pi s σ H vs us Q I r h;obtain⟨e,h⟩:=h;subst e;cases r;exact assignInOrder_nil ⟨σ,H,I,h⟩
theorem yh{e:Expr}{es:List Expr}{t:TG}{u:Oy}(h1:PG X e t)(h2:OL X es u)
  (hs:(assignEach (e::es) X.env).map (·.2)=assign e X.env::(assignEach es X.env).map (·.2):=by rfl):OL X (e::es) (EX t u):=by
 intro pi s σ H vs us Q I r h;obtain⟨v,vr,e1,h⟩:=h;subst e1;cases r with
 |cons r rr=>
  rw[hs];refine assignInOrder_cons (HW (h1 pi s σ H _ _ _ I r h) fun _ s1 HY=>?_);obtain⟨σ1,H1,I1,q1⟩:=HY;exact h2 pi s1 σ1 H1 _ _ Q I1 rr q1
def Gx(K:W.Frag)(n:Nat)(t:Oy):TG:=fun v σ H Q=>∃a xs,v=.ref a/\SqT K H a xs/\xs.length=n/\t xs σ H Q
theorem CV{es:List Expr}{k:Nat}{t:Oy}{n:Nat}(hc:X.calm=true)(h:OL X es t)
  (hn:(assignEach es X.env).length=n:=by rfl) (L9:(assignEach es X.env).findIdx? (·.1)=none:=by rfl):PG X (.Tuple es k pos) (Gx X.K n t):=by
 intro pi s σ H v u Q I r hw;obtain⟨a,xs,e1,hq,hl,hw⟩:=hw;subst e1;cases r;obtain⟨HB,rv,ht,hz⟩:=I.tuple hq;refine assign_Tuple_tuple (I.ok.hd hc) ht (by simp[hn,<-hl,rv.length]) L9 fun h' hx=>?_
 have I1:Inv X pi σ H {s with heap:=h'}:=I.kept (t':=s.toks) fun b o e=>hx b o (TR (TC e)) e
 exact h pi _ σ H xs _ Q I1 (by simpa using rv) hw
def F6(te:TE)(g:TG):TS:=fun D σ H=>te σ H fun x H1=>g x σ H1 D.nx
theorem CW{tg e:Expr}{te:TE}{g:TG}(he:PE X e te)(hg:PG X tg g)(hs:swapsWithSole [tg] e pos.line X.env=pure false:=by rfl)(hw:swappedStores [tg] e X.env=pure none:=by rfl)
  (h1:(assignEach [tg] X.env).map (·.2)=[assign tg X.env]:=by rfl):PS X (.Assign [tg] e pos) (F6 te g):=by
 intro pi s σ H D I h;refine wpAny_Assign_stores (HW (he pi s σ H _ I h) fun v s1 ⟨x,H1,I1,r1,q1⟩=>?_) hs hw;rw[h1];exact HW (hg pi s1 σ H1 x v _ I1 r1 q1) fun _ s2 q=>q
theorem CY{i:Nat}{x:Str}{e:Expr}{te:TE}{pos':Pos}(hN:X.N.Nodup)(hi:X.N[i]?=some x)(hx:Loc X.env.scope x)(he:PE X e te)(hs:swapsWith e (some (.Name x pos')) pos.line X.env=pure false:=by rfl)(hf:X.fn x=true\/X.env.scope.names.lookup x=some .local:=by first|exact .inl rfl|exact .inr rfl|assumption):
  PS X (.Assign [.Name x pos'] e pos) (F6 te (CU i)):=by
 intro pi s σ H D I h;refine wpAny_Assign_Name (HW (he pi s σ H _ I h) fun v s1 ⟨y,H1,I1,r1,q1⟩=>?_) hs;exact sj I1 hN hi hx r1 (fun s2 I2=>⟨_,H1,I2,q1⟩) hf
end
section
variable{X:Cx}{pos:Pos}
def CZ(c:TT)(tb:TS):TS:=fun D σ H=>∃W:Nat->St->Hp->Prop,(∃m,W m σ H)/\∀m σ H,W m σ H->
 c σ H fun b H1=>if b=true then ∃N:St->Hp->Prop,(∀σ' H',N σ' H'->∃m',m'<m/\W m' σ' H')/\tb {D with nx:=N,ct:=N,bk:=D.nx} σ H1 else D.nx σ H1
theorem yi{c:Expr}{body:List Stmt}{tc:TT}{tb:TS}(hp:PassesOwn (model X.prog X.w) X.A X.env X.xe)(hc:PT X c tc)(hb:PSs X body tb):PS X (.While c body [] pos) (CZ tc tb):=by
 intro pi s σ H D I h;obtain⟨W,⟨m0,w0⟩,turn⟩:=h;refine wpAny_While (codeAny_whileLoop (fun n s'=>∃σ' H',Inv X pi σ' H' s'/\W n σ' H') ?_ m0 ⟨σ,H,I,w0⟩);rintro n s1 ⟨σ1,H1,I1,w1⟩;refine VB hp (HW (hc pi s1 σ1 H1 _ I1 (turn n σ1 H1 w1)) fun b s2 HY=>?_);obtain⟨H2,I2,q2⟩:=HY;cases b with
 |true=>
  obtain⟨N,hN,q2⟩:=q2;rw[Tt rfl];refine VB hp (HW (hb pi s2 σ1 H2 _ I2 q2) fun f s3 q3=>?_);cases f with
  |next=>
   obtain⟨σ3,H3,I3,n3⟩:=q3;obtain⟨m',hm,w3⟩:=hN σ3 H3 n3;exact⟨m',hm,σ3,H3,I3,w3⟩
  |cont=>
   obtain⟨σ3,H3,I3,n3⟩:=q3;obtain⟨m',hm,w3⟩:=hN σ3 H3 n3;exact⟨m',hm,σ3,H3,I3,w3⟩
  |brk=>exact q3
  |ret v=>exact q3
 |false=>
  rw[TB Tw];exact Wr ⟨σ1,H2,I2,q2⟩
end
structure It where
 go:Nat->Hp->Prop
 yld:Nat->Hp->V->Hp->Prop
 stop:Nat->Hp->Prop
def vy(X:Cx)(pi:List (Addr×Obj))(H:Hp)(b:Addr):Prop:=
 H b=none/\b≠X.env.locals/\b∉X.fs/\(b∈X.ex\/X.s₀.heap.objs.size<=b)/\(∀x c,X.env.cells.lookup x=some c->c≠b)/\∀p∈X.pn++pi,p.1≠b
theorem Inv.fpOk{X:Cx}{pi:List (Addr×Obj)}{σ:St}{H H':Hp}{s:Shared}{b:Addr}(I:Inv X pi σ H s)(hb:s.heap.objs.size<=b)(hn:H' b=none):vy X pi H' b:=by
 refine⟨hn,Xa (TK I.lt hb),I.nofs hb,.inr (Uq I.sz hb),fun x c e z=>?_,fun p hp z=>?_⟩
 ·obtain⟨v,q⟩:=I.cell x c e;exact absurd (TK q.lt (by rw[z];exact hb)) (Vs _)
 ·exact absurd (TK (TC (I.pin p hp).1) (by rw[z];exact hb)) (Vs _)
structure Turn(P:Program)(w:World)(K:W.Frag)(tg:Expr)(J:It)(fp:List Addr)(it:Addr)(tn:Nat->Heap->Prop):Prop where
 mem:it∈fp
 obj:∀i h,tn i h->∀b∈fp,∃o,h.get? b=some o/\∀v,o.data≠.cell v
 keep:∀i h h',tn i h->(∀b∈fp,∀o,h.get? b=some o->h'.get? b=some o)->tn i h'
 item:∀(X:Cx),X.prog=P->X.w=w->X.K=K->X.calm=true->∀(i:Nat) (pi:List (Addr×Obj)) (s:Shared) (σ:St) (H:Hp) (E:Value->Shared->Prop),Inv X pi σ H s->(∀b∈fp,vy X pi H b)->tn i s.heap->J.go i H->
  wpAny (model P w) X.A (pyNext (.ref it)) (fun r s1=>∃u,r=some u/\
   wpAny (model P w) X.A (letOwnedTupleGo tg (.ref it) u) (fun _ s2=>∃x H',Inv X pi σ H' s2/\RelV x u/\J.yld i H x H'/\tn (i+1) s2.heap/\∀b∈fp,H' b=none) E s1) E s
 done:∀(X:Cx),X.prog=P->X.w=w->X.K=K->X.calm=true->∀(i:Nat) (pi:List (Addr×Obj)) (s:Shared) (σ:St) (H:Hp) (E:Value->Shared->Prop),Inv X pi σ H s->(∀b∈fp,vy X pi H b)->tn i s.heap->J.stop i H->
  wpAny (model P w) X.A (pyNext (.ref it)) (fun r s1=>r=none/\Inv X pi σ H s1) E s
 self:∀(A:Around) (i:Nat) (s:Shared) (Q:Value->Shared->Prop) (E:Value->Shared->Prop),tn i s.heap->Q (.ref it) s->wpAny (model P w) A (pyIter (.ref it)) Q E s
abbrev TI:=St->Hp->(It->Hp->Prop)->Prop
def Ss(X:Cx)(pi:List (Addr×Obj))(σ:St)(tg:Expr)(R:It->Hp->Prop)(Rh:Value)(s2:Shared):Prop:=
 ∃(it:Addr) (fp:List Addr) (tn:Nat->Heap->Prop) (J:It) (H':Hp),Rh=.ref it/\Inv X pi σ H' s2/\Turn X.prog X.w X.K tg J fp it tn/\tn 0 s2.heap/\(∀b∈fp,vy X pi H' b)/\R J H'
def PI(X:Cx)(tg iter:Expr)(wi:TI):Prop:=
 ∀(pi:List (Addr×Obj)) (s:Shared) (σ:St) (H:Hp) (R:It->Hp->Prop),Inv X pi σ H s->wi σ H R->
  wpAny (model X.prog X.w) X.A (eval iter X.env) (fun v s1=>wpAny (model X.prog X.w) X.A (pyIter v) (Ss X pi σ tg R) X.xe s1) X.xe s
theorem yj {M : Model} {A : Around} {E : Value -> Shared -> Prop} {s : Shared} {tg : Expr} {it : Addr} {u : Value} {o : Obj} {n : String} {vs : Array Value} {Q : Unit -> Shared -> Prop} (ho : s.heap.get? it = some o) (hc : o.cls = .type n) (hd : o.data = .fields vs)
    (hn : ["enumerate", "zip", "dict_itemiterator", "dict_reverseitemiterator", "odict_iterator", "itertools.zip_longest", "itertools.pairwise"].contains n = false) (hQ : Q () s) : wpAny M A (letOwnedTupleGo tg (.ref it) u) Q E s := by
  unfold letOwnedTupleGo
  cases tg <;> first
    | exact Tr hQ
    | (cases u <;> first
        | exact Tr hQ
        | (refine Tj (wpAny_load ho ?_)
           rw [hc, hd]
           show wpAny M A (if (["enumerate", "zip", "dict_itemiterator", "dict_reverseitemiterator", "odict_iterator", "itertools.zip_longest", "itertools.pairwise"].contains n && vs[0]? == some (rawInt _)) = true then _ else _) Q E s
           rw [TB (by intro h; rw [hn, WA] at h; cases h)]
           exact Tr hQ))
def PL(K:W.Frag)(a:Addr):It:=
 ⟨fun i H=>∃xs x,SqL K H a xs/\xs[i]?=some x,fun i H x H'=>H'=H/\∀xs,SqL K H a xs->xs[i]?=some x,fun i H=>∃xs,SqL K H a xs/\xs.length<=i⟩
def RC(K:W.Frag)(a:Addr):It:=
 ⟨fun i H=>∃xs x,SqT K H a xs/\xs[i]?=some x,fun i H x H'=>H'=H/\∀xs,SqT K H a xs->xs[i]?=some x,fun i H=>∃xs,SqT K H a xs/\xs.length<=i⟩
def P7(lo:Int)(n:Nat):It:=⟨fun i _=>i<n,fun i H x H'=>H'=H/\x=.int (lo+i),fun i _=>n<=i⟩
theorem vD{P:Program}{w:World}{K:W.Frag}{tg:Expr}(a it:Addr):Turn P w K tg (PL K a) [it] it (fun i h=>h.IsListIter it a i) where
 mem:=by simp
 obj:=fun i h st b hb=>by
  have e:b=it:=by simpa using hb
  subst e;obtain⟨o,e,c,d⟩:=st;exact⟨o,e,fun v z=>by rw[d]at z;cases z⟩
 keep:=fun i h h' st k=>st.at fun o e=>k it (by simp) o e
 item:=by
  intro X hP hw hK hc i pi s σ H E I hf st hg;subst hP hw hK;obtain⟨xs,x,hq,hx⟩:=hg;obtain⟨HB,rv,p,hz⟩:=I.list hq;obtain⟨u,hu,ru⟩:=rv.get hx;obtain⟨f0,f1,f2,f3,f4,f5⟩:=hf it (by simp);refine wpAny_pyNext_list_item st p.isList (x:=u) (by simpa using hu) fun h' JZ sb=>?_
  have I1:Inv X pi σ H {s with heap:=h'}:=I.turned (t':=s.toks) (fun b o hb e=>(sb.2 b hb).trans e) f0 f1 f3 f4 f5;obtain⟨o,e,c,d⟩:=id JZ;exact⟨u,rfl,yj (s:={s with heap:=h'}) e c d (by decide) ⟨x,H,I1,ru,⟨rfl,fun ys hy=>by rw[I.list_inj hy hq];exact hx⟩,JZ,fun b hb=>(hf b hb).1⟩⟩
 done:=by
  intro X hP hw hK hc i pi s σ H E I hf st hg;subst hP hw hK;obtain⟨xs,hq,hx⟩:=hg;obtain⟨HB,rv,p,hz⟩:=I.list hq;obtain⟨f0,f1,f2,f3,f4,f5⟩:=hf it (by simp);have hl:=rv.length;exact wpAny_pyNext_list_end (I.ok.hd hc) st p.isList (by simp;lia) fun h' eb=>⟨rfl,I.turned (t':=s.toks) (fun b o hb e=>eb b o hb e) f0 f1 f3 f4 f5⟩
 self:=fun _ _ _ _ _ st h=>wpAny_pyIter_listiter st h
theorem uk{P:Program}{w:World}{K:W.Frag}{tg:Expr}(a it:Addr):Turn P w K tg (RC K a) [it] it (fun i h=>h.IsTupleIter it a i) where
 mem:=by simp
 obj:=fun i h st b hb=>by
  have e:b=it:=by simpa using hb
  subst e;obtain⟨o,e,c,d⟩:=st;exact⟨o,e,fun v z=>by rw[d]at z;cases z⟩
 keep:=fun i h h' st k=>st.at fun o e=>k it (by simp) o e
 item:=by
  intro X hP hw hK hc i pi s σ H E I hf st hg;subst hP hw hK;obtain⟨xs,x,hq,hx⟩:=hg;obtain⟨HB,rv,p,hz⟩:=I.tuple hq;obtain⟨u,hu,ru⟩:=rv.get hx;obtain⟨f0,f1,f2,f3,f4,f5⟩:=hf it (by simp);refine wpAny_pyNext_tuple_item st (show s.heap.IsTuple a HB.toArray from p) (x:=u) (by simpa using hu) fun h' JZ sb=>?_
  have I1:Inv X pi σ H {s with heap:=h'}:=I.turned (t':=s.toks) (fun b o hb e=>(sb.2 b hb).trans e) f0 f1 f3 f4 f5;obtain⟨o,e,c,d⟩:=id JZ;exact⟨u,rfl,yj (s:={s with heap:=h'}) e c d (by decide) ⟨x,H,I1,ru,⟨rfl,fun ys hy=>by rw[I.tuple_inj hy hq];exact hx⟩,JZ,fun b hb=>(hf b hb).1⟩⟩
 done:=by
  intro X hP hw hK hc i pi s σ H E I hf st hg;subst hP hw hK;obtain⟨xs,hq,hx⟩:=hg;obtain⟨HB,rv,p,hz⟩:=I.tuple hq;obtain⟨f0,f1,f2,f3,f4,f5⟩:=hf it (by simp);have hl:=rv.length;exact wpAny_pyNext_tuple_end (I.ok.hd hc) st (show s.heap.IsTuple a HB.toArray from p) (by simp;lia) fun h' eb=>⟨rfl,I.turned (t':=s.toks) (fun b o hb e=>eb b o hb e) f0 f1 f3 f4 f5⟩
 self:=fun _ _ _ _ _ st h=>wpAny_pyIter_tupleiter st h
theorem um{P:Program}{w:World}{K:W.Frag}{tg:Expr}(it:Addr)(lo:Int)(n:Nat):Turn P w K tg (P7 lo n) [it] it (fun i h=>IsRangeIter h it (lo+(i:Nat)*1) ((n:Int)-(i:Nat)) 1) where
 mem:=by simp
 obj:=fun i h st b hb=>by
  have e:b=it:=by simpa using hb
  subst e;exact⟨_,st,fun v z=>by
   have z':Data.fields _=Data.cell v:=z;cases z'⟩
 keep:=fun i h h' st k=>k it (by simp) _ st
 item:=by
  intro X hP hw hK hc i pi s σ H E I hf st hg;subst hP hw hK;obtain⟨f0,f1,f2,f3,f4,f5⟩:=hf it (by simp);have W:=Walks.range (prog:=X.prog) (w:=X.w) (I.ok.hd hc) it lo 1 n;refine W.item i s _ _ hg st fun v h' tk hv JZ kk=>?_
  obtain⟨t,rfl⟩:=hv;have I1:Inv X pi σ H {s with heap:=h',toks:=tk}:=I.turned (fun b o hb e=>kk b o (by simpa using hb) e) f0 f1 f3 f4 f5;refine⟨_,rfl,yj (s:={s with heap:=h',toks:=tk}) (n:="range_iterator") JZ rfl rfl (by decide) ⟨.int (lo+i),H,I1,⟨t,?_⟩,⟨rfl,rfl⟩,JZ,fun b hb=>(hf b hb).1⟩⟩;rw[Int.mul_one]
 done:=by
  intro X hP hw hK hc i pi s σ H E I hf st hg;subst hP hw hK;obtain⟨f0,f1,f2,f3,f4,f5⟩:=hf it (by simp);exact wpAny_pyNext_range_end (I.ok.hd hc) st (by have:n<=i:=hg;lia) fun h' eb=>⟨rfl,I.turned (t':=s.toks) (fun b o hb e=>eb b o hb e) f0 f1 f3 f4 f5⟩
 self:=fun _ _ _ _ _ st h=>wpAny_pyIter_rangeiter st h
section
variable{X:Cx}{tg:Expr}
def EY(K:W.Frag)(tl:TE):TI:=fun σ H R=>tl σ H fun x H1=>∃a,x=.ref a/\(∃xs,SqL K H1 a xs)/\R (PL K a) H1
def Gy(K:W.Frag)(tl:TE):TI:=fun σ H R=>tl σ H fun x H1=>∃a,x=.ref a/\(∃xs,SqT K H1 a xs)/\R (RC K a) H1
theorem vE{l:Expr}{tl:TE}(hl:PE X l tl):PI X tg l (EY X.K tl):=by
 intro pi s σ H R I h;refine HW (hl pi s σ H _ I h) fun v s1 HY=>?_
 obtain⟨x,H1,I1,r1,q1⟩:=HY;obtain⟨a,e,⟨xs,hq⟩,q⟩:=q1;subst e;cases r1;obtain⟨HB,rv,p,hz⟩:=I1.list hq;refine VC p.isList ?_;refine⟨s1.heap.objs.size,[s1.heap.objs.size],_,_,H1,rfl,I1.kept (t':=s1.toks) fun b o e=>Heap.get?_push_of_some _ e,vD a _,⟨_,Heap.get?_push_size _ rfl,rfl,rfl⟩,fun b hb=>?_,q⟩;have e:b=s1.heap.objs.size:=by simpa using hb
 subst e;exact I1.fpOk (Ts _) (I1.hok.fresh (Ts _))
theorem C0{l:Expr}{tl:TE}(hl:PE X l tl):PI X tg l (Gy X.K tl):=by
 intro pi s σ H R I h;refine HW (hl pi s σ H _ I h) fun v s1 HY=>?_
 obtain⟨x,H1,I1,r1,q1⟩:=HY;obtain⟨a,e,⟨xs,hq⟩,q⟩:=q1;subst e;cases r1;obtain⟨HB,rv,p,hz⟩:=I1.tuple hq;refine Vt (show s1.heap.IsTuple a HB.toArray from p) ?_;refine⟨s1.heap.objs.size,[s1.heap.objs.size],_,_,H1,rfl,I1.kept (t':=s1.toks) fun b o e=>Heap.get?_push_of_some _ e,uk a _,⟨_,Heap.get?_push_size _ rfl,rfl,rfl⟩,fun b hb=>?_,q⟩;have e:b=s1.heap.objs.size:=by simpa using hb
 subst e;exact I1.fpOk (Ts _) (I1.hok.fresh (Ts _))
theorem sk{pi:List (Addr×Obj)}{σ:St}{H:Hp}{s:Shared}{R:It->Hp->Prop}{E:Value->Shared->Prop}{lo hi:Int}{t u v:Tok}{tk:Nat}(I:Inv X pi σ H s)(h1:-(2 ^ 62)<=lo)(h2:lo<2 ^ 62)(h3:-(2 ^ 62)<=hi)(h4:hi<2 ^ 62)
  (q:R (P7 lo (hi-lo).toNat) H):wpAny (model X.prog X.w) X.A (pyIter (.ref s.heap.objs.size)) (Ss X pi σ tg R) E {s with heap:=s.heap.push {cls:=.type "range",data:=.fields #[.int lo t,.int hi u,.int 1 v]},toks:=tk}:=by
 refine wpAny_pyIter_range (IsRange.new ..) (small_one h1 h2 h3 h4) ?_;have I1:Inv X pi σ H {s with heap:=s.heap.push {cls:=.type "range",data:=.fields #[.int lo t,.int hi u,.int 1 v]},toks:=tk}:=I.kept fun b o e=>Heap.get?_push_of_some _ e
 refine⟨(s.heap.push {cls:=.type "range",data:=.fields #[.int lo t,.int hi u,.int 1 v]}).objs.size,[(s.heap.push {cls:=.type "range",data:=.fields #[.int lo t,.int hi u,.int 1 v]}).objs.size],_,_,H,rfl,
  I1.kept (t':=tk) fun b o e=>Heap.get?_push_of_some _ e,um _ lo (hi-lo).toNat,?_,fun b hb=>?_,q⟩
 ·have e1:lo+((0:Nat):Int)*1=lo:=by simp
  have e2:(((hi-lo).toNat:Nat):Int)-((0:Nat):Int)=Builtin.Range.rangeSize lo hi 1:=by rw[rangeSize_one];split <;> lia
  show IsRangeIter _ _ (lo+((0:Nat):Int)*1) ((((hi-lo).toNat:Nat):Int)-((0:Nat):Int)) 1;rw[e1,e2];exact Heap.get?_push_size _ rfl
 ·have e:b=(s.heap.push {cls:=.type "range",data:=.fields #[.int lo t,.int hi u,.int 1 v]}).objs.size:=by simpa using hb
  subst e;exact I1.fpOk (Ts _) (I1.hok.fresh (Ts _))
def EZ(ta:TA):TI:=fun σ H R=>ta σ H fun vs H1=>∃j:Int,vs=[.int j]/\-(2 ^ 62)<=j/\j<2 ^ 62/\R (P7 0 j.toNat) H1
def E4(ta:TA):TI:=fun σ H R=>ta σ H fun vs H1=>∃i j:Int,vs=[.int i,.int j]/\(-(2 ^ 62)<=i/\i<2 ^ 62/\-(2 ^ 62)<=j/\j<2 ^ 62)/\R (P7 i (j-i).toNat) H1
theorem vF{a:Expr}{ta:TA}{p pos:Pos}(hg:Gl X "range")(hm:X.mg "range" = none)(ha:PA X [a] ta)(hs:starEach [a] X.env=[(false,eval a X.env)]:=by rfl):PI X tg (.Call (.Name "range" p) [a] [] pos) (EZ ta):=by
 intro pi s σ H R I h;refine Call_ (kG I hg hm boot_range (Vg (HW (ha pos pi s σ H _ I h) fun us s1 ⟨vs,H1,I1,r1,q1⟩=>?_) hs rfl));obtain⟨j,e,q1,q2,q⟩:=q1;subst e;cases r1 with
 |cons r rr=>
  cases rr;obtain⟨t,rfl⟩:=r;exact call_range_1 (sk I1 (by lia) (by lia) q1 q2 (by simpa using q))
theorem vG{a b:Expr}{ta:TA}{p pos:Pos}(hg:Gl X "range")(hm:X.mg "range" = none)(ha:PA X [a,b] ta)(hs:starEach [a,b] X.env=[(false,eval a X.env),(false,eval b X.env)]:=by rfl)(Mk:starEach [b] X.env=[(false,eval b X.env)]:=by rfl):
  PI X tg (.Call (.Name "range" p) [a,b] [] pos) (E4 ta):=by
 intro pi s σ H R I h;refine Call_ (kG I hg hm boot_range (Vg (HW (ha pos pi s σ H _ I h) fun us s1 ⟨vs,H1,I1,r1,q1⟩=>?_) (by rw[hs,Mk]) (by rw[Mk];rfl)));obtain⟨i,j,e,⟨q1,q2,q3,q4⟩,q⟩:=q1;subst e;cases r1 with
 |cons r rr=>
  cases rr with
  |cons r' rr=>
   cases rr;obtain⟨t,rfl⟩:=r;obtain⟨t',rfl⟩:=r';exact call_range_2 (sk I1 q1 q2 q3 q4 q)
noncomputable def Gz(wi:TI)(g:TG)(tb:TS):TS:=fun D σ H=>wi σ H fun J H1=>∃W:Nat->Nat->St->Hp->Prop,(∃m,W 0 m σ H1)/\∀i m σ H,W i m σ H->
 (J.stop i H/\D.nx σ H)\/(J.go i H/\∃N:St->Hp->Prop,(∀σ' H',N σ' H'->∃m',m'<m/\W (i+1) m' σ' H')/\∀x H',J.yld i H x H'->g x σ H' fun σ2 H2=>tb {D with nx:=N,ct:=N,bk:=D.nx} σ2 H2)
def pA(fp:List Addr)(h:Heap):List (Addr×Obj):=fp.filterMap fun b=>(h.get? b).map fun o=>(b,o)
theorem iy{fp:List Addr}{h:Heap}{b:Addr}{o:Obj}(hb:b∈fp)(e:h.get? b=some o):(b,o)∈pA fp h:=XR.mpr ⟨b,hb,by rw[e];rfl⟩
theorem vH{fp:List Addr}{h:Heap}{p:Addr×Obj}(hp:p∈pA fp h):p.1∈fp/\h.get? p.1=some p.2:=by
 obtain⟨b,hb,e⟩:=XR.mp hp;cases q:h.get? b with
 |none=>rw[q]at e;cases e
 |some o=>
  rw[q]at e;have e':(b,o)=p:=Ua e;subst e';exact⟨hb,q⟩
theorem Inv.pinned{pi:List (Addr×Obj)}{σ:St}{H:Hp}{s:Shared}{fp:List Addr}(I:Inv X pi σ H s)(hf:∀b∈fp,vy X pi H b)(ho:∀b∈fp,∃o,s.heap.get? b=some o/\∀v,o.data≠.cell v):Inv X (pi++pA fp s.heap) σ H s:=
 I.pins_of fun p hp=>(TX.mp hp).elim (fun z=>I.pin p (Tn _ z)) fun z=>by
  obtain⟨hb,e⟩:=vH z;obtain⟨f0,f1,f2,_⟩:=hf p.1 hb;obtain⟨o,e',d⟩:=ho p.1 hb;rw[e]at e';cases e';exact⟨e,f0,f1,f2,d⟩
theorem Inv.unpinned{pi pl:List (Addr×Obj)}{σ:St}{H:Hp}{s:Shared}(I:Inv X (pi++pl) σ H s):Inv X pi σ H s:=I.pins_of fun p hp=>I.pin p (Tn _ (Tq _ hp))
theorem C1{iter:Expr}{body:List Stmt}{wi:TI}{g:TG}{tb:TS}{pos:Pos}(hp:PassesOwn (model X.prog X.w) X.A X.env X.xe)(hc:X.calm=true)(hi:PI X tg iter wi)(hg:PG X tg g)(hb:PSs X body tb)
  (hs:∀x,foldedSetIterable iter X.env x=pure x:=by intro _;rfl):PS X (.For tg iter body [] pos) (Gz wi g tb):=by
 intro pi s σ H D I h;refine wpAny_For (HW (hi pi s σ H _ I h) fun v s1 h1=>HW h1 fun Rh s2 h2=>?_) hs;obtain⟨it,fp,tn,J,H2,e,I2,T,HJ,f2,W,⟨m0,w0⟩,turn⟩:=h2;subst e;have LA:∀{H':Hp},(∀b∈fp,H' b=none)->∀b∈fp,vy X pi H' b:=fun hn b hb=>⟨hn b hb,(f2 b hb).2⟩
 refine codeAny_forLoop_any (fun n s'=>∃i σ' H',Inv X pi σ' H' s'/\tn i s'.heap/\(∀b∈fp,H' b=none)/\W i n σ' H') ?_ m0 ⟨0,σ,H2,I2,HJ,fun b hb=>(f2 b hb).1,w0⟩;rintro n s3 ⟨i,σ3,H3,I3,Ip,P8,w3⟩;rcases turn i n σ3 H3 w3 with⟨stop,qn⟩|⟨go,N,hN,step⟩
 ·refine VB hp (HW (T.done X rfl rfl rfl hc i pi s3 σ3 H3 X.xe I3 (LA P8) Ip stop) fun r s4 HY=>?_);obtain⟨hr,I4⟩:=HY;subst hr;exact Wr ⟨σ3,H3,I4,qn⟩
 ·refine VB hp (HW (T.item X rfl rfl rfl hc i pi s3 σ3 H3 X.xe I3 (LA P8) Ip go) fun r s4 HY=>?_);obtain⟨u,hr,h4⟩:=HY;subst hr;refine VB hp (HW h4 fun _ s5 HY=>?_);obtain⟨x,H5,I5,r5,y5,Kd,RD⟩:=HY;have RE:=I5.pinned (LA RD) (T.obj _ _ Kd);refine VB hp (HW (hg _ s5 σ3 H5 x u _ RE r5 (step x H5 y5)) fun _ s6 HY=>?_);obtain⟨σ6,H6,I6,q6⟩:=HY;refine VB hp (HW (hb _ s6 σ6 H6 _ I6 q6) fun f s7 q7=>?_);have again:∀{σ7:St}{H7:Hp},Inv X (pi++pA fp s5.heap) σ7 H7 s7->N σ7 H7->∃m,m<n/\∃i σ' H',Inv X pi σ' H' s7/\tn i s7.heap/\(∀b∈fp,H' b=none)/\W i m σ' H':=fun{σ7 H7} I7 n7=>by
   obtain⟨m',hm,w7⟩:=hN σ7 H7 n7;refine⟨m',hm,i+1,σ7,H7,I7.unpinned,T.keep _ _ _ Kd fun b hb o e=>(I7.pin (b,o) (Tn _ (Tn _ (iy hb e)))).1,fun b hb=>?_,w7⟩;obtain⟨o,e,d⟩:=T.obj _ _ Kd b hb;exact(I7.pin (b,o) (Tn _ (Tn _ (iy hb e)))).2.1
  cases f with
  |next=>obtain⟨σ7,H7,I7,n7⟩:=q7;exact again I7 n7
  |cont=>obtain⟨σ7,H7,I7,n7⟩:=q7;exact again I7 n7
  |brk=>obtain⟨σ7,H7,I7,q7⟩:=q7;exact⟨σ7,H7,I7.unpinned,q7⟩
  |ret v=>obtain⟨x7,σ7,H7,I7,r7,q7⟩:=q7;exact⟨x7,σ7,H7,I7.unpinned,r7,q7⟩
end
theorem for_list{K:W.Frag}{a:Addr}{xs:List V}{g:TG}{tb:TS}{D:Ends}{σ:St}{H:Hp}(Pv:Nat->St->Hp->Prop)(h0:Pv 0 σ H)(hl:∀i σ H,i<=xs.length->Pv i σ H->SqL K H a xs)
  (hs:∀i x σ H,xs[i]?=some x->Pv i σ H->g x σ H fun σ2 H2=>tb {D with nx:=Pv (i+1),ct:=Pv (i+1),bk:=D.nx} σ2 H2) (hd:∀σ H,Pv xs.length σ H->D.nx σ H):
  ∃W:Nat->Nat->St->Hp->Prop,(∃m,W 0 m σ H)/\∀i m σ H,W i m σ H->
   ((PL K a).stop i H/\D.nx σ H)\/((PL K a).go i H/\∃N:St->Hp->Prop,(∀σ' H',N σ' H'->∃m',m'<m/\W (i+1) m' σ' H')/\∀x H',(PL K a).yld i H x H'->g x σ H' fun σ2 H2=>tb {D with nx:=N,ct:=N,bk:=D.nx} σ2 H2):=by
 refine⟨fun i m σ H=>m=xs.length-i/\i<=xs.length/\Pv i σ H,⟨xs.length,by simp,Uj _,h0⟩,?_⟩;rintro i m σ H ⟨rfl,hi,p⟩;have q:=hl i σ H hi p;by_cases Iy:i<xs.length
 ·refine .inr ⟨⟨xs,xs[i],q,by simp[Iy]⟩,Pv (i+1),fun σ' H' p'=>⟨xs.length-(i+1),by lia,rfl,Iy,p'⟩,fun x H' y=>?_⟩;obtain⟨e,y⟩:=y;subst e;exact hs i x σ _ (y xs q) p
 ·have e:i=xs.length:=by lia
  subst e;exact .inl ⟨⟨xs,q,Ts _⟩,hd σ H p⟩
abbrev R2:=V->V->Hp->VK->Prop
def Ir(X:Cx)(f:Value->Value->Sem Value)(r:R2):Prop:=
 ∀(pi:List (Addr×Obj)) (s:Shared) (σ:St) (H:Hp) (x y:V) (v u:Value) (Q:VK),Inv X pi σ H s->RelV x v->RelV y u->r x y H Q->
  wpAny (model X.prog X.w) X.A (f v u) (EP X pi σ Q) X.xe s
def dD(X:Cx)(f:Value)(r:List V->Hp->VK->Prop):Prop:=
 ∀(pi:List (Addr×Obj)) (s:Shared) (σ:St) (H:Hp) (xs:List V) (us:List Value) (Q:VK),Inv X pi σ H s->Vals xs us->r xs H Q->
  wpAny (model X.prog X.w) X.A (call f us) (EP X pi σ Q) X.xe s
def PM(r:R2)(ta tb:TE):TE:=fun σ H Q=>ta σ H fun x H1=>tb σ H1 fun y H2=>r x y H2 Q
def rI(C:Int->Int->Prop)(g:Int->Int->V):R2:=fun x y H Q=>∃i j,x=.int i/\y=.int j/\C i j/\Q (g i j) H
def OM(g:Int->Int->V):R2:=fun x y H Q=>∃i j,x=.int i/\y=.int j/\Q (g i j) H
section
variable{X:Cx}{a b c:Expr}{ta tb tc:TE}{pos:Pos}
theorem E5(ha:PE X a ta)(hb:PE X b tb){pi:List (Addr×Obj)}{s:Shared}{σ:St}{H:Hp}{R:V->V->Hp->Prop}(I:Inv X pi σ H s)
  (h:ta σ H fun x H1=>tb σ H1 fun y H2=>R x y H2) {Q:Value->Shared->Prop}{f:Value->Value->Sem Value}
  (hf:∀v u s2 x y H2,Inv X pi σ H2 s2->RelV x v->RelV y u->R x y H2->wpAny (model X.prog X.w) X.A (f v u) Q X.xe s2):
  wpAny (model X.prog X.w) X.A (eval a X.env) (fun v s₁=>wpAny (model X.prog X.w) X.A (eval b X.env) (fun u s₂=>wpAny (model X.prog X.w) X.A (f v u) Q X.xe s₂) X.xe s₁) X.xe s:=by
 refine HW (ha pi s σ H _ I h) fun v s1 HY=>?_
 obtain⟨x,H1,I1,r1,q1⟩:=HY;refine HW (hb pi s1 σ H1 _ I1 q1) fun u s2 HY=>?_
 obtain⟨y,H2,I2,r2,q2⟩:=HY;exact hf v u s2 x y H2 I2 r1 r2 q2
theorem E6{op:Operator}{r:R2}(ho:Ir X (binaryOp op) r)(ha:PE X a ta)(hb:PE X b tb):PE X (.BinOp a op b pos) (PM r ta tb):=by
 intro pi s σ H Q I h;exact wpAny_BinOp (E5 ha hb I h fun v u s2 x y H2 I2 rx ry q=>ho pi s2 σ H2 x y v u Q I2 rx ry q)
theorem P9{f:Value->Value->Sem Value}{C:Int->Int->Prop}{g:Int->Int->Int}
  (rule:∀(i j:Int) (t u:Tok) (s:Shared) (Q:Value->Shared->Prop) (E:Value->Shared->Prop),C i j->Q (.int (g i j) s.toks) {s with toks:=s.toks+1}->wpAny (model X.prog X.w) X.A (f (.int i t) (.int j u)) Q E s):
  Ir X f (rI C fun i j=>.int (g i j)):=by
 intro pi s σ H x y v u Q I rx ry h;obtain⟨i,j,rfl,rfl,hc,q⟩:=h;obtain⟨t,rfl⟩:=rx;obtain⟨t',rfl⟩:=ry;exact rule i j t t' s _ _ hc ⟨.int (g i j),H,I.tok _,⟨_,rfl⟩,q⟩
theorem F7{f:Value->Value->Sem Value}{g:Int->Int->Int}
  (rule:∀(i j:Int) (t u:Tok) (s:Shared) (Q:Value->Shared->Prop) (E:Value->Shared->Prop),Q (.int (g i j) s.toks) {s with toks:=s.toks+1}->wpAny (model X.prog X.w) X.A (f (.int i t) (.int j u)) Q E s):
  Ir X f (OM fun i j=>.int (g i j)):=by
 intro pi s σ H x y v u Q I rx ry h;obtain⟨i,j,rfl,rfl,q⟩:=h;obtain⟨t,rfl⟩:=rx;obtain⟨t',rfl⟩:=ry;exact rule i j t t' s _ _ ⟨.int (g i j),H,I.tok _,⟨_,rfl⟩,q⟩
theorem E7{f:Value->Value->Sem Value}{g:Int->Int->Bool}
  (rule:∀(i j:Int) (t u:Tok) (s:Shared) (Q:Value->Shared->Prop) (E:Value->Shared->Prop),Q (.bool (g i j)) s->wpAny (model X.prog X.w) X.A (f (.int i t) (.int j u)) Q E s):
  Ir X f (OM fun i j=>.bl (g i j)):=by
 intro pi s σ H x y v u Q I rx ry h;obtain⟨i,j,rfl,rfl,q⟩:=h;obtain⟨t,rfl⟩:=rx;obtain⟨t',rfl⟩:=ry;exact rule i j t t' s _ _ ⟨.bl (g i j),H,I,rfl,q⟩
def GA(i j:Int):Prop:=0<j/\j<1073741824
def GC(i j:Int):Prop:=0<=j/\j<=1000000/\i.natAbs<2 ^ 64
def CMul(i j:Int):Prop:=(-(2 ^ 64)<i/\i<2 ^ 64)\/(-(2 ^ 64)<j/\j<2 ^ 64)
theorem CMul.ok{i j:Int}(h:CMul i j):IntMulOk i j:=by
 rcases h with⟨h1,h2⟩|⟨h1,h2⟩
 ·exact .of_left (intBits_le_64 h1 h2)
 ·exact .of_right (intBits_le_64 h1 h2)
theorem C2:Ir X (binaryOp .Add) (OM fun i j=>.int (i+j)):=F7 fun _ _ _ _ _ _ _ q=>add_int q
theorem C3:Ir X (binaryOp .Sub) (OM fun i j=>.int (i-j)):=F7 fun _ _ _ _ _ _ _ q=>sub_int q
theorem C4:Ir X (binaryOp .Mult) (rI CMul fun i j=>.int (i*j)):=P9 fun _ _ _ _ _ _ _ hc q=>mul_int q hc.ok
theorem AE:Ir X (binaryOp .FloorDiv) (rI GA fun i j=>.int (i / j)):=P9 fun i j _ _ _ _ _ hc q=>by
 have h1:(0:Int)<j:=hc.1;have h2:j<1073741824:=hc.2;exact floordiv_int (by lia) (by rw[Int.fdiv_eq_ediv_of_nonneg i (by lia)];exact q) (.inl (PyProof.noPylong_small (by lia)))
theorem C5:Ir X (binaryOp .Mod) (rI (fun _ j=>0<j) fun i j=>.int (i%j)):=P9 fun i j _ _ _ _ _ hc q=>by
 have h1:(0:Int)<j:=hc;exact mod_int' (by lia) (by rw[Int.fmod_eq_emod_of_nonneg i (by lia)];exact q)
theorem C6:Ir X (binaryOp .Pow) (rI GC fun i j=>.int (i ^ j.toNat)):=P9 fun _ _ _ _ _ _ _ hc q=>pow_int_small hc.1 hc.2.1 hc.2.2 q
end
section
variable{X:Cx}{a b c:Expr}{ta tb tc:TE}{pos:Pos}
theorem sr{pi:List (Addr×Obj)}{σ:St}{H:Hp}{s:Shared}{Q:VK}{k k':Bool}(I:Inv X pi σ H s)(q:Q (.bl k) H)(e:k=k'):EP X pi σ Q (.bool k') s:=by
 subst e;exact⟨.bl k,H,I,rfl,q⟩
theorem E8:Ir X (compareOp .Lt) (OM fun i j=>.bl (decide (i<j))):=E7 fun _ _ _ _ _ _ _ q=>lt_int q
theorem E9:Ir X (compareOp .LtE) (OM fun i j=>.bl (decide (i<=j))):=E7 fun _ _ _ _ _ _ _ q=>le_int q
theorem Fb:Ir X (compareOp .Gt) (OM fun i j=>.bl (decide (j<i))):=E7 fun _ _ _ _ _ _ _ q=>gt_int q
theorem vI:Ir X (compareOp .Lt) (fun x y H Q=>∃i j,x=.str i/\y=.str j/\Q (.bl (decide (i.cps.toList<j.cps.toList))) H):=by
 intro pi s σ H x y v u Q I rx ry h;obtain⟨i,j,rfl,rfl,q⟩:=h;obtain⟨t,rfl⟩:=rx;obtain⟨t',rfl⟩:=ry;exact lt_str (sr I q rfl)
theorem vJ:Ir X (compareOp .In) (fun x y H Q=>∃i j,x=.str i/\y=.str j/\Q (.bl (!(Builtin.Str.occurrences j i 0 j.length 1).isEmpty)) H):=by
 intro pi s σ H x y v u Q I rx ry h;obtain⟨i,j,rfl,rfl,q⟩:=h;obtain⟨t,rfl⟩:=rx;obtain⟨t',rfl⟩:=ry;exact in_str (sr I q rfl)
theorem pB:Ir X (compareOp .NotIn) (fun x y H Q=>∃i j,x=.str i/\y=.str j/\Q (.bl (!(!(Builtin.Str.occurrences j i 0 j.length 1).isEmpty))) H):=by
 intro pi s σ H x y v u Q I rx ry h;obtain⟨i,j,rfl,rfl,q⟩:=h;obtain⟨t,rfl⟩:=rx;obtain⟨t',rfl⟩:=ry;exact notIn_str (sr I q rfl)
theorem a7(b:Expr){op:CmpOp}(h:op≠.In:=by decide)(h2:op≠.NotIn:=by decide):behindInMarks op b=false:=by
 have e1:(op==CmpOp.In)=false:=by cases op <;> first|rfl|exact absurd rfl h
 have e2:(op==CmpOp.NotIn)=false:=by cases op <;> first|rfl|exact absurd rfl h2
 cases b <;> simp[behindInMarks,e1,e2]
theorem vL{op:CmpOp}{r:R2}(ho:Ir X (compareOp op) r)(ha:PE X a ta)(hb:PE X b tb)(hm:behindInMarks op b=false):PE X (.Compare a [op] [b] pos) (PM r ta tb):=by
 intro pi s σ H Q I h;exact wpAny_Compare1 (E5 ha hb I h fun v u s2 x y H2 I2 rx ry q=>ho pi s2 σ H2 x y v u Q I2 rx ry q) hm
def Fc(t:TE):TT:=fun σ H Q=>t σ H fun x H'=>∃k,x=.bl k/\Q k H'
theorem vM{op:CmpOp}{r:R2}(ho:Ir X (compareOp op) r)(ha:PE X a ta)(hb:PE X b tb)(hm:behindInMarks op b=false):PT X (.Compare a [op] [b] pos) (Fc (PM r ta tb)):=by
 intro pi s σ H Q I h;refine wpAny_isTrue_Compare1 (HW (ha pi s σ H _ I h) fun v s1 ⟨x,H1,I1,r1,q1⟩=>HW (hb pi s1 σ H1 _ I1 q1) fun u s2 ⟨y,H2,I2,r2,q2⟩=>
  HW (ho pi s2 σ H2 x y v u _ I2 r1 r2 q2) fun c s3 ⟨z,H3,I3,r3,k,e,q3⟩=>?_) hm
 subst e;cases r3;exact UZ ⟨H3,I3,q3⟩
def zT(r r':R2)(ta tb tc:TE):TE:=fun σ H Q=>ta σ H fun x H1=>tb σ H1 fun y H2=>r x y H2 fun z H3=>∃k,z=.bl k/\
 (if k=true then tc σ H3 fun w' H4=>r' y w' H4 Q else Q (.bl false) H3)
theorem yk{op NA:CmpOp}{r r':R2}(ho:Ir X (compareOp op) r)(Mj:Ir X (compareOp NA) r')(ha:PE X a ta)(hb:PE X b tb)(hc:PE X c tc)
  (hm:lastMarks [op,NA] [b,c]=false:=by with_unfolding_all rfl):PE X (.Compare a [op,NA] [b,c] pos) (zT r r' ta tb tc):=by
 intro pi s σ H Q I h;refine Compare_chain (HW (ha pi s σ H _ I h) fun v s1 ⟨x,H1,I1,r1,q1⟩=>chain_link (HW (hb pi s1 σ H1 _ I1 q1) fun u s2 ⟨y,H2,I2,r2,q2⟩=>
  HW (ho pi s2 σ H2 x y v u _ I2 r1 r2 q2) fun d s3 ⟨z,H3,I3,r3,k,e,q3⟩=>?_)) hm
 subst e;cases r3;refine UZ ?_;cases k with
 |false=>exact ite_ff ⟨.bl false,H3,I3,rfl,q3⟩
 |true=>exact ite_tt (chain_last (HW (hc pi s3 σ H3 _ I3 q3) fun w' s4 ⟨z',H4,I4,r4,q4⟩=>Mj pi s4 σ H4 y z' u w' Q I4 r2 r4 q4))
theorem pC:(sizeLine:Nat)<2 ^ 63:=by rw[UD];decide
theorem uo:Ir X (binaryOp .Add) (fun x y H Q=>∃i j,x=.str i/\y=.str j/\i.length+j.length<=sizeLine/\Q (.str (i++j)) H):=by
 intro pi s σ H x y v u Q I rx ry h;obtain⟨i,j,rfl,rfl,hz,q⟩:=h;obtain⟨t,rfl⟩:=rx;obtain⟨t',rfl⟩:=ry;exact add_str (fun t' tk=>⟨.str (i++j),H,I.tok _,⟨_,rfl⟩,q⟩) hz
theorem fK{x:V}{us:List Value}(r:Vals [x] us):∃u,us=[u]/\RelV x u:=by
 cases r with
 |cons r1 r2=>cases r2;exact⟨_,rfl,r1⟩
theorem ym{x y:V}{us:List Value}(r:Vals [x,y] us):∃u w',us=[u,w']/\RelV x u/\RelV y w':=by
 cases r with
 |cons r1 r2=>
  cases r2 with
  |cons r3 r4=>cases r4;exact⟨_,_,rfl,r1,r3⟩
theorem vN(hc:X.calm=true):dD X (.builtin "min") (fun xs H Q=>∃i j,xs=[.int i,.int j]/\Q (.int (if j<i then j else i)) H):=by
 intro pi s σ H xs us Q I r h;obtain⟨i,j,rfl,q⟩:=h;obtain⟨u,w',rfl,⟨t,rfl⟩,⟨t',rfl⟩⟩:=ym r;refine min_two_ints (I.ok.hd hc) fun h' tk k=>⟨_,H,I.kept k,?_,q⟩
 by_cases hj:j<i
 ·rw[Tt hj,Tt hj];exact⟨_,rfl⟩
 ·rw[TB hj,TB hj];exact⟨_,rfl⟩
end
section
variable{prog:Program}{w:World}{A:Around}{E:Value->Shared->Prop}{s:Shared}{K:W.Frag}{x dx C f:Addr}{mA:Str->Option Value}{name:Str}{v:Value}
end
theorem RelO.some_of{v:V}{o:Option Value}(r:RelO (some v) o):∃u,o=some u/\RelV v u:=by
 cases o with
 |none=>exact(show False from r).elim
 |some u=>exact⟨u,rfl,r⟩
theorem RelO.none_of{o:Option Value}(r:RelO none o):o=none:=by
 cases o with
 |none=>rfl
 |some u=>exact(show False from r).elim
section
variable{P:Program}{w:World}{H H':Hp}{h h':Heap}{a C dx:Addr}{fs fs':List (Str×V)}
end
structure Cls(K:W.Frag)(C:Addr):Prop where
 pg:PySem.W.plainGet K C Str.empty=true
 hd:PySem.W.hasDictIn K C=true
 po:PySem.W.plainOver K C=true
 sa:PySem.W.findIn K (.ref C) "__setattr__" = some (some (.builtin "object.__setattr__"))
theorem Cls.get{K:W.Frag}{C:Addr}(c:Cls K C)(f:Str):PySem.W.plainGet K C f=true:=c.pg
section
variable{X:Cx}{pi:List (Addr×Obj)}{σ:St}{H:Hp}{s:Shared}{a C dx:Addr}{fs:List (Str×V)}{f:Str}{v:V}{A:Around}{E:Value->Shared->Prop}
end
section
variable{X:Cx}{o e value:Expr}{f:Str}{pos pos' tpos:Pos}{ta tv:TE}
end
section
variable{X:Cx}{pi:List (Addr×Obj)}{σ:St}{H:Hp}{s:Shared}{A:Around}{E:Value->Shared->Prop}{Q:Value->Shared->Prop}{c:Value}{b:Bool}
end
structure Room(k:Nat)(A:Around):Prop where
 hd:A.handled=none
 dp:A.depth+3*k+5<recursionLimit
 un:A.units+16*k+200<cLine
theorem Room.mono{j k:Nat}{A:Around}(r:Room k A)(h:j<=k):Room j A:=⟨r.hd,by have:=r.dp;lia,by have:=r.un;lia⟩
theorem Room.m{j k:Nat}{A:Around}(r:Room k A)(h:j<=k:=by decide):Room j A:=r.mono h
theorem Room.deeper{k:Nat}{A:Around}(r:Room (k+1) A)(env:Env):Room k (A.deeper env):=
 ⟨r.hd,by have:=r.dp;show A.depth+1+3*k+5<_;lia,by have:=r.un;show A.units+3+16*k+200<_;lia⟩
theorem Room.depth{k:Nat}{A:Around}(r:Room k A):A.depth<recursionLimit:=by have:=r.dp;lia
theorem Room.units{k:Nat}{A:Around}(r:Room k A):A.units+64<cLine:=by have:=r.un;lia
theorem Room.units0{k:Nat}{A:Around}(r:Room k A):A.units<cLine:=by have:=r.un;lia
def Cw:TA:=fun _ H Q=>Q [] H
def uq(ta:TE)(tr:TA):TA:=fun σ H Q=>ta σ H fun x H1=>tr σ H1 fun xs H2=>Q (x::xs) H2
section
variable{X:Cx}{e:Expr}{es:List Expr}{te:TE}{t:TA}{pos:Pos}
theorem pE:PA X [] Cw:=fun _ _ _ _ H Q I h=>Calls.spliced_nil ⟨[],H,I,.nil,h⟩
theorem i9(ha:PE X e te)(hr:PA X es t)(hs:starEach (e::es) X.env=(false,eval e X.env)::starEach es X.env:=by rfl):PA X (e::es) (uq te t):=by
 intro pos pi s σ H Q I h;rw[hs];show wpAny _ _ (spliced ((false,eval e X.env)::backTo pos (starEach es X.env))) _ _ s;refine Calls.spliced_cons (HW (ha pi s σ H _ I h) fun u s1 HY=>?_);obtain⟨x,H1,I1,r1,q1⟩:=HY;exact HW (hr pos pi s1 σ H1 _ I1 q1) fun us s2 ⟨xs,H2,I2,r2,q2⟩=>⟨x::xs,H2,I2,.cons r1 r2,q2⟩
def GD(t:TA):TE:=fun σ H Q=>t σ H fun xs H1=>xs.length<=sizeLine/\∀p,H1 p=none->Q (.ref p) (upd H1 p (.tup xs))
def GF(t:TA):TE:=fun σ H Q=>t σ H fun xs H1=>xs.length<=sizeLine/\∀p,H1 p=none->Q (.ref p) (upd H1 p (.lst xs))
theorem C7{x1}(h:PA X es t):PE X (.Tuple es x1 pos) (GD t):=by
 intro pi s σ H Q I hq;refine wpAny_Tuple_spliced (HW (h pos pi s σ H _ I hq) fun us s1 ⟨xs,H1,I1,r,z,q⟩=>⟨by rw[<-r.length];exact z,?_⟩);have hf:H1 s1.heap.objs.size=none:=I1.hok.fresh (Ts _);refine⟨.ref s1.heap.objs.size,upd H1 s1.heap.objs.size (.tup xs),I1.laid (t':=s1.toks) (fun b u e=>Heap.get?_push_of_some _ e) (Ts _) ?_,rfl,q _ hf⟩;exact⟨z,us,r,⟨_,Heap.get?_push_size _ rfl,rfl,⟨_,rfl⟩,rfl⟩⟩
theorem C8(h:PA X es t):PE X (.List es pos) (GF t):=by
 intro pi s σ H Q I hq;refine wpAny_List_spliced (HW (h pos pi s σ H _ I hq) fun us s1 ⟨xs,H1,I1,r,z,q⟩=>⟨by rw[<-r.length];exact z,?_⟩);have hf:H1 s1.heap.objs.size=none:=I1.hok.fresh (Ts _);refine⟨.ref s1.heap.objs.size,upd H1 s1.heap.objs.size (.lst xs),I1.laid (t':=s1.toks) (fun b u e=>Heap.get?_push_of_some _ e) (Ts _) ?_,rfl,q _ hf⟩;exact⟨z,us,0,r,Heap.get?_push_size _ rfl⟩
end
abbrev Sp:=List V->Hp->VK->XK->Prop
abbrev MI:=List Env->Hp->Shared->XK->Value->Shared->Prop
structure Env0(P:Program)(w:World)(K:W.Frag)(mg:Str->Option Value)(base:Heap)(A:Around)(outer:List Env)(s:Shared)(H:Hp):Prop where
 frames:A.frames=some outer
 mod:Mod K mg base
 bs:∀b o,base.get? b=some o->s.heap.get? b=some o/\H b=none
 bsz:base.objs.size<=s.heap.objs.size
 funs:s.heap.FunFrames base outer
 frf:∀b∈MH outer,H b=none
 hok:HOk P w H s.heap
 bare:AllBare s.gens
def CE(outer:List Env)(P:Program)(w:World)(H:Hp)(s:Shared)(Q:VK)(u:Value)(s':Shared):Prop:=
 ∃v H',s'.os=s.os/\AllBare s'.gens/\Un (MH outer) [] H H' s.heap s'.heap/\HOk P w H' s'.heap/\RelV v u/\Q v H'
def CR(CX:MI)(outer:List Env)(P:Program)(w:World)(H:Hp)(s:Shared)(Q:VK)(E:XK)(r:Result)(s':Shared):Prop:=
 match r with
 | .ok (.ret u)=>CE outer P w H s Q u s'
 | .ok _=>False
 | .error e=>CX outer H s E e s'
structure FnOk(P:Program)(w:World)(K:W.Frag)(mg:Str->Option Value)(base:Heap)(CX:MI)(k:Nat)(f:Addr)(fd:FuncData)(ps:List Str)(sp:Sp):Prop where
 len:∀vs H Q E,sp vs H Q E->vs.length=ps.length
 run:∀(A:Around) (outer:List Env) (s:Shared) (H:Hp) (args:Args) (us:List Value) (vs:List V) (Q:VK) (E:XK),Room k A->Env0 P w K mg base A outer s H->BindsTo s fd args (ps.zip us)->Vals vs us->sp vs H Q E->
  codeAny (model P w) A (.call (.ref f) args) (CR CX outer P w H s Q E) s
theorem FnOk.imp{P:Program}{w:World}{K:W.Frag}{mg:Str->Option Value}{base:Heap}{CX:MI}{k:Nat}{f:Addr}{fd:FuncData}{ps:List Str}{sp Su:Sp}(F:FnOk P w K mg base CX k f fd ps sp)
  (h:∀vs H Q E,Su vs H Q E->sp vs H Q E):FnOk P w K mg base CX k f fd ps Su:=
 ⟨fun vs H Q E q=>F.len vs H Q E (h _ _ _ _ q),fun A outer s H args us vs Q E hr he hb hv hs=>F.run A outer s H args us vs Q E hr he hb hv (h _ _ _ _ hs)⟩
section
variable{X:Cx}{pi:List (Addr×Obj)}{σ:St}{H:Hp}{s s':Shared}
theorem Inv.env0(I:Inv X pi σ H s):Env0 X.prog X.w X.K X.mg X.base X.A X.stack s H:=
 ⟨I.ok.frames,I.ok.mod,I.bs,Uq I.ok.bsz I.sz,I.stack,I.stkFree,I.hok,I.bare⟩
theorem Inv.after{Q:VK}{u:Value}(I:Inv X pi σ H s)(h:CE X.stack X.prog X.w H s Q u s'):EP X pi σ Q u s':=by
 obtain⟨v,H',os,bare,un,hok,r,q⟩:=h;obtain⟨hh,g,d,t,Sv⟩:=s';obtain rfl:Sv=s.os:=os;exact⟨v,H',I.call (h':=hh) (g':=g) (d':=d) (t':=t) (ch:=[]) un hok bare (fun b z=>absurd z (by simp)),r,q⟩
end
def tCall(sp:Sp)(Oz:List V)(E:XK)(t:TA):TE:=fun σ H Q=>t σ H fun vs H1=>sp (vs++Oz) H1 Q E
def Binds(K:W.Frag)(fd:FuncData)(ps:List Str)(ds:List Value):Prop:=
 ∀(s:Shared) (us:List Value),K.In s.heap->(us++ds).length=ps.length->BindsTo s fd ⟨us,[]⟩ (ps.zip (us++ds))
theorem Binds.all{K:W.Frag}{fd:FuncData}{ps:List Str}(h:∀us:List Value,us.length=ps.length->bindArgs fd ⟨us,[]⟩=pure (ps.zip us)):Binds K fd ps []:=fun s us _ hl=>by
 rw[T9]at hl ⊢;exact .of_eq (h us hl)
def vO(CX:MI)(X:Cx)(E:XK):Prop:=∀(pi:List (Addr×Obj)) (σ:St) (H:Hp) (s:Shared) (e:Value) (s':Shared),Inv X pi σ H s->CX X.stack H s E e s'->X.xe e s'
section
variable{X:Cx}{CX:MI}{k:Nat}{f C:Addr}{fd:FuncData}{ps:List Str}{sp:Sp}{Oz:List V}{ds:List Value}{E:XK}{x m:Str}{p pos apos:Pos}{e o:Expr}{es:List Expr}{ta:TE}{t:TA}
theorem C9{pi:List (Addr×Obj)}{σ:St}{H:Hp}{s:Shared}{Q:VK}{us:List Value}{vs:List V}(F:FnOk X.prog X.w X.K X.mg X.base CX k f fd ps sp)(hr:Room k X.A)(hb:Binds X.K fd ps ds)(hd:Vals Oz ds)(hx:vO CX X E)
  (I:Inv X pi σ H s) (r:Vals vs us) (h:sp (vs++Oz) H Q E):wpAny (model X.prog X.w) X.A (call (.ref f) us) (EP X pi σ Q) X.xe s:=by
 have r2:Vals (vs++Oz) (us++ds):=r.append hd;have hl:(us++ds).length=ps.length:=by rw[<-r2.length];exact F.len _ _ _ _ h
 refine wpAny_call (codeAny_mono (F.run X.A X.stack s H ⟨us,[]⟩ (us++ds) (vs++Oz) Q E hr I.env0 (hb s us I.kIn hl) r2 h) fun r s' hq=>?_);cases r with
 |error e=>exact hx pi σ H s e s' I hq
 |ok fl=>
  cases fl with
  |ret u=>exact I.after hq
  |next=>exact False.elim hq
  |brk=>exact False.elim hq
  |cont=>exact False.elim hq
theorem AF(F:FnOk X.prog X.w X.K X.mg X.base CX k f fd ps sp)(hr:Room k X.A)(hg:Gl X x)(hm:X.mg x=some (.ref f))(hk:PySem.W.keepIn X.K (.ref f)=true)(hb:Binds X.K fd ps ds)(hd:Vals Oz ds)(hx:vO CX X E)
  (ha:PA X (e::es) t) (JT:(x==("__debug__" : Str))=false:=by decide) (he:starEach (e::es) X.env=(false,eval e X.env)::starEach es X.env:=by rfl) (JC:(backTo pos (starEach es X.env)).any (·.1)=false:=by rfl):
  PE X (.Call (.Name x p) (e::es) [] pos) (tCall sp Oz E t):=by
 intro pi s σ H Q I h;refine Vu (Av I hg hm ?_ JT);refine PySem.W.callWith_K (h₀:=X.base) I.ok.mod.kin hk (HW (ha pos pi s σ H _ I h) fun us s1 ⟨vs,H1,I1,r,q⟩=>⟨I1.kIn,?_⟩) he JC;exact C9 F hr hb hd hx I1 r q
end
def PK(X:Cx)(Qa:List Keyword)(t:TA):Prop:=
 ∀(pos:Pos) (pi:List (Addr×Obj)) (s:Shared) (σ:St) (H:Hp) (Q:List V->Hp->Prop),Inv X pi σ H s->t σ H Q->wpAny (model X.prog X.w) X.A (evalAll ((backToKw pos (keywordEach Qa X.env)).map (·.2))) (AP X pi σ Q) X.xe s
section
variable{X:Cx}{CX:MI}{k:Nat}{f C:Addr}{fd:FuncData}{ps ks:List Str}{sp:Sp}{E:XK}{x m:Str}{p pos apos KO:Pos}{e o:Expr}{es:List Expr}{Qa:List Keyword}{te ta:TE}{t tk:TA}{nm:Option Str}
theorem zU:PK X [] Cw:=fun _ _ _ _ H Q I h=>wpAny_evalAll_nil ⟨[],H,I,.nil,h⟩
theorem vP(ha:PE X e te)(hr:PK X Qa t):PK X (⟨nm,e,KO⟩::Qa) (uq te t):=by
 intro pos pi s σ H Q I h;show wpAny _ _ (evalAll ((do let v <-eval e X.env;standAt pos;pure v)::(backToKw pos (keywordEach Qa X.env)).map (·.2))) _ _ s;refine wpAny_evalAll_cons (Tj (HW (ha pi s σ H _ I h) fun u s1 ⟨x,H1,I1,r1,q1⟩=>Tj (XS (Tr ?_))));exact HW (hr pos pi s1 σ H1 _ I1 q1) fun us s2 ⟨xs,H2,I2,r2,q2⟩=>⟨x::xs,H2,I2,.cons r1 r2,q2⟩
variable{g:List Value->List Value->List Value}{gV:List V->List V->List V}
end
structure FnScope(N P:List Str)(sc:Scope):Prop where
 kind:sc.kind=.function
 co:sc.isCoroutine=false
 gen:sc.isGenerator=false
 nd:N.Nodup
 pre:N.take P.length=P
 par:∀x∈P,sc.names.lookup x=some .local\/sc.names.lookup x=some .cell
 nofree:∀y∈sc.names,y.2≠.free
theorem fs{N P:List Str}{sc:Scope}(a:sc.kind=.function:=by rfl)(b:sc.isCoroutine=false:=by rfl)(c:sc.isGenerator=false:=by rfl)(d:N.Nodup:=by decide +kernel)(e:N.take P.length=P:=by rfl)(f:∀x∈P,sc.names.lookup x=some .local\/sc.names.lookup x=some .cell:=by decide +kernel)(g:∀y∈sc.names,y.2≠.free:=by decide +kernel):FnScope N P sc:=⟨a,b,c,d,e,f,g⟩
theorem pF{kindOf:Str->Option NameKind}{x:Str}:∀{binds:List (Str×Value)}{m:Str->Option Value},(∀v,(x,v)∉binds)->bindL kindOf binds m x=m x
 |[],_,_=>rfl
 |(n,v)::r,m,h=>by
  unfold bindL;rw[pF fun w hw=>h w (Tx _ hw)];split
  ·have:x≠n:=by rintro rfl;exact h v Tp
   simp[this]
  ·rfl
theorem pG{kindOf:Str->Option NameKind}{x:Str}:∀{binds:List (Str×Value)}{m:Str->Option Value},(∀v,(x,v)∉binds)->bindC kindOf binds m x=m x
 |[],_,_=>rfl
 |(n,v)::r,m,h=>by
  unfold bindC;rw[pG fun w hw=>h w (Tx _ hw)];split
  ·rfl
  ·have:x≠n:=by rintro rfl;exact h v Tp
   simp[this]
theorem pH{kindOf:Str->Option NameKind}{x:Str}{v:Value}:∀{P:List Str}{vs:List Value}{i:Nat}{m:Str->Option Value},P.Nodup->P[i]?=some x->vs[i]?=some v->kindOf x=some .local->
  bindL kindOf (P.zip vs) m x=some v
 |[],_,_,_,_,h,_,_=>by simp at h
 |_::_,[],_,_,_,_,h,_=>by simp at h
 |p::P,w::vs,0,m,nd,h1,h2,hk=>by
  simp at h1 h2;subst h1;subst h2;show bindL kindOf ((p,w)::P.zip vs) m p=_;unfold bindL;rw[pF fun v hv=>(TY.mp nd).1 (V1 hv).1,Tt hk];simp
 |p::P,w::vs,i+1,m,nd,h1,h2,hk=>by
  show bindL kindOf ((p,w)::P.zip vs) m x=_;unfold bindL;exact pH (i:=i) (TY.mp nd).2 (by simpa using h1) (by simpa using h2) hk
theorem pI{kindOf:Str->Option NameKind}{x:Str}{v:Value}:∀{P:List Str}{vs:List Value}{i:Nat}{m:Str->Option Value},P.Nodup->P[i]?=some x->vs[i]?=some v->kindOf x≠some .local->
  bindC kindOf (P.zip vs) m x=some v
 |[],_,_,_,_,h,_,_=>by simp at h
 |_::_,[],_,_,_,_,h,_=>by simp at h
 |p::P,w::vs,0,m,nd,h1,h2,hk=>by
  simp at h1 h2;subst h1;subst h2;show bindC kindOf ((p,w)::P.zip vs) m p=_;unfold bindC;rw[pG fun v hv=>(TY.mp nd).1 (V1 hv).1,TB hk];simp
 |p::P,w::vs,i+1,m,nd,h1,h2,hk=>by
  show bindC kindOf ((p,w)::P.zip vs) m x=_;unfold bindC;exact pI (i:=i) (TY.mp nd).2 (by simpa using h1) (by simpa using h2) hk
def start(N:List Str)(vs:List V):St:=vs.map some++List.replicate (N.length-vs.length) none
noncomputable def x3(CX:MI)(P:Program)(w:World)(K:W.Frag)(mg:Str->Option Value)(base:Heap)(N:List Str)(qual:Str)(scope:Scope)(f:Addr)(cd:Value)(A:Around)(outer:List Env)(s:Shared)(H:Hp)(E:XK):Cx where
 prog:=P
 w:=w
 K:=K
 mg:=mg
 base:=base
 A:=A.deeper (envOfC qual scope s.heap.objs.size f cd)
 N:=N
 s₀:=s
 H₀:=H
 env:=envOfC qual scope s.heap.objs.size f cd
 outer:=outer
 stack:=envOfC qual scope s.heap.objs.size f cd::outer
 ex:=[]
 calm:=true
 fn:=fun _=>true
 pn:=[]
 xe:=fun e s'=>wpAny (model P w) (A.deeper (envOfC qual scope s.heap.objs.size f cd)) (leaving (envOfC qual scope s.heap.objs.size f cd) e) (fun _ RF=>CX outer H s E e RF) (fun e' RF=>CX outer H s E e' RF) s'
theorem su{sc:Scope}{n:Nat}{x:Str}(h:sc.names.lookup x=some .cell):∃c,(cellsFrom n sc.names []).lookup x=some c:=by
 have q:=W2 sc.names n [] (.inl h);exact UR.mp q
theorem vQ{CX:MI}{P:Program}{w:World}{K:W.Frag}{mg:Str->Option Value}{base:Heap}{N ps:List Str}{qual:Str}{scope:Scope}{f:Addr}{cd:Value}{A:Around}{outer:List Env}{s s1:Shared}{H:Hp}{E:XK}{us:List Value}{vs:List V}
  (S:FnScope N ps scope) (hd:A.handled=none) (e0:Env0 P w K mg base A outer s H) (hl:vs.length=ps.length) (r:Vals vs us)
  (x:InCallC s s.heap.objs.size (bindL (envOfC qual scope s.heap.objs.size f cd).kindOf (ps.zip us) fun _=>none) (cellsFrom (s.heap.objs.size+1) scope.names []) (bindC (envOfC qual scope s.heap.objs.size f cd).kindOf (ps.zip us) fun _=>none) s1):
  Inv (x3 CX P w K mg base N qual scope f cd A outer s H E) [] (start N vs) H s1:=by
 have JC:ps.length<=N.length:=by have:=UN List.length S.pre;rw[UI]at this;lia
 obtain⟨h1,tk,rfl,hk⟩:=x.done;have Qb:∀b:Addr,b∉(x3 CX P w K mg base N qual scope f cd A outer s H E).ex:=fun b z=>absurd (show b∈([]:List Addr) from z) (by simp)
 refine⟨⟨e0.mod,S.kind,rfl,rfl,Ts _,fun y z c h1 h2=>?_,fun y hy=>?_,fun y c _ h=>?_,fun _=>hd,Around.frames_deeper e0.frames,.inr ⟨rfl,rfl⟩,fun b z=>absurd z (Qb b),e0.bs,e0.bsz,fun b _ _=>Qb b,fun b z=>absurd z (Qb b),e0.funs,e0.frf⟩,
  rfl,e0.bare,Un.kept hk,⟨_,x.toInCall.ns,fun i y v h1 h2 h3=>?_⟩,fun y c h=>⟨_,x.cell y c h⟩,e0.hok.fresh (Ts _),fun y c h=>?_,fun p hp=>absurd (show p∈([]:List (Addr×Obj)) from hp) (by simp),e0.hok.kept hk,?_⟩
 ·exact name_of_addr x.apart (Vh h1) (Vh h2)
 ·have hy:scope.names.lookup y=some .cell\/scope.names.lookup y=some .free:=hy;rcases hy with hy|hy
  ·exact su hy
  ·exact absurd rfl (S.nofree _ (Vh hy))
 ·exact Wx (x.above y c (Vh h))
 ·have hi:i<vs.length:=by
   unfold start at h2;by_cases hi:i<vs.length
   ·exact hi
   ·rw[List.getElem?_append_right (by simpa using hi)]at h2;rw[List.getElem?_replicate]at h2;split at h2 <;> cases h2
  have ha:vs[i]?=some v:=by
   unfold start at h2;rw[List.getElem?_append_left (by simpa using hi),List.getElem?_map]at h2;cases e:vs[i]? with
   |none=>rw[e]at h2;cases h2
   |some a=>rw[e]at h2;cases h2;rfl
  obtain⟨u,hu,rv⟩:=r.get ha;have hp:ps[i]?=some y:=by
   rw[<-S.pre,List.getElem?_take_of_lt (by lia)];exact h1
  have Sw:ps.Nodup:=by rw[<-S.pre];exact S.nd.sublist (List.take_sublist _ _)
  refine⟨u,rv,?_⟩;rcases S.par y (T3 hp) with k|k
  ·exact .inl ⟨k,pH Sw hp hu k⟩
  ·obtain⟨c,e⟩:=su (n:=s.heap.objs.size+1) k;refine .inr ⟨.inl k,c,e,?_⟩;have q:=x.cell y c e;rw[pI Sw hp hu (by show scope.names.lookup y≠_;rw[k];decide)]at q;exact q
 ·exact e0.hok.fresh (Wx (x.above y c (Vh h)))
 ·unfold start;show _=N.length;rw[Ud,To,Xb];lia
theorem Fd{CX:MI}{P:Program}{w:World}{K:W.Frag}{mg:Str->Option Value}{base:Heap}{k:Nat}{f:Addr}{name qual:Str}{params:Arguments}{body:List Stmt}{scope:Scope}{dV kV doc pm HX ct oc:Value}{an od:Option Addr}
  {NB:Array (Option Value)}{N ps:List Str}{sp:Sp}(lk:K.lookup f=some ⟨oc,od,.func (PySem.W.fnOf name qual params body scope dV kV doc pm an HX ct),NB⟩) (MQ:PySem.W.codeIn K HX qual=true) (S:FnScope N ps scope)
  (len:∀vs H Q E,sp vs H Q E->vs.length=ps.length)
  (MR:∀(A:Around) (outer:List Env) (s:Shared) (H:Hp) (vs:List V) (Q:VK) (E:XK),Room k (A.deeper (envOfC qual scope s.heap.objs.size f HX))->sp vs H Q E->
   ∃t,PSs (x3 CX P w K mg base N qual scope f HX A outer s H E) body t/\t {nx:=fun _ H'=>Q .non H',rt:=Q} (start N vs) H):
  FnOk P w K mg base CX (k+1) f (PySem.W.fnOf name qual params body scope dV kV doc pm an HX ct) ps sp:=by
 refine⟨len,fun A outer s H args us vs Q E hr e0 hb r MS=>?_⟩;have hl:=len _ _ _ _ MS;have KX:K.In s.heap:=e0.mod.kin.keeps fun b o e=>(e0.bs b o e).1
 have lim:s.heap.NoLimit:=e0.mod.nolimit.keeps fun b o e=>(e0.bs b o e).1
 have Kj:∀y∈ps.zip us,scope.names.lookup y.1=some .local\/(scope.names.lookup y.1=some .cell/\((cellsFrom (s.heap.objs.size+1) scope.names []).lookup y.1).isSome=true):=fun HP hy=>by
  obtain⟨n,v⟩:=HP;rcases S.par n (V1 hy).1 with q|q
  ·exact .inl q
  ·exact .inr ⟨q,W2 _ _ _ (.inl q)⟩
 refine codeAny_call_function hr.depth (KX _ _ lk) rfl S.co S.gen rfl (PySem.W.codeRec_of KX MQ) (hb _ _ _ _ ?_);refine wpAny_newFunctionEnv_cells S.kind Kj fun env he s1 x=>?_
 subst he;refine⟨lim.keeps x.toInCall.keep,codeAny_func ?_⟩;obtain⟨t,ht,hq⟩:=MR A outer s H vs Q E (hr.deeper _) MS;have I:Inv (x3 CX P w K mg base N qual scope f HX A outer s H E) [] (start N vs) H s1:=vQ S hr.hd e0 hl r x;refine VX (ht [] s1 (start N vs) H _ I hq) (fun fl s' hs=>?_) fun e s' hs=>hs
 have fin:∀{σ':St}{H':Hp}{v:V}{u:Value},Inv (x3 CX P w K mg base N qual scope f HX A outer s H E) [] σ' H' s'->RelV v u->Q v H'->CE outer P w H s Q u s':=
  fun{σ' H' v u} J rv q=>⟨v,H',J.os,J.bare,J.base,J.hok,rv,q⟩
 cases fl with
 |ret u=>
  obtain⟨v,σ',H',J,rv,q⟩:=hs;exact fin J rv q
 |next=>
  obtain⟨σ',H',J,q⟩:=hs;exact fin (v:=V.non) (u:=Value.none) J rfl q
 |brk=>
  obtain⟨_,_,_,q⟩:=hs;exact False.elim q
 |cont=>
  obtain⟨_,_,_,q⟩:=hs;exact False.elim q
section
variable{X:Cx}{x:Str}{p pos:Pos}{e:Expr}{es:List Expr}{t:TA}{id T:String}{r:List V->Hp->VK->Prop}
def RG(r:List V->Hp->VK->Prop)(t:TA):TE:=fun σ H Q=>t σ H fun vs H1=>r vs H1 Q
theorem sx(hc:dD X (.builtin id) r)(hg:Gl X x)(hm:X.mg x=none)(hv:bootBuiltins x=some (.builtin id))(ha:PA X (e::es) t)(hn:x≠"__name__":=by decide)(JT:(x==("__debug__" : Str))=false:=by decide)
  (he:starEach (e::es) X.env=(false,eval e X.env)::starEach es X.env:=by rfl) (JC:(backTo pos (starEach es X.env)).any (·.1)=false:=by rfl):PE X (.Call (.Name x p) (e::es) [] pos) (RG r t):=by
 intro pi s σ H Q I h;refine Vu (kG I hg hm hv ?_ hn JT);exact PyProof.Rows.callWith_builtin1 (HW (ha pos pi s σ H _ I h) fun us s1 ⟨vs,H1,I1,r1,q1⟩=>hc pi s1 σ H1 vs us Q I1 r1 q1) he JC
theorem vR(hc:dD X (.type T) r)(hg:Gl X x)(hm:X.mg x=none)(hv:bootBuiltins x=some (.type T))(ha:PA X (e::es) t)(hn:x≠"__name__":=by decide)(JT:(x==("__debug__" : Str))=false:=by decide)
  (he:starEach (e::es) X.env=(false,eval e X.env)::starEach es X.env:=by rfl) (JC:(backTo pos (starEach es X.env)).any (·.1)=false:=by rfl):PE X (.Call (.Name x p) (e::es) [] pos) (RG r t):=by
 intro pi s σ H Q I h;refine Vu (kG I hg hm hv ?_ hn JT);exact Vg (HW (ha pos pi s σ H _ I h) fun us s1 ⟨vs,H1,I1,r1,q1⟩=>hc pi s1 σ H1 vs us Q I1 r1 q1) he JC
end
end L2
namespace HT
open PySem PyProof.Rows
section
open PySem.SeqAt
open PySem.AutoSeq1 (wpAny_loadPart')
open PySem.MeetsSeq PySem.MeetsSeq2 PySem.MeetsSeq3
end
section
variable{prog:Program}{w:World}{A:Around}{E:Value->Shared->Prop}{s:Shared}
theorem AG{t b:Addr}{vs ws:List Value}{Q:Value->Shared->Prop}(ht:IsTup s.heap t vs.toArray)(hb:IsTup s.heap b ws.toArray)(hv:vs≠[])
  (h1:ws=[]->Q (.ref t) s) (h2:ws≠[]->Q (.ref s.heap.objs.size) {s with heap:=s.heap.push {cls:=.type "tuple",data:=.seq (vs++ws).toArray}})
  (hsz:vs.length+ws.length<=sizeLine):wpAny (model prog w) A (binaryOp .Add (.ref t) (.ref b)) Q E s:=by
 obtain⟨⟨cls,dd,data,sl⟩,ho,hc,n,hd⟩:=id ht;obtain⟨⟨ON,NC,data2,ND⟩,JU,Kt,n2,hd2⟩:=id hb;simp only at hc hd Kt hd2;subst hc hd Kt hd2;have e:vs.toArray++ws.toArray=(vs++ws).toArray:=by simp
 by_cases hw:ws=[]
 ·exact Xc ⟨_,ho,rfl⟩ ⟨_,JU,rfl⟩ WU XT V6 V2 (VY _ _)
   (tuple_addW1 t b vs.toArray ws.toArray n n2 dd NC sl ND (by simpa using hv) (by simp[hw])) ⟨ho,JU,h1 hw⟩
 ·refine Xc ⟨_,ho,rfl⟩ ⟨_,JU,rfl⟩ WU XT V6 V2 (VY _ _)
   (tuple_addW2 t b vs.toArray ws.toArray n n2 dd NC sl ND (by simpa using hv) (by simpa using hw) (by rw[Tv,Tv];exact hsz)) ⟨ho,JU,?_⟩
  rw[e];exact h2 hw
def sIx(n d:Nat):Option Int->Nat
 |none=>d
 |some v=>if v<0 then(v+(n:Int)).toNat else min v.toNat n
theorem sy(n d:Nat):sIx n d none=d:=rfl
theorem vS(n d k:Nat):sIx n d (some (k:Int))=min k n:=by
 show(if(k:Int)<0 then((k:Int)+(n:Int)).toNat else min (k:Int).toNat n)=min k n;rw[TB (by lia),T4]
theorem vT(n d:Nat)(hd:d<=n)(o:Option Int):sIx n d o<=n:=by
 cases o with
 |none=>exact hd
 |some v=>
  show(if v<0 then(v+(n:Int)).toNat else min v.toNat n)<=n;by_cases hv:v<0
  ·rw[Tt hv];lia
  ·rw[TB hv];exact Nat.min_le_right _ _
theorem vU(v:Int)(n d:Nat):(if v<0 then max (v+(n:Int)) 0 else min v (n:Int))=((sIx n d (some v):Nat):Int):=by
 show(if v<0 then max (v+(n:Int)) 0 else min v (n:Int))=(((if v<0 then(v+(n:Int)).toNat else min v.toNat n):Nat):Int)
 by_cases hv:v<0
 ·simp only[Tt hv];lia
 ·simp only[TB hv];lia
theorem ur(lo hi:Option Int)(n:Nat):Builtin.Slice.sliceAdjust lo hi 1 (n:Int)=(((sIx n 0 lo:Nat):Int),((sIx n n hi:Nat):Int)):=by
 have h1:¬ ((1:Int)<0):=by lia
 unfold Builtin.Slice.sliceAdjust;simp only[h1,Wi];refine Prod.ext ?_ ?_
 ·cases lo with
  |none=>rfl
  |some v=>exact vU v n 0
 ·cases hi with
  |none=>rfl
  |some v=>exact vU v n n
theorem uu(i j:Nat):Builtin.Slice.slicePlaces (i:Int) (j:Int) 1=j-i:=by
 unfold Builtin.Slice.slicePlaces;have h1:(1:Int)>0:=by lia
 simp only[h1,VQ,Int.ediv_one];split <;> lia
theorem nJ{v:Value}{o:Option Int}{Q:Option Int->Shared->Prop}(p:IsPart v o)(h:Q o s):wpAny (model prog w) A (Builtin.Slice.slicePartIndex v) Q E s:=by
 cases p with
 |none=>exact slicePart_none h
 |int i t=>exact slicePart_int h
theorem gK{sl:Addr}{vl vu:Value}{lo hi:Option Int}{n:Nat}{Q:Int×Int×Nat->Shared->Prop}(hs:s.heap.IsSliceOf sl vl vu .none)(pl:IsPart vl lo)(pu:IsPart vu hi)
  (h:Q (((sIx n 0 lo:Nat):Int),1,sIx n n hi-sIx n 0 lo) s):wpAny (model prog w) A (Builtin.Slice.sliceApplied (.ref sl) (pure (n:Int))) Q E s:=by
 obtain⟨os,NL,Ri,NM⟩:=id hs;unfold Builtin.Slice.sliceApplied Builtin.Slice.sliceFields;refine Tj (Tj (US NL NM (x:=vl) rfl (Tj (US NL NM (x:=vu) rfl (Tj (US NL NM (x:=.none) rfl (Tr ?_)))))));refine Tj (slicePart_none ?_);show wpAny _ _ (if((1:Int)==0)=true then _ else _) _ _ s;rw[TB (by decide)];refine Tj (nJ pl (Tj (nJ pu (Tj (Tr ?_)))));show wpAny _ _ (match Builtin.Slice.sliceAdjust lo hi 1 (n:Int) with|(lo,hi)=>pure (lo,(1:Int),Builtin.Slice.slicePlaces lo hi 1)) _ _ s;rw[ur lo hi n];show wpAny _ _ (pure (((sIx n 0 lo:Nat):Int),(1:Int),Builtin.Slice.slicePlaces ((sIx n 0 lo:Nat):Int) ((sIx n n hi:Nat):Int) 1)) _ _ s;rw[uu];exact Tr h
theorem yn(xs:Array Value)(i k:Nat):((List.range k).filterMap fun(m:Nat)=>xs[((i:Int)+(m:Int)*1).toNat]?).toArray=((xs.toList.drop i).take k).toArray:=by
 have e:(fun(m:Nat)=>xs[((i:Int)+(m:Int)*1).toNat]?)=fun m=>xs[i+m]?:=by
  funext m
  have:((i:Int)+(m:Int)*1).toNat=i+m:=by lia
  rw[this]
 rw[e];have:=pick_run xs i k;rw[List.filterMap_map]at this;have e2:((fun x=>xs[x]?)∘fun x=>i+x)=fun m=>xs[i+m]?:=rfl
 rw[e2]at this;rw[this]
theorem kh{t sl:Addr}{items:Array Value}{vl vu:Value}{lo hi:Option Int}{Q:Value->Shared->Prop}(ht:IsTup s.heap t items)(hs:s.heap.IsSliceOf sl vl vu .none)(pl:IsPart vl lo)(pu:IsPart vu hi)
  (hw:¬ (sIx items.size 0 lo=0/\sIx items.size items.size hi=items.size))
  (h:Q (.ref s.heap.objs.size) {s with heap:=s.heap.push {cls:=.type "tuple",data:=.seq ((items.toList.drop (sIx items.size 0 lo)).take (sIx items.size items.size hi-sIx items.size 0 lo)).toArray}})
  (hsz:items.size<=sizeLine):wpAny (model prog w) A (getItem (.ref t) (.ref sl)) Q E s:=by
 have Ma:sizeOk (.seq ((items.toList.drop (sIx items.size 0 lo)).take (sIx items.size items.size hi-sIx items.size 0 lo)).toArray):=by
  show((items.toList.drop (sIx items.size 0 lo)).take (sIx items.size items.size hi-sIx items.size 0 lo)).toArray.size<=sizeLine;rw[Tv,UI,VF,UQ];lia
 have hj:sIx items.size items.size hi<=items.size:=vT _ _ (Ts _) hi;obtain⟨os,NL,Ri,NM⟩:=id hs;have RH:s.TypeIs (.ref sl) "slice":=⟨os,NL,Ri⟩
 unfold getItem;try with_reducible refine U2 ?_
 first|refine Tj (Tr ?_)|skip
 refine Tj (wpAny_sequenceKey ht.typeIs (by decide) ?_);refine Tj (wpAny_callSpecial?_slot (name:=Str.ofString "__getitem__") ht.typeIs U0
  (UJ U0 ht.typeIs entry_tuple_getitem ?_ (args_tuple_getitem _ _)))
 show wpAny _ _ (Builtin.Tuple.tupleItemsOf (.ref t) >>= _) _ _ s;refine Tj (tupleItemsOf_ ht ?_);refine Tj (VZ RH ?_);rw[Tt (by decide)];refine Tj (gK hs pl pu ?_);have Sy:¬ ((((sIx items.size 0 lo:Nat):Int)==0&&(1:Int)==1&&(sIx items.size items.size hi-sIx items.size 0 lo)==items.size)=true):=by
  intro q;rw[TL,TL]at q;have q1:((sIx items.size 0 lo:Nat):Int)=0:=eq_of_beq q.1.1;have q2:sIx items.size items.size hi-sIx items.size 0 lo=items.size:=eq_of_beq q.2;exact hw ⟨by lia,by lia⟩
 show wpAny _ _ (if(((sIx items.size 0 lo:Nat):Int)==0&&(1:Int)==1&&(sIx items.size items.size hi-sIx items.size 0 lo)==items.size)=true then _ else _) _ _ s;rw[TB Sy,yn];first
  |exact Tj (m:=Builtin.Tuple.tupleExact _) (Us (Tr ⟨_,rfl,Tr h⟩) Ma)
  |exact Tj (m:=Builtin.Tuple.tupleExact _) (Us (Tj (Tr (Tr ⟨_,rfl,Tr h⟩))) Ma)
  |exact Tj (Tj (m:=Builtin.Tuple.tupleExact _) (Us (Tr (Tr ⟨_,rfl,Tr h⟩)) Ma))
  |exact Tj (Tj (m:=Builtin.Tuple.tupleExact _) (Us (Tr ⟨_,rfl,Tr h⟩) Ma))
end
end HT
namespace L2
open PySem PySem.Spec PyProof.Rows
abbrev TO:=St->Hp->(Option Int->Hp->Prop)->Prop
def PO(X:Cx)(e:Option Expr)(t:TO):Prop:=
 ∀(pi:List (Addr×Obj)) (s:Shared) (σ:St) (H:Hp) (Q:Option Int->Hp->Prop),Inv X pi σ H s->t σ H Q->
  wpAny (model X.prog X.w) X.A (evalPart e X.env) (fun u s'=>∃o H',Inv X pi σ H' s'/\IsPart u o/\Q o H') X.xe s
def AH:TO:=fun _ H Q=>Q none H
def Fe(t:TE):TO:=fun σ H Q=>t σ H fun x H1=>∃i,x=.int i/\Q (some i) H1
section
variable{X:Cx}{e:Expr}{te:TE}{lo hi:Option Expr}{tl th:TO}{pos p2:Pos}
theorem AI:PO X none AH:=by
 intro pi s σ H Q I h;rw[evalPart_none];exact Tr ⟨none,H,I,.none,h⟩
theorem AJ(h:PE X e te):PO X (some e) (Fe te):=by
 intro pi s σ H Q I hw;rw[evalPart_some];refine HW (h pi s σ H _ I hw) fun u s1 HY=>?_
 obtain⟨x,H1,I1,r1,q1⟩:=HY;obtain⟨i,rfl,q⟩:=q1;obtain⟨t,rfl⟩:=r1;exact⟨some i,H1,I1,.int i t,q⟩
def OO(X:Cx)(r:V->Option Int->Option Int->Hp->VK->Prop):Prop:=
 ∀(pi:List (Addr×Obj)) (s:Shared) (σ:St) (H:Hp) (x:V) (v vl vu:Value) (lo hi:Option Int) (sl:Addr) (Q:VK),Inv X pi σ H s->RelV x v->s.heap.IsSliceOf sl vl vu .none->IsPart vl lo->IsPart vu hi->r x lo hi H Q->
  ∃T id,typeLookup (.type T) "__getitem__" = pure (some (.builtin id))/\s.TypeIs v T/\wpAny (model X.prog X.w) X.A (getItem v (.ref sl)) (EP X pi σ Q) X.xe s
def tSl(r:V->Option Int->Option Int->Hp->VK->Prop)(te:TE)(tl th:TO):TE:=fun σ H Q=>te σ H fun x H1=>tl σ H1 fun l H2=>th σ H2 fun u H3=>r x l u H3 Q
theorem yo{r:V->Option Int->Option Int->Hp->VK->Prop}(hr:OO X r)(he:PE X e te)(hl:PO X lo tl)(hu:PO X hi th):PE X (.Subscript e (.Slice lo hi none p2) pos) (tSl r te tl th):=by
 intro pi s σ H Q I h;refine Subscript_ (HW (he pi s σ H _ I h) fun v s1 HY=>?_);obtain⟨x,H1,I1,r1,q1⟩:=HY;refine wpAny_Slice (HW (hl pi s1 σ H1 _ I1 q1) fun vl s2 ⟨l,H2,I2,pl,q2⟩=>HW (hu pi s2 σ H2 _ I2 q2) fun vu s3 HY=>?_);obtain⟨u,H3,I3,pu,q3⟩:=HY;rw[evalPart_none];refine Tr ?_;have I4:Inv X pi σ H3 {s3 with heap:=s3.heap.push {cls:=.type "slice",data:=.fields #[vl,vu,.none]}}:=I3.kept (t':=s3.toks) fun b ob q=>Heap.get?_push_of_some _ q
 obtain⟨T,id,hT,ht,hg⟩:=hr pi {s3 with heap:=s3.heap.push {cls:=.type "slice",data:=.fields #[vl,vu,.none]}} σ H3 x v vl vu l u s3.heap.objs.size Q I4 r1 (Heap.IsSliceOf.new ..) pl pu q3;show wpAny (model X.prog X.w) X.A (subscriptTail e (.Slice lo hi none p2) v (.ref s3.heap.objs.size)) (EP X pi σ Q) X.xe {s3 with heap:=s3.heap.push {cls:=.type "slice",data:=.fields #[vl,vu,.none]}};exact tail_any (ops:=[.ref s3.heap.objs.size,v]) ht hT hg (by with_unfolding_all rfl)
def zV(xs:List V)(lo hi:Option Int):List V:=(xs.drop (HT.sIx xs.length 0 lo)).take (HT.sIx xs.length xs.length hi-HT.sIx xs.length 0 lo)
theorem lR(xs:List V)(lo hi:Option Int):(zV xs lo hi).length<=xs.length:=by
 unfold zV;rw[UI,VF];lia
def GH(K:W.Frag):V->Option Int->Option Int->Hp->VK->Prop:=fun x lo hi H Q=>∃a xs,x=.ref a/\SqT K H a xs/\
 ¬ (HT.sIx xs.length 0 lo=0/\HT.sIx xs.length xs.length hi=xs.length)/\∀p,H p=none->Q (.ref p) (upd H p (.tup (zV xs lo hi)))
theorem Dc:OO X (GH X.K):=by
 intro pi s σ H x v vl vu lo hi sl Q I rx hs pl pu h;obtain⟨a,xs,rfl,hx,hw,q⟩:=h;cases rx;obtain⟨HB,r,ht,hz⟩:=I.tuple hx;have hlen:HB.toArray.size=xs.length:=by rw[Tv];exact r.length.symm
 refine⟨"tuple",_,PyProof.Rows.slot_tuple_getitem.lookup,ht.typeIs,?_⟩;refine HT.kh ht hs pl pu (by rw[hlen];exact hw) ?_ (by rw[hlen];exact hz);rw[hlen];refine⟨.ref s.heap.objs.size,_,I.laid (t':=s.toks) (o:=.tup (zV xs lo hi)) (fun b ob q=>Heap.get?_push_of_some _ q) (Ts _) ?_,rfl,q _ (I.hok.fresh (Ts _))⟩;exact⟨Uq (lR xs lo hi) hz,_,(r.drop (HT.sIx xs.length 0 lo)).take (HT.sIx xs.length xs.length hi-HT.sIx xs.length 0 lo),IsTupN.new _ _⟩
def Ff(K:W.Frag):R2:=fun x y H Q=>∃a b xs ys,x=.ref a/\y=.ref b/\SqT K H a xs/\SqT K H b ys/\xs≠[]/\xs.length+ys.length<=sizeLine/\
 (ys=[]->Q (.ref a) H)/\(ys≠[]->∀p,H p=none->Q (.ref p) (upd H p (.tup (xs++ys))))
theorem Vals.nil_iff{xs:List V}{us:List Value}(r:Vals xs us):us=[]<->xs=[]:=by
 cases r with
 |nil=>simp
 |cons _ _=>simp
theorem AK:Ir X (binaryOp .Add) (Ff X.K):=by
 intro pi s σ H x y v u Q I rx ry h;obtain⟨a,b,xs,ys,rfl,rfl,ha,hb,hx,hz,q1,q2⟩:=h;cases rx;cases ry;obtain⟨HB,r1,p1,_⟩:=I.tuple ha;obtain⟨Ml,r2,p2,_⟩:=I.tuple hb;refine HT.AG p1 p2 (fun z=>hx (r1.nil_iff.mp z)) (fun z=>⟨.ref a,H,I,rfl,q1 (r2.nil_iff.mp z)⟩) (fun z=>?_) (by rw[<-r1.length,<-r2.length];exact hz);refine⟨.ref s.heap.objs.size,_,I.laid (t':=s.toks) (o:=.tup (xs++ys)) (fun b ob q=>Heap.get?_push_of_some _ q) (Ts _) ?_,rfl,q2 (fun w=>z (r2.nil_iff.mpr w)) _ (I.hok.fresh (Ts _))⟩;exact⟨by rw[Ud];exact hz,_,r1.append r2,IsTupN.new _ _⟩
end
def ixN(n:Nat)(i:Int):Option Nat:=if 0<=i then(if i<n then some i.toNat else none) else if -(n:Int)<=i then some (i+n).toNat else none
def IH{α:Type}(xs:List α)(i:Int):Option α:=(ixN xs.length i).bind fun j=>xs[j]?
theorem AL{n:Nat}{i:Int}{j:Nat}(h:ixN n i=some j):seqIndex? i n=some j/\j<n/\-(n:Int)<=i/\i<n:=by
 unfold ixN at h;by_cases h0:0<=i
 ·rw[Tt h0]at h;by_cases h1:i<n
  ·rw[Tt h1]at h;have e:i.toNat=j:=Ua h;exact⟨by rw[seqIndex_of h0 h1,e],by lia,by lia,h1⟩
  ·rw[TB h1]at h;cases h
 ·rw[TB h0]at h;by_cases h1:-(n:Int)<=i
  ·rw[Tt h1]at h;have e:(i+n).toNat=j:=Ua h;exact⟨by rw[seqIndex_neg (by lia) h1,e],by lia,h1,by lia⟩
  ·rw[TB h1]at h;cases h
theorem qT{α:Type}{xs:List α}{i:Int}{v:α}(h:IH xs i=some v):∃j,seqIndex? i xs.length=some j/\xs[j]?=some v/\j<xs.length/\-(xs.length:Int)<=i/\i<xs.length:=by
 unfold IH at h;cases e:ixN xs.length i with
 |none=>rw[e]at h;cases h
 |some j=>
  rw[e]at h;obtain⟨h1,h2,h3,h4⟩:=AL e;exact⟨j,h1,h,h2,h3,h4⟩
theorem gW{α:Type}{xs:List α}{j:Nat}{v:α}(h:xs[j]?=some v):IH xs (j:Int)=some v:=by
 have hj:j<xs.length:=(List.getElem?_eq_some_iff.mp h).1;have e:ixN xs.length (j:Int)=some j:=by
  unfold ixN;rw[Tt (by lia),Tt (by lia)];simp
 unfold IH;rw[e];exact h
def vV(b:Expr):Prop:=∀o i,subscripted b false o i=operate [o,i] (getItem o i)
def Qc(X:Cx)(r:R2):Prop:=
 ∀(value slice:Expr) (pi:List (Addr×Obj)) (s:Shared) (σ:St) (H:Hp) (x y:V) (v u:Value) (Q:VK),Inv X pi σ H s->RelV x v->RelV y u->r x y H Q->
  subscripted slice false v u=operate [v,u] (getItem v u)->wpAny (model X.prog X.w) X.A (subscriptTail value slice v u) (EP X pi σ Q) X.xe s
def OA(X:Cx)(id:String)(r:V->List V->Hp->VK->Prop):Prop:=
 ∀(pi:List (Addr×Obj)) (s:Shared) (σ:St) (H:Hp) (x:V) (xs:List V) (v:Value) (us:List Value) (Q:VK),Inv X pi σ H s->RelV x v->Vals xs us->r x xs H Q->
  wpAny (model X.prog X.w) X.A (call (.builtin id) (v::us)) (EP X pi σ Q) X.xe s
section
variable{X:Cx}{a b:Expr}{ta tb:TE}{pos:Pos}
theorem Fg{r:R2}(hr:Qc X r)(ha:PE X a ta)(hb:PE X b tb)(hs:vV b):PE X (.Subscript a b pos) (PM r ta tb):=by
 intro pi s σ H Q I h;exact Subscript_ (E5 ha hb I h fun v u s2 x y H2 I2 rx ry q=>hr a b pi s2 σ H2 x y v u Q I2 rx ry q (hs _ _))
def GI(K:W.Frag):R2:=fun x y H Q=>∃p xs i v,x=.ref p/\y=.int i/\SqL K H p xs/\IH xs i=some v/\Q v H
def GJ(K:W.Frag):R2:=fun x y H Q=>∃p xs i v,x=.ref p/\y=.int i/\SqT K H p xs/\IH xs i=some v/\Q v H
def GK:R2:=fun x y H Q=>∃z i c,x=.str z/\y=.int i/\z.length<=sizeLine/\IH z.cps.toList i=some c/\Q (.str ⟨#[c]⟩) H
theorem AM:Qc X (GI X.K):=by
 intro value slice pi s σ H x y v u Q I rx ry h hs;obtain⟨p,xs,i,z,rfl,rfl,hq,he,q⟩:=h;cases rx;obtain⟨t,rfl⟩:=ry;obtain⟨HB,r,pl,hz⟩:=I.list hq;obtain⟨j,h1,h2,h3,h4,h5⟩:=qT he;obtain⟨w,ew,Mm⟩:=r.get h2;have hl:=r.length;have hn:=pC;have fin:EP X pi σ Q w s:=⟨z,H,I,Mm,q⟩
 by_cases h0:0<=i
 ·have hj:i.toNat=j:=by
   rw[seqIndex_of h0 h5]at h1;exact Ua h1
  exact item_listR pl.isList h0 (by lia) (by rw[hj];simpa using ew) fin hs
 ·have hj:(i+(HB.toArray.size:Int)).toNat=j:=by
   rw[seqIndex_neg (by lia) h4]at h1;rw[Tv,<-hl];exact Ua h1
  exact subscriptTail_builtinR (x:=w) pl.isList.typeIs slot_list_getitem.lookup
   (wpAny_getItem_list_neg (Q:=fun r s'=>r=w/\EP X pi σ Q r s') pl.isList (by lia) (by rw[Tv] <;> lia) (by lia) (by rw[hj];simpa using ew) ⟨rfl,fin⟩) hs
theorem De:Qc X (GJ X.K):=by
 intro value slice pi s σ H x y v u Q I rx ry h hs;obtain⟨p,xs,i,z,rfl,rfl,hq,he,q⟩:=h;cases rx;obtain⟨t,rfl⟩:=ry;obtain⟨HB,r,pl,hz⟩:=I.tuple hq;obtain⟨j,h1,h2,h3,h4,h5⟩:=qT he;obtain⟨w,ew,Mm⟩:=r.get h2;have hl:=r.length;have hn:=pC;have fin:EP X pi σ Q w s:=⟨z,H,I,Mm,q⟩
 exact subscriptTail_builtinR (x:=w) pl.typeIs slot_tuple_getitem.lookup
  (getItem_tuple (j:=j) (Q:=fun r s'=>r=w/\EP X pi σ Q r s') pl (by lia) (by lia) (by rw[Tv,<-hl];exact h1) (by simpa using ew) ⟨rfl,fin⟩) hs
theorem Dg:Qc X GK:=by
 intro value slice pi s σ H x y v u Q I rx ry h hs;obtain⟨z,i,c,rfl,rfl,hz,he,q⟩:=h;obtain⟨t,rfl⟩:=rx;obtain⟨t',rfl⟩:=ry;obtain⟨j,h1,h2,h3,h4,h5⟩:=qT he;have hl:z.cps.toList.length=z.length:=by simp[Str.length]
 rw[hl]at h1 h4 h5;have hn:=pC;exact tail_any (Xq s z t) slot_str_getitem.lookup (getItem_str (c:=c) (by
  have e1:decide (i < -(2 ^ 63:Int))=false:=Ui (by lia);have e2:decide (i>=2 ^ 63)=false:=Ui (by lia);rw[e1,e2,Bool.or_false]) (by rw[h1];simpa using h2) ⟨.str ⟨#[c]⟩,H,I.tok _,⟨_,rfl⟩,q⟩) hs
theorem Inv.lst{pi:List (Addr×Obj)}{σ:St}{H:Hp}{s:Shared}{p:Addr}{xs:List V}(I:Inv X pi σ H s)(h:H p=some (.lst xs)):
  ∃(HB:List Value) (n:Nat),Vals xs HB/\s.heap.get? p=some {cls:=.type "list",data:=.seq HB.toArray n}/\xs.length<=sizeLine:=by
 obtain⟨z,HB,n,r,e⟩:=I.hok p _ h;exact⟨HB,n,r,e,z⟩
theorem pJ(lo hi:Option Int)(n:Nat):(sliceBounds lo hi none n).1=((HT.sIx n 0 lo:Nat):Int)/\(sliceBounds lo hi none n).2.1=((HT.sIx n n hi:Nat):Int)/\(sliceBounds lo hi none n).2.2=1:=by
 refine⟨?_,?_,rfl⟩
 ·cases lo with
  |none=>simp[sliceBounds,HT.sIx]
  |some i=>
   simp only[sliceBounds,HT.sIx,WV,show(1:Int)>0 by decide,VQ];by_cases h:i<0
   ·simp only[h,VQ] <;> lia
   ·simp only[h,Wi] <;> lia
 ·cases hi with
  |none=>simp[sliceBounds,HT.sIx]
  |some i=>
   simp only[sliceBounds,HT.sIx,WV,show(1:Int)>0 by decide,VQ];by_cases h:i<0
   ·simp only[h,VQ] <;> lia
   ·simp only[h,Wi] <;> lia
theorem oi(HB:List Value)(lo hi:Option Int):slicePick HB.toArray lo hi none=((HB.drop (HT.sIx HB.length 0 lo)).take (HT.sIx HB.length HB.length hi-HT.sIx HB.length 0 lo)).toArray:=by
 obtain⟨h1,h2,h3⟩:=pJ lo hi HB.toArray.size;unfold slicePick;rw[h1,h2,h3];simp only[sliceRange_one,pick_run,Tv] <;> rfl
def GL(K:W.Frag):V->Option Int->Option Int->Hp->VK->Prop:=fun x lo hi H Q=>∃a xs,x=.ref a/\SqL K H a xs/\∀p,H p=none->Q (.ref p) (upd H p (.lst (zV xs lo hi)))
theorem AN:OO X (GL X.K):=by
 intro pi s σ H x v vl vu lo hi sl Q I rx hs pl pu h;obtain⟨a,xs,rfl,hx,q⟩:=h;cases rx;obtain⟨HB,r,ht,hz⟩:=I.list hx;have hlen:=r.length;refine⟨"list",_,slot_list_getitem.lookup,ht.isList.typeIs,?_⟩;refine wpAny_getItem_list_slice ht.isList hs pl pu .none (by simp) ?_ (by rw[Tv] <;> lia);rw[oi,<-hlen];refine⟨.ref s.heap.objs.size,_,I.laid (t':=s.toks) (o:=.lst (zV xs lo hi)) (fun b ob q=>Heap.get?_push_of_some _ q) (Ts _) ?_,rfl,q _ (I.hok.fresh (Ts _))⟩;exact⟨Uq (lR xs lo hi) hz,_,0,(r.drop (HT.sIx xs.length 0 lo)).take (HT.sIx xs.length xs.length hi-HT.sIx xs.length 0 lo),Heap.get?_push_size _ rfl⟩
def yp:V->Bool
 | .non=>true
 | .bl _=>true
 | .int _=>true
 | .str _=>true
 |_=>false
def RI:V->V->Bool
 | .non,.non=>true
 | .bl a,.bl b=>a==b
 | .bl a,.int b=>(if a then 1 else 0)==b
 | .int a,.bl b=>a==(if b then 1 else 0)
 | .int a,.int b=>a==b
 | .str a,.str b=>a==b
 |_,_=>false
theorem zW{A:Around}{s:Shared}{y x:V}{u v:Value}(ry:RelV y u)(rx:RelV x v)(fy:yp y=true)(fx:yp x=true):SeqAt.EqAt A s u v (RI y x):=by
 cases y with
 |non=>
  cases ry;cases x with
  |non=>cases rx;exact SeqAt.EqAt.same _
  |bl b=>cases rx;exact SeqAt.EqAt.none_bool b
  |int b=>obtain⟨t,rfl⟩:=rx;exact SeqAt.EqAt.none_int b t
  |str b=>obtain⟨t,rfl⟩:=rx;exact SeqAt.EqAt.none_str b t
  |_=>exact absurd (show false=true from fx) Tw
 |bl a=>
  cases ry;cases x with
  |non=>cases rx;exact SeqAt.EqAt.bool_none a
  |bl b=>cases rx;exact SeqAt.EqAt.bool_bool a b
  |int b=>obtain⟨t,rfl⟩:=rx;exact SeqAt.EqAt.bool_int a b t
  |str b=>obtain⟨t,rfl⟩:=rx;exact SeqAt.EqAt.bool_str a b t
  |_=>exact absurd (show false=true from fx) Tw
 |int a=>
  obtain⟨t',rfl⟩:=ry;cases x with
  |non=>cases rx;exact SeqAt.EqAt.int_none a t'
  |bl b=>cases rx;exact SeqAt.EqAt.int_bool a t' b
  |int b=>obtain⟨t,rfl⟩:=rx;exact SeqAt.EqAt.int_int a t' b t
  |str b=>obtain⟨t,rfl⟩:=rx;exact SeqAt.EqAt.int_str a t' b t
  |_=>exact absurd (show false=true from fx) Tw
 |str a=>
  obtain⟨t',rfl⟩:=ry;cases x with
  |non=>cases rx;exact SeqAt.EqAt.str_none a t'
  |bl b=>cases rx;exact SeqAt.EqAt.str_bool a t' b
  |int b=>obtain⟨t,rfl⟩:=rx;exact SeqAt.EqAt.str_int a t' b t
  |str b=>obtain⟨t,rfl⟩:=rx;exact SeqAt.EqAt.str_str a t' b t
  |_=>exact absurd (show false=true from fx) Tw
 |_=>exact absurd (show false=true from fy) Tw
theorem kH:dD X (.builtin "len") (fun xs H Q=>∃p ys,xs=[.ref p]/\(SqL X.K H p ys\/SqT X.K H p ys)/\Q (.int ys.length) H):=by
 intro pi s σ H xs us Q I r h;obtain⟨p,ys,rfl,hq,q⟩:=h;obtain⟨u,rfl,rx⟩:=fK r;cases rx;have hn:=pC;rcases hq with hq|hq
 ·obtain⟨HB,r',pl,hz⟩:=I.list hq;have hlen:=r'.length;exact Calls.call_len_list pl.isList (by simp only[Tv] <;> lia) ⟨.int ys.length,H,I.tok _,⟨s.toks+1,by rw[Tv,hlen]⟩,q⟩
 ·obtain⟨HB,r',pl,hz⟩:=I.tuple hq;have hlen:=r'.length;exact len_tuple pl (by simp only[Tv] <;> lia) ⟨.int ys.length,H,I.tok _,⟨s.toks+1,by rw[Tv,hlen]⟩,q⟩
theorem pK:dD X (.builtin "len") (fun xs H Q=>∃z,xs=[.str z]/\z.length<=sizeLine/\Q (.int z.length) H):=by
 intro pi s σ H xs us Q I r h;obtain⟨z,rfl,hz,q⟩:=h;obtain⟨u,rfl,t,rfl⟩:=fK r;have hn:=pC;exact len_str (by lia) ⟨.int z.length,H,I.tok _,⟨_,rfl⟩,q⟩
theorem kI:dD X (.type "list") (fun xs H Q=>∃p ys,xs=[.ref p]/\(SqL X.K H p ys\/SqT X.K H p ys)/\∀l,H l=none->Q (.ref l) (upd H l (.lst ys))):=by
 intro pi s σ H xs us Q I r h;obtain⟨p,ys,rfl,hq,q⟩:=h;obtain⟨u,rfl,rx⟩:=fK r;cases rx;have fin:∀(HB:List Value),Vals ys HB->ys.length<=sizeLine->∀(h':Heap) (c':Nat),(∀b o',s.heap.get? b=some o'->h'.get? b=some o')->
   h'.get? s.heap.objs.size=some {cls:=.type "list",dict:=none,data:=.seq HB.toArray c',slots:=#[]}->EP X pi σ Q (.ref s.heap.objs.size) {s with heap:=h'}:=fun HB r' hz h' c' kp e=>
  ⟨.ref s.heap.objs.size,_,I.laid (t':=s.toks) kp (Ts _) (show ObjOk X.prog X.w _ h' _ (.lst ys) from⟨hz,HB,c',r',e⟩),rfl,q _ (I.hok.fresh (Ts _))⟩
 rcases hq with hq|hq
 ·obtain⟨HB,r',pl,hz⟩:=I.list hq;have hlen:=r'.length;obtain⟨o,ho,hc,n,hd⟩:=pl.isList;exact call_list_seq p (.inl rfl) ho hc hd (fun h' c' kp e=>fin HB r' hz h' c' kp e) (by simp only[Tv] <;> lia)
 ·obtain⟨HB,r',pl,hz⟩:=I.tuple hq;have hlen:=r'.length;obtain⟨o,ho,hc,n,hd⟩:=pl;exact call_list_seq p (.inr rfl) ho hc hd (fun h' c' kp e=>fin HB r' hz h' c' kp e) (by simp only[Tv] <;> lia)
theorem jw:dD X (.type "tuple") (fun xs H Q=>∃p ys,xs=[.ref p]/\((SqL X.K H p ys/\∀l,H l=none->Q (.ref l) (upd H l (.tup ys)))\/(SqT X.K H p ys/\Q (.ref p) H))):=by
 intro pi s σ H xs us Q I r h;obtain⟨p,ys,rfl,h⟩:=h;obtain⟨u,rfl,rx⟩:=fK r;cases rx;rcases h with⟨hq,q⟩|⟨hq,q⟩
 ·obtain⟨HB,r',pl,hz⟩:=I.list hq;have hlen:=r'.length;refine call_tuple_list pl.isList (fun h' kp=>?_) (by simp only[Tv] <;> lia);have I1:Inv X pi σ H {s with heap:=h'}:=I.kept (t':=s.toks) kp;have I2:Inv X pi σ (upd H h'.objs.size (.tup ys)) {s with heap:=h'.push {cls:=.type "tuple",data:=.seq HB.toArray}}:=
   I1.laid (t':=s.toks) (fun b o e=>Heap.get?_push_of_some _ e) (Ts _) (show ObjOk X.prog X.w _ _ _ (.tup ys) from⟨hz,HB,r',IsTupN.new _ _⟩)
  exact⟨.ref h'.objs.size,_,I2,rfl,q _ (I1.hok.fresh (Ts _))⟩
 ·obtain⟨HB,r',pl,hz⟩:=I.tuple hq;exact call_tuple_same pl ⟨.ref p,H,I,rfl,q⟩
def Qd(K:W.Frag)(T:String)(x:V)(H:Hp):Prop:=match x with
 | .str _=>T = "str"
 | .int _=>T = "int"
 | .ref p=>(T = "list"/\∃xs,SqL K H p xs)\/(T = "tuple"/\∃o,K.lookup p=some o/\o.cls=.type "tuple"/\o.dict=none)\/
   (T = "dict"/\((∃kvs,H p=some (.dK kvs))\/∃kvs,H p=some (.dT kvs)))\/(T = "set"/\∃S n,H p=some (.set S n))
 |_=>False
theorem vW{pi:List (Addr×Obj)}{σ:St}{H:Hp}{s:Shared}{T:String}{x:V}{v:Value}(I:Inv X pi σ H s)(r:RelV x v)(ty:Qd X.K T x H):
  s.TypeIs v T/\∀a,v=.ref a->∃ob,s.heap.get? a=some ob/\ob.dict=none:=by
 cases x with
 |str z=>
  obtain⟨t,rfl⟩:=r;cases(show T = "str" from ty);exact⟨Xq s z t,fun _ e=>nomatch e⟩
 |int i=>
  obtain⟨t,rfl⟩:=r;cases(show T = "int" from ty);exact⟨Xr s i t,fun _ e=>nomatch e⟩
 |ref p=>
  cases r;rcases ty with⟨rfl,xs,hq⟩|⟨rfl,o,hk,hc,hd⟩|⟨rfl,hk⟩|⟨rfl,S,n,hk⟩
  ·obtain⟨HB,_,pl,_⟩:=I.list hq;refine⟨pl.isList.typeIs,fun a e=>?_⟩;cases e;obtain⟨o,n,e,c,hd,_⟩:=pl;exact⟨o,e,hd⟩
  ·refine⟨⟨o,I.kIn p o hk,hc⟩,fun a e=>?_⟩;cases e;exact⟨o,I.kIn _ o hk,hd⟩
  ·have z:∃o,s.heap.get? p=some o/\o.ExactDict:=by
    rcases hk with⟨kvs,hk⟩|⟨kvs,hk⟩
    ·obtain⟨_,_,_,_,o,_,_,e,ex,_⟩:=I.hok p _ hk;exact⟨o,e,ex⟩
    ·obtain⟨_,_,_,_,o,_,_,e,ex,_⟩:=I.hok p _ hk;exact⟨o,e,ex⟩
   obtain⟨o,e,ex⟩:=z;refine⟨⟨o,e,ex.1⟩,fun a e2=>?_⟩;cases e2;exact⟨o,e,ex.2.1⟩
  ·obtain⟨o,_,_,_,e,ex,_⟩:=I.hok p _ hk;refine⟨⟨o,e,ex.1⟩,fun a e2=>?_⟩;cases e2;exact⟨o,e,ex.2.1⟩
 |_=>exact False.elim ty
def GN(K:W.Frag)(T:String)(r:V->List V->Hp->VK->Prop)(to:TE):TE:=fun σ H Q=>to σ H fun x H1=>Qd K T x H1/\r x [] H1 Q
def tBM(K:W.Frag)(T:String)(r:V->List V->Hp->VK->Prop)(to:TE)(t:TA):TE:=fun σ H Q=>to σ H fun x H1=>Qd K T x H1/\t σ H1 fun xs H2=>r x xs H2 Q
variable{o e:Expr}{es:List Expr}{to:TE}{t:TA}{name:Str}{apos HV:Pos}{T id:String}{r:V->List V->Hp->VK->Prop}
theorem Dh(pa:PlainAttrs T)(slot:Slot T name id)(MT:typeOf (.builtin id)=pure (.type "method_descriptor"))(hm:OA X id r)(ho:PE X o to)
  (Iv:attributeBase o name X.env (eval o X.env)=eval o X.env:=by rfl) (Iw:(apos.endLine==HV.line)=true:=by rfl):PE X (.Call (.Attribute o name apos) [] [] HV) (GN X.K T r to):=by
 intro pi s σ H Q I h;refine wpAny_Call_method0_late Iv Iw (HW (ho pi s σ H _ I h) fun v s1 HY=>?_);obtain⟨x,H1,I1,r1,ty,q1⟩:=HY;obtain⟨h1,h2⟩:=vW I1 r1 ty;exact⟨T,id,pa,slot,MT,h1,h2,VJ rfl (XG (hm pi s1 σ H1 x [] v [] Q I1 r1 .nil q1))⟩
theorem Di(pa:PlainAttrs T)(slot:Slot T name id)(MT:typeOf (.builtin id)=pure (.type "method_descriptor"))(hm:OA X id r)(ho:PE X o to)(ha:PA X (e::es) t)
  (Iv:attributeBase o name X.env (eval o X.env)=eval o X.env:=by rfl)
  (KP:((backTo HV (starEach (e::es) X.env)).all (fun x=>!x.1)&&(backToKw HV (keywordEach [] X.env)).all (fun x=>x.1.isSome)
   && decide ((e::es).length+([]:List Keyword).length+(if([]:List Keyword).isEmpty then 0 else 1)<30))=true:=by rfl)
  (Iw:(apos.endLine==HV.line)=true:=by rfl) (hs:starEach (e::es) X.env=(false,eval e X.env)::starEach es X.env:=by rfl) (IY:(backTo HV (starEach es X.env)).any (·.1)=false:=by rfl):
  PE X (.Call (.Attribute o name apos) (e::es) [] HV) (tBM X.K T r to t):=by
 intro pi s σ H Q I h;refine wpAny_Call_method_late Iv KP Iw rfl (HW (ho pi s σ H _ I h) fun v s1 HY=>?_);obtain⟨x,H1,I1,r1,ty,q1⟩:=HY;obtain⟨h1,h2⟩:=vW I1 r1 ty;refine⟨T,id,pa,slot,MT,h1,h2,?_⟩;have hA:=ha HV pi s1 σ H1 _ I1 q1;rw[hs]at hA ⊢;refine VJ (by show(false||(backTo HV (starEach es X.env)).any (·.1))=false;rw[IY] <;> rfl) (Calls.evalArgs_plain ?_);exact HW hA fun us s2 ⟨vs,H2,I2,r2,q2⟩=>hm pi s2 σ H2 x vs v us Q I2 r1 r2 q2
end
def MtM(X:Cx)(id:String)(r:V->List V->Hp->VK->Prop):Prop:=
 ∀(pi:List (Addr×Obj)) (s:Shared) (σ:St) (H:Hp) (x:V) (xs:List V) (v:Value) (us:List Value) (Q:VK),Inv X pi σ H s->RelV x v->Vals xs us->r x xs H Q->
  wpAny (model X.prog X.w) X.A (call (.builtin id) (v::us)) (EP X pi σ Q) X.xe s
theorem Vals.one:∀{x:V}{us:List Value},Vals [x] us->∃u,us=[u]/\RelV x u
 |_,_,.cons r .nil=>⟨_,rfl,r⟩
theorem Vals.zero:∀{us:List Value},Vals [] us->us=[]
 |_,.nil=>rfl
theorem Vals.dropLast{xs:List V}{us:List Value}(h:Vals xs us):Vals xs.dropLast us.dropLast:=by
 induction h with
 |nil=>exact .nil
 |cons r t ih=>
  cases t with
  |nil=>exact .nil
  |cons q t'=>exact .cons r ih
theorem Vals.rep{xs:List V}{us:List Value}(h:Vals xs us):∀k:Nat,Vals (List.replicate k xs).flatten (List.replicate k us).flatten
 | 0=>.nil
 |k+1=>by
  rw[UE,UE,U1,U1];exact Vals.append h (Vals.rep h k)
theorem uv{α:Type}(l:List α):l.eraseIdx (l.length-1)=l.dropLast:=by
 induction l with
 |nil=>rfl
 |cons a r ih=>
  cases r with
  |nil=>rfl
  |cons b r=>
   have e:(a::b::r).length-1=((b::r).length-1)+1:=by
    have h1:(a::b::r).length=r.length+2:=rfl;have h2:(b::r).length=r.length+1:=rfl;lia
   rw[e,List.eraseIdx_cons_succ,ih];all_goals rfl
theorem pL(HB:List Value):∀(k:Nat) (acc:List Value),
  List.foldl (fun x1 x2=>x1++x2) acc.toArray (List.replicate k HB.toArray)=(acc++(List.replicate k HB).flatten).toArray
 | 0,acc=>by simp
 |k+1,acc=>by
  have e:acc.toArray++HB.toArray=(acc++HB).toArray:=by simp
  have e2:(acc++HB)++(List.replicate k HB).flatten=acc++(List.replicate (k+1) HB).flatten:=by
   rw[UE,U1,Ut]
  rw[<-e2,<-pL HB k (acc++HB),<-e,UE,Uc]
section
variable{X:Cx}{pi:List (Addr×Obj)}{σ:St}{H:Hp}{s:Shared}{l b:Addr}{xs ys zs:List V}
theorem Inv.lset{HB its':List Value}{n:Nat}{f:Array Value->Array Value}{t':Nat}(I:Inv X pi σ H s)(hH:H l=some (.lst xs))
  (e:s.heap.get? l=some {cls:=.type "list",data:=.seq HB.toArray n}) (hf:f HB.toArray=its'.toArray) (hv:Vals ys its') (hz:ys.length<=sizeLine):
  Inv X pi σ (upd H l (.lst ys)) {s with heap:=s.heap.update l (Obj.mapSeq f),toks:=t'}:=by
 have q:=PySem.IsL.update e f;rw[hf]at q;refine I.write (x:=l) (e:=l) (by rw[hH];exact trivial) (.inl rfl) (fun b' u hb hu=>(Heap.get?_update_other s.heap (Obj.mapSeq f) (UY hb)).trans hu) ⟨_,q⟩ ?_;exact⟨hz,its',_,hv,q⟩
theorem Inv.lnew{HB:List Value}{t':Nat}(I:Inv X pi σ H s)(hv:Vals ys HB)(hz:ys.length<=sizeLine):
  Inv X pi σ (upd H s.heap.objs.size (.lst ys)) {s with heap:=s.heap.push {cls:=.type "list",data:=.seq HB.toArray},toks:=t'}:=
 I.laid (fun _ _ q=>Heap.get?_push_of_some _ q) (Ts _) ⟨hz,HB,0,hv,Heap.get?_push_size _ rfl⟩
theorem Inv.fresh(I:Inv X pi σ H s):H s.heap.objs.size=none:=I.hok.fresh (Ts _)
theorem Inv.lstM(I:Inv X pi σ H s)(hH:H l=some (.lst xs)):xs.length<=sizeLine/\∃(HB:List Value) (n:Nat),Vals xs HB/\xs.length=HB.length/\s.heap.get? l=some {cls:=.type "list",data:=.seq HB.toArray n}:=by
 obtain⟨z,HB,n,r,e⟩:=I.hok l _ hH;exact⟨z,HB,n,r,r.length,e⟩
theorem yq{n:Nat}(h:n<=sizeLine):Builtin.List.listTooLong n=false:=by
 unfold Builtin.List.listTooLong;exact Ui (by lia)
end
section
variable{X:Cx}
def AO:V->List V->Hp->VK->Prop:=fun x vs H Q=>∃l xs y,x=.ref l/\vs=[y]/\H l=some (.lst xs)/\xs.length<sizeLine/\Q .non (upd H l (.lst (xs++[y])))
theorem pM:MtM X "list.append" AO:=by
 intro pi s σ H x vs v us Q I rx rv h;obtain⟨l,xs,y,rfl,rfl,hH,hz,q⟩:=h;cases rx;obtain⟨u,rfl,ru⟩:=rv.one;obtain⟨z,HB,n,r,hl,e⟩:=I.lstM hH;refine X7 F.slot_list_append ⟨_,e,rfl⟩ F.entry_list_append (F.args_list_append_2 _ _) (PySem.list_append l HB.toArray n u (by rw[Tv];lia)) ⟨e,?_⟩;refine⟨.non,_,I.lset (its':=HB++[u]) hH e (by simp) (r.append (.cons ru .nil)) ?_,rfl,q⟩;rw[Ud,U5];lia
def GO:V->List V->Hp->VK->Prop:=fun x vs H Q=>∃l xs y,x=.ref l/\vs=[]/\H l=some (.lst xs)/\xs[xs.length-1]?=some y/\Q y (upd H l (.lst xs.dropLast))
theorem Dj:MtM X "list.pop" GO:=by
 intro pi s σ H x vs v us Q I rx rv h;obtain⟨l,xs,y,rfl,rfl,hH,hy,q⟩:=h;cases rx;have hus:=rv.zero;subst hus;obtain⟨z,HB,n,r,hl,e⟩:=I.lstM hH;obtain⟨u,hu,ru⟩:=r.get hy;have Sz:HB.toArray[HB.toArray.size-1]?=some u:=by
  show HB.toArray[HB.length-1]?=some u;rw[<-Array.getElem?_toList,<-hl];exact hu
 refine X7 F.slot_list_pop ⟨_,e,rfl⟩ F.entry_list_pop (F.args_list_pop_1 _) (MeetsSeq.list_pop_last l HB.toArray n u Sz (by rw[Tv];lia)) ⟨e,?_⟩;refine⟨y,_,I.lset (its':=HB.dropLast) hH e ?_ r.dropLast ?_,ru,q⟩
 ·show HB.toArray.eraseIdxIfInBounds (HB.toArray.size-1)=HB.dropLast.toArray;rw[Tv,List.eraseIdxIfInBounds_toArray,uv]
 ·rw[Xv];lia
theorem oj{α:Type}(xs:List α)(k:Nat):(List.replicate k xs).flatten.length=k*xs.length:=by
 induction k with
 |zero=>simp
 |succ k ih=>rw[UE,U1,Ud,ih,Nat.succ_mul,Nat.add_comm]
end
section
variable{prog:Program}{w:World}{A:Around}{E:Value->Shared->Prop}{s:Shared}
end
section
variable{X:Cx}
end
end L2
namespace Att
open PySem PySem.W PySem.Calls PyProof.Rows
theorem lS{P:Params}{h:Heap}:∀(ns:List Int) (vs:List Value),WellAll P h vs (ns.map WData.int)->IntsAre vs ns:=by
 intro ns;induction ns with
 |nil=>
  intro vs w;rw[Ul]at w;cases w;exact .nil
 |cons n ns ih=>
  intro vs w;rw[TZ]at w;cases w with
  |cons a b=>
   cases a;exact .cons _ _ (ih _ b)
theorem vX{l:OpenLaw}{n:Nat}(hn:l.most=some n){P:Params}{h:Heap}{args:List WData}{vals:List Value}
  (NN:l.row.toRowW.claim.pre args=true) (NO:WellAll P h vals args):
  ∃a vs ns,vals=[Value.ref a]/\args=[WData.list (ns.map WData.int)]/\h.get? a=some {cls:=.type "list",data:=.seq vs.toArray}/\IntsAre vs ns/\ns.length<=n:=by
 have hsh:WShape.hasAll [] args [.list .int]=true:=(pre_splitW NN).1;have hc:l.pre.holds [] {args:=args}=true:=(pre_splitW NN).2;obtain⟨d,r,rfl,h1,h2⟩:=hasAllW_cons hsh;obtain rfl:=hasAllW_nil h2;obtain⟨xs,rfl,h3⟩:=hasW_list h1;obtain⟨ns,rfl⟩:=items_int h3;have hlen:ns.length<=n:=by
  unfold OpenLaw.pre at hc;have h4:(WTm.not (.lt (.lit (.int (n:Int))) (.len (.arg 0)))).holds [] {args:=[.list (ns.map .int)]}=true:=by
   have h4:=(holds_andW hc).1;rw[hn]at h4;exact h4
  have h5:=condW_of h4 (w_not (w_lt w_lit (w_len_list (w_arg rfl))));rw[To]at h5;refine Nat.le_of_not_lt fun q=>?_
  have q':(n:Int)<((ns.length:Nat):Int):=by lia
  first
   |(rw[TV q']at h5;exact absurd h5 (by decide))
   |(simp at h5;lia)
 cases NO with
 |cons w1 w2=>
  cases w2;cases w1 with
  |list ho LB=>exact⟨_,_,ns,rfl,rfl,ho,lS ns _ LB,hlen⟩
theorem vY(l:OpenLaw)(args:List WData):l.row.toRowW.claim.post args (.bool true) args=true:=
 postW_of (r:=l.row.toRowW) (X:=(true==true))
  (show WShape.has [] (.bool true) .bool=true by first|rfl|decide|simp[WShape.has,WShape.arms,WShape.armsAll])
  (show(WTm.eq .res (.lit (.bool true))).value [] {args:=args,res:=some (.bool true),after:=args}=some (.bool (true==true)) from w_eq_bool (w_res rfl) w_lit) rfl
theorem attach_call{l:OpenLaw}{n:Nat}{q:Program}{loose:List Str}{XP:(Str->Option Value)->Heap->Prop}{YP:World->Heap->Prop}{d:DefRec}
  (hn:l.most=some n) (Qe:d.params.defaults=[])
  (call:∀(w:World) (s₀ s₁:Shared) (mg mb:Str->Option Value) (fa:Addr) (o:Obj) (pm cd doc:Value) (a:Addr) (vs:List Value) (ns:List Int),
   Ground q loose [] XP w s₀ mg mb s₁.heap->YP w s₁.heap->
   s₁.heap.get? fa=some o->o.data=.func (docDef d.name d.params d.body d.scope pm cd doc)->s₁.heap.CodeRec cd d.name->mg d.name=some (.ref fa)->
   s₁.heap.get? a=some {cls:=.type "list",data:=.seq vs.toArray}->IntsAre vs ns->ns.length<=n->s₁.gens = #[]->
   codeAny (model l.prog w) callerA (.call (.ref fa) ⟨[.ref a],[]⟩) (fun r s'=>r=.ok (.ret (.bool true))/\OldK s₁.heap s'.heap/\s'.os=s₁.os/\AllBare s'.gens) s₁):
  WalkO q loose XP YP l.row.toRowW d [] (fun f vs=>PySem.call f vs):=by
 intro w s₀ s₁ mg mb G Y fa o pm cd doc dV kV ho hd MQ hD Qf hg args vals as NN hlay hrd NO SA;obtain rfl:dV=.none:=Dflts.none hD Qe;obtain rfl:kV=.none:=Dflts.noKw hD;obtain⟨a,vs,ns,rfl,rfl,OP,hints,hlen⟩:=vX hn NN NO;refine enter_call (codeAny_mono (call w s₀ s₁ mg mb fa o pm cd doc a vs ns G Y ho (fd_plain hd) MQ Qf OP hints hlen hg) fun r s' hq=>?_);obtain⟨rfl,h2,h3,h4⟩:=hq;exact⟨.inl ⟨.bool true,.bool true,[],rfl,fun _=>rfl,.bool true,vY l _,fun _=>⟨List.Pairwise.nil,fun _ hm=>(nomatch hm)⟩⟩,h2,h3,h4⟩
section
variable{prog:Program}{w:World}{A:Around}{E:Value->Shared->Prop}{s:Shared}{K:Frag}
end
end Att
namespace L2
open PySem PySem.Spec PyProof.Rows
theorem pN:∀{vs:List Value}{ns:List Int},IntsAre vs ns->Vals (ns.map V.int) vs
 |_,_,.nil=>.nil
 |_,_,.cons n t h=>.cons ⟨t,rfl⟩ (pN h)
def Fh(H:Hp):Prop:=∀b,H b=none\/∃o xs,H b=some (.frz o (.lst xs))
theorem yr{P:Program}{w:World}{K:W.Frag}{mg mb:Str->Option Value}{CX:MI}{k:Nat}{fa a:Addr}{fd:FuncData}{x:Str}{sp:Sp}{s₁:Shared}{vs:List Value}{ns:List Int}
  (KX:K.In s₁.heap) (OB:s₁.heap.Ns mainGlobals mg) (hb:s₁.heap.Ns builtinsNs mb) (RJ:∀x:Str,x≠"__name__"->mb x=bootBuiltins x) (hlim:s₁.heap.NoLimit) (hg:s₁.gens = #[])
  (ha:s₁.heap.get? a=some {cls:=.type "list",data:=.seq vs.toArray}) (hi:IntsAre vs ns) (hl:ns.length<=sizeLine) (hr:Room k callerA)
  (F:∀base:Heap,K.In base->base.Ns mainGlobals mg->FnOk P w K mg base CX k fa fd [x] sp) (Qg:∀(s:Shared) (u:Value),BindsTo s fd ⟨[u],[]⟩ [(x,u)])
  (MS:∀H:Hp,Fh H->SqL K H a (ns.map V.int)->sp [.ref a] H (fun v _=>v=.bl true) fun _ _ _=>False)
  (RK:∀H e s',CX [] H s₁ (fun _ _ _=>False) e s'->False):
  codeAny (model P w) callerA (.call (.ref fa) ⟨[.ref a],[]⟩) (fun r s'=>r=.ok (.ret (.bool true))/\OldK s₁.heap s'.heap/\s'.os=s₁.os/\AllBare s'.gens) s₁:=by
 have rv:=pN hi;have lenV:=hi.length;have core:∀H:Hp,Fh H->SqL K H a (ns.map V.int)->HOk P w H s₁.heap->(∀b,H b≠none->b=a)->(H a≠none->K.lookup a=none)->
   codeAny (model P w) callerA (.call (.ref fa) ⟨[.ref a],[]⟩) (fun r s'=>r=.ok (.ret (.bool true))/\OldK s₁.heap s'.heap/\s'.os=s₁.os/\AllBare s'.gens) s₁:=by
  intro H hO hS hok hA hK;have Mb:∀{b:Addr}{o:Obj},s₁.heap.get? b=some o->H b=none->(yb s₁.heap H).get? b=some o:=fun e n=>yc e n
  have Qb:∀{b:Addr}{o:Obj}{es:Array DictEntry}{ep:Nat},s₁.heap.get? b=some o->o.data=.dict es ep->H b=none:=fun{b o es ep} e d=>by
   cases q:H b with
   |none=>rfl
   |some u=>
    have e':b=a:=hA b (by rw[q];simp);subst e';rw[ha]at e;cases e;have d':Data.seq vs.toArray _=Data.dict es ep:=d;cases d'
  have Rj:∀{b:Addr}{m:Str->Option Value},s₁.heap.Ns b m->(yb s₁.heap H).Ns b m:=fun{b m} ⟨o,es,ep,e,d,r⟩=>⟨o,es,ep,Mb e (Qb e d),d,r⟩
  have SD:K.In (yb s₁.heap H):=fun b o e=>Mb (KX b o e) (by
   cases q:H b with
   |none=>rfl
   |some u=>
    have e':b=a:=hA b (by rw[q];simp);subst e';rw[hK (by rw[q];simp)]at e;cases e)
  have hM:Mod K mg (yb s₁.heap H):=⟨SD,Rj OB,⟨mb,Rj hb,RJ⟩,let⟨mc,h1,h2⟩:=hlim;⟨mc,Rj h1,h2⟩⟩
  have e0:Env0 P w K mg (yb s₁.heap H) callerA [] s₁ H:=⟨rfl,hM,fun b o e=>As e,Xd (vC _ _),trivial,fun b hb=>absurd (show b∈([]:List Addr) from hb) (by simp),hok,.of_eq hg⟩
  refine codeAny_mono ((F _ SD (Rj OB)).run callerA [] s₁ H ⟨[.ref a],[]⟩ [.ref a] [.ref a] _ _ hr e0 (Qg s₁ (.ref a)) (.cons rfl .nil) (MS H hO hS)) fun r s' h=>?_
  cases r with
  |error e=>exact(RK H e s' h).elim
  |ok fl=>
   cases fl with
   |next=>exact False.elim h
   |brk=>exact False.elim h
   |cont=>exact False.elim h
   |ret u=>
    obtain⟨v,H',os,bare,un,hok',r',q⟩:=h;have q':v=.bl true:=q;subst q';obtain rfl:u=Value.bool true:=r';refine⟨rfl,OldK.of_keep fun b o e=>?_,os,bare⟩;cases q:H b with
    |none=>exact un.keep b o e q (by intro z;exact absurd (show b∈([]:List Addr) from z) (by simp)) (by simp)
    |some u=>
     rcases hO b with z|⟨ob,xs,z⟩
     ·rw[q]at z;cases z
     ·have z2:=un.frzs b ob _ z;obtain⟨e1,_⟩:=hok b _ z;obtain⟨e2,_⟩:=hok' b _ z2;rw[e]at e1;cases e1;exact e2
 cases hk:K.lookup a with
 |some o=>
  have e:=KX a o hk;rw[ha]at e;cases e;refine core (fun _=>none) (fun _=>.inl rfl) (.inr ⟨_,vs.toArray,_,hk,rfl,rfl,rfl,by rw[Tv,lenV];exact hl,by simpa using rv⟩) (fun b u z=>by have z':(none:Option HO)=some u:=z;cases z') (fun b z=>absurd rfl z) fun z=>absurd rfl z
 |none=>
  refine core (fun b=>if b=a then some (.frz {cls:=.type "list",data:=.seq vs.toArray} (.lst (ns.map V.int))) else none) (fun b=>?_) (.inl (.inr ⟨{cls:=.type "list",data:=.seq vs.toArray},Tt rfl⟩)) (fun b u z=>?_) (fun b z=>?_) fun _=>hk
  ·by_cases hb:b=a
   ·exact .inr ⟨_,_,Tt hb⟩
   ·exact .inl (TB hb)
  ·by_cases hb:b=a
   ·have z':=(Tt hb).symm.trans z;cases z';subst hb;exact⟨ha,by rw[To];exact hl,vs,_,rv,ha⟩
   ·have z':=(TB hb).symm.trans z;cases z'
  ·by_cases hb:b=a
   ·exact hb
   ·exact absurd (TB hb) z
theorem AQ{l:PySem.W.OpenLaw}{n k:Nat}{q:Program}{loose:List Str}{XP:(Str->Option Value)->Heap->Prop}{YP:World->Heap->Prop}{d:DefRec}{K:Params->W.Frag}{CX:World->MI}{sp:World->Sp}{x:Str}
  (hn:l.most=some n) (Ld:n<=sizeLine) (Qe:d.params.defaults=[]) (hr:Room k callerA)
  (hY:∀(w:World) (h:Heap),YP w h->(K w.params).In h)
  (F:∀(w:World) (mg:Str->Option Value) (fa:Addr) (h:Heap),(K w.params).In h->h.Ns mainGlobals mg->mg d.name=some (.ref fa)->
   ∃fd:FuncData,(∀(s:Shared) (u:Value),BindsTo s fd ⟨[u],[]⟩ [(x,u)])/\
    ∀base:Heap,(K w.params).In base->base.Ns mainGlobals mg->FnOk l.prog w (K w.params) mg base (CX w) k fa fd [x] (sp w))
  (MS:∀(w:World) (H:Hp) (a:Addr) (ns:List Int),ns.length<=n->Fh H->SqL (K w.params) H a (ns.map V.int)->sp w [.ref a] H (fun v _=>v=.bl true) fun _ _ _=>False)
  (RK:∀(w:World) (H:Hp) (s:Shared) (e:Value) (s':Shared),CX w [] H s (fun _ _ _=>False) e s'->False):
  PySem.W.WalkO q loose XP YP l.row.toRowW d [] (fun f vs=>PySem.call f vs):=by
 refine Att.attach_call hn Qe fun w s₀ s₁ mg mb fa o pm cd doc a vs ns G Y ho hd MQ Qf OP hints hlen hg=>?_
 have KX:=hY w _ Y;obtain⟨fd,hb,hF⟩:=F w mg fa _ KX G.T.g Qf;exact yr KX G.T.g G.T.b G.T.builtins G.T.nolimit hg OP hints (Uq hlen Ld) hr hF hb (fun H hO hS=>MS w H a ns hlen hO hS) fun H e s'=>RK w H s₁ e s'
def eM(s:Stmt):Arguments:=match s with
 | .FunctionDef _ a _ _ _ _ _ _ _ _=>a
 |_=>{posonlyargs:=[],args:=[],vararg:=none,kwonlyargs:=[],kw_defaults:=[],kwarg:=none,defaults:=[]}
def cM(s:Stmt):List Stmt:=match s with
 | .FunctionDef _ _ b _ _ _ _ _ _ _=>b
 |_=>[]
def defScope(s:Stmt):Scope:=match s with
 | .FunctionDef _ _ _ _ _ _ sc _ _ _=>sc
 |_=>{kind:=.function,names:=[],isGenerator:=false,isCoroutine:=false}
abbrev Mn:MI:=fun _ _ _ _ _ _=>False
abbrev E0:XK:=fun _ _ _=>False
theorem Fi{X:Cx}:vO Mn X E0:=fun _ _ _ _ _ _ _ h=>h.elim
structure Fun(K:W.Frag)(x qual:Str)(st:Stmt)(f:Addr)(fd:FuncData):Prop where
 ex:∃(oc:Value) (od:Option Addr) (kV doc pm:Value) (an:Option Addr) (HX ct:Value) (NB:Array (Option Value)),
  fd=PySem.W.fnOf x qual (eM st) (cM st) (defScope st) .none kV doc pm an HX ct/\K.lookup f=some ⟨oc,od,.func fd,NB⟩/\PySem.W.codeIn K HX qual=true
 kp:PySem.W.keepIn K (.ref f)=true
section
variable{P:Program}{w:World}{K:W.Frag}{mg:Str->Option Value}{base:Heap}
theorem Fun.ok{x qual:Str}{st:Stmt}{f:Addr}{fd:FuncData}{N ps:List Str}{k:Nat}{sp:Sp}(F:Fun K x qual st f fd)(S:FnScope N ps (defScope st))(len:∀vs H Q E,sp vs H Q E->vs.length=ps.length)
  (MR:∀(HX:Value) (A:Around) (outer:List Env) (s:Shared) (H:Hp) (vs:List V) (Q:VK) (E:XK),Room k (A.deeper (envOfC qual (defScope st) s.heap.objs.size f HX))->sp vs H Q E->
   ∃t,PSs (x3 Mn P w K mg base N qual (defScope st) f HX A outer s H E).nox (cM st) t/\t {nx:=fun _ H'=>Q .non H',rt:=Q} (start N vs) H):FnOk P w K mg base Mn (k+1) f fd ps sp:=by
 obtain⟨oc,od,kV,doc,pm,an,HX,ct,NB,rfl,lk,MQ⟩:=F.ex;refine Fd lk MQ S len fun A outer s H vs Q E hr MS=>?_
 obtain⟨t,h,q⟩:=MR HX A outer s H vs Q E hr MS;exact⟨t,h.nox,q⟩
theorem Fun.binds{x qual:Str}{st:Stmt}{f:Addr}{fd:FuncData}{ps:List Str}(F:Fun K x qual st f fd)
  (h:∀(kV doc pm:Value) (an:Option Addr) (HX ct:Value) (us:List Value),us.length=ps.length->bindArgs (PySem.W.fnOf x qual (eM st) (cM st) (defScope st) .none kV doc pm an HX ct) ⟨us,[]⟩=pure (ps.zip us)):Binds K fd ps []:=by
 obtain⟨oc,od,kV,doc,pm,an,HX,ct,NB,rfl,lk,MQ⟩:=F.ex;exact .all (h kV doc pm an HX ct)
theorem zX{x qual:Str}{st:Stmt}{f:Addr}{oc:Value}{od an:Option Addr}{NB:Array (Option Value)}{kV doc pm HX ct:Value}(l:K.lookup f=some ⟨oc,od,.func (PySem.W.fnOf x qual (eM st) (cM st) (defScope st) .none kV doc pm an HX ct),NB⟩)
  (c:PySem.W.codeIn K HX qual=true) (k:PySem.W.keepIn K (.ref f)=true):Fun K x qual st f (PySem.W.fnOf x qual (eM st) (cM st) (defScope st) .none kV doc pm an HX ct):=⟨⟨oc,od,kV,doc,pm,an,HX,ct,NB,rfl,l,c⟩,k⟩
end
theorem hu_of{A:Around}{k:Nat}(hr:Room k A):A.units+1<cLine:=Nat.lt_of_le_of_lt (Nat.add_le_add_left (by decide:1<=64) _) hr.units
section
variable{X:Cx}
theorem pv(i:Nat){x:Str}{pos:Pos}(hN:X.N[i]?=some x:=by rfl)(hv:RA X.env.scope x:=by first|exact Or.inl rfl|exact Or.inr (Or.inl rfl)|exact Or.inr (Or.inr rfl))(hd:(x==("__debug__" : Str))=false:=by decide)
  (MQ:(x==("__classdict__" : Str))=false:=by decide):PE X (.Name x pos) (yd i):=CG hN hv hd MQ
end
theorem iteF{A B:Prop}(h:B):if false=true then A else B:=by
 rw[TB Tw];exact h
theorem Cy{A B:Prop}(h:A):if true=true then A else B:=by
 rw[Tt rfl];exact h
def Same(H H':Hp):Prop:=∀b o,H b=some o->H' b=some o
theorem Same.refl(H:Hp):Same H H:=fun _ _ h=>h
theorem Same.trans{H H1 H2:Hp}(a:Same H H1)(b:Same H1 H2):Same H H2:=fun c o h=>b c o (a c o h)
theorem Same.seq{K:W.Frag}{H H':Hp}{a:Addr}{xs:List V}(e:Same H H')(h:SqL K H a xs):SqL K H' a xs:=by
 rcases h with(h|⟨o,h⟩)|h
 ·exact .inl (.inl (e _ _ h))
 ·exact .inl (.inr ⟨o,e _ _ h⟩)
 ·exact .inr h
end L2
set_option maxHeartbeats 4000000
namespace NX
open PySem PySem.Spec PyProof.Rows L2
section
variable{X:Cx}
theorem vZ:Ir X (compareOp .LtE) (fun x y H Q=>∃i j,x=.str i/\y=.str j/\Q (.bl (!decide (j.cps.toList<i.cps.toList))) H):=by
 intro pi s σ H x y v u Q I rx ry h;obtain⟨i,j,rfl,rfl,q⟩:=h;obtain⟨t,rfl⟩:=rx;obtain⟨t',rfl⟩:=ry;exact PySem.P.le_str (sr I q rfl)
theorem yt(v:Int)(n:Nat):max (0:Int) (min (if v<0 then v+(n:Int) else v) (n:Int))=((HT.sIx n 0 (some v):Nat):Int):=by
 show _=(((if v<0 then(v+(n:Int)).toNat else min v.toNat n):Nat):Int)
 split <;> lia
theorem Dk(a b:Nat):sliceRange (a:Int) (b:Int) 1=(List.range (b-a)).map (fun k=>a+k):=by
 unfold sliceRange;rw[Tt (by decide:(1:Int)>0)];by_cases Iy:(a:Int)<b
 ·have e3:(((b:Int)-a+1-1) / 1).toNat=b-a:=by first|lia|(simp;done)|(simp;lia)
  simp only[Iy,VQ,e3];refine Up fun k _=>?_
  lia
 ·have:b-a=0:=by lia
  simp[Iy,this]
theorem GP(lo hi:Option Int)(n:Nat):Builtin.Str.strSliceIndices lo hi 1 n=(List.range (HT.sIx n n hi-HT.sIx n 0 lo)).map (fun k=>HT.sIx n 0 lo+k):=by
 rw[<-Dk];unfold Builtin.Str.strSliceIndices;simp only[show(1:Int)>0 from by decide,VQ];cases lo with
 |none=>
  cases hi with
  |none=>rfl
  |some v=>exact UN (fun z=>sliceRange 0 z 1) (yt v n)
 |some u=>
  cases hi with
  |none=>exact UN (fun z=>sliceRange z (n:Int) 1) (yt u n)
  |some v=>exact(UN (fun z=>sliceRange z _ 1) (yt u n)).trans (UN (fun z=>sliceRange _ z 1) (yt v n))
def Dl(xs:List Nat)(lo hi:Option Int):List Nat:=(xs.drop (HT.sIx xs.length 0 lo)).take (HT.sIx xs.length xs.length hi-HT.sIx xs.length 0 lo)
theorem zY{α:Type}(l:List α):∀(n a:Nat),a+n<=l.length->((List.range n).map (fun k=>a+k)).filterMap (l[·]?)=(l.drop a).take n
 | 0,_,_=>by simp
 |n+1,a,h=>by
  have Iy:a+n<l.length:=by lia
  rw[Ws,Tu,List.filterMap_append,zY l n a (by lia),Uu,List.getElem?_drop];simp[List.getElem?_eq_getElem Iy]
theorem v3(x:Str)(lo hi:Option Int):(Txt.slice x lo hi).cps.toList=Dl x.cps.toList lo hi:=by
 have hl:x.cps.toList.length=x.length:=UQ;have ha:=HT.vT x.length 0 (Uj _) lo;have hb:=HT.vT x.length x.length (Ts _) hi;unfold Txt.slice Dl;rw[GP,hl];split
 ·rename_i h;have h2:HT.sIx x.length x.length hi-HT.sIx x.length 0 lo=x.length:=by simpa using h
  have ez:HT.sIx x.length 0 lo=0\/x.length=0:=by lia
  rcases ez with e|e
  ·rw[h2,e,XA,Vn (by lia)]
  ·have:x.cps.toList=[]:=Ue (by lia);rw[this];simp
 ·have hk:∀(f:List Nat),f.filterMap (x.cps[·]?)=f.filterMap (x.cps.toList[·]?):=fun f=>by
   congr 1
   funext i
   simp
  show(List.filterMap _ _).toArray.toList=_;rw[VU,hk];by_cases hle:HT.sIx x.length 0 lo<=HT.sIx x.length x.length hi
  ·rw[zY _ _ _ (by lia)]
  ·have e0:HT.sIx x.length x.length hi-HT.sIx x.length 0 lo=0:=by lia
   rw[e0];rfl
abbrev S(l:List Nat):Str:=⟨l.toArray⟩
theorem pO(x:Str):S x.cps.toList=x:=by cases x;simp[S]
theorem S_inj{a b:List Nat}(h:S a=S b):a=b:=by
 have:=UN (fun z:Str=>z.cps.toList) h;simpa[S] using this
theorem pP(l:List Nat):(S l).length=l.length:=by simp[S,Str.length]
theorem dP(l:List Nat):(S l).cps.toList=l:=by simp[S]
theorem Fj(a b:List Nat):S a++S b=S (a++b):=by
 rw[<-pO (S a++S b),PySem.W.KT.app_list,dP,dP]
def GQ:V->Option Int->Option Int->Hp->VK->Prop:=fun x lo hi H Q=>∃l,x=.str (S l)/\l.length<=sizeLine/\Q (.str (S (Dl l lo hi))) H
theorem Dm:OO X GQ:=by
 intro pi s σ H x v vl vu lo hi sl Q I rx hs pl pu h;obtain⟨l,rfl,hz,q⟩:=h;obtain⟨t,rfl⟩:=rx;have Rk:(S l).length<=sizeLine:=by rw[pP];exact hz
 have e:∀t' k,EP X pi σ Q (.str (Txt.slice (S l) lo hi) t') {s with toks:=k}:=fun t' k=>by
  refine⟨.str (S (Dl l lo hi)),H,I.tok _,⟨t',?_⟩,q⟩;have e1:=v3 (S l) lo hi;rw[dP]at e1;rw[<-e1,pO]
 refine⟨"str",_,PySem.F.slot_str_getitem.lookup,Xq _ _ _,?_⟩;have key:∀(OQ Rl:Option (Int×Tok)),partValue OQ=vl->partValue Rl=vu->OQ.map (·.1)=lo->Rl.map (·.1)=hi->
   wpAny (model X.prog X.w) X.A (getItem (.str (S l) t) (.ref sl)) (EP X pi σ Q) X.xe s:=by
  rintro OQ Rl rfl rfl rfl rfl;exact wpAny_getItem_str_slice (l:=OQ) (u:=Rl) (st:=none) hs rfl (post_val_or_str ⟨Uq (Txt.slice_le (S l) _ _) Rk,fun t' k=>e t' k⟩)
 cases pl with
 |none=>
  cases pu with
  |none=>exact key none none rfl rfl rfl rfl
  |int j uj=>exact key none (some (j,uj)) rfl rfl rfl rfl
 |int i ui=>
  cases pu with
  |none=>exact key (some (i,ui)) none rfl rfl rfl rfl
  |int j uj=>exact key (some (i,ui)) (some (j,uj)) rfl rfl rfl rfl
end
def Def(K:W.Frag)(mg:Str->Option Value)(x:Str)(st:Stmt):Prop:=∃f fd,Fun K x x st f fd/\mg x=some (.ref f)
def Ct(P:Program)(w:World)(K:W.Frag)(mg:Str->Option Value)(base:Heap)(x:Str)(k:Nat)(sp:Sp):Prop:=
 ∃f fd ps,FnOk P w K mg base Mn k f fd ps sp/\mg x=some (.ref f)/\PySem.W.keepIn K (.ref f)=true/\Binds K fd ps []
section
variable{X:Cx}{e:Expr}{es:List Expr}{t:TA}{x:Str}{p pos:Pos}{k:Nat}{sp:Sp}
theorem yu(C:Ct X.prog X.w X.K X.mg X.base x k sp)(hr:Room k X.A)(hg:Gl X x)(ha:PA X (e::es) t)(JT:(x==("__debug__" : Str))=false:=by decide)
  (he:starEach (e::es) X.env=(false,eval e X.env)::starEach es X.env:=by rfl) (JC:(backTo pos (starEach es X.env)).any (·.1)=false:=by rfl):
  PE X (.Call (.Name x p) (e::es) [] pos) (tCall sp [] E0 t):=by
 obtain⟨f,fd,ps,G,m,kp,b⟩:=C;exact AF G hr hg m kp b .nil Fi ha JT he JC
end
theorem bt_len:bootBuiltins "len" = some (.builtin "len"):=by decide +kernel
theorem om:bootBuiltins "isinstance" = some (.builtin "isinstance"):=by decide +kernel
theorem v5:bootBuiltins "list" = some (.type "list"):=by decide +kernel
theorem Dn:bootBuiltins "int" = some (.type "int"):=by decide +kernel
theorem d8:bootBuiltins "tuple" = some (.type "tuple"):=by decide +kernel
theorem v7:bootBuiltins "bool" = some (.type "bool"):=by decide +kernel
theorem line_eq:sizeLine=16777216:=UD
theorem flat_strs(a:List (List Nat)):(a.map fun l=>V.str (S l)).all yp=true:=by
 rw[T8];intro v hv;obtain⟨l,_,rfl⟩:=Ur.mp hv;rfl
section
variable{X:Cx}{e:Expr}{st:Stmt}
end
def clOf(scope:Scope)(env:Env):List (Str×Addr):=scope.names.foldl (fun cs y=>if y.2==NameKind.free then(y.1,(env.cells.lookup y.1).getD 0)::cs else cs) []
def gX(scope:Scope)(env:Env):Bool:=scope.names.all fun y=>y.2 != NameKind.free||env.kindOf y.1==some .cell||env.kindOf y.1==some .free
theorem iz(env:Env):∀(l:List (Str×NameKind)) (cs:List (Str×Addr)),(∀y∈l,y.2=.free->∃c,env.cells.lookup y.1=some c)->
  (forIn l cs fun(y:Str×NameKind) (r:List (Str×Addr))=>(do
   if y.2==NameKind.free then
    let a <-cellOf env y.1
    pure (ForInStep.yield ((y.1,a)::r))
   else pure (ForInStep.yield r):Sem (ForInStep (List (Str×Addr)))))=pure (l.foldl (fun cs y=>if y.2==NameKind.free then(y.1,(env.cells.lookup y.1).getD 0)::cs else cs) cs)
 |[],cs,_=>by simp
 |y::l,cs,h=>by
  rw[Xe,Uc];by_cases k:y.2=.free
  ·obtain⟨c,e⟩:=h y Tp k;have e2:cellOf env y.1=pure c:=by unfold cellOf;rw[e]
   simp only[k,T1,VQ,e2,e,Option.getD_some,pure_bind];exact iz env l _ fun z hz=>h z (Tx _ hz)
  ·have kb:(y.2==NameKind.free)=false:=by simpa using k
   simp only[kb,UT,Wi,pure_bind];exact iz env l _ fun z hz=>h z (Tx _ hz)
theorem iO(env:Env)(x:Str)(c:Addr):∀(l:List (Str×NameKind)) (cs:List (Str×Addr)),(∀y∈l,y.2=.free->∃c,env.cells.lookup y.1=some c)->(cs.lookup x=some c->env.cells.lookup x=some c)->
  (l.foldl (fun cs y=>if y.2==NameKind.free then(y.1,(env.cells.lookup y.1).getD 0)::cs else cs) cs).lookup x=some c->env.cells.lookup x=some c
 |[],_,_,h,e=>h e
 |y::l,cs,hf,h,e=>by
  rw[Uc]at e;refine iO env x c l _ (fun z hz=>hf z (Tx _ hz)) (fun q=>?_) e;split at q
  ·rename_i k;have k:y.2=.free:=by simpa using k
   obtain⟨d,ed⟩:=hf y Tp k;rw[UP]at q;cases hx:x==y.1 with
   |true=>
    rw[hx]at q;have exy:x=y.1:=by simpa using hx
    rw[ed,Option.getD_some]at q;rw[exy,ed];exact q
   |false=>
    rw[hx]at q;exact h q
  ·exact h q
theorem lT(env:Env)(x:Str):∀(l:List (Str×NameKind)) (cs:List (Str×Addr)),((∃d,cs.lookup x=some d)\/(x,NameKind.free)∈l)->
  ∃d,(l.foldl (fun cs y=>if y.2==NameKind.free then(y.1,(env.cells.lookup y.1).getD 0)::cs else cs) cs).lookup x=some d
 |[],_,h=>by
  rcases h with h|h
  ·exact h
  ·cases h
 |y::l,cs,h=>by
  rw[Uc];refine lT env x l _ ?_;rcases h with⟨d,h⟩|h
  ·refine .inl ?_;split
   ·rw[UP];cases hx:x==y.1 with
    |true=>exact⟨_,rfl⟩
    |false=>exact⟨d,h⟩
   ·exact⟨d,h⟩
  ·rcases Tz.mp h with h|h
   ·refine .inl ?_;rw[<-h];refine⟨(env.cells.lookup x).getD 0,?_⟩;show List.lookup x ((x,_)::cs)=_;rw[UP,T1]
   ·exact .inr h
noncomputable def bK(X:Cx)(scope:Scope)(N:List Str)(C:Addr)(s:Shared)(H:Hp)(fp:List Addr)(pn:List (Addr×Obj)):Cx:=
 {X with N:=N,s₀:=s,H₀:=H,env:=compEnvC scope (clOf scope X.env) C X.env,outer:=X.stack,ex:=fp,fn:=fun _=>false,pn:=pn,xe:=fun _ _=>False}
def jx(ix:List (Option Nat))(σ:L2.St):L2.St:=ix.map fun i=>i.bind fun i=>(σ[i]?).bind id
noncomputable def yv(wi:TI)(ix:List (Option Nat))(g:TG)(tc:TT)(te:TE):TE:=fun σ H Q=>wi σ H fun J H1=>∀D,H1 D=none->∃W:Nat->Nat->L2.St->Hp->Prop,(∃m,W 0 m (jx ix σ) (upd H1 D (.lst [])))/\
 ∀i m σ1 H2,W i m σ1 H2->(J.stop i H2/\Q (.ref D) H2)\/(J.go i H2/\∀x H3,J.yld i H2 x H3->g x σ1 H3 fun σ2 H4=>tc σ2 H4 fun b H5=>if b=true then te σ2 H5 fun v H6=>
  ∃ys,H6 D=some (.lst ys)/\ys.length<sizeLine/\∃m',m'<m/\W (i+1) m' σ2 (upd H6 D (.lst (ys++[v]))) else ∃m',m'<m/\W (i+1) m' σ2 H5)
abbrev NP:Value->Shared->Prop:=fun _ _=>False
theorem PN{α:Type}{M:Model}{A:Around}{t:Sem α}{Q Q':α->Shared->Prop}{E:Value->Shared->Prop}{s:Shared}(h:wpAny M A t Q NP s)(k:∀a s,Q a s->Q' a s):wpAny M A t Q' E s:=VX h k fun _ _ z=>z.elim
theorem wa{prog:Program}{w:World}{A:Around}{R:Result->Shared->Prop}{s:Shared}{elt target iter:Expr}{ifs:List Expr}{scope:Scope}{pos:Pos}{it acc:Value}{env:Env}(I:Nat->Shared->Prop)
  (turn:∀n s,I n s->wpAny (model prog w) A (pyNext it) (fun r s₁=>match r with
   |none=>R (.ok .next) s₁
   |some v=>wpAny (model prog w) A (letOwnedTupleGo target it v) (fun _ s₂=>wpAny (model prog w) A (assign target env v) (fun _ s₃=>
     wpAny (model prog w) A (forIn ifs true fun c r=>if r=true then do let ok <-isTrue c env (eval c env);pure (ForInStep.yield ok) else pure (ForInStep.yield r)) (fun ok s₄=>
      if ok=true then wpAny (model prog w) A (eval elt env) (fun x s₅=>
       wpAny (model prog w) A (call (.builtin "list.append") [acc,x]) (fun _ s₆=>∃m,m<n/\I m s₆) NP s₅) NP s₄
      else ∃m,m<n/\I m s₄) NP s₃) NP s₂) NP s₁) NP s)
  (n:Nat) (h:I n s):codeAny (model prog w) A (.compLoop (.ListComp elt [⟨target,iter,ifs,0⟩] scope pos) 0 it acc env) R s:=by
 refine codeAny_loop rfl I (fun n s hI=>?_) n h;show wpAny _ A ((compTurn (.ListComp elt [⟨target,iter,ifs,0⟩] scope pos) 0 it acc env).onRaise (fun x=>do noteFrame x env;theTreesLotGoes x)) _ _ s;refine wpAny_noted ?_;rw[compTurn_list];refine Tj (XS (Tj (PN (turn n s hI) fun r s₁ h₁=>?_)));cases r with
 |none=>exact Tr h₁
 |some v=>
  refine Tj (PN h₁ fun _ s₂ h₂=>Tj (PN h₂ fun _ s₃ h₃=>Tj (PN h₃ fun ok s₄ h₄=>?_)));cases ok with
  |false=>exact Tr ⟨rfl,h₄⟩
  |true=>exact Tj (Tj (PN h₄ fun x s₅ h₅=>Tj (PN h₅ fun _ s₆ h₆=>Tr (Tr ⟨rfl,h₆⟩))))
def PQ(X:Cx)(ifs:List Expr)(t:TT):Prop:=
 ∀(pi:List (Addr×Obj)) (s:Shared) (σ:L2.St) (H:Hp) (Q:Bool->Hp->Prop),Inv X pi σ H s->t σ H Q->
  wpAny (model X.prog X.w) X.A (forIn ifs true fun c r=>if r=true then do let ok <-isTrue c X.env (eval c X.env);pure (ForInStep.yield ok) else pure (ForInStep.yield r)) (TP X pi σ Q) X.xe s
def GR:TT:=fun _ H Q=>Q true H
theorem AR{X:Cx}:PQ X [] GR:=fun _ _ _ H _ I h=>wpAny_tests_nil ⟨H,I,h⟩
theorem AS{X:Cx}{c:Expr}{t:TT}(h:PT X c t):PQ X [c] t:=fun pi s σ H Q I k=>wpAny_tests_one (h pi s σ H Q I k)
def x4(X:Cx)(scope:Scope)(N:List Str)(ix:List (Option Nat)):Bool:=
 N.length==ix.length&&(N.zip ix).all fun y=>match y.2 with
  |none=>true
  |some j=>X.N[j]?==some y.1&&scope.names.lookup y.1==some .free
theorem pQ{scope:Scope}{env:Env}{x:Str}(h:scope.names.lookup x=some .free):(relabel scope env).names.lookup x=some .cell\/(relabel scope env).names.lookup x=some .free:=by
 unfold relabel;dsimp only;generalize scope.names=l at h;induction l with
 |nil=>cases h
 |cons y l ih=>
  obtain⟨n,k⟩:=y;rw[UP]at h;rw[TZ];cases hx:x==n with
  |true=>
   rw[hx]at h;have hk:k=.free:=Ua h;subst hk;dsimp only;split
   ·exact .inl (by rw[UP,hx])
   ·exact .inr (by rw[UP,hx])
  |false=>
   rw[hx]at h;dsimp only;split
   ·rw[UP,hx];exact ih h
   ·rw[UP,hx];exact ih h
theorem pR{scope:Scope}{env:Env}{x:Str}(hc:∀y∈scope.names,y.2≠.cell)(h:(relabel scope env).names.lookup x=some .cell\/(relabel scope env).names.lookup x=some .free):(x,NameKind.free)∈scope.names:=by
 unfold relabel at h;dsimp only at h;generalize scope.names=l at h hc;induction l with
 |nil=>rcases h with h|h <;> cases h
 |cons y l ih=>
  obtain⟨n,k⟩:=y;rw[TZ]at h;dsimp only at h;have nk:k≠.cell:=hc (n,k) Tp;have SE:=ih (hc:=fun z hz=>hc z (Tx _ hz));by_cases cnd:(k==NameKind.free&&env.scope.kind==.function&&env.kindOf n==some .cell)=true
  ·rw[Tt cnd,UP]at h;have kf:k=.free:=by
    have:(k==NameKind.free)=true:=by
     simp only[TL]at cnd;exact cnd.1.1
    simpa using this
   cases hx:x==n with
   |true=>
    have:x=n:=by simpa using hx
    rw[this,kf];exact Tp
   |false=>
    rw[hx]at h;exact Tx _ (SE h)
  ·rw[TB cnd,UP]at h;cases hx:x==n with
   |true=>
    rw[hx]at h;have:x=n:=by simpa using hx
    rcases h with h|h
    ·exact absurd (Ua h) nk
    ·rw[this,<-Ua h];exact Tp
   |false=>
    rw[hx]at h;exact Tx _ (SE h)
section
variable{X:Cx}{pi:List (Addr×Obj)}{σ:L2.St}{H:Hp}{s:Shared}{scope:Scope}{N:List Str}{ix:List (Option Nat)}{fp:List Addr}
theorem oq(ok:X.Ok)(hf:gX scope X.env=true):∀y∈scope.names,y.2=.free->∃c,X.env.cells.lookup y.1=some c:=fun y hy k=>by
 have:=T8.mp hf y hy;rw[k]at this;simp only[WC,Bool.false_or,Xf,T6]at this;exact ok.has y.1 this
theorem lU(ok:X.Ok)(hf:gX scope X.env=true){x:Str}{c:Addr}(h:(clOf scope X.env).lookup x=some c):X.env.cells.lookup x=some c:=
 iO X.env x c scope.names [] (oq ok hf) (fun z=>nomatch z) h
theorem wb(ok:X.Ok)(hf:gX scope X.env=true){x:Str}(h:(x,NameKind.free)∈scope.names):∃c,(clOf scope X.env).lookup x=some c/\X.env.cells.lookup x=some c:=by
 obtain⟨c,e⟩:=lT X.env x scope.names [] (.inr h);exact⟨c,e,lU ok hf e⟩
theorem _root_.L2.Inv.block(I:Inv X pi σ H s)(hf:gX scope X.env=true)(hk:scope.kind=.function)(Ik:∀y∈scope.names,y.2≠.cell)(J2:x4 X scope N ix=true)(fo:∀b∈fp,vy X pi H b)(fin:∀b∈fp,∃o,s.heap.get? b=some o)
  {h1:Heap}{t1:Nat}{D C:Addr}(hD:D=s.heap.objs.size) (hC:C=s.heap.objs.size+1) (old:∀b o,s.heap.get? b=some o->h1.get? b=some o) {n:Nat}(acc:h1.get? D=some {cls:=.type "list",data:=.seq #[] n})
  {m:Str->Option Value}(ns:h1.Ns C m):Inv (bK X scope N C s H fp (X.pn++pi)) [] (jx ix σ) (upd H D (.lst [])) {s with heap:=h1,toks:=t1}:=by
 have LC:s.heap.objs.size<=C:=by rw[hC];exact Vy _
 have freshD:s.heap.objs.size<=D:=by rw[hD];exact Ts _
 have nD:H D=none:=I.hok.fresh freshD;have DC:D≠C:=by rw[hD,hC];exact TR (VG _)
 have OR:∀b,H b=none->b≠D->upd H D (.lst []) b=none:=fun b n z=>by rw[aJ z];exact n
 have PR:∀b o,s.heap.get? b=some o->b≠D:=fun b o e=>TR (TK (TC e) freshD)
 have NQ:∀b o,s.heap.get? b=some o->b≠C:=fun b o e=>TR (TK (TC e) LC)
 have cellAt:∀x c,(clOf scope X.env).lookup x=some c->∃v o,s.heap.get? c=some o/\o.data=.cell v:=fun x c e=>by
  obtain⟨v,o,ho,hd⟩:=I.cell x c (lU I.ok hf e);exact⟨v,o,ho,hd⟩
 have okY:(bK X scope N C s H fp (X.pn++pi)).Ok:=by
  refine⟨I.ok.mod,hk,I.ok.glob,I.ok.blt,LC,fun x y c e1 e2=>?_,fun x hx=>?_,fun x c z _=>?_,I.ok.hd,I.ok.frames,.inl rfl,fun b hb=>?_,I.bs,?_,fun b o e hb=>?_,fun b hb hs=>?_,I.stack,I.stkFree⟩
  ·exact I.ok.inj x y c (lU I.ok hf e1) (lU I.ok hf e2)
  ·obtain⟨c,e,_⟩:=wb I.ok hf (pR Ik hx);exact⟨c,e⟩
  ·exact absurd (show false=true from z) Tw
  ·obtain⟨f0,f1,f2,f3,f4,f5⟩:=fo b hb;refine⟨?_,fun x c e=>f4 x c (lU I.ok hf e)⟩;intro z;have z:b=C:=z;obtain⟨o,ho⟩:=fin b hb;exact NQ b o ho z
  ·exact Uq I.ok.bsz I.sz
  ·obtain⟨f0,f1,f2,f3,f4,f5⟩:=fo b hb;rcases f3 with q|q
   ·exact I.ok.noex b o e q
   ·exact absurd (TK (TC e) (Uq I.ok.bsz q)) (Vs _)
  ·obtain⟨f0,f1,f2,_⟩:=fo b hb;exact(Tz.mp (I.stkSub b hs)).elim f1 f2
 refine⟨okY,rfl,I.bare,Un.laid old freshD nD,⟨m,ns,fun i x v e1 e2 e3=>?_⟩,fun x c e=>?_,?_,fun x c e=>?_,fun p hp=>?_,I.hok.laid old freshD ⟨Uj _,[],n,.nil,acc⟩,?_⟩
 ·
  have e2:(ix.map fun i=>i.bind fun i=>(σ[i]?).bind id)[i]?=some (some v):=e2;have e1:N[i]?=some x:=e1;unfold x4 at J2;rw[TL]at J2;rw[List.getElem?_map]at e2;cases q:ix[i]? with
  |none=>rw[q]at e2;cases e2
  |some o=>
   rw[q]at e2;have e2:(o.bind fun i=>(σ[i]?).bind id)=some v:=Ua e2;cases o with
   |none=>cases e2
   |some j=>
    have e2:(σ[j]?).bind id=some v:=e2;have hσ:σ[j]?=some (some v):=by
     cases w':σ[j]? with
     |none=>rw[w']at e2;cases e2
     |some y=>rw[w']at e2;exact UN some e2
    have hz:(N.zip ix)[i]?=some (x,some j):=by
     rw[List.getElem?_zip_eq_some];exact⟨e1,q⟩
    have hy:=T8.mp J2.2 _ (T3 hz);simp only[TL,T6]at hy;have SF:(x,NameKind.free)∈scope.names:=Vh hy.2;obtain⟨c,c1,c2⟩:=wb I.ok hf SF;have Qh:X.env.kindOf x=some .cell\/X.env.kindOf x=some .free:=by
     have:=T8.mp hf _ SF;simpa using this
    obtain⟨mo,Sy,SA⟩:=I.loc;obtain⟨u,r,l⟩:=SA j x v hy.1 hσ (.inr Qh);refine⟨u,r,.inr ⟨pQ hy.2,c,c1,?_⟩⟩;rcases l with⟨k1,_⟩|⟨_,c',e',Mj⟩
    ·rcases Qh with k2|k2 <;> (rw[k1]at k2;cases k2)
    ·rw[c2]at e';cases e';obtain⟨o,ho,hd⟩:=Mj;exact⟨o,old c o ho,hd⟩
 ·obtain⟨v,o,ho,hd⟩:=cellAt x c e;exact⟨v,o,old c o ho,hd⟩
 ·exact OR C (I.hok.fresh LC) (UY DC)
 ·obtain⟨v,o,ho,hd⟩:=cellAt x c e;exact OR c (I.freeC x c (lU I.ok hf e)) (PR c o ho)
 ·have hp:p∈X.pn++pi:=by
   have:p∈(X.pn++pi)++[]:=hp
   rwa [T9]at this
  obtain⟨e,nn,ne,nf,d⟩:=I.pin p hp;refine⟨old _ _ e,OR _ nn (PR _ _ e),NQ _ _ e,fun z=>?_,d⟩;exact(Tz.mp (I.stkSub p.1 z)).elim ne nf
 ·unfold x4 at J2;rw[TL]at J2;have:N.length=ix.length:=by simpa using J2.1
  show(ix.map _).length=N.length;rw[To,this]
theorem _root_.L2.Inv.unblock{C:Addr}{σ1:L2.St}{H1:Hp}{s1:Shared}{h2:Heap}(I:Inv X pi σ H s)(fo:∀b∈fp,vy X pi H b)(hC:s.heap.objs.size<=C)(J:Inv (bK X scope N C s H fp (X.pn++pi)) [] σ1 H1 s1)(hs:Heap.SameBut C s1.heap h2):
  Inv X pi σ H1 {s1 with heap:=h2}:=by
 have NQ:∀b o,s.heap.get? b=some o->b≠C:=fun b o e=>TR (TK (TC e) hC)
 have bb:Un (MH X.stack) fp H H1 s.heap s1.heap:=J.base;have jf:H1 C=none:=J.free;refine I.call' (s':={s1 with heap:=h2}) (ch:=fp) J.os ⟨fun b o e n hb hx=>?_,fun b o e n hb hx=>?_,bb.free,fun b o e hx=>?_,bb.tups,bb.frzs,bb.tbls⟩ (fun b ob e=>?_) J.bare fun b hb=>?_
 ·exact(hs.2 b (NQ b o e)).trans (bb.keep b o e n hb hx)
 ·obtain⟨sl,q⟩:=bb.slot b o e n hb hx;exact⟨sl,(hs.2 b (NQ b o e)).trans q⟩
 ·obtain⟨o',q⟩:=bb.there b o e hx;exact⟨o',(hs.2 b (NQ b o e)).trans q⟩
 ·refine(J.hok b ob e).stay (fun c w' hc q=>(hs.2 c ?_).trans q) (fun _ q=>q) fun _ _ q=>q
  rintro rfl;rcases hc with rfl|hc
  ·rw[jf]at e;cases e
  ·rw[jf]at hc;cases hc
 ·obtain⟨f0,f1,f2,f3,f4,f5⟩:=fo b hb;exact⟨f3,f1,f4,f5⟩
end
section
variable{X:Cx}{scope:Scope}{N:List Str}{ix:List (Option Nat)}{tg iter elt:Expr}{ifs:List Expr}{pos:Pos}{wi:TI}{g:TG}{tc:TT}{te:TE}
theorem nK{pi:List (Addr×Obj)}{σ:L2.St}{H2:Hp}{s2:Shared}{J:It}{fp:List Addr}{it:Addr}{tn:Nat->Heap->Prop}{Q:VK}{RR:Value->Addr->Result->Shared->Prop}{E:Value->Shared->Prop}
  (hc:X.calm=true) (I2:Inv X pi σ H2 s2) (T:Turn X.prog X.w X.K tg J fp it tn) (HJ:tn 0 s2.heap) (f2:∀b∈fp,vy X pi H2 b)
  (hg:∀C s H fp pn,PG (bK X scope N C s H fp pn) tg g) (ht:∀C s H fp pn,PQ (bK X scope N C s H fp pn) ifs tc) (he:∀C s H fp pn,PE (bK X scope N C s H fp pn) elt te)
  (hf:gX scope X.env=true) (hk:scope.kind=.function) (Ik:∀y∈scope.names,y.2≠.cell) (J2:x4 X scope N ix=true)
  (q:∀D,H2 D=none->∃W:Nat->Nat->L2.St->Hp->Prop,(∃m,W 0 m (jx ix σ) (upd H2 D (.lst [])))/\
   ∀i m σ1 H3,W i m σ1 H3->(J.stop i H3/\Q (.ref D) H3)\/(J.go i H3/\∀x H4,J.yld i H3 x H4->g x σ1 H4 fun σ2 H5=>tc σ2 H5 fun b H6=>if b=true then te σ2 H6 fun v H7=>
    ∃ys,H7 D=some (.lst ys)/\ys.length<sizeLine/\∃m',m'<m/\W (i+1) m' σ2 (upd H7 D (.lst (ys++[v]))) else ∃m',m'<m/\W (i+1) m' σ2 H6))
  (hRR:∀(D C:Addr) (σ1:L2.St) (H1:Hp) (s1:Shared),s2.heap.objs.size<=C->Inv (bK X scope N C s2 H2 fp (X.pn++pi)) [] σ1 H1 s1->Q (.ref D) H1->RR (.ref D) C (.ok .next) s1):
  wpAny (model X.prog X.w) X.A (newList []) (fun acc s₃=>wpAny (model X.prog X.w) X.A (newFunctionEnv scope X.env.globals (clOf scope X.env) [] X.env.qual none .none (some X.env)) (fun Qi s₄=>
   codeAny (model X.prog X.w) X.A (.compStart (.ListComp elt [⟨tg,iter,ifs,0⟩] scope pos) 0 (.ref it) acc {Qi with scope:=relabel scope X.env}) (RR acc Qi.locals) s₄) E s₃) E s2:=by
 refine Us (wpAny_newFunctionEnv Ik (by intro y hy;simp at hy) (fun h₁ hns₁ hsb₁=>?_) hk);dsimp only at hns₁ hsb₁ ⊢;generalize hH2:s2.heap.push {cls:=.type "list",dict:=none,data:=.seq ([]:List Value).toArray}=HH at hns₁ hsb₁ ⊢;have hC:HH.objs.size=s2.heap.objs.size+1:=by rw[<-hH2,Vz]
 have hDC:s2.heap.objs.size≠HH.objs.size:=by rw[hC];exact TR (VG _)
 have Qj:s2.heap.objs.size<=HH.objs.size:=by rw[hC];exact Vy _
 have NQ:∀b o,s2.heap.get? b=some o->b≠HH.objs.size:=fun b o e=>TR (TK (TC e) Qj)
 have old:∀b o,s2.heap.get? b=some o->h₁.get? b=some o:=fun b o e=>hsb₁.extBut b o (NQ b o e) (Heap.get?_push_of_some _ (hH2▸Heap.get?_push_of_some _ e))
 have LD:h₁.get? s2.heap.objs.size=some {cls:=.type "list",data:=.seq #[] 0}:=hsb₁.extBut _ _ hDC (Heap.get?_push_of_some _ (hH2▸Heap.get?_push_size _ rfl));obtain⟨W,⟨m0,w0⟩,turn⟩:=q s2.heap.objs.size (I2.hok.fresh (Ts _));have fin:∀b∈fp,∃o,s2.heap.get? b=some o:=fun b hb=>let⟨o,e,_⟩:=T.obj 0 _ HJ b hb;⟨o,e⟩
 have LA:∀{H':Hp},(∀b∈fp,H' b=none)->∀b∈fp,vy (bK X scope N HH.objs.size s2 H2 fp (X.pn++pi)) [] H' b:=fun{H'} hn b hb=>by
  obtain⟨f0,f1,ff,f3,f4,f5⟩:=f2 b hb;refine⟨hn b hb,?_,fun z=>?_,.inl hb,fun x c e=>f4 x c (lU I2.ok hf e),fun p hp=>?_⟩
  ·intro z;have z:b=HH.objs.size:=z;obtain⟨o,ho⟩:=fin b hb;exact NQ b o ho z
  ·exact(Tz.mp (I2.stkSub b z)).elim f1 ff
  ·have hp:p∈X.pn++pi:=by
    have:p∈(X.pn++pi)++[]:=hp
    rwa [T9]at this
   exact f5 p hp
 have loop:∀s₃:Shared,s₃={s2 with heap:=h₁,toks:=s2.toks+([]:List (Str×Value)).length}->
   codeAny (model X.prog X.w) X.A (.compLoop (.ListComp elt [⟨tg,iter,ifs,0⟩] scope pos) 0 (.ref it) (.ref s2.heap.objs.size) (compEnvC scope (clOf scope X.env) HH.objs.size X.env)) (RR (.ref s2.heap.objs.size) HH.objs.size) s₃:=by
  rintro s₃ rfl;refine wa (fun n s'=>∃i σ' H',Inv (bK X scope N HH.objs.size s2 H2 fp (X.pn++pi)) [] σ' H' s'/\tn i s'.heap/\(∀b∈fp,H' b=none)/\W i n σ' H') ?_ m0
   ⟨0,_,_,I2.block hf hk Ik J2 f2 fin rfl hC old LD hns₁,T.keep 0 _ _ HJ fun b _ o e=>old b o e,fun b hb=>?_,w0⟩
  ·rintro n s3 ⟨i,σ3,H3,I3,Ip,P8,w3⟩;rcases turn i n σ3 H3 w3 with⟨stop,qn⟩|⟨go,step⟩
   ·refine HW (T.done (bK X scope N HH.objs.size s2 H2 fp (X.pn++pi)) rfl rfl rfl hc i [] s3 σ3 H3 NP I3 (LA P8) Ip stop) fun r s4 HY=>?_
    obtain⟨hr,I4⟩:=HY;subst hr;exact hRR _ _ σ3 H3 s4 Qj I4 qn
   ·refine HW (T.item (bK X scope N HH.objs.size s2 H2 fp (X.pn++pi)) rfl rfl rfl hc i [] s3 σ3 H3 NP I3 (LA P8) Ip go) fun r s4 HY=>?_
    obtain⟨u,hr,h4⟩:=HY;subst hr;refine HW h4 fun _ s5 HY=>?_
    obtain⟨x,H5,I5,r5,y5,Kd,RD⟩:=HY;have RE:=I5.pinned (LA RD) (T.obj _ _ Kd);refine HW (hg _ _ _ _ _ _ s5 σ3 H5 x u _ RE r5 (step x H5 y5)) fun _ s6 HY=>?_
    obtain⟨σ6,H6,I6,q6⟩:=HY;refine HW (ht _ _ _ _ _ _ s6 σ6 H6 _ I6 q6) fun ok s7 HY=>?_
    obtain⟨H7,I7,q7⟩:=HY;have again:∀{H8:Hp}{s8:Shared},Inv (bK X scope N HH.objs.size s2 H2 fp (X.pn++pi)) ([]++pA fp s5.heap) σ6 H8 s8->(∃m',m'<n/\W (i+1) m' σ6 H8)->
      ∃m,m<n/\∃i σ' H',Inv (bK X scope N HH.objs.size s2 H2 fp (X.pn++pi)) [] σ' H' s8/\tn i s8.heap/\(∀b∈fp,H' b=none)/\W i m σ' H':=fun{H8 s8} I8 ⟨m',hm,w8⟩=>by
     refine⟨m',hm,i+1,σ6,H8,I8.unpinned,T.keep _ _ _ Kd fun b hb o e=>(I8.pin (b,o) (Tn _ (Tn _ (iy hb e)))).1,fun b hb=>?_,w8⟩;obtain⟨o,e,d⟩:=T.obj _ _ Kd b hb;exact(I8.pin (b,o) (Tn _ (Tn _ (iy hb e)))).2.1
    cases ok with
    |false=>exact again I7 q7
    |true=>
     show wpAny _ _ _ _ _ _;refine HW (he _ _ _ _ _ _ s7 σ6 H7 _ I7 q7) fun x8 s8 HY=>?_
     obtain⟨v8,H8,I8,r8,ys,RL,Iy,q8⟩:=HY;refine HW (pM _ s8 σ6 H8 (.ref s2.heap.objs.size) [v8] (.ref s2.heap.objs.size) [x8] (fun _ H9=>∃m',m'<n/\W (i+1) m' σ6 H9) I8 rfl (.cons r8 .nil) ⟨_,ys,v8,rfl,rfl,RL,Iy,q8⟩) fun _ s9 HY=>?_
     obtain⟨_,H9,I9,_,q9⟩:=HY;exact again I9 q9
  ·rw[aJ (fun z=>by
    obtain⟨o,ho⟩:=fin b hb;exact absurd z (TR (TC ho)))]
   exact(f2 b hb).1
 exact codeAny_compStart_list (loop _ rfl) (T.self _ 0 _ _ _ (T.keep 0 _ _ HJ fun b _ o e=>old b o e) (loop _ rfl))
theorem wc(ix:List (Option Nat))(N:List Str)(hc:X.calm=true)(hi:PI X tg iter wi)(hg:∀C s H fp pn,PG (bK X scope N C s H fp pn) tg g)(ht:∀C s H fp pn,PQ (bK X scope N C s H fp pn) ifs tc)(he:∀C s H fp pn,PE (bK X scope N C s H fp pn) elt te)
  (hf:gX scope X.env=true:=by rfl) (hk:scope.kind=.function:=by rfl) (Ik:∀y∈scope.names,y.2≠.cell:=by decide +kernel) (IA:∀y∈scope.names,y.2=.local->scope.names.lookup y.1=some .local:=by decide +kernel) (J2:x4 X scope N ix=true:=by rfl)
  (hs:∀x,foldedSetIterable iter X.env x=pure x:=by intro _;rfl):PE X (.ListComp elt [⟨tg,iter,ifs,0⟩] scope pos) (yv wi ix g tc te):=by
 intro pi s σ H Q I h;rw[eval_ListComp];have MU:closureFor scope X.env=pure (clOf scope X.env):=by
  unfold closureFor clOf;have:=iz X.env scope.names [] (oq I.ok hf);simpa using this
 refine WD (use:=none) rfl hs MU hk IA (HW (hi pi s σ H _ I h) fun v s1 h1=>HW h1 fun Rh s2 h2=>?_);obtain⟨it,fp,tn,J,H2,e,I2,T,HJ,f2,q⟩:=h2;subst e;refine nK (RR:=fun acc C=>compPost (model X.prog X.w) X.A X.xe none (EP X pi σ Q) acc C) (Q:=Q) (iter:=iter) hc I2 T HJ f2 hg ht he hf hk Ik J2 q fun D C σ1 H1 s1 hC J1 q1=>?_
 obtain⟨m,ns,_⟩:=J1.loc;exact⟨m,ns,fun h' RM=>⟨.ref D,H1,I2.unblock f2 hC J1 RM,rfl,q1⟩⟩
end
section
variable{X:Cx}{scope:Scope}{N:List Str}{ix:List (Option Nat)}{tg iter elt:Expr}{ifs:List Expr}{pos:Pos}{wi:TI}{g:TG}{tc:TT}{te:TE}
theorem wd{i:Nat}{y:Str}{py Le:Pos}(ix:List (Option Nat))(N:List Str)(hN:X.N.Nodup)(Qk:X.N[i]?=some y)(hy:Loc X.env.scope y)(hc:X.calm=true)(hi:PI X tg iter wi)(hg:∀C s H fp pn,PG (bK X scope N C s H fp pn) tg g)(ht:∀C s H fp pn,PQ (bK X scope N C s H fp pn) ifs tc)
  (he:∀C s H fp pn,PE (bK X scope N C s H fp pn) elt te) (Ql:swapsWith (.ListComp elt [⟨tg,iter,ifs,0⟩] scope pos) (some (.Name y py)) Le.line X.env=pure true:=by rfl)
  (hf:gX scope X.env=true:=by rfl) (hk:scope.kind=.function:=by rfl) (Ik:∀y∈scope.names,y.2≠.cell:=by decide +kernel) (IA:∀y∈scope.names,y.2=.local->scope.names.lookup y.1=some .local:=by decide +kernel) (J2:x4 X scope N ix=true:=by rfl)
  (hs:∀x,foldedSetIterable iter X.env x=pure x:=by intro _;rfl) (MP:X.fn y=true\/X.env.scope.names.lookup y=some .local:=by first|exact .inl rfl|exact .inr rfl):
  PS X (.Assign [.Name y py] (.ListComp elt [⟨tg,iter,ifs,0⟩] scope pos) Le) (fun D σ H=>yv wi ix g tc te σ H fun v H'=>D.nx (σ.set i (some v)) H'):=by
 intro pi s σ H Dd I h;rw[exec_Assign_Name_used _ _ _ _ Ql];have MU:closureFor scope X.env=pure (clOf scope X.env):=by
  unfold closureFor clOf;have:=iz X.env scope.names [] (oq I.ok hf);simpa using this
 refine Tj (XS (Tj ?_));show wpAny _ X.A (do let _ <-comprehension (.ListComp elt [⟨tg,iter,ifs,0⟩] scope pos) scope X.env _ (newList []) false (eval iter X.env) (some (assign (.Name y py) X.env))) _ _ s;refine Tj (VX (WD (use:=some (assign (.Name y py) X.env)) (Q:=fun _ s'=>SP X pi Dd .next s') rfl hs MU hk IA
  (HW (hi pi s σ H _ I h) fun v s1 h1=>HW h1 fun Rh s2 h2=>?_)) (fun _ s' hq=>Tr (Tr hq)) fun _ _ e=>e)
 obtain⟨it,fp,tn,J,H2,e,I2,T,HJ,f2,q⟩:=h2;subst e;refine nK (RR:=fun acc C=>compPost (model X.prog X.w) X.A X.xe (some (assign (.Name y py) X.env)) (fun _ s'=>SP X pi Dd .next s') acc C) (Q:=fun v H'=>Dd.nx (σ.set i (some v)) H') (iter:=iter) hc I2 T HJ f2 hg ht he hf hk Ik J2 q fun D C σ1 H1 s1 hC J1 q1=>?_
 obtain⟨m,ns,_⟩:=id J1.loc;have ns:s1.heap.Ns C m:=ns;have I3:Inv X pi σ H1 s1:=I2.unblock f2 hC J1 (.refl ..);show wpAny _ X.A (assign (.Name y py) X.env (.ref D)) _ _ s1;refine wpAny_assign_Name (px I3 hN Qk hy (v:=.ref D) rfl (fun s4 I4 ⟨a,sb,ha⟩=>?_) MP);have aC:C≠a:=by
  intro z;rcases ha with ha|ha
  ·exact TR (TK I2.lt hC) (ha▸z.symm)
  ·obtain⟨v,o,ho,_⟩:=I2.cell y a ha;exact TR (TK (TC ho) hC) z.symm
 refine⟨m,ns.sameBut sb aC,fun h' RM=>?_⟩;have jf:H1 C=none:=J1.free;have kk:∀b o,b≠C->s4.heap.get? b=some o->h'.get? b=some o:=fun b o hb e=>(RM.2 b hb).trans e
 refine⟨σ.set i (some (.ref D)),H1,?_,q1⟩;have z:=I4.turned (t':=s4.toks) kk jf (fun z=>TR (TK I2.lt hC) z.symm) (.inr (Uq I2.sz hC)) (fun x c e z=>by
  obtain⟨v,o,ho,_⟩:=I2.cell x c e;exact TR (TK (TC ho) hC) z) (fun p hp z=>TR (TK (TC (I2.pin p hp).1) hC) z)
 exact z
end
def Itv(val:Nat->V)(n:Nat):It:=⟨fun i _=>i<n,fun i H x H'=>H'=H/\x=val i,fun i _=>i=n⟩
theorem sH{P:Program}{w:World}{K:W.Frag}{tg:Expr}(ty:String)(MT:["enumerate","zip","dict_itemiterator","dict_reverseitemiterator","odict_iterator","itertools.zip_longest","itertools.pairwise"].contains ty=false)(l:List Nat)(t:Tok)(it:Addr)
  (Wk:∀A:Around,A.handled=none->Walks P w A it [it] [it] (S l).cps.size (SignAt (S l)) (fun i h=>h.IsStrIter it ty (S l) t i))
  (self:∀(A:Around) (i:Nat) (s:Shared) (Q:Value->Shared->Prop) (E:Value->Shared->Prop),s.heap.IsStrIter it ty (S l) t i->Q (.ref it) s->wpAny (model P w) A (pyIter (.ref it)) Q E s):
  Turn P w K tg (Itv (fun i=>.str (S [l.getD i 0])) l.length) [it] it (fun i h=>h.IsStrIter it ty (S l) t i) where
 mem:=by simp
 obj:=fun i h st b hb=>by
  have e:b=it:=by simpa using hb
  subst e;obtain⟨o,e,c,d⟩:=st;exact⟨o,e,fun v z=>by rw[d]at z;cases z⟩
 keep:=fun i h h' st k=>by
  obtain⟨o,e,r⟩:=st;exact⟨o,k it (by simp) o e,r⟩
 item:=by
  intro X hP hw hK hc i pi s σ H E I hf st hg;subst hP hw hK;obtain⟨f0,f1,f2,f3,f4,f5⟩:=hf it (by simp);have hg:i<l.length:=hg;refine(Wk X.A (I.ok.hd hc)).item i s _ _ (by simpa[S] using hg) st fun v h' tk hv JZ kk=>?_
  obtain⟨c,u,Ks,rfl⟩:=hv;have I1:Inv X pi σ H {s with heap:=h',toks:=tk}:=I.turned (fun b o hb e=>kk b o (by simpa using hb) e) f0 f1 f3 f4 f5;obtain⟨o,e,cc,d⟩:=id JZ;have KH:l.getD i 0=c:=by
   have:l[i]?=some c:=by simpa[S] using Ks
   rw[List.getD_eq_getElem?_getD,this];rfl
  refine⟨_,rfl,yj (s:={s with heap:=h',toks:=tk}) e cc d MT ⟨.str (S [l.getD i 0]),H,I1,⟨u,?_⟩,⟨rfl,rfl⟩,JZ,fun b hb=>(hf b hb).1⟩⟩;rw[KH]
 done:=by
  intro X hP hw hK hc i pi s σ H E I hf st hg;subst hP hw hK;obtain⟨f0,f1,f2,f3,f4,f5⟩:=hf it (by simp);have hg:i=l.length:=hg;have hn:(S l).cps.size=i:=by rw[hg];simp[S]
  refine(Wk X.A (I.ok.hd hc)).done s _ _ (by rw[hn];exact st) fun h' tk kk=>⟨rfl,I.turned (fun b o hb e=>kk b o (by simpa using hb) e) f0 f1 f3 f4 f5⟩
 self:=self
def GS(tl:TE):TI:=fun σ H R=>tl σ H fun x H1=>∃l,x=.str (S l)/\R (Itv (fun i=>.str (S [l.getD i 0])) l.length) H1
section
variable{X:Cx}{tg:Expr}
theorem Dp{l:Expr}{tl:TE}(hl:PE X l tl):PI X tg l (GS tl):=by
 intro pi s σ H R I h;refine HW (hl pi s σ H _ I h) fun v s1 HY=>?_
 obtain⟨x,H1,I1,r1,l,e,q⟩:=HY;subst e;obtain⟨t,rfl⟩:=r1;cases ha:(S l).cps.all (·< 128)
 ·refine wpAny_pyIter_wide ha ?_;refine⟨s1.heap.objs.size,[s1.heap.objs.size],_,_,H1,rfl,I1.kept (t':=s1.toks) fun b o e=>Heap.get?_push_of_some _ e,
   sH "str_iterator" (by decide) l t _ (fun A hA=>Walks.strWide hA _ _ _) (fun _ _ _ _ _ st h=>wpAny_pyIter_striter_wide st h),⟨_,Heap.get?_push_size _ rfl,rfl,rfl⟩,fun b hb=>?_,q⟩
  have e:b=s1.heap.objs.size:=by simpa using hb
  subst e;exact I1.fpOk (Ts _) (I1.hok.fresh (Ts _))
 ·refine wpAny_pyIter_ascii ha ?_;refine⟨s1.heap.objs.size,[s1.heap.objs.size],_,_,H1,rfl,I1.kept (t':=s1.toks) fun b o e=>Heap.get?_push_of_some _ e,
   sH "str_ascii_iterator" (by decide) l t _ (fun A hA=>Walks.strAscii hA _ _ _) (fun _ _ _ _ _ st h=>wpAny_pyIter_striter_ascii st h),⟨_,Heap.get?_push_size _ rfl,rfl,rfl⟩,fun b hb=>?_,q⟩
  have e:b=s1.heap.objs.size:=by simpa using hb
  subst e;exact I1.fpOk (Ts _) (I1.hok.fresh (Ts _))
theorem jy{pi:List (Addr×Obj)}{s:Shared}{σ:L2.St}{H:Hp}{p:Addr}{xs:List V}{E:Value->Shared->Prop}{R:Value->Shared->Prop}(hc:X.calm=true)(I:Inv X pi σ H s)(h:SqL X.K H p xs\/SqT X.K H p xs)
  (k:∀(it:Addr) (fp:List Addr) (o:Obj) (us:List Value) (Sx:Nat->Heap->Prop),Vals xs us->Walks X.prog X.w X.A.in1 it fp [it] us.length (fun i v=>us[i]?=some v) Sx->Sx 0 (s.heap.push o)->(∀b∈fp,b<(s.heap.push o).objs.size)->it=s.heap.objs.size->R (.ref it) {s with heap:=s.heap.push o}):
  wpAny (model X.prog X.w) X.A.in1 (pyIter (.ref p)) R E s:=by
 have hh:X.A.in1.handled=none:=I.ok.hd hc;rcases h with h|h
 ·obtain⟨us,r,pl,hz⟩:=I.list h;have Iy:p<s.heap.objs.size:=by obtain⟨o,ho,_⟩:=pl.isList;exact TC ho
  refine VC pl.isList (k s.heap.objs.size [s.heap.objs.size,p] _ us (fun i h=>h.IsListIter s.heap.objs.size p i/\h.IsList p us.toArray) r (by
   have W:=Walks.list (prog:=X.prog) (w:=X.w) hh s.heap.objs.size p (TR Iy) us.toArray;simpa using W) ⟨⟨_,Heap.get?_push_size _ rfl,rfl,rfl⟩,pl.isList.at fun o e=>Heap.get?_push_of_some _ e⟩ (fun b hb=>?_) rfl)
  rw[Vz];rcases Tz.mp hb with rfl|hb
  ·exact VG _
  ·rw[TU]at hb;rw[hb];exact WE Iy
 ·obtain⟨us,r,pl,hz⟩:=I.tuple h;have OQ:s.heap.IsTuple p us.toArray:=pl;have Iy:p<s.heap.objs.size:=by obtain⟨o,ho,_⟩:=pl;exact TC ho
  refine Vt OQ (k s.heap.objs.size [s.heap.objs.size,p] _ us (fun i h=>h.IsTupleIter s.heap.objs.size p i/\h.IsTuple p us.toArray) r (by
   have W:=Walks.tuple (prog:=X.prog) (w:=X.w) hh s.heap.objs.size p (TR Iy) us.toArray;simpa using W) ⟨⟨_,Heap.get?_push_size _ rfl,rfl,rfl⟩,OQ.at fun o e=>Heap.get?_push_of_some _ e⟩ (fun b hb=>?_) rfl)
  rw[Vz];rcases Tz.mp hb with rfl|hb
  ·exact VG _
  ·rw[TU]at hb;rw[hb];exact WE Iy
theorem fL{pi:List (Addr×Obj)}{s:Shared}{σ:L2.St}{H:Hp}{o:Obj}{h':Heap}{tk:Nat}(I:Inv X pi σ H s)(kk:∀b ob,b∉[s.heap.objs.size]->(s.heap.push o).get? b=some ob->h'.get? b=some ob):
  Inv X pi σ H {s with heap:=h',toks:=tk}:=I.kept fun b ob e=>kk b ob (fun z=>TR (TC e) (by simpa using z)) (Heap.get?_push_of_some _ e)
theorem bL{α:Type}(l:List α)(i:Nat)(d:α)(h:i<l.length):l.getD i d=l[i]:=by
 rw[List.getD_eq_getElem?_getD,List.getElem?_eq_getElem h];rfl
theorem dU{ns:List Int}{us:List Value}(r:Vals (ns.map V.int) us){i:Nat}{v:Value}(h:us[i]?=some v):∃t,v=.int (ns.getD i 0) t:=by
 have hl:=r.length;rw[To]at hl;obtain⟨hi,_⟩:=List.getElem?_eq_some_iff.mp h;have e1:(ns.map V.int)[i]?=some (.int (ns.getD i 0)):=by
  rw[List.getElem?_map,List.getElem?_eq_getElem (by lia),bL _ _ _ (by lia)];rfl
 obtain⟨u,hu,t,rfl⟩:=r.get e1;rw[h]at hu;exact⟨t,Ua hu⟩
theorem sI{ns:List Int}{us:List Value}(r:Vals (ns.map V.int) us)(A:Around):CmpOf X.prog X.w A .Gt (fun i v=>us[i]?=some v) (fun i j=>decide (ns.getD j 0<ns.getD i 0)):=by
 intro i j vi vj s Q E hi hj q;obtain⟨t,rfl⟩:=dU r hi;obtain⟨t',rfl⟩:=dU r hj;exact gt_int q
theorem pS{ns:List Int}{us:List Value}(r:Vals (ns.map V.int) us)(A:Around):CmpOf X.prog X.w A .Lt (fun i v=>us[i]?=some v) (fun i j=>decide (ns.getD i 0<ns.getD j 0)):=by
 intro i j vi vj s Q E hi hj q;obtain⟨t,rfl⟩:=dU r hi;obtain⟨t',rfl⟩:=dU r hj;exact lt_int q
def uw(ns:List Int):Int:=ns.foldl max (ns.headD 0)
def ni(ns:List Int):Int:=ns.foldl min (ns.headD 0)
theorem ot(ns:List Int):∀k,k<ns.length->argBest (fun i j=>decide (ns.getD j 0<ns.getD i 0)) k<ns.length/\ns.getD (argBest (fun i j=>decide (ns.getD j 0<ns.getD i 0)) k) 0=(ns.take (k+1)).foldl max (ns.headD 0)
 | 0,h=>by
  refine⟨h,?_⟩;cases ns with
  |nil=>cases h
  |cons a l=>show a=max a a;lia
 |k+1,h=>by
  obtain⟨RN,RO⟩:=ot ns k (by lia);have et:ns.take (k+1+1)=ns.take (k+1)++[ns.getD (k+1) 0]:=by
   rw[Uu,List.getElem?_eq_getElem h,bL _ _ _ h];rfl
  rw[et,UK,<-RO];show(if decide (ns.getD (argBest (fun i j=>decide (ns.getD j 0<ns.getD i 0)) k) 0<ns.getD (k+1) 0)=true then k+1 else argBest (fun i j=>decide (ns.getD j 0<ns.getD i 0)) k)<ns.length/\
   ns.getD (if decide (ns.getD (argBest (fun i j=>decide (ns.getD j 0<ns.getD i 0)) k) 0<ns.getD (k+1) 0)=true then k+1 else argBest (fun i j=>decide (ns.getD j 0<ns.getD i 0)) k) 0=max _ _
  split
  ·rename_i hd;have:=VO hd;exact⟨h,by lia⟩
  ·rename_i hd;rw[TF]at hd;exact⟨RN,by lia⟩
theorem ou(ns:List Int):∀k,k<ns.length->argBest (fun i j=>decide (ns.getD i 0<ns.getD j 0)) k<ns.length/\ns.getD (argBest (fun i j=>decide (ns.getD i 0<ns.getD j 0)) k) 0=(ns.take (k+1)).foldl min (ns.headD 0)
 | 0,h=>by
  refine⟨h,?_⟩;cases ns with
  |nil=>cases h
  |cons a l=>show a=min a a;lia
 |k+1,h=>by
  obtain⟨RN,RO⟩:=ou ns k (by lia);have et:ns.take (k+1+1)=ns.take (k+1)++[ns.getD (k+1) 0]:=by
   rw[Uu,List.getElem?_eq_getElem h,bL _ _ _ h];rfl
  rw[et,UK,<-RO];show(if decide (ns.getD (k+1) 0<ns.getD (argBest (fun i j=>decide (ns.getD i 0<ns.getD j 0)) k) 0)=true then k+1 else argBest (fun i j=>decide (ns.getD i 0<ns.getD j 0)) k)<ns.length/\
   ns.getD (if decide (ns.getD (k+1) 0<ns.getD (argBest (fun i j=>decide (ns.getD i 0<ns.getD j 0)) k) 0)=true then k+1 else argBest (fun i j=>decide (ns.getD i 0<ns.getD j 0)) k) 0=min _ _
  split
  ·rename_i hd;have:=VO hd;exact⟨h,by lia⟩
  ·rename_i hd;rw[TF]at hd;exact⟨RN,by lia⟩
theorem we(hc:X.calm=true):dD X (.builtin "max") (fun vs H Q=>∃(p:Addr) (ns:List Int),vs=[.ref p]/\(SqL X.K H p (ns.map V.int)\/SqT X.K H p (ns.map V.int))/\ns≠[]/\Q (.int (uw ns)) H):=by
 intro pi s σ H vs us Q I r h;obtain⟨p,ns,rfl,hp,JD,q⟩:=h;obtain⟨u,rfl,r1⟩:=fK r;cases r1;have hn:0<ns.length:=by cases ns with|nil=>exact absurd rfl JD|cons _ _=>simp
 refine call_max_walk (jy hc I hp fun it fp o ws Sx rv W st hf hit=>?_);have hl:=rv.length;rw[To]at hl;refine⟨it,fp,[it],_,_,Sx,_,rfl,W,st,hf,by lia,sI rv _,fun v h' tk hv kk=>?_⟩;subst hit;obtain⟨b1,b2⟩:=ot ns (ns.length-1) (by lia);rw[<-hl]at hv;obtain⟨t,rfl⟩:=dU rv hv;refine⟨.int (uw ns),H,fL (s:=s) I kk,⟨t,?_⟩,q⟩;rw[b2,show ns.length-1+1=ns.length by lia,Ux];rfl
theorem wg(hc:X.calm=true):dD X (.builtin "min") (fun vs H Q=>∃(p:Addr) (ns:List Int),vs=[.ref p]/\(SqL X.K H p (ns.map V.int)\/SqT X.K H p (ns.map V.int))/\ns≠[]/\Q (.int (ni ns)) H):=by
 intro pi s σ H vs us Q I r h;obtain⟨p,ns,rfl,hp,JD,q⟩:=h;obtain⟨u,rfl,r1⟩:=fK r;cases r1;have hn:0<ns.length:=by cases ns with|nil=>exact absurd rfl JD|cons _ _=>simp
 refine call_min_walk (jy hc I hp fun it fp o ws Sx rv W st hf hit=>?_);have hl:=rv.length;rw[To]at hl;refine⟨it,fp,[it],_,_,Sx,_,rfl,W,st,hf,by lia,pS rv _,fun v h' tk hv kk=>?_⟩;subst hit;obtain⟨b1,b2⟩:=ou ns (ns.length-1) (by lia);rw[<-hl]at hv;obtain⟨t,rfl⟩:=dU rv hv;refine⟨.int (ni ns),H,fL (s:=s) I kk,⟨t,?_⟩,q⟩;rw[b2,show ns.length-1+1=ns.length by lia,Ux];rfl
theorem pT(ns:List Int):∀k,k<=ns.length->preSum (fun i=>ns.getD i 0) k=(ns.take k).sum
 | 0,_=>by simp[preSum]
 |k+1,h=>by
  have et:ns.take (k+1)=ns.take k++[ns.getD k 0]:=by
   rw[Uu,List.getElem?_eq_getElem (by lia),bL _ _ _ (by lia)];rfl
  rw[et,List.sum_append,<-pT ns k (by lia)];simp[preSum]
theorem wj(hc:X.calm=true):dD X (.builtin "sum") (fun vs H Q=>∃(p:Addr) (ns:List Int),vs=[.ref p]/\(SqL X.K H p (ns.map V.int)\/SqT X.K H p (ns.map V.int))/\Q (.int ns.sum) H):=by
 intro pi s σ H vs us Q I r h;obtain⟨p,ns,rfl,hp,q⟩:=h;obtain⟨u,rfl,r1⟩:=fK r;cases r1;refine call_sum_walkG (jy hc I hp fun it fp o ws Sx rv W st hf hit=>?_);have hl:=rv.length;rw[To]at hl;refine⟨it,fp,[it],_,_,Sx,fun i=>ns.getD i 0,rfl,W,st,hf,fun i v hv=>dU rv hv,fun h' tk t' kk=>?_⟩;subst hit;refine⟨.int ns.sum,H,fL (s:=s) I kk,⟨t',?_⟩,q⟩;rw[<-hl,pT ns _ (Ts _),Ux]
end
section
variable{prog:Program}{w:World}{A:Around}{R:Result->Shared->Prop}{it:Addr}{fp wr:List Addr}{n:Nat}{Pv:Nat->Value->Prop}{Sx:Nat->Heap->Prop}{kw:List (Str×Value)}
theorem ox:(toString "max"++toString ".loop" : String) = "max.loop":=by decide
theorem Fl(Wk:Walks prog w A.in1 it fp wr n Pv Sx)(bt:Nat->Nat->Bool)(cm:CmpOf prog w A.in1 .Gt Pv bt)(T:Addr)(nT:T∉fp):∀(k j:Nat) (s:Shared) (vb:Value) (c:Nat),n-(j+1)=k->j+1<=n->Sx (j+1) s.heap->Pv (argBest bt j) vb->
   s.heap.get? T=some {cls:=.type "list",dict:=none,data:=.seq #[vb,vb] c,slots:=#[]}->
   (∀v h' tk,Pv (argBest bt (n-1)) v->(∀b o,b∉wr->b≠T->s.heap.get? b=some o->h'.get? b=some o)->R (.ok (.ret v)) {s with heap:=h',toks:=tk})->codeAny (model prog w) A (.builtin "max.loop" ⟨[.ref it,.none,.ref T],kw⟩) R s:=by
 have NR:T∉wr:=fun z=>nT (Wk.sub _ z)
 intro k;induction k with
 |zero=>
  intro j s vb c hk hj st hp hT fin;have ej:j+1=n:=by lia
  refine VL WW ?_;rw[Va Vp _];show wpAny _ A.in1 (seqItems? (.ref T) >>= _) _ _ s;refine Tj (UA hT rfl ?_);show wpAny _ A.in1 (tryCatch (pyNext (.ref it)) _ >>= _) _ _ s;refine Tj (U3 (Wk.done s _ _ (ej▸st) fun h' tk kk=>?_));have Lf:=kk T _ NR hT;show wpAny _ A.in1 (updateSeq T (fun _=>#[]) >>= _) _ _ _;refine Tj (VM Lf rfl (Tj (Vi (Tr ?_))));exact fin vb _ tk (by rw[<-ej];exact hp) fun b o bw bT e=>(Heap.get?_update_other _ _ (UY bT)).trans (kk b o bw e)
 |succ k ih=>
  intro j s vb c hk hj st hp hT fin;have jn:j+1<n:=by lia
  refine VL WW ?_;rw[Va Vp _];show wpAny _ A.in1 (seqItems? (.ref T) >>= _) _ _ s;refine Tj (UA hT rfl ?_);show wpAny _ A.in1 (tryCatch (pyNext (.ref it)) _ >>= _) _ _ s;refine Tj (U3 (Wk.item (j+1) s _ _ jn st fun v h' tk pv JZ kk=>?_));have Lf:=kk T _ NR hT;show wpAny _ A.in1 (tryCatch (holding [v,v] (richCompare .Gt v vb >>= _)) _ >>= _) _ _ _;refine Tj (U3 (U2 (Tj (cm (j+1) (argBest bt j) v vb _ _ _ pv hp (Tj (U2 (UZ (Tj (Vi (Tr ?_))))))))));cases eb:bt (j+1) (argBest bt j) with
  |true=>
   rw[Tt rfl];refine Tj (VM Lf rfl (Tj (Vi ?_)));rw[ox];refine Tr ⟨VD Vp _,ih (j+1) _ v _ (by lia) jn (Wk.frame _ _ _ JZ fun b bf o e=>?_) (by simp only[argBest,eb,VQ];exact pv) (Heap.get?_update_self _ Lf rfl) fun v2 h2 t2 p2 k2=>?_⟩
   ·exact(Heap.get?_update_other _ _ (fun z:T=b=>nT (by rw[z];exact bf))).trans e
   ·exact fin v2 h2 t2 p2 fun b o bw bT e=>k2 b o bw bT ((Heap.get?_update_other _ _ (UY bT)).trans (kk b o bw e))
  |false=>
   rw[TB Tw];refine Tj (Vi ?_);rw[ox];refine Tr ⟨VD Vp _,ih (j+1) _ vb c (by lia) jn JZ (by simp only[argBest,eb,UT,Wi];exact hp) Lf fun v2 h2 t2 p2 k2=>?_⟩;exact fin v2 h2 t2 p2 fun b o bw bT e=>k2 b o bw bT (kk b o bw e)
theorem yw(Wk:Walks prog w A.in1 it fp wr n Pv Sx)(bt:Nat->Nat->Bool)(cm:CmpOf prog w A.in1 .Gt Pv bt)(T:Addr)(nT:T∉fp){s:Shared}{c:Nat}{d:Value}(RP:kw=[(Str.ofString "default",d)])(st:Sx 0 s.heap)
  (hT:s.heap.get? T=some {cls:=.type "list",dict:=none,data:=.seq #[] c,slots:=#[]}) (fin:∀v h' tk,(if n=0 then v=d else Pv (argBest bt (n-1)) v)->(∀b o,b∉wr->b≠T->s.heap.get? b=some o->h'.get? b=some o)->R (.ok (.ret v)) {s with heap:=h',toks:=tk}):
  codeAny (model prog w) A (.builtin "max.loop" ⟨[.ref it,.none,.ref T],kw⟩) R s:=by
 have NR:T∉wr:=fun z=>nT (Wk.sub _ z)
 refine VL WW ?_;rw[Va Vp _];show wpAny _ A.in1 (seqItems? (.ref T) >>= _) _ _ s;refine Tj (UA hT rfl ?_);show wpAny _ A.in1 (tryCatch (pyNext (.ref it)) _ >>= _) _ _ s;by_cases hn:n=0
 ·refine Tj (U3 (Wk.done s _ _ (by rw[hn];exact st) fun h' tk kk=>?_));subst RP;refine Tj (WG (Tr ?_));exact fin d _ tk (by rw[Tt hn]) fun b o bw bT e=>kk b o bw e
 ·refine Tj (U3 (Wk.item 0 s _ _ (by lia) st fun v h' tk pv JZ kk=>?_));have Lf:=kk T _ NR hT;show wpAny _ A.in1 (updateSeq T (fun _=>#[v,v]) >>= _) _ _ _;refine Tj (VM Lf rfl ?_);rw[ox];refine Tr ⟨VD Vp _,Fl Wk bt cm T nT _ 0 _ v _ rfl (by lia) (Wk.frame _ _ _ JZ fun b bf o e=>?_) pv (Heap.get?_update_self _ Lf rfl) fun v2 h2 t2 p2 k2=>?_⟩
  ·exact(Heap.get?_update_other _ _ (fun z:T=b=>nT (by rw[z];exact bf))).trans e
  ·exact fin v2 h2 t2 (by rw[TB hn];exact p2) fun b o bw bT e=>k2 b o bw bT ((Heap.get?_update_other _ _ (UY bT)).trans (kk b o bw e))
end
theorem tree_kw{prog:Program}{w:World}{A:Around}{E:Value->Shared->Prop}{s:Shared}{id:String}{bf:Builtin}{args:List Value}{kw:List (Str×Value)}{Q:Value->Shared->Prop}(hk:builtinKind id=none)(hp:plainId id=true)
  (hb:entryFor table id=some bf) (ha:argsOk id ⟨args,kw⟩)
  (hc:wpAny (model prog w) A.in1 (bf ⟨args,kw⟩) (fun fin s'=>match fin with
   | .done f=>(match(Except.ok f:Result) with | .ok (.ret v)=>Q v s' | .ok _=>False | .error e=>E e s')
   | .again c'=>c'.quiet=true/\codeAny (model prog w) A c' (fun r s'=>match r with | .ok (.ret v)=>Q v s' | .ok _=>False | .error e=>E e s') s') E s):wpAny (model prog w) A (call (.builtin id) args kw) Q E s:=by
 refine wpAny_call (codeAny_call_builtin hp hb ?_);simp only[checkBuiltinCall,hk];cases hsig:Manifest.signature? id with
 |none=>exact Tr hc
 |some sig=>
  have Qm:Bind.checkArgs id sig ⟨args,kw⟩=pure ():=by simpa only[argsOk,hsig] using ha
  simp only[Qm];exact Tr hc
theorem wm(a d:Value):argsOk "max" ⟨[a],[(Str.ofString "default",d)]⟩:=by unfold argsOk;kernel_rfl
section
variable{X:Cx}{e k:Expr}{te tk:TE}{p pos KO:Pos}
def maxD(ns:List Int)(d:Int):Int:=if ns=[] then d else uw ns
def Fm(K:W.Frag)(te tk:TE):TE:=fun σ H Q=>uq te Cw σ H fun vs H1=>uq tk Cw σ H1 fun ks H2=>∃(a:Addr) (ns:List Int) (d:Int),vs=[.ref a]/\ks=[.int d]/\(SqL K H2 a (ns.map V.int)\/SqT K H2 a (ns.map V.int))/\Q (.int (maxD ns d)) H2
theorem AU(hc:X.calm=true)(hg:Gl X "max")(hm:X.mg "max" = none)(he:PE X e te)(hk:PE X k tk)(hs:starEach [e] X.env=[(false,eval e X.env)]:=by rfl):
  PE X (.Call (.Name "max" p) [e] [⟨some "default",k,KO⟩] pos) (Fm X.K te tk):=by
 intro pi s σ H Q I h;refine Vu (kG I hg hm (by decide +kernel:bootBuiltins "max" = some (.builtin "max")) ?_ (by decide) (by decide));refine callWith_kw (HW (i9 he pE (hs:=hs) pos pi s σ H _ I h) fun us s1 ⟨vs,H1,I1,r1,q1⟩=>?_) (by rw[hs];rfl) (by rw[hs];rfl);refine HW (vP hk zU pos pi s1 σ H1 _ I1 q1) fun ws s2 HY=>?_
 obtain⟨ks,H2,I2,r2,a,ns,d,e1,e2,hp,q⟩:=HY;subst e1 e2;obtain⟨u,rfl,ru⟩:=fK r1;obtain⟨w',rfl,t,rfl⟩:=fK r2;cases ru;show wpAny _ _ (call (.builtin "max") [.ref a] [(Str.ofString "default",.int d t)]) _ _ s2;refine tree_kw F.kind_max F.plain_max F.entry_max (wm _ _) ?_;show wpAny _ X.A.in1 (Builtin.Builtins.bindParams "max" ["key","default"] 0 ⟨[],[(Str.ofString "default",.int d t)]⟩ >>= _) _ _ s2;refine Tj (XH (show Builtin.Builtins.bindParams "max" ["key","default"] 0 ⟨[],[(Str.ofString "default",.int d t)]⟩=pure [none,some (.int d t)] from rfl) ?_);refine Tj (Tr ?_);refine Tj (jy hc I2 hp fun it fp o ws Sx rv Wk st hf hit=>?_);have hl:=rv.length;rw[To]at hl;refine Tj (Us ?_);have nT:(s2.heap.push o).objs.size∉fp:=fun z=>Vs _ (hf _ z)
 rw[ox];refine Tr ⟨VD Vp _,yw Wk _ (sI rv _) (s2.heap.push o).objs.size nT rfl (Wk.frame _ _ _ st fun b _ ob e=>Heap.get?_push_of_some _ e) (Heap.get?_push_size _ rfl) fun v h' RQ hv kk=>?_⟩;subst hit;have I3:Inv X pi σ H2 {s2 with heap:=h',toks:=RQ}:=fL (s:=s2) (o:=o) I2 fun b ob nb e=>kk b ob nb (TR (TC e)) (Heap.get?_push_of_some _ e)
 refine⟨.int (maxD ns d),H2,I3,?_,q⟩;unfold maxD;by_cases hn:ns=[]
 ·rw[Tt (by rw[<-hl,hn];rfl)]at hv;rw[Tt hn,hv];exact⟨t,rfl⟩
 ·have h0:0<ns.length:=UG.mpr hn;rw[TB (by lia)]at hv;rw[TB hn];obtain⟨b1,b2⟩:=ot ns (ns.length-1) (by lia);rw[<-hl]at hv;obtain⟨t2,rfl⟩:=dU rv hv;refine⟨t2,?_⟩;rw[b2,show ns.length-1+1=ns.length by lia,Ux];rfl
end
section
variable{prog:Program}{w:World}{A:Around}{E:Value->Shared->Prop}{s:Shared}
theorem yx{it t:Addr}{i:Nat}{items:Array Value}{x:Value}{Q:Value->Shared->Prop}(hi:s.heap.IsTupleIter it t i)(ht:s.heap.IsTuple t items)(hx:items[i]?=some x)
  (k:∀h',h'.IsTupleIter it t (i+1)->Heap.SameBut it s.heap h'->Q x {s with heap:=h'}):wpAny (model prog w) A (Builtin.SmallTypes.nextOf (.ref it)) Q E s:=by
 obtain⟨o,ho,oc,od⟩:=id hi;obtain⟨q,hq,_,n,qd⟩:=ht;unfold Builtin.SmallTypes.nextOf;refine Tj (wpAny_callSpecial?_slot (name:=Str.ofString "__next__") hi.typeIs Vo (UJ Vo hi.typeIs Wt ?_ (Wj _)));show wpAny _ _ (field (.ref it) 0 >>= _) _ _ s;refine Tj (US ho od (x:=.ref t) rfl ?_);show wpAny _ _ (if(Value.ref t==Value.none)=true then _ else _) _ _ s;rw[TB (fun z:(Value.ref t==Value.none)=true=>Tw z)];show wpAny _ _ (field (.ref it) 1 >>= _) _ _ s;refine Tj (US ho od (x:=.int i 0) rfl (Tj (UA hq qd ?_)));simp only[T4,hx];refine Tj (WB ho od (by simp) (Tr ⟨x,rfl,Tr (k _ ⟨_,Heap.get?_update_self _ ho (Obj.isFreed_of_fields (V3 od _)),(Obj.cls_mapFields ..).trans oc,?_⟩ (VW ..))⟩));rw[V3 od];simp[rawInt]
theorem AV{it t:Addr}{i:Nat}{items:Array Value}{Q:Value->Shared->Prop}(hh:A.handled=none)(hi:s.heap.IsTupleIter it t i)(ht:s.heap.IsTuple t items)(hx:items[i]?=none)
  (k:∀h' e,Heap.ExtBut it s.heap h'->(∃o,h'.get? e=some o/\o.cls=.type "StopIteration")->E (.ref e) {s with heap:=h'}):wpAny (model prog w) A (Builtin.SmallTypes.nextOf (.ref it)) Q E s:=by
 obtain⟨o,ho,oc,od⟩:=id hi;obtain⟨q,hq,_,n,qd⟩:=ht;unfold Builtin.SmallTypes.nextOf;refine Tj (wpAny_callSpecial?_slot (name:=Str.ofString "__next__") hi.typeIs Vo (UJ Vo hi.typeIs Wt ?_ (Wj _)));show wpAny _ _ (field (.ref it) 0 >>= _) _ _ s;refine Tj (US ho od (x:=.ref t) rfl ?_);show wpAny _ _ (if(Value.ref t==Value.none)=true then _ else _) _ _ s;rw[TB (fun z:(Value.ref t==Value.none)=true=>Tw z)];show wpAny _ _ (field (.ref it) 1 >>= _) _ _ s;refine Tj (US ho od (x:=.int i 0) rfl (Tj (UA hq qd ?_)));simp only[T4,hx];refine Tj (WG (Tj (WB ho od (by simp) ?_)));show wpAny _ _ (newExc (.type "StopIteration") [] >>= _) _ _ _;refine Tj ?_;simp only[newExc,newTuple];refine Tj (Us (Tj (m:=firstArgMember _ _) (XH (a:=Value.none) (by first|rfl|(simp only[firstArgMember];rfl)) (Us ?_ (by size_fits)))) (by size_fits));simp only[raiseNew];refine Tj (wpAny_handled ?_);first
  |rw[show A.in1.handled=none from hh]
  |rw[hh]
 exact Tj (Tr (wpAny_throw (k _ _ (((VW ..).extBut.push _).push _) ⟨_,Heap.get?_push_size _ rfl,rfl⟩)))
def IsIt(k:Bool)(h:Heap)(it l:Addr)(i:Nat):Prop:=match k with
 |true=>h.IsListIter it l i
 |false=>h.IsTupleIter it l i
def IsSq(k:Bool)(h:Heap)(l:Addr)(xs:Array Value):Prop:=match k with
 |true=>h.IsList l xs
 |false=>h.IsTuple l xs
theorem IsIt.at{k:Bool}{h h':Heap}{it l:Addr}{i:Nat}(x:IsIt k h it l i)(e:∀o,h.get? it=some o->h'.get? it=some o):IsIt k h' it l i:=by
 cases k with
 |true=>obtain⟨o,ho,r⟩:=(show h.IsListIter it l i from x);exact(show h'.IsListIter it l i from⟨o,e o ho,r⟩)
 |false=>obtain⟨o,ho,r⟩:=(show h.IsTupleIter it l i from x);exact(show h'.IsTupleIter it l i from⟨o,e o ho,r⟩)
theorem IsSq.at{k:Bool}{h h':Heap}{l:Addr}{xs:Array Value}(x:IsSq k h l xs)(e:∀o,h.get? l=some o->h'.get? l=some o):IsSq k h' l xs:=by
 cases k with
 |true=>obtain⟨o,ho,r⟩:=(show h.IsList l xs from x);exact(show h'.IsList l xs from⟨o,e o ho,r⟩)
 |false=>obtain⟨o,ho,r⟩:=(show h.IsTuple l xs from x);exact(show h'.IsTuple l xs from⟨o,e o ho,r⟩)
theorem IsIt.obj{k:Bool}{h:Heap}{it l:Addr}{i:Nat}(x:IsIt k h it l i):∃o,h.get? it=some o/\∀v,o.data≠.cell v:=by
 cases k with
 |true=>obtain⟨o,ho,_,d⟩:=(show h.IsListIter it l i from x);exact⟨o,ho,fun v z=>by rw[d]at z;cases z⟩
 |false=>obtain⟨o,ho,_,d⟩:=(show h.IsTupleIter it l i from x);exact⟨o,ho,fun v z=>by rw[d]at z;cases z⟩
theorem IsSq.get{k:Bool}{h:Heap}{l:Addr}{xs:Array Value}(x:IsSq k h l xs):∃o,h.get? l=some o:=by
 cases k with
 |true=>obtain⟨o,ho,_⟩:=(show h.IsList l xs from x);exact⟨o,ho⟩
 |false=>obtain⟨o,ho,_⟩:=(show h.IsTuple l xs from x);exact⟨o,ho⟩
theorem qU{k:Bool}{it l:Addr}{i:Nat}{xs:Array Value}{x:Value}{Q:Value->Shared->Prop}(hi:IsIt k s.heap it l i)(hl:IsSq k s.heap l xs)(hx:xs[i]?=some x)
  (q:∀h',IsIt k h' it l (i+1)->Heap.SameBut it s.heap h'->Q x {s with heap:=h'}):wpAny (model prog w) A (Builtin.SmallTypes.nextOf (.ref it)) Q E s:=by
 cases k with
 |true=>exact wpAny_nextOf_list_item hi hl hx q
 |false=>exact yx hi hl hx q
theorem zZ{k:Bool}{it l:Addr}{i:Nat}{xs:Array Value}{Q:Value->Shared->Prop}(hh:A.handled=none)(hi:IsIt k s.heap it l i)(hl:IsSq k s.heap l xs)(hx:xs[i]?=none)
  (q:∀h' e,Heap.ExtBut it s.heap h'->(∃o,h'.get? e=some o/\o.cls=.type "StopIteration")->E (.ref e) {s with heap:=h'}):wpAny (model prog w) A (Builtin.SmallTypes.nextOf (.ref it)) Q E s:=by
 cases k with
 |true=>exact wpAny_nextOf_list_end hh hi hl hx q
 |false=>exact AV hh hi hl hx q
theorem AW{k1 k2:Bool}{z TI TO i1 i2 l1 l2:Addr}{i:Nat}{xs ys:Array Value}{x y a b:Value}{Q:Value->Shared->Prop}(D:ZipApart z TI TO i1 i2 l1 l2)(hz:IsZip s.heap z TI TO .none)(LF:IsPair s.heap TI (.ref i1) (.ref i2))(Mo:IsPair s.heap TO a b)
  (h1:IsIt k1 s.heap i1 l1 i) (h2:IsIt k2 s.heap i2 l2 i) (g1:IsSq k1 s.heap l1 xs) (g2:IsSq k2 s.heap l2 ys) (hx:xs[i]?=some x) (hy:ys[i]?=some y)
  (q:∀h',IsZip h' z TI TO (rawInt s.heap.objs.size)->IsPair h' TO x y->IsIt k1 h' i1 l1 (i+1)->IsIt k2 h' i2 l2 (i+1)->IsPair h' s.heap.objs.size x y->
   (∀c o,c≠z->c≠TO->c≠i1->c≠i2->s.heap.get? c=some o->h'.get? c=some o)->Q (.ref s.heap.objs.size) {s with heap:=h'}):
  wpAny (model prog w) A (Builtin.«zip.__next__» ⟨[.ref z],[]⟩) (fun fin s'=>∃v,fin=.done (.ret v)/\Q v s') E s:=by
 show wpAny _ _ (field (.ref z) 2 >>= _) _ _ _;refine Tj (US hz rfl (x:=.bool false) rfl ?_);show wpAny _ _ (field (.ref z) 3 >>= _) _ _ _;refine Tj (US hz rfl (x:=.ref TI) rfl (Tj (UA LF rfl ?_)));show wpAny _ _ (Builtin.SmallTypes.ownedTupleIsFree (.ref z) >>= _) _ _ _;refine Tj ?_;unfold Builtin.SmallTypes.ownedTupleIsFree;refine Tj (US hz rfl (x:=.none) rfl (Tr ?_));rw[Tt (by rfl)];refine Tj (WG (Tj (US hz rfl (x:=.ref TO) rfl (Tj (Vv hz (by simp) fun hA zA sA=>?_)))));have zA:IsZip hA z TI TO .ellipsis:=zA;refine Tj ?_;simp only[List.zipIdx_cons,List.zipIdx_nil,Xe,List.forIn_nil];refine Tj (Tj (WO ?_));show wpAny _ _ (Builtin.SmallTypes.nextOf (.ref i1) >>= _) _ _ _;refine Tj (qU (h1.at fun o e=>sA.extBut _ _ D.i1z e) (g1.at fun o e=>sA.extBut _ _ D.l1z e) hx fun hB iB sB=>Tr ?_);have tB:IsPair hB TO a b:=sB.extBut _ _ D.TOi1 (sA.extBut _ _ D.TOz Mo);refine Tj (UA tB rfl (Tj (Wg tB fun hC tC sC=>Tj (Vi (Tr ?_)))));have tC:IsPair hC TO x b:=tC;refine Tj (Tj (WO ?_));show wpAny _ _ (Builtin.SmallTypes.nextOf (.ref i2) >>= _) _ _ _;refine Tj (qU (h2.at fun o e=>sC.extBut _ _ D.TOi2.symm (sB.extBut _ _ D.i12.symm (sA.extBut _ _ D.i2z e))) (g2.at fun o e=>sC.extBut _ _ D.l2TO (sB.extBut _ _ D.l2i1 (sA.extBut _ _ D.l2z e))) hy fun hD iD sD=>Tr ?_);have tD:IsPair hD TO x b:=sD.extBut _ _ D.TOi2 tC;refine Tj (UA tD rfl (Tj (Wg tD fun hE tE sE=>Tj (Vi (Tr (Tr ?_))))));have tE:IsPair hE TO x y:=tE;refine Tj (UA tE rfl (Tj (wpAny_newTuple ?_)));have ez:hE.objs.size=s.heap.objs.size:=by rw[sE.1,sD.1,sC.1,sB.1,sA.1]
 have zE:IsZip hE z TI TO .ellipsis:=sE.extBut _ _ D.TOz.symm (sD.extBut _ _ D.i2z.symm (sC.extBut _ _ D.TOz.symm (sB.extBut _ _ D.i1z.symm zA)));have kE:∀c o,c≠z->c≠TO->c≠i1->c≠i2->s.heap.get? c=some o->hE.get? c=some o:=fun c o c1 c2 c3 c4 e=>sE.extBut _ _ c2 (sD.extBut _ _ c4 (sC.extBut _ _ c2 (sB.extBut _ _ c3 (sA.extBut _ _ c1 e))))
 have i1E:IsIt k1 hE i1 l1 (i+1):=iB.at fun o e=>sE.extBut _ _ D.TOi1.symm (sD.extBut _ _ D.i12 (sC.extBut _ _ D.TOi1.symm e))
 have i2E:IsIt k2 hE i2 l2 (i+1):=iD.at fun o e=>sE.extBut _ _ D.TOi2.symm e
 show wpAny _ _ (Builtin.SmallTypes.ownedTupleHandOut (.ref z) (.ref hE.objs.size) >>= _) _ _ _;refine Tj ?_;unfold Builtin.SmallTypes.ownedTupleHandOut;have zF:IsZip (hE.push {cls:=.type "tuple",data:=.seq #[x,y]}) z TI TO .ellipsis:=Heap.get?_push_of_some _ zE;refine Tj (Vv zF (by simp) fun hG zG sG=>?_);have zG:IsZip hG z TI TO (rawInt hE.objs.size):=zG;refine Vv zG (by simp) fun hK zK sK=>?_
 have zK:IsZip hK z TI TO (rawInt hE.objs.size):=zK;have up:∀c o,c≠z->hE.get? c=some o->hK.get? c=some o:=fun c o c1 e=>sK.extBut _ _ c1 (sG.extBut _ _ c1 (Heap.get?_push_of_some _ e))
 have nz:hE.objs.size≠z:=Xa (TC zE);have tK:IsPair hK hE.objs.size x y:=sK.extBut _ _ nz (sG.extBut _ _ nz (Heap.get?_push_size _ rfl));rw[ez]at zK tK;refine Tr ⟨_,rfl,?_⟩;show Q (.ref hE.objs.size) _;rw[ez];exact q hK zK (up _ _ D.TOz tE) (i1E.at fun o e=>up _ o D.i1z e) (i2E.at fun o e=>up _ o D.i2z e) tK fun c o c1 c2 c3 c4 e=>up c o c1 (kE c o c1 c2 c3 c4 e)
theorem Dq{k1 k2:Bool}{z TI TO i1 i2 l1 l2:Addr}{i:Nat}{xs ys:Array Value}{a b:Value}{Q:Fin->Shared->Prop}(hh:A.handled=none)(D:ZipApart z TI TO i1 i2 l1 l2)(hz:IsZip s.heap z TI TO .none)(LF:IsPair s.heap TI (.ref i1) (.ref i2))(Mo:IsPair s.heap TO a b)
  (h1:IsIt k1 s.heap i1 l1 i) (h2:IsIt k2 s.heap i2 l2 i) (g1:IsSq k1 s.heap l1 xs) (g2:IsSq k2 s.heap l2 ys) (he:xs[i]?=none\/ys[i]?=none)
  (q:∀h' e,(∀c o,c≠z->c≠TO->c≠i1->c≠i2->s.heap.get? c=some o->h'.get? c=some o)->(∃o,h'.get? e=some o/\o.cls=.type "StopIteration")->E (.ref e) {s with heap:=h'}):
  wpAny (model prog w) A (Builtin.«zip.__next__» ⟨[.ref z],[]⟩) Q E s:=by
 show wpAny _ _ (field (.ref z) 2 >>= _) _ _ _;refine Tj (US hz rfl (x:=.bool false) rfl ?_);show wpAny _ _ (field (.ref z) 3 >>= _) _ _ _;refine Tj (US hz rfl (x:=.ref TI) rfl (Tj (UA LF rfl ?_)));show wpAny _ _ (Builtin.SmallTypes.ownedTupleIsFree (.ref z) >>= _) _ _ _;refine Tj ?_;unfold Builtin.SmallTypes.ownedTupleIsFree;refine Tj (US hz rfl (x:=.none) rfl (Tr ?_));rw[Tt (by rfl)];refine Tj (WG (Tj (US hz rfl (x:=.ref TO) rfl (Tj (Vv hz (by simp) fun hA zA sA=>?_)))));have zA:IsZip hA z TI TO .ellipsis:=zA;refine Tj ?_;simp only[List.zipIdx_cons,List.zipIdx_nil,Xe,List.forIn_nil];refine Tj (Tj (WO ?_));show wpAny _ _ (Builtin.SmallTypes.nextOf (.ref i1) >>= _) _ _ _;cases hx:xs[i]? with
 |none=>
  refine Tj (zZ hh (h1.at fun o e=>sA.extBut _ _ D.i1z e) (g1.at fun o e=>sA.extBut _ _ D.l1z e) hx fun hB e sB HY=>?_);obtain⟨oe,ge,ce⟩:=HY;have zB:IsZip hB z TI TO .ellipsis:=sB _ _ D.i1z.symm zA;have ne:e≠z:=fun x=>by subst x;rw[zB]at ge;cases ge;simp at ce
  exact Vv zB (by simp) fun hC _ sC=>q hC e (fun c o c1 _ c3 _ x=>sC.extBut _ _ c1 (sB _ _ c3 (sA.extBut _ _ c1 x))) ⟨oe,sC.extBut _ _ ne ge,ce⟩
 |some x=>
  have hy:ys[i]?=none:=by
   rcases he with z|z
   ·rw[hx]at z;cases z
   ·exact z
  refine Tj (qU (h1.at fun o e=>sA.extBut _ _ D.i1z e) (g1.at fun o e=>sA.extBut _ _ D.l1z e) hx fun hB iB sB=>Tr ?_);have tB:IsPair hB TO a b:=sB.extBut _ _ D.TOi1 (sA.extBut _ _ D.TOz Mo);refine Tj (UA tB rfl (Tj (Wg tB fun hC tC sC=>Tj (Vi (Tr ?_)))));refine Tj (Tj (WO ?_));show wpAny _ _ (Builtin.SmallTypes.nextOf (.ref i2) >>= _) _ _ _;refine Tj (zZ hh (h2.at fun o e=>sC.extBut _ _ D.TOi2.symm (sB.extBut _ _ D.i12.symm (sA.extBut _ _ D.i2z e))) (g2.at fun o e=>sC.extBut _ _ D.l2TO (sB.extBut _ _ D.l2i1 (sA.extBut _ _ D.l2z e))) hy fun hD e sD HY=>?_);obtain⟨oe,ge,ce⟩:=HY;have zD:IsZip hD z TI TO .ellipsis:=sD _ _ D.i2z.symm (sC.extBut _ _ D.TOz.symm (sB.extBut _ _ D.i1z.symm zA));have ne:e≠z:=fun x=>by subst x;rw[zD]at ge;cases ge;simp at ce
  exact Vv zD (by simp) fun hF _ sF=>q hF e (fun c o c1 c2 c3 c4 x=>sF.extBut _ _ c1 (sD _ _ c4 (sC.extBut _ _ c2 (sB.extBut _ _ c3 (sA.extBut _ _ c1 x))))) ⟨oe,sF.extBut _ _ ne ge,ce⟩
end
def itObj(k:Bool)(l:Addr):Obj:=match k with
 |true=>{cls:=.type "list_iterator",data:=.fields #[.ref l,.int 0 0]}
 |false=>{cls:=.type "tuple_iterator",data:=.fields #[.ref l,.int 0 0]}
theorem sJ(k:Bool)(h:Heap)(l:Addr):IsIt k (h.push (itObj k l)) h.objs.size l 0:=by
 cases k with
 |true=>exact⟨_,Heap.get?_push_size _ rfl,rfl,rfl⟩
 |false=>exact⟨_,Heap.get?_push_size _ rfl,rfl,rfl⟩
abbrev zA(h:Heap)(k1:Bool)(l1:Addr):Heap:=h.push (itObj k1 l1)
abbrev zB(h:Heap)(k1 k2:Bool)(l1 l2:Addr):Heap:=(zA h k1 l1).push (itObj k2 l2)
abbrev zC(h:Heap)(k1 k2:Bool)(l1 l2:Addr):Heap:=(zB h k1 k2 l1 l2).push {cls:=.type "tuple",data:=.seq #[.ref h.objs.size,.ref (zA h k1 l1).objs.size]}
abbrev zD(h:Heap)(k1 k2:Bool)(l1 l2:Addr):Heap:=(zC h k1 k2 l1 l2).push {cls:=.type "tuple",data:=.seq #[.none,.none]}
abbrev zE(h:Heap)(k1 k2:Bool)(l1 l2:Addr):Heap:=(zD h k1 k2 l1 l2).push {cls:=.type "zip",data:=.fields #[.none,.bool false,.bool false,.ref (zB h k1 k2 l1 l2).objs.size,.ref (zC h k1 k2 l1 l2).objs.size]}
set_option maxHeartbeats 8000000 in
theorem Dr(k1 k2:Bool)(l1 l2:Addr)(xs ys:Array Value):
  Meets (Builtin.«zip.__new__» ⟨[.type "zip",.ref l1,.ref l2],[]⟩) (fun _ R s=>IsSq k1 s.heap l1 xs/\IsSq k2 s.heap l2 ys/\R (.ok (.ret (.ref (zD s.heap k1 k2 l1 l2).objs.size))) {s with heap:=zE s.heap k1 k2 l1 l2}):=
 .of_wp fun prog w A R s h=>by
  obtain⟨hp,g,d,tk,os⟩:=s;obtain⟨g1,g2,q⟩:=h;have MV:=sub_zip;cases k1 with
  |true=>
   have e1:Heap.IsList (Shared.heap ⟨hp,g,d,tk,os⟩) l1 xs:=g1;cases k2 with
   |true=>
    have e2:Heap.IsList (Shared.heap ⟨hp.push {cls:=.type "list_iterator",data:=.fields #[.ref l1,.int 0 0]},g,d,tk,os⟩) l2 ys:=Heap.IsList.push g2 _
    wp_walk using VC e1,VC e2
    exact⟨_,rfl,q⟩
   |false=>
    have e2:Heap.IsTuple (Shared.heap ⟨hp.push {cls:=.type "list_iterator",data:=.fields #[.ref l1,.int 0 0]},g,d,tk,os⟩) l2 ys:=Heap.IsTuple.push g2 _
    wp_walk using VC e1,Vt e2
    exact⟨_,rfl,q⟩
  |false=>
   have e1:Heap.IsTuple (Shared.heap ⟨hp,g,d,tk,os⟩) l1 xs:=g1;cases k2 with
   |true=>
    have e2:Heap.IsList (Shared.heap ⟨hp.push {cls:=.type "tuple_iterator",data:=.fields #[.ref l1,.int 0 0]},g,d,tk,os⟩) l2 ys:=Heap.IsList.push g2 _
    wp_walk using Vt e1,VC e2
    exact⟨_,rfl,q⟩
   |false=>
    have e2:Heap.IsTuple (Shared.heap ⟨hp.push {cls:=.type "tuple_iterator",data:=.fields #[.ref l1,.int 0 0]},g,d,tk,os⟩) l2 ys:=Heap.IsTuple.push g2 _
    wp_walk using Vt e1,Vt e2
    exact⟨_,rfl,q⟩
def ZS(k1 k2:Bool)(z TI TO i1 i2 l1 l2:Addr)(i:Nat)(h:Heap):Prop:=IsZip h z TI TO .none/\IsPair h TI (.ref i1) (.ref i2)/\(∃a b,IsPair h TO a b)/\IsIt k1 h i1 l1 i/\IsIt k2 h i2 l2 i
theorem AX{prog:Program}{w:World}{A:Around}{E:Value->Shared->Prop}{s:Shared}{k1 k2:Bool}{l1 l2:Addr}{xs ys:Array Value}{Q:Value->Shared->Prop}(g1:IsSq k1 s.heap l1 xs)(g2:IsSq k2 s.heap l2 ys)
  (q:∀h',ZS k1 k2 (s.heap.objs.size+4) (s.heap.objs.size+2) (s.heap.objs.size+3) s.heap.objs.size (s.heap.objs.size+1) l1 l2 0 h'->(∀c o,s.heap.get? c=some o->h'.get? c=some o)->Q (.ref (s.heap.objs.size+4)) {s with heap:=h'}):
  wpAny (model prog w) A (call (.type "zip") [.ref l1,.ref l2]) Q E s:=by
 refine callType_new F.called_zip (by decide) (F.typeCall_zip_2 _ _) (F.newCall_zip_2 _ _) (fun obj=>F.args_object_init_3 obj _ _) F.entry_zip_new (Dr k1 k2 l1 l2 xs ys) ⟨g1,g2,?_⟩;have nA:(zA s.heap k1 l1).objs.size=s.heap.objs.size+1:=Vz ..;have nB:(zB s.heap k1 k2 l1 l2).objs.size=s.heap.objs.size+2:=by rw[Vz,nA]
 have nC:(zC s.heap k1 k2 l1 l2).objs.size=s.heap.objs.size+3:=by rw[Vz,nB]
 have nD:(zD s.heap k1 k2 l1 l2).objs.size=s.heap.objs.size+4:=by rw[Vz,nC]
 have pu:∀{h:Heap}{o:Obj}{c:Addr}{v:Obj},h.get? c=some v->(h.push o).get? c=some v:=fun e=>Heap.get?_push_of_some _ e
 have gz:(zE s.heap k1 k2 l1 l2).get? (zD s.heap k1 k2 l1 l2).objs.size=some _:=Heap.get?_push_size _ rfl;have go:(zE s.heap k1 k2 l1 l2).get? (zC s.heap k1 k2 l1 l2).objs.size=some _:=pu (Heap.get?_push_size _ rfl);have gi:(zE s.heap k1 k2 l1 l2).get? (zB s.heap k1 k2 l1 l2).objs.size=some _:=pu (pu (Heap.get?_push_size _ rfl));have j2:IsIt k2 (zE s.heap k1 k2 l1 l2) (zA s.heap k1 l1).objs.size l2 0:=(sJ k2 (zA s.heap k1 l1) l2).at fun o e=>pu (pu (pu e))
 have j1:IsIt k1 (zE s.heap k1 k2 l1 l2) s.heap.objs.size l1 0:=(sJ k1 s.heap l1).at fun o e=>pu (pu (pu (pu e)))
 show _/\_;rw[nB,nC,nD]at gz;rw[nA,nB]at gi;rw[nC]at go;rw[nA]at j2;rw[nD];exact⟨⟨_,gz,rfl⟩,q _ ⟨gz,gi,⟨_,_,go⟩,j1,j2⟩ fun c o x=>pu (pu (pu (pu (pu x))))⟩
noncomputable def RS(K:W.Frag)(k1 k2:Bool)(a b:Addr):It:=
 ⟨fun i H=>∃xs ys x y,(if k1 then SqL K H a xs else SqT K H a xs)/\(if k2 then SqL K H b ys else SqT K H b ys)/\xs[i]?=some x/\ys[i]?=some y,
  fun i H v H'=>∃T,H T=none/\v=.ref T/\∀xs ys x y,(if k1 then SqL K H a xs else SqT K H a xs)->(if k2 then SqL K H b ys else SqT K H b ys)->xs[i]?=some x->ys[i]?=some y->H'=upd H T (.tup [x,y]),
  fun i H=>∃xs ys,(if k1 then SqL K H a xs else SqT K H a xs)/\(if k2 then SqL K H b ys else SqT K H b ys)/\i=min xs.length ys.length⟩
section
variable{X:Cx}{pi:List (Addr×Obj)}{σ:L2.St}{H:Hp}{s:Shared}
theorem ux(I:Inv X pi σ H s){k:Bool}{a:Addr}{xs:List V}(h:if k then SqL X.K H a xs else SqT X.K H a xs):∃us:List Value,Vals xs us/\IsSq k s.heap a us.toArray:=by
 cases k with
 |true=>
  obtain⟨us,r,p,_⟩:=I.list (show SqL X.K H a xs from h);exact⟨us,r,p.isList⟩
 |false=>
  obtain⟨us,r,p,_⟩:=I.tuple (show SqT X.K H a xs from h);exact⟨us,r,(show s.heap.IsTuple a us.toArray from p)⟩
theorem z0(I:Inv X pi σ H s){k:Bool}{a:Addr}{xs ys:List V}(h:if k then SqL X.K H a xs else SqT X.K H a xs)(h':if k then SqL X.K H a ys else SqT X.K H a ys):xs=ys:=by
 cases k with
 |true=>exact I.list_inj (show SqL X.K H a xs from h) (show SqL X.K H a ys from h')
 |false=>exact I.tuple_inj (show SqT X.K H a xs from h) (show SqT X.K H a ys from h')
theorem iK(I:Inv X pi σ H s){k:Bool}{a b:Addr}{xs:List V}(h:if k then SqL X.K H a xs else SqT X.K H a xs)(f:vy X pi H b):a≠b:=by
 rintro rfl;obtain⟨f0,_,_,f3,_⟩:=f;have nb:∀o,X.K.lookup a=some o->False:=fun o hk=>by
  have e:=I.ok.mod.kin a o hk;rcases f3 with z|z
  ·exact I.ok.noex a o e z
  ·exact absurd (TK (TC e) (Uq I.ok.bsz z)) (Vs _)
 cases k with
 |true=>
  rcases(show SqL X.K H a xs from h) with(h|⟨o,h⟩)|⟨o,HB,n,hk,_⟩
  ·rw[f0]at h;cases h
  ·rw[f0]at h;cases h
  ·exact nb o hk
 |false=>
  rcases(show SqT X.K H a xs from h) with(h|⟨o,h⟩)|⟨o,HB,n,hk,_⟩
  ·rw[f0]at h;cases h
  ·rw[f0]at h;cases h
  ·exact nb o hk
end
theorem nx_zip_item{prog:Program}{w:World}{A:Around}{E:Value->Shared->Prop}{s:Shared}{k1 k2:Bool}{z TI TO i1 i2 l1 l2:Addr}{i:Nat}{xs ys:Array Value}{x y:Value}{Q:Option Value->Shared->Prop}(D:ZipApart z TI TO i1 i2 l1 l2)(st:ZS k1 k2 z TI TO i1 i2 l1 l2 i s.heap)
  (g1:IsSq k1 s.heap l1 xs) (g2:IsSq k2 s.heap l2 ys) (hx:xs[i]?=some x) (hy:ys[i]?=some y)
  (q:∀h',IsZip h' z TI TO (rawInt s.heap.objs.size)->IsPair h' TO x y->IsIt k1 h' i1 l1 (i+1)->IsIt k2 h' i2 l2 (i+1)->IsPair h' s.heap.objs.size x y->
   (∀c o,c≠z->c≠TO->c≠i1->c≠i2->s.heap.get? c=some o->h'.get? c=some o)->Q (some (.ref s.heap.objs.size)) {s with heap:=h'}):wpAny (model prog w) A (pyNext (.ref z)) Q E s:=by
 obtain⟨hz,LF,⟨a,b,Mo⟩,h1,h2⟩:=st;have ty:s.TypeIs (.ref z) "zip":=⟨_,hz,rfl⟩
 unfold pyNext;exact Tj (WQ (wpAny_callSpecial?_slot (name:=Str.ofString "__next__") ty Wu (UJ Wu ty F.entry_zip_next (AW D hz LF Mo h1 h2 g1 g2 hx hy fun h' a1 a2 a3 a4 a5 a6=>Tr (q h' a1 a2 a3 a4 a5 a6)) (F.args_zip_next_1 _))))
theorem uy{prog:Program}{w:World}{A:Around}{E:Value->Shared->Prop}{s:Shared}{k1 k2:Bool}{z TI TO i1 i2 l1 l2:Addr}{i:Nat}{xs ys:Array Value}{Q:Option Value->Shared->Prop}(hh:A.handled=none)(D:ZipApart z TI TO i1 i2 l1 l2)(st:ZS k1 k2 z TI TO i1 i2 l1 l2 i s.heap)
  (g1:IsSq k1 s.heap l1 xs) (g2:IsSq k2 s.heap l2 ys) (he:xs[i]?=none\/ys[i]?=none) (q:∀h',(∀c o,c≠z->c≠TO->c≠i1->c≠i2->s.heap.get? c=some o->h'.get? c=some o)->Q none {s with heap:=h'}):wpAny (model prog w) A (pyNext (.ref z)) Q E s:=by
 obtain⟨hz,LF,⟨a,b,Mo⟩,h1,h2⟩:=st;have ty:s.TypeIs (.ref z) "zip":=⟨_,hz,rfl⟩
 unfold pyNext;refine Tj (WQ (wpAny_callSpecial?_slot (name:=Str.ofString "__next__") ty Wu (UJ Wu ty F.entry_zip_next (Dq hh D hz LF Mo h1 h2 g1 g2 he fun h' e kk ⟨o,ho,oc⟩=>?_) (F.args_zip_next_1 _))));exact Tj (wpAny_isInstance (T:="StopIteration") (b:=true) ⟨o,ho,oc⟩ isSubtype_stop (Tr (q _ kk)))
theorem yy{P:Program}{w:World}{K:W.Frag}{es:List Expr}{kt:Nat}{pt:Pos}(k1 k2:Bool)(a b z TI TO i1 i2:Addr)(ne:z≠TI/\z≠TO/\z≠i1/\z≠i2/\TI≠TO/\TI≠i1/\TI≠i2/\TO≠i1/\TO≠i2/\i1≠i2):
  Turn P w K (.Tuple es kt pt) (RS K k1 k2 a b) [z,TI,TO,i1,i2] z (ZS k1 k2 z TI TO i1 i2 a b) where
 mem:=by simp
 obj:=fun i h st c hc=>by
  obtain⟨hz,LF,⟨x,y,Mo⟩,h1,h2⟩:=st;simp only[Tz,Ub,Xs]at hc;rcases hc with rfl|rfl|rfl|rfl|rfl
  ·exact⟨_,hz,fun v q=>by cases q⟩
  ·exact⟨_,LF,fun v q=>by cases q⟩
  ·exact⟨_,Mo,fun v q=>by cases q⟩
  ·exact h1.obj
  ·exact h2.obj
 keep:=fun i h h' st k=>by
  obtain⟨hz,LF,⟨x,y,Mo⟩,h1,h2⟩:=st;exact⟨k z (by simp) _ hz,k TI (by simp) _ LF,⟨x,y,k TO (by simp) _ Mo⟩,h1.at fun o e=>k i1 (by simp) o e,h2.at fun o e=>k i2 (by simp) o e⟩
 item:=by
  intro X hP hw hK hc i pi s σ H E I hf st hg;subst hP hw hK;obtain⟨xs,ys,x,y,s1,s2,hx,hy⟩:=hg;obtain⟨us,r1,q1⟩:=ux I s1;obtain⟨ws,r2,q2⟩:=ux I s2;obtain⟨u,hu,ru⟩:=r1.get hx;obtain⟨v,hv,rv⟩:=r2.get hy;obtain⟨n1,n2,n3,n4,n5,n6,n7,n8,n9,RT⟩:=ne;have f:=fun c hc=>hf c hc
  have D:ZipApart z TI TO i1 i2 a b:=⟨n1.symm,n2.symm,n3.symm,n4.symm,n5,n6,n7,n8,n9,RT,iK I s1 (f z (by simp)),iK I s1 (f TO (by simp)),iK I s1 (f i1 (by simp)),iK I s1 (f i2 (by simp)),
   iK I s2 (f z (by simp)),iK I s2 (f TO (by simp)),iK I s2 (f i1 (by simp)),iK I s2 (f i2 (by simp))⟩
  have LF:=st.2.1;refine nx_zip_item D st q1 q2 (by simpa using hu) (by simpa using hv) fun h' z1 t1 j1 j2 tp kk=>⟨_,rfl,?_⟩
  refine wpAny_letOwnedTupleGo_zip z1 fun h2 z2 sb=>?_
  have nT:H s.heap.objs.size=none:=I.hok.fresh (Ts _);have tT:s.heap.objs.size≠z:=Xa (TC st.1);have all:∀c o,c≠z->c≠TO->c≠i1->c≠i2->s.heap.get? c=some o->h2.get? c=some o:=fun c o c1 c2 c3 c4 e=>(sb.2 c c1).trans (kk c o c1 c2 c3 c4 e)
  have fz:=f z (by simp);have fo:=f TO (by simp);have f1:=f i1 (by simp);have f2:=f i2 (by simp);have LG:∀c ob,H c=some ob->c≠z/\c≠TO/\c≠i1/\c≠i2:=fun c ob e=>⟨(fun q=>by rw[q,fz.1]at e;cases e),(fun q=>by rw[q,fo.1]at e;cases e),(fun q=>by rw[q,f1.1]at e;cases e),(fun q=>by rw[q,f2.1]at e;cases e)⟩
  refine⟨.ref s.heap.objs.size,upd H s.heap.objs.size (.tup [x,y]),?_,rfl,⟨_,nT,rfl,fun IJ ys' x' y' a1 a2 a3 a4=>?_⟩,⟨z2,?_,⟨u,v,(sb.2 TO n2.symm).trans t1⟩,j1.at fun o e=>(sb.2 i1 n3.symm).trans e,j2.at fun o e=>(sb.2 i2 n4.symm).trans e⟩,fun c hc=>?_⟩
  ·have OS:h2.get? s.heap.objs.size=some {cls:=.type "tuple",data:=.seq #[u,v]}:=(sb.2 _ tT).trans tp;have S0:Inv X pi σ (upd H s.heap.objs.size (.tup [x,y])) {s with heap:=h2,gens:=s.gens,drawn:=s.drawn,toks:=s.toks}:=by
    refine I.step (ch:=[z,TO,i1,i2]) (fun c hc=>?_) (fun c o _ _ nc e _=>all c o (fun q=>nc (by simp[q])) (fun q=>nc (by simp[q])) (fun q=>nc (by simp[q])) (fun q=>nc (by simp[q])) e)
     (fun c o _ _ nc e _=>⟨o.slots,all c o (fun q=>nc (by simp[q])) (fun q=>nc (by simp[q])) (fun q=>nc (by simp[q])) (fun q=>nc (by simp[q])) e⟩) (fun c o _ e n=>by rw[aJ (TR (TC e))];exact n)
     (fun c o nc e=>⟨o,all c o (fun q=>nc (by simp[q])) (fun q=>nc (by simp[q])) (fun q=>nc (by simp[q])) (fun q=>nc (by simp[q])) e⟩) (fun c l e=>by rw[aJ (aU e nT)];exact e) (fun c o u' e=>by rw[aJ (aU e nT)];exact e)
     (fun c ps e=>⟨#[],by rw[aJ (aU e nT),e];simp⟩) (fun m hm=>?_) (fun c ob e=>?_) I.bare
    ·simp only[Tz,Ub,Xs]at hc;rcases hc with rfl|rfl|rfl|rfl
     ·exact⟨fz.2.2.2.1,fz.2.1,fz.2.2.2.2.1,fz.2.2.2.2.2⟩
     ·exact⟨fo.2.2.2.1,fo.2.1,fo.2.2.2.2.1,fo.2.2.2.2.2⟩
     ·exact⟨f1.2.2.2.1,f1.2.1,f1.2.2.2.2.1,f1.2.2.2.2.2⟩
     ·exact⟨f2.2.2.2.1,f2.2.1,f2.2.2.2.2.1,f2.2.2.2.2.2⟩
    ·obtain⟨o,es,ep,ho,r⟩:=hm;exact⟨o,es,ep,all _ o (UY fz.2.1) (UY fo.2.1) (UY f1.2.1) (UY f2.2.1) ho,r⟩
    ·by_cases ec:c=s.heap.objs.size
     ·subst ec;rw[aY]at e;cases e;exact⟨by simp only[TJ,Um];rw[UD];decide,[u,v],.cons ru (.cons rv .nil),⟨_,OS,rfl,⟨0,rfl⟩,rfl⟩⟩
     ·rw[aJ ec]at e;refine(I.hok c ob e).stay (fun d w' hd q=>?_) (fun d q=>by rw[aJ (aU q nT)];exact q) fun d l q=>by rw[aJ (aU q nT)];exact q
      have MO:∃oo,H d=some oo:=by
       rcases hd with rfl|hd
       ·exact⟨_,e⟩
       ·exact⟨_,hd⟩
      obtain⟨oo,OT⟩:=MO;obtain⟨m1,m2,m3,m4⟩:=LG d oo OT;exact all d w' m1 m2 m3 m4 q
   exact S0
  ·have e1:=z0 I a1 s1;have e2:=z0 I a2 s2;subst e1 e2;rw[hx]at a3;rw[hy]at a4;cases a3;cases a4;rfl
  ·exact(sb.2 TI n1.symm).trans (kk TI _ n1.symm n5 n6 n7 LF)
  ·have RU:=(f c hc).1;have cs:c≠s.heap.objs.size:=by
    have:=(fun i h st=>by
     exact(by
      obtain⟨hz,LF,⟨x,y,Mo⟩,h1,h2⟩:=st;simp only[Tz,Ub,Xs]at hc;rcases hc with rfl|rfl|rfl|rfl|rfl
      ·exact⟨_,hz⟩
      ·exact⟨_,LF⟩
      ·exact⟨_,Mo⟩
      ·obtain⟨o,e,_⟩:=h1.obj;exact⟨o,e⟩
      ·obtain⟨o,e,_⟩:=h2.obj;exact⟨o,e⟩:∃o,h.get? c=some o):∀i h,ZS k1 k2 z TI TO i1 i2 a b i h->∃o,h.get? c=some o) i s.heap st
    obtain⟨o,e⟩:=this;exact TR (TC e)
   rw[aJ cs];exact RU
 done:=by
  intro X hP hw hK hc i pi s σ H E I hf st hg;subst hP hw hK;obtain⟨xs,ys,s1,s2,hi⟩:=hg;obtain⟨us,r1,q1⟩:=ux I s1;obtain⟨ws,r2,q2⟩:=ux I s2;have l1:=r1.length;have l2:=r2.length;obtain⟨n1,n2,n3,n4,n5,n6,n7,n8,n9,RT⟩:=ne;have f:=fun c hc=>hf c hc
  have D:ZipApart z TI TO i1 i2 a b:=⟨n1.symm,n2.symm,n3.symm,n4.symm,n5,n6,n7,n8,n9,RT,iK I s1 (f z (by simp)),iK I s1 (f TO (by simp)),iK I s1 (f i1 (by simp)),iK I s1 (f i2 (by simp)),
   iK I s2 (f z (by simp)),iK I s2 (f TO (by simp)),iK I s2 (f i1 (by simp)),iK I s2 (f i2 (by simp))⟩
  have fz:=f z (by simp);have fo:=f TO (by simp);have f1:=f i1 (by simp);have f2:=f i2 (by simp);refine uy (I.ok.hd hc) D st q1 q2 (by
   rcases Nat.le_total us.length ws.length with q|q
   ·exact .inl (by simp;lia)
   ·exact .inr (by simp;lia)) fun h' kk=>⟨rfl,?_⟩
  have LG:∀c ob,H c=some ob->c≠z/\c≠TO/\c≠i1/\c≠i2:=fun c ob e=>⟨(fun q=>by rw[q,fz.1]at e;cases e),(fun q=>by rw[q,fo.1]at e;cases e),(fun q=>by rw[q,f1.1]at e;cases e),(fun q=>by rw[q,f2.1]at e;cases e)⟩
  have S0:Inv X pi σ H {s with heap:=h',gens:=s.gens,drawn:=s.drawn,toks:=s.toks}:=by
   refine I.step (ch:=[z,TO,i1,i2]) (fun c hc=>?_) (fun c o _ _ nc e _=>kk c o (fun q=>nc (by simp[q])) (fun q=>nc (by simp[q])) (fun q=>nc (by simp[q])) (fun q=>nc (by simp[q])) e)
    (fun c o _ _ nc e _=>⟨o.slots,kk c o (fun q=>nc (by simp[q])) (fun q=>nc (by simp[q])) (fun q=>nc (by simp[q])) (fun q=>nc (by simp[q])) e⟩) (fun c o _ e n=>n)
    (fun c o nc e=>⟨o,kk c o (fun q=>nc (by simp[q])) (fun q=>nc (by simp[q])) (fun q=>nc (by simp[q])) (fun q=>nc (by simp[q])) e⟩) (fun c l e=>e) (fun c o u' e=>e)
    (fun c ps e=>⟨#[],by rw[e];simp⟩) (fun m hm=>?_) (fun c ob e=>?_) I.bare
   ·simp only[Tz,Ub,Xs]at hc;rcases hc with rfl|rfl|rfl|rfl
    ·exact⟨fz.2.2.2.1,fz.2.1,fz.2.2.2.2.1,fz.2.2.2.2.2⟩
    ·exact⟨fo.2.2.2.1,fo.2.1,fo.2.2.2.2.1,fo.2.2.2.2.2⟩
    ·exact⟨f1.2.2.2.1,f1.2.1,f1.2.2.2.2.1,f1.2.2.2.2.2⟩
    ·exact⟨f2.2.2.2.1,f2.2.1,f2.2.2.2.2.1,f2.2.2.2.2.2⟩
   ·obtain⟨o,es,ep,ho,r⟩:=hm;exact⟨o,es,ep,kk _ o (UY fz.2.1) (UY fo.2.1) (UY f1.2.1) (UY f2.2.1) ho,r⟩
   ·refine(I.hok c ob e).stay (fun d w' hd q=>?_) (fun d q=>q) fun d l q=>q
    have MO:∃oo,H d=some oo:=by
     rcases hd with rfl|hd
     ·exact⟨_,e⟩
     ·exact⟨_,hd⟩
    obtain⟨oo,OT⟩:=MO;obtain⟨m1,m2,m3,m4⟩:=LG d oo OT;exact kk d w' m1 m2 m3 m4 q
  exact S0
 self:=fun _ _ _ _ _ st h=>wpAny_pyIter_zip st.1 h
section
variable{X:Cx}{es:List Expr}{kt:Nat}{pt:Pos}
def GU(K:W.Frag)(k1 k2:Bool)(ta:TA):TI:=fun σ H R=>ta σ H fun vs H1=>∃a b xs ys,vs=[.ref a,.ref b]/\(if k1 then SqL K H1 a xs else SqT K H1 a xs)/\(if k2 then SqL K H1 b ys else SqT K H1 b ys)/\R (RS K k1 k2 a b) H1
theorem Ds(k1 k2:Bool){e1 e2:Expr}{ta:TA}{p pos:Pos}(hg:Gl X "zip")(hm:X.mg "zip" = none)(ha:PA X [e1,e2] ta)(he:starEach [e1,e2] X.env=(false,eval e1 X.env)::starEach [e2] X.env:=by rfl)(JC:(backTo pos (starEach [e2] X.env)).any (·.1)=false:=by rfl):
  PI X (.Tuple es kt pt) (.Call (.Name "zip" p) [e1,e2] [] pos) (GU X.K k1 k2 ta):=by
 intro pi s σ H R I h;refine Vu (kG I hg hm (by decide +kernel:bootBuiltins "zip" = some (.type "zip")) ?_ (by decide) (by decide));refine Vg (HW (ha pos pi s σ H _ I h) fun us s1 ⟨vs,H1,I1,r1,a,b,xs,ys,e,s1',s2',q⟩=>?_) he JC;subst e;obtain⟨u,w',rfl,ra,rb⟩:=ym r1;cases ra;cases rb;obtain⟨us,v1,q1⟩:=ux I1 s1';obtain⟨ws,v2,q2⟩:=ux I1 s2';refine AX q1 q2 fun h' st kk=>?_
 refine wpAny_pyIter_zip st.1 ?_;have fr:∀j,vy X pi H1 (s1.heap.objs.size+j):=fun j=>I1.fpOk (Nat.le_add_right _ _) (I1.hok.fresh (Nat.le_add_right _ _))
 have nn:∀i j:Nat,i≠j->s1.heap.objs.size+i≠s1.heap.objs.size+j:=fun i j h z=>h (Nat.add_left_cancel z)
 refine⟨_,_,_,_,H1,rfl,I1.kept (t':=s1.toks) kk,yy k1 k2 a b (s1.heap.objs.size+4) (s1.heap.objs.size+2) (s1.heap.objs.size+3) (s1.heap.objs.size+0) (s1.heap.objs.size+1)
  ⟨nn 4 2 (by decide),nn 4 3 (by decide),nn 4 0 (by decide),nn 4 1 (by decide),nn 2 3 (by decide),nn 2 0 (by decide),nn 2 1 (by decide),nn 3 0 (by decide),nn 3 1 (by decide),nn 0 1 (by decide)⟩,st,fun c hc=>?_,q⟩
 simp only[Tz,Ub,Xs]at hc;rcases hc with rfl|rfl|rfl|rfl|rfl
 ·exact fr 4
 ·exact fr 2
 ·exact fr 3
 ·exact fr 0
 ·exact fr 1
end
end NX
namespace NX
open PySem PySem.W PyProof.Rows
section
variable{n:Nat}{O:KeyOrd}{κ:Nat->O.α}{cmp:Nat->Nat->(Bool->Shared->Prop)->Shared->Prop}{Good:Shared->Prop}
def kk(κ:Nat->O.α)(p:Array Nat)(i:Nat):O.α:=κ (p.getD i 0)
structure POk(n:Nat)(p:Array Nat):Prop where
 perm:p.toList.Perm (List.range n)
theorem POk.size{p:Array Nat}(h:POk n p):p.size=n:=by
 have:=h.perm.length_eq;simpa using this
theorem POk.lt{p:Array Nat}(h:POk n p){i:Nat}(hi:i<n):p.getD i 0<n:=by
 have hs:=h.size;have NF:i<p.size:=by lia
 have e:p.getD i 0=p[i]:=by simp[Array.getD,NF]
 rw[e];exact Uz.mp (h.perm.mem_iff.mp (Array.getElem_mem_toList NF))
theorem POk.of{p q:Array Nat}(h:POk n p)(hq:q.Perm p):POk n q:=⟨(Array.perm_iff_toList_perm.mp hq).trans h.perm⟩
def bu(κ:Nat->O.α)(p:Array Nat)(m:Nat):Prop:=∀i j,i<=j->j<m->O.kle (kk κ p i) (kk κ p j)
def f9(κ:Nat->O.α)(p:Array Nat)(m:Nat):Prop:=∀i j,i<=j->j<m->O.kle (kk κ p j) (kk κ p i)
theorem fM{p q:Array Nat}{i j:Nat}(h:p[i]?=q[j]?):p.getD i 0=q.getD j 0:=by
 rw[Wv,Wv,h]
theorem sL{p:Array Nat}{i j:Nat}(hj:j<=p.size)(k:Nat):kk κ (kas_rev p i j) k=if i<=k/\k<j then kk κ p (i+j-1-k) else kk κ p k:=by
 have e:=getElem?_mirror_all (i:=i) hj k;unfold kk kas_rev;split
 ·rename_i h;rw[Tt h]at e;rw[fM e]
 ·rename_i h;rw[TB h]at e;rw[fM e]
theorem z4{p:Array Nat}{src d:Nat}(hs:src<p.size)(hd:d<=src)(k:Nat):kk κ (bubble p src d) k=if k=src-d then kk κ p src else if src-d<k/\k<=src then kk κ p (k-1) else kk κ p k:=by
 have e:=getElem?_bubble hs d hd k;by_cases h:k=src-d
 ·rw[Tt h]at e ⊢;exact UN κ (fM e)
 ·rw[TB h]at e ⊢;by_cases h2:src-d<k/\k<=src
  ·rw[Tt h2]at e ⊢;exact UN κ (fM e)
  ·rw[TB h2]at e ⊢;exact UN κ (fM e)
theorem POk.rev{p:Array Nat}(h:POk n p)(i j:Nat):POk n (kas_rev p i j):=h.of (mirror_perm _ _ _ _)
theorem POk.bub{p:Array Nat}(h:POk n p)(i j:Nat):POk n (bubble p i j):=h.of (bubble_perm _ _ _)
theorem uz(p:Array Nat):bu κ p 1:=fun i j a b=>by
 have e:i=j:=by lia
 rw[e];exact Vj _
theorem qV{p:Array Nat}{m:Nat}(h1:1<=m)(h:bu κ p m)(hm:O.kle (kk κ p (m-1)) (kk κ p m)):bu κ p (m+1):=by
 intro i j NG hj;by_cases e:j=m
 ·subst e;by_cases e2:i=j
  ·subst e2;exact Vj _
  ·exact We (h i (j-1) (by lia) (by lia)) hm
 ·exact h i j NG (by lia)
theorem fN{p:Array Nat}{m:Nat}(h1:1<=m)(h:f9 κ p m)(hm:O.kle (kk κ p m) (kk κ p (m-1))):f9 κ p (m+1):=by
 intro i j NG hj;by_cases e:j=m
 ·subst e;by_cases e2:i=j
  ·subst e2;exact Vj _
  ·exact We hm (h i (j-1) (by lia) (by lia))
 ·exact h i j NG (by lia)
variable(hc:∀i j,i<n->j<n->∀(Q:Bool->Shared->Prop) s,Good s->(∀s',Good s'->Q (O.blt (κ i) (κ j)) s')->cmp i j Q s)
include hc
theorem wo{p:Array Nat}(hp:POk n p){Iq:Nat}(hn:Iq<=n){Q:Nat->Shared->Prop}:∀(f m:Nat) (s:Shared),Good s->1<=m->m+f=Iq->bu κ p m->
  (∀r s',Good s'->m<=r->r<=Iq->bu κ p r->(r<Iq->O.klt (kk κ p r) (kk κ p (r-1)))->Q r s')->(kas_asc p f m).kasWp cmp Q s
 | 0,m,s,g,h1,hf,hs,k=>k m s g (Ts _) (by lia) hs (fun z=>by lia)
 |f+1,m,s,g,h1,hf,hs,k=>by
  show cmp (p.getD m 0) (p.getD (m-1) 0) _ s;refine hc _ _ (hp.lt (by lia)) (hp.lt (by lia)) _ s g fun s' g'=>?_
  cases e:O.blt (κ (p.getD m 0)) (κ (p.getD (m-1) 0)) with
  |true=>
   (try dsimp only)
   rw[Tt rfl];exact k m s' g' (Ts _) (by lia) hs fun _=>e
  |false=>
   (try dsimp only)
   rw[TB Tw];exact wo hp hn f (m+1) s' g' (by lia) (by lia) (qV h1 hs e) fun r s2 g2 a b c d=>k r s2 g2 (by lia) b c d
def AY(κ:Nat->O.α)(p:Array Nat)(m q:Nat):Prop:=∀k,m-(q+1)<=k->k<m->kk κ p k=kk κ p (m-1)
omit hc in
theorem pU{p:Array Nat}{m q:Nat}(hm:m<=p.size)(h:AY κ p m q)(k:Nat):kk κ (kas_rev p (m-(q+1)) m) k=kk κ p k:=by
 rw[sL hm];split
 ·rename_i hk;rw[h _ (by lia) (by lia),h k hk.1 hk.2]
 ·rfl
omit hc in
theorem ki{p p':Array Nat}{m:Nat}(e:∀k,kk κ p' k=kk κ p k)(h:f9 κ p m):f9 κ p' m:=fun i j a b=>by rw[e,e];exact h i j a b
theorem oy{Iq:Nat}(hn:Iq<=n){Q:Array Nat×Nat×Nat->Shared->Prop}:∀(f:Nat) (p:Array Nat) (m q:Nat) (s:Shared),POk n p->Good s->1<=m->q+1<=m->m+f=Iq->f9 κ p m->AY κ p m q->
  (∀p' m' q' s',POk n p'->Good s'->m<=m'->m'<=Iq->q'+1<=m'->f9 κ p' m'->AY κ p' m' q'->Q (p',m',q') s')->(kas_desc f p m q).kasWp cmp Q s
 | 0,p,m,q,s,hp,g,h1,hq,hf,hs,ha,k=>k p m q s hp g (Ts _) (by lia) hq hs ha
 |f+1,p,m,q,s,hp,g,h1,hq,hf,hs,ha,k=>by
  show cmp (p.getD m 0) (p.getD (m-1) 0) _ s;refine hc _ _ (hp.lt (by lia)) (hp.lt (by lia)) _ s g fun s' g'=>?_
  have hsz:=hp.size;cases e:O.blt (κ (p.getD m 0)) (κ (p.getD (m-1) 0)) with
  |true=>
   (try dsimp only)
   rw[Tt rfl];have le:O.kle (kk κ p m) (kk κ p (m-1)):=V7 e;by_cases h0:q>0
   ·rw[Tt h0];have same:=pU (κ:=κ) (p:=p) (m:=m) (q:=q) (by lia) ha;refine oy hn f _ (m+1) 0 s' (hp.rev _ _) g' (by lia) (by lia) (by lia) (fN h1 (ki same hs) (by rw[same,same];exact le)) ?_ fun p' m' q' s2 a b c d e' f' g2=>k p' m' q' s2 a b (by lia) d e' f' g2
    intro k' a b;have:k'=m:=by lia
    rw[this];rfl
   ·rw[TB h0];refine oy hn f p (m+1) 0 s' hp g' (by lia) (by lia) (by lia) (fN h1 hs le) ?_ fun p' m' q' s2 a b c d e' f' g2=>k p' m' q' s2 a b (by lia) d e' f' g2
    intro k' a b;have:k'=m:=by lia
    rw[this];rfl
  |false=>
   (try dsimp only)
   rw[TB Tw];show cmp (p.getD (m-1) 0) (p.getD m 0) _ s';refine hc _ _ (hp.lt (by lia)) (hp.lt (by lia)) _ s' g' fun s2 g2=>?_
   cases e2:O.blt (κ (p.getD (m-1) 0)) (κ (p.getD m 0)) with
   |true=>
    (try dsimp only)
    rw[Tt rfl];exact k p m q s2 hp g2 (Ts _) (by lia) hq hs ha
   |false=>
    (try dsimp only)
    rw[TB Tw];have eq:kk κ p (m-1)=kk κ p m:=KeyOrd.kle_antisymm (O:=O) e e2;refine oy hn f p (m+1) (q+1) s2 hp g2 (by lia) (by lia) (by lia) (fN h1 hs (by rw[eq];exact Vj _)) ?_ fun p' m' q' s3 a b c d e' f' g3=>k p' m' q' s3 a b (by lia) d e' f' g3
    intro k' a b;show kk κ p k'=kk κ p m;by_cases z:k'=m
    ·rw[z]
    ·rw[ha k' (by lia) (by lia),eq]
omit hc in
theorem uA{p:Array Nat}{m:Nat}(hm:m<=p.size)(h:f9 κ p m):bu κ (kas_rev p 0 m) m:=by
 intro i j a b;rw[sL hm,sL hm,Tt (by lia),Tt (by lia)];exact h _ _ (by lia) (by lia)
theorem wq{p:Array Nat}(hp:POk n p){m Iq:Nat}(hn:Iq<=n)(h1:1<=m)(hm:m<=Iq)(hs:f9 κ p m){Q:Nat×Array Nat->Shared->Prop}{s:Shared}(g:Good s)
  (k:∀r p' s',POk n p'->Good s'->1<=r->r<=Iq->bu κ p' r->Q (r,p') s'):(kas_tail3 m Iq p).kasWp cmp Q s:=by
 unfold kas_tail3;rw[KasT.kasWp_bind];have hsz:=hp.size;refine wo hc (hp.rev 0 m) hn (Iq-m) m s g h1 (by lia) (uA (by lia) hs) fun r s' g' a b c _=>?_
 exact k r _ s' (hp.rev 0 m) g' (by lia) b c
theorem lV{p:Array Nat}(hp:POk n p){m Iq:Nat}(hn:Iq<=n)(h1:1<=m)(hm:m+1<=Iq)(hs:f9 κ p (m+1)){Q:Nat×Array Nat->Shared->Prop}{s:Shared}(g:Good s)
  (k:∀r p' s',POk n p'->Good s'->1<=r->r<=Iq->bu κ p' r->Q (r,p') s'):(kas_descPart m Iq p).kasWp cmp Q s:=by
 unfold kas_descPart;rw[KasT.kasWp_bind];refine oy hc hn (Iq-(m+1)) p (m+1) 0 s hp g (by lia) (by lia) (by lia) hs ?_ fun p' m' q' s' a b c d e f g2=>?_
 ·intro k' a b;have:k'=m:=by lia
  rw[this];rfl
 ·have hsz:=a.size;dsimp only;split
  ·have same:=pU (κ:=κ) (p:=p') (m:=m') (q:=q') (by lia) g2;exact wq hc (a.rev _ _) hn (by lia) d (ki same f) b k
  ·exact wq hc a hn (by lia) d f b k
theorem yz{p:Array Nat}(hp:POk n p){Iq:Nat}(hn:Iq<=n)(h1:1<=Iq){Q:Nat×Array Nat->Shared->Prop}{s:Shared}(g:Good s)
  (k:∀r p' s',POk n p'->Good s'->1<=r->r<=Iq->bu κ p' r->Q (r,p') s'):(kas_count Iq p).kasWp cmp Q s:=by
 unfold kas_count;rw[KasT.kasWp_bind];have hsz:=hp.size;refine wo hc hp hn (Iq-1) 1 s g (Ts _) (by lia) (uz p) fun m s' g' a b c d=>?_
 by_cases e:m=Iq
 ·rw[Tt (by simpa using e)];exact k m p s' hp g' (by lia) (by lia) c
 ·rw[TB (by simpa using e)];have dd:=d (by lia);by_cases h2:m>1
  ·rw[Tt h2];show cmp (p.getD 0 0) (p.getD (m-1) 0) _ s';refine hc _ _ (hp.lt (by lia)) (hp.lt (by lia)) _ s' g' fun s2 g2=>?_
   cases e2:O.blt (κ (p.getD 0 0)) (κ (p.getD (m-1) 0)) with
   |true=>
    (try dsimp only)
    rw[Tt rfl];exact k m p s2 hp g2 (by lia) b c
   |false=>
    (try dsimp only)
    rw[TB Tw];have eq:∀i,i<m->kk κ p i=kk κ p 0:=fun i hi=>by
     have x1:=c 0 i (by lia) hi;have x2:=c i (m-1) (by lia) (by lia);exact KeyOrd.kle_antisymm (O:=O) (We x2 e2) x1
    have same:∀i,kk κ (kas_rev p 0 m) i=kk κ p i:=fun i=>by
     rw[sL (by lia)];split
     ·rw[eq _ (by lia),eq i (by lia)]
     ·rfl
    refine lV hc (hp.rev 0 m) hn (by lia) (by lia) ?_ g2 k;refine ki same (fN (by lia) (fun i j x y=>?_) (V7 dd));rw[eq i (by lia),eq j y];exact Vj _
  ·rw[TB h2];refine lV hc hp hn (by lia) (by lia) (fN (by lia) (fun i j x y=>?_) (V7 dd)) g' k;have:i=j:=by lia
   rw[this];exact Vj _
theorem oz{p:Array Nat}(hp:POk n p){t:Nat}(ht:t<n)(hs:bu κ p t){Q:Nat->Shared->Prop}:∀(f l r:Nat) (s:Shared),Good s->l<=r->r<=t->r-l<=f->(∀i,i<l->O.kle (kk κ p i) (kk κ p t))->(∀i,r<=i->i<t->O.klt (kk κ p t) (kk κ p i))->
  (∀x s',Good s'->x<=t->(∀i,i<x->O.kle (kk κ p i) (kk κ p t))->(∀i,x<=i->i<t->O.klt (kk κ p t) (kk κ p i))->Q x s')->(kas_place p t f l r).kasWp cmp Q s
 | 0,l,r,s,g,h1,h2,h3,lo,hi,k=>k l s g (by lia) lo fun i a b=>hi i (by lia) b
 |f+1,l,r,s,g,h1,h2,h3,lo,hi,k=>by
  unfold kas_place;by_cases e:l>=r
  ·rw[Tt e];exact k l s g (by lia) lo fun i a b=>hi i (by lia) b
  ·rw[TB e];show cmp (p.getD t 0) (p.getD ((l+r) / 2) 0) _ s;refine hc _ _ (hp.lt ht) (hp.lt (by lia)) _ s g fun s' g'=>?_
   cases e2:O.blt (κ (p.getD t 0)) (κ (p.getD ((l+r) / 2) 0)) with
   |true=>
    (try dsimp only)
    rw[Tt rfl];refine oz hp ht hs f l ((l+r) / 2) s' g' (by lia) (by lia) (by lia) lo (fun i a b=>?_) k;exact KeyOrd.klt_of_klt_of_kle (O:=O) e2 (hs _ i a b)
   |false=>
    (try dsimp only)
    rw[TB Tw];refine oz hp ht hs f ((l+r) / 2+1) r s' g' (by lia) (by lia) (by lia) (fun i a=>?_) hi k;exact We (O:=O) (hs i ((l+r) / 2) (by lia) (by lia)) e2
theorem z5{Q:Array Nat->Shared->Prop}:∀(f:Nat) (p:Array Nat) (t:Nat) (s:Shared),POk n p->Good s->t+f=n->bu κ p t->(∀p' s',POk n p'->Good s'->bu κ p' n->Q p' s')->(kas_bin f p t).kasWp cmp Q s
 | 0,p,t,s,hp,g,hf,hs,k=>k p s hp g (by rw[show n=t by lia];exact hs)
 |f+1,p,t,s,hp,g,hf,hs,k=>by
  unfold kas_bin;rw[KasT.kasWp_bind];have hsz:=hp.size;refine oz hc hp (by lia) hs t 0 t s g (Uj _) (Ts _) (by lia) (fun i a=>by lia) (fun i a b=>by lia) fun x s' g' hx lo hi=>?_
  refine z5 f _ (t+1) s' (hp.bub _ _) g' (by lia) ?_ k;have ex:t-(t-x)=x:=by lia
  intro i j a b;rw[z4 (by lia) (by lia),z4 (by lia) (by lia),ex];have lo':=lo;by_cases i1:i=x
  ·by_cases j1:j=x
   ·rw[Tt i1,Tt j1];exact Vj _
   ·rw[Tt i1,TB j1,Tt (by lia)];exact V7 (hi (j-1) (by lia) (by lia))
  ·rw[TB i1];by_cases i2:x<i/\i<=t
   ·rw[Tt i2,TB (by lia),Tt (by lia)];exact hs (i-1) (j-1) (by lia) (by lia)
   ·rw[TB i2];by_cases j1:j=x
    ·rw[Tt j1];exact lo i (by lia)
    ·rw[TB j1];by_cases j2:x<j/\j<=t
     ·rw[Tt j2];exact hs i (j-1) (by lia) (by lia)
     ·rw[TB j2];exact hs i j a (by lia)
theorem AZ(h1:1<=n){Q:Array Nat->Shared->Prop}{s:Shared}(g:Good s)(k:∀p s',POk n p->Good s'->bu κ p n->Q p s'):(kas_sort n).kasWp cmp Q s:=by
 unfold kas_sort;rw[KasT.kasWp_bind];refine yz hc (p:=List.toArray (List.range n)) ⟨by simp⟩ (Ts _) h1 g fun r p' s' hp g' a b c=>?_
 dsimp only;split
 ·have e:max r 1=r:=by lia
  rw[e];exact z5 hc (n-r) p' r s' hp g' (by lia) c k
 ·exact k p' s' hp g' (by rw[show n=r by lia];exact c)
end
end NX
namespace NX
open PySem PySem.W PySem.Spec PyProof.Rows L2
section
variable{prog:Program}{w:World}{A:Around}{E:Value->Shared->Prop}{s:Shared}
theorem sM(n:Nat):POk n (List.toArray (List.range n)):=⟨by simp⟩
theorem jz{O:KeyOrd}{key:Nat->O.α}{kd:SortKind}{a:Addr}{vs:List Value}{n:Nat}{P:PySem.Fin->Shared->Prop}(ho:s.heap.get? a=some (seqObj "list" vs.toArray n))(Mp:vs.length<64)
  (Kj:2<=vs.length->∀(h':Heap),(∀b o,b≠a->s.heap.get? b=some o->h'.get? b=some o)->∀Q:SortKind->Shared->Prop,Q kd {s with heap:=h'}->wpAny (model prog w) A (keyKind' vs.toArray) Q E {s with heap:=h'})
  (MW:∀i j,i<vs.length->j<vs.length->∀(h':Heap),(∀b o,b≠a->s.heap.get? b=some o->h'.get? b=some o)->∀C:Bool->Shared->Prop,C (O.blt (key i) (key j)) {s with heap:=h'}->kas_ask prog w A kd vs i j C {s with heap:=h'})
  (h:∀p h',POk vs.length p->bu key p vs.length->(∃e,h'.get? a=some (seqObj "list" (List.toArray (p.toList.map fun i=>vs.getD i .none)) e))->(∀b o,b≠a->s.heap.get? b=some o->h'.get? b=some o)->P (.done (.ret .none)) {s with heap:=h'}):
  wpAny (model prog w) A (Builtin.«list.sort» ⟨[.ref a],[]⟩) P E s:=by
 rw[list_sort_plain];have la:a<s.heap.objs.size:=TC ho;have zs:vs.toArray.size=vs.length:=by simp
 refine Tj (listItems_at ho rfl (Tj (listUpdate_at ho rfl ?_ (by rw[zs,UD];lia) (Uj _))));obtain⟨e1,h1⟩:∃e1,(s.heap.update a (Obj.mapSeq fun _=>#[])).get? a=some (seqObj "list" #[] e1):=⟨_,get?_update_seq ho (fun _=>#[])⟩
 refine Tj (seqEpoch_at h1 rfl (Tj (wpAny_newTuple (Tj (XX (U2 ?_))) (by simp only[VU];rw[UD];lia))));generalize e6:((s.heap.update a (Obj.mapSeq fun _=>#[])).push {cls:=.type "tuple",data:=.seq vs.toArray.toList.toArray}).push {cls:=.type "list",data:=.seq ([]:List Value).toArray}=h6;have k6:∀b o,b≠a->s.heap.get? b=some o->h6.get? b=some o:=fun b o nb e=>by
  rw[<-e6];exact Heap.get?_push_of_some _ (Heap.get?_push_of_some _ ((Heap.get?_update_other _ _ (UY nb)).trans e))
 have Qn:h6.get? a=some (seqObj "list" #[] e1):=by
  rw[<-e6];exact Heap.get?_push_of_some _ (Heap.get?_push_of_some _ h1)
 dsimp only;have fin:∀(p:Array Nat),POk vs.length p->bu key p vs.length->∀out:Array Value,out=List.toArray (p.toList.map fun i=>vs.getD i .none)->
   P (.done (.ret .none)) {s with heap:=h6.update a (Obj.mapSeq fun _=>out)}:=fun p hp hs out eo=>by
  subst eo;exact h p _ hp hs ⟨_,get?_update_seq Qn _⟩ fun b o nb e=>(Heap.get?_update_other _ _ (UY nb)).trans (k6 b o nb e)
 have fits:∀{out:Array Value}{p:Array Nat},POk vs.length p->out=List.toArray (p.toList.map fun i=>vs.getD i .none)->out.size<=sizeLine+1:=fun{out p} hp e=>by
  rw[e,Tv,To,hp.perm.length_eq,TH,UD];lia
 by_cases h2:vs.toArray.size<2
 ·rw[Tt h2,Tt h2];refine Tj (Tr ?_);rw[StateT.run_pure];refine Tj (Tr ?_);dsimp only;have eo:(arrOf (SortSt.mk' general' (vs.toArray.zip vs.toArray) #[] 7 none)).map (·.2)=List.toArray ((List.toArray (List.range vs.length)).toList.map fun i=>vs.getD i .none):=by
   show(vs.toArray.zip vs.toArray).map (·.2)=_;apply Array.toList_inj.mp;simp only[Array.toList_map,Array.toList_zip,VU];have a1:(vs.zip vs).map (·.2)=vs:=by
    rw[List.map_snd_zip];exact Ts _
   rw[a1];apply V8;intro i;by_cases hi:i<vs.length
   ·simp[hi]
   ·simp[hi]
  refine Tj (seqEpoch_at Qn rfl (Tj (listUpdate_at Qn rfl ?_ (Uj _) (fits (sM _) eo))));simp only[WC,UT,Wi];refine Tr (fin _ (sM _) ?_ _ eo);intro i j x y;have:i=j:=by lia
  rw[this];exact Vj _
 ·rw[TB h2,TB h2];have SG:2<=vs.length:=by lia
  refine Tj (Kj SG h6 k6 _ ?_);refine Tj (VX (kat_run (ks:=vs) (vs:=vs) (Q:=fun JZ s'=>∃p,POk vs.length p/\bu key p vs.length/\arrOf JZ=p.map (kas_item (vs.toArray.zip vs.toArray))/\failedOf JZ=none/\s'={s with heap:=h6})
   (G:=fun p s'=>POk vs.length p/\bu key p vs.length/\s'={s with heap:=h6}) rfl SG Mp (fun p JZ s' hz RV hf hg=>⟨p,hg.1,hg.2.1,RV,hf,hg.2.2⟩)
   (AZ (n:=vs.length) (O:=O) (κ:=key) (Good:=fun s'=>s'={s with heap:=h6}) (fun i j hi hj Q s' g k=>?_) (by lia) rfl fun p s' hp g hs=>⟨hp,hs,g⟩)) (fun r s' hq=>?_) fun _ _ e=>e)
  ·subst g;exact MW i j hi hj h6 k6 Q (k _ rfl)
  ·obtain⟨p,hp,hs,RV,hf,rfl⟩:=hq;have eo:=kat_snds (ks:=vs) (vs:=vs) rfl RV;refine Tj (seqEpoch_at Qn rfl (Tj (listUpdate_at Qn rfl ?_ (Uj _) (fits hp eo))));rw[hf];simp only[WC,UT,Wi];exact Tr (fin p hp hs _ eo)
theorem kj{O:KeyOrd}{key:Nat->O.α}{kd:SortKind}{l:Addr}{vs:List Value}{Q:Value->Shared->Prop}(hl:s.heap.IsList l vs.toArray)(Mp:vs.length<64)
  (Kj:2<=vs.length->∀(A':Around) (E':Value->Shared->Prop) (h':Heap),(∀b o,s.heap.get? b=some o->h'.get? b=some o)->∀Q:SortKind->Shared->Prop,Q kd {s with heap:=h'}->wpAny (model prog w) A' (keyKind' vs.toArray) Q E' {s with heap:=h'})
  (MW:∀i j,i<vs.length->j<vs.length->∀(h':Heap),(∀b o,s.heap.get? b=some o->h'.get? b=some o)->∀C:Bool->Shared->Prop,C (O.blt (key i) (key j)) {s with heap:=h'}->kas_ask prog w A.in1.in1 kd vs i j C {s with heap:=h'})
  (h:∀p h' e,POk vs.length p->bu key p vs.length->h'.get? (s.heap.objs.size+1)=some (seqObj "list" (List.toArray (p.toList.map fun i=>vs.getD i .none)) e)->(∀b o,s.heap.get? b=some o->h'.get? b=some o)->Q (.ref (s.heap.objs.size+1)) {s with heap:=h'}):
  wpAny (model prog w) A (call (.builtin "sorted") [.ref l]) Q E s:=by
 refine VR kind_sorted plain_sorted entry_sorted (args_sorted1 _) ?_;unfold Builtin.«sorted»;refine Tj (m:=checkCount "sorted" 1 1 _) (Tr (Tj (collect_list hl (Tj (XX ?_ (by rw[UD];lia))) (by rw[UD];lia))));have zz:((s.heap.push (seqObj "list" #[] 0)).update s.heap.objs.size (Obj.mapSeq (·++vs.toArray))).objs.size=s.heap.objs.size+1:=by rw[Heap.size_update,size_push']
 generalize e5:(s.heap.push (seqObj "list" #[] 0)).update s.heap.objs.size (Obj.mapSeq (·++vs.toArray))=h5 at zz ⊢;have k5:∀b o,s.heap.get? b=some o->(h5.push (seqObj "list" vs.toArray 0)).get? b=some o:=fun b o e=>by
  rw[<-e5];exact Heap.get?_push_of_some _ ((Heap.get?_update_other _ _ (UY (TR (TC e)))).trans (Heap.get?_push_of_some _ e))
 have hL:(h5.push (seqObj "list" vs.toArray 0)).get? (s.heap.objs.size+1)=some (seqObj "list" vs.toArray 0):=by
  rw[<-zz];exact Heap.get?_push_size _ rfl
 have ne:∀b o,s.heap.get? b=some o->b≠s.heap.objs.size+1:=fun b o e=>TR (WE (TC e))
 show wpAny _ _ _ _ _ {s with heap:=h5.push (seqObj "list" vs.toArray 0)};rw[zz];refine Tj (U2 (UJ slot_list_sort ⟨_,hL,rfl⟩ entry_list_sort (jz (key:=key) (kd:=kd) hL Mp (fun h2 h' kk Q' q=>Kj h2 _ _ h' (fun b o e=>kk b o (ne b o e) (k5 b o e)) Q' q)
  (fun i j hi hj h' kk C q=>MW i j hi hj h' (fun b o e=>kk b o (ne b o e) (k5 b o e)) C q) fun p h' hp hs ⟨e,he⟩ kk=>⟨_,rfl,?_⟩) (args_list_sort _)))
 exact Tr ⟨_,rfl,h p h' e hp hs he fun b o q=>kk b o (ne b o q) (k5 b o q)⟩
end
def intO:KeyOrd where
 α:=Int
 blt a b:=decide (a<b)
 irrefl a:=by simp
 trans a b c h1 h2:=by simp only[TF] at *;lia
 negTrans a b c h:=by simp only[TF] at *;lia
 total a b h1 h2:=by simp only[UL] at *;lia
abbrev F8:KeyOrd:=strKind.toKeyOrd
noncomputable def pk:KeyOrd where
 α:=Key
 blt a b:=match a,b with
  | .inl i,.inl j=>decide (i<j)
  | .inr x,.inr y=>decide (x.cps.toList<y.cps.toList)
  | .inl _,.inr _=>true
  | .inr _,.inl _=>false
 irrefl a:=by
  cases a with
  |inl i=>simp
  |inr x=>simpa using List.lt_irrefl x.cps.toList
 trans a b c h1 h2:=by
  cases a <;> cases b <;> cases c <;> simp_all
  ·lia
  ·exact List.lt_trans h1 h2
 negTrans a b c h:=by
  cases a <;> cases b <;> cases c <;> simp_all
  ·lia
  ·rename_i x y z;by_cases q:x.cps.toList<y.cps.toList
   ·exact .inl q
   ·exact .inr (List.lt_of_le_of_lt (WR.mp q) h)
 total a b h1 h2:=by
  cases a <;> cases b <;> simp_all
  ·lia
  ·rename_i x y;have e:x.cps.toList=y.cps.toList:=List.le_antisymm (by first|exact h2|exact WR.mp h2) (by first|exact h1|exact WR.mp h1);rw[<-pO x,<-pO y,e]
def d9:List Key->List Key->Bool
 |[],[]=>false
 |[],_::_=>true
 |_::_,[]=>false
 |a::r,b::t=>if a=b then d9 r t else pk.blt a b
theorem ja:∀a:List Key,d9 a a=false
 |[]=>rfl
 |a::r=>by
  show(if a=a then d9 r r else _)=false;rw[Tt rfl];exact ja r
theorem A8{a b:Key}(h:pk.blt a b=true):a≠b:=by
 rintro rfl;have:=pk.irrefl a;rw[h]at this;cases this
theorem iA:∀a b c:List Key,d9 a b=true->d9 b c=true->d9 a c=true
 |[],[],_,h,_=>by cases h
 |[],_::_,[],_,h=>by cases h
 |[],_::_,_::_,_,_=>rfl
 |_::_,[],_,h,_=>by cases h
 |_::_,_::_,[],_,h=>by cases h
 |a::r,b::t,c::u,h1,h2=>by
  have h1:(if a=b then d9 r t else pk.blt a b)=true:=h1;have h2:(if b=c then d9 t u else pk.blt b c)=true:=h2;show(if a=c then d9 r u else pk.blt a c)=true;by_cases e1:a=b
  ·by_cases e2:b=c
   ·rw[Tt e1]at h1;rw[Tt e2]at h2;rw[Tt (e1.trans e2)];exact iA r t u h1 h2
   ·rw[TB e2]at h2;rw[e1,TB e2];exact h2
  ·rw[TB e1]at h1;by_cases e2:b=c
   ·rw[<-e2,TB e1];exact h1
   ·rw[TB e2]at h2;have h3:=pk.trans a b c h1 h2;rw[TB (A8 h3)];exact h3
theorem iC:∀a b:List Key,d9 a b=false->d9 b a=false->a=b
 |[],[],_,_=>rfl
 |[],_::_,h,_=>by cases h
 |_::_,[],_,h=>by cases h
 |a::r,b::t,h1,h2=>by
  have h1:(if a=b then d9 r t else pk.blt a b)=false:=h1;have h2:(if b=a then d9 t r else pk.blt b a)=false:=h2;by_cases e:a=b
  ·rw[Tt e]at h1;rw[Tt e.symm]at h2;rw[e,iC r t h1 h2]
  ·rw[TB e]at h1;rw[TB (UY e)]at h2;exact absurd (pk.total a b h1 h2) e
theorem yA(a b c:List Key)(h:d9 a c=true):d9 a b=true\/d9 b c=true:=by
 cases e:d9 a b with
 |true=>exact .inl rfl
 |false=>
  refine .inr ?_;cases e2:d9 b a with
  |true=>exact iA b a c e2 h
  |false=>
   rw[<-iC a b e e2];exact h
def EG:KeyOrd where
 α:=List Key
 blt:=d9
 irrefl:=ja
 trans:=iA
 negTrans:=yA
 total:=iC
section
variable{O:KeyOrd}
def uB(p:Array Nat)(xs:List V):List V:=p.toList.map fun i=>xs.getD i .non
theorem nj{α:Type}(xs:List α)(d:α):((List.range xs.length).map fun i=>xs.getD i d)=xs:=by
 apply V8;intro i;by_cases hi:i<xs.length
 ·simp[hi]
 ·simp[hi]
theorem lC{α:Type}{p:Array Nat}{xs:List α}(d:α)(hp:POk xs.length p):(p.toList.map fun i=>xs.getD i d).Perm xs:=by
 have:=hp.perm.map (fun i=>xs.getD i d)
 rwa [nj]at this
theorem iE{α:Type}{p:Array Nat}{xs:List α}(d:α)(key:α->O.α)(hp:POk xs.length p)(hs:bu (O:=O) (fun i=>key (xs.getD i d)) p xs.length):(p.toList.map fun i=>xs.getD i d).Pairwise fun a b=>O.kle (key a) (key b):=by
 rw[List.pairwise_iff_getElem];intro i j hi hj NG;have hsz:=hp.size;have NF:i<p.size:=by simpa using hi
 have OU:j<p.size:=by simpa using hj
 have h:=hs i j (Wx NG) (by lia);unfold kk at h;simp only[List.getElem_map,Array.getElem_toList];have e1:p.getD i 0=p[i]:=by simp[Array.getD,NF]
 have e2:p.getD j 0=p[j]:=by simp[Array.getD,OU]
 rw[e1,e2]at h;exact h
theorem vals_pick{xs:List V}{us:List Value}(r:Vals xs us):∀l:List Nat,(∀i∈l,i<xs.length)->Vals (l.map fun i=>xs.getD i .non) (l.map fun i=>us.getD i .none)
 |[],_=>.nil
 |i::l,h=>by
  refine .cons ?_ (vals_pick r l fun j hj=>h j (Tx _ hj));have hi:=h i Tp;have e1:xs[i]?=some (xs.getD i .non):=by rw[bL _ _ _ hi];exact List.getElem?_eq_getElem hi
  obtain⟨u,hu,ru⟩:=r.get e1;have e2:us.getD i .none=u:=by rw[List.getD_eq_getElem?_getD,hu];rfl
  show L2.RelV (xs.getD i .non) (us.getD i .none);rw[e2];exact ru
theorem lD{xs:List V}{us:List Value}{p:Array Nat}(r:Vals xs us)(hp:POk xs.length p):Vals (uB p xs) (p.toList.map fun i=>us.getD i .none):=
 vals_pick r _ fun i hi=>Uz.mp (hp.perm.mem_iff.mp hi)
end
section
variable{X:Cx}
theorem jA{pi:List (Addr×Obj)}{s:Shared}{σ:L2.St}{H:Hp}{h':Heap}{ys:List V}{us:List Value}{e:Nat}{D:Addr}(I:Inv X pi σ H s)(kk:∀b o,s.heap.get? b=some o->h'.get? b=some o)(hD:s.heap.objs.size<=D)
  (ho:h'.get? D=some (seqObj "list" (List.toArray us) e)) (r:Vals ys us) (hz:ys.length<=sizeLine):Inv X pi σ (upd H D (.lst ys)) {s with heap:=h'}:=
 I.laid (t':=s.toks) kk hD ⟨hz,us,e,r,ho⟩
theorem lq(hc:X.calm=true):dD X (.builtin "sorted") (fun vs H Q=>∃(p:Addr) (ns:List Int),vs=[.ref p]/\SqL X.K H p (ns.map V.int)/\ns.length<64/\∀(D:Addr) (ms:List Int),H D=none->ms.Perm ns->ms.Pairwise (·<=·)->Q (.ref D) (upd H D (.lst (ms.map V.int)))):=by
 intro pi s σ H vs us Q I r h;obtain⟨p,ns,rfl,hp,Mp,q⟩:=h;obtain⟨u,rfl,r1⟩:=fK r;cases r1;obtain⟨ws,rv,pl,hz⟩:=I.list hp;have hl:=rv.length;rw[To]at hl;have isI:∀v∈ws,∃n t,v=.int n t:=fun v hv=>by
  obtain⟨i,hi⟩:=Ug.mp hv;obtain⟨t,e⟩:=dU rv hi;exact⟨_,t,e⟩
 refine kj (O:=intO) (key:=fun i=>ns.getD i 0) (kd:=oneType') pl.isList (by lia) (fun h2 A' E' h' kk Q' q'=>?_) (fun i j hi hj h' kk C q'=>?_) fun pp h' e J3 hs he kk=>?_
 ·refine kas_kind h2 (T:=.type "int") (fun v hv=>?_) (by decide) (by decide) q';obtain⟨n,t,rfl⟩:=isI v hv;exact fun A Q E s _ q=>VZ (Xr s n t) q
 ·unfold kas_ask;have e1:ws[i]?=some (ws.getD i .none):=by rw[bL _ _ _ hi];exact List.getElem?_eq_getElem hi
  have e2:ws[j]?=some (ws.getD j .none):=by rw[bL _ _ _ hj];exact List.getElem?_eq_getElem hj
  obtain⟨t,RW⟩:=dU rv e1;obtain⟨t',RX⟩:=dU rv e2;rw[RW,RX];exact kat_lt_int q'
 ·rw[<-hl]at J3 hs;have OV:POk (ns.map V.int).length pp:=by rw[To];exact J3
  have eo:uB pp (ns.map V.int)=(pp.toList.map fun i=>ns.getD i 0).map V.int:=by
   unfold uB;rw[TN];refine Up fun i hi=>?_
   have hi:=Uz.mp (J3.perm.mem_iff.mp hi);show(ns.map V.int).getD i .non=V.int (ns.getD i 0);rw[bL _ _ _ (by rw[To];exact hi),bL _ _ _ hi];simp
  have hn:H (s.heap.objs.size+1)=none:=I.hok.fresh (Vy _);refine⟨.ref (s.heap.objs.size+1),_,jA I kk (Vy _) he (lD rv OV) ?_,rfl,?_⟩
  ·show(uB pp (ns.map V.int)).length<=sizeLine;rw[eo,To,To,J3.perm.length_eq,TH,UD];lia
  ·rw[eo];refine q _ _ hn (lC 0 J3) ?_;have:=iE (O:=intO) 0 (fun i:Int=>i) J3 hs;refine this.imp fun{a b} Lg=>?_
   have Lg:decide (b<a)=false:=Lg;have:=XY Lg;lia
theorem qW{ls:List (List Nat)}{us:List Value}(r:Vals (ls.map fun l=>V.str (S l)) us){i:Nat}{v:Value}(h:us[i]?=some v):∃t,v=.str (S (ls.getD i [])) t:=by
 have hl:=r.length;rw[To]at hl;obtain⟨hi,_⟩:=List.getElem?_eq_some_iff.mp h;have e1:(ls.map fun l=>V.str (S l))[i]?=some (.str (S (ls.getD i []))):=by
  rw[List.getElem?_map,List.getElem?_eq_getElem (by lia),bL _ _ _ (by lia)];rfl
 obtain⟨u,hu,t,rfl⟩:=r.get e1;rw[h]at hu;exact⟨t,Ua hu⟩
theorem lr(hc:X.calm=true):dD X (.builtin "sorted") (fun vs H Q=>∃(p:Addr) (ls:List (List Nat)),vs=[.ref p]/\SqL X.K H p (ls.map fun l=>V.str (S l))/\ls.length<64/\∀(D:Addr) (ms:List (List Nat)),H D=none->ms.Perm ls->ms.Pairwise (fun a b=>¬ b<a)->Q (.ref D) (upd H D (.lst (ms.map fun l=>V.str (S l))))):=by
 intro pi s σ H vs us Q I r h;obtain⟨p,ls,rfl,hp,Mp,q⟩:=h;obtain⟨u,rfl,r1⟩:=fK r;cases r1;obtain⟨ws,rv,pl,hz⟩:=I.list hp;have hl:=rv.length;rw[To]at hl;refine kj (O:=F8) (key:=fun i=>ls.getD i []) (kd:=oneType') pl.isList (by lia) (fun h2 A' E' h' kk Q' q'=>?_) (fun i j hi hj h' kk C q'=>?_) fun pp h' e J3 hs he kk=>?_
 ·refine kas_kind h2 (T:=.type "str") (fun v hv=>?_) (by decide) (by decide) q';obtain⟨i,hi⟩:=Ug.mp hv;obtain⟨t,rfl⟩:=qW rv hi;exact fun A Q E s _ q=>VZ (Xq s _ t) q
 ·unfold kas_ask;have e1:ws[i]?=some (ws.getD i .none):=by rw[bL _ _ _ hi];exact List.getElem?_eq_getElem hi
  have e2:ws[j]?=some (ws.getD j .none):=by rw[bL _ _ _ hj];exact List.getElem?_eq_getElem hj
  obtain⟨t,RW⟩:=qW rv e1;obtain⟨t',RX⟩:=qW rv e2;rw[RW,RX];refine kas_lt_str ?_;rw[dP,dP];exact q'
 ·rw[<-hl]at J3 hs;have OV:POk (ls.map fun l=>V.str (S l)).length pp:=by rw[To];exact J3
  have eo:uB pp (ls.map fun l=>V.str (S l))=(pp.toList.map fun i=>ls.getD i []).map fun l=>V.str (S l):=by
   unfold uB;rw[TN];refine Up fun i hi=>?_
   have hi:=Uz.mp (J3.perm.mem_iff.mp hi);show(ls.map fun l=>V.str (S l)).getD i .non=V.str (S (ls.getD i []));rw[bL _ _ _ (by rw[To];exact hi),bL _ _ _ hi];simp
  have hn:H (s.heap.objs.size+1)=none:=I.hok.fresh (Vy _);refine⟨.ref (s.heap.objs.size+1),_,jA I kk (Vy _) he (lD rv OV) ?_,rfl,?_⟩
  ·show(uB pp (ls.map fun l=>V.str (S l))).length<=sizeLine;rw[eo,To,To,J3.perm.length_eq,TH,UD];lia
  ·rw[eo];refine q _ _ hn (lC [] J3) ?_;have:=iE (O:=F8) [] (fun l:List Nat=>l) J3 hs;refine this.imp fun{a b} Lg=>?_
   have Lg:decide (b<a)=false:=Lg;exact XY Lg
end
def kinds(k:List Key):List Bool:=k.map fun x=>x.isLeft
section
variable{prog:Program}{w:World}{A:Around}{s:Shared}
theorem wt(a b:Key):RI (kV a) (kV b)=decide (a=b):=by
 cases a <;> cases b <;> (rw[T7];simp[kV,RI])
theorem lE(a:Key):yp (kV a)=true:=by cases a <;> rfl
theorem Dt{a b:Key}{u v:Value}{top:Bool}{Q:Bool->Shared->Prop}(ra:L2.RelV (kV a) u)(rb:L2.RelV (kV b) v)(hk:a.isLeft=b.isLeft)(q:Q (pk.blt a b) s):wpAny (model prog w) A (oneLt' top u v) Q (fun _ _=>False) s:=by
 cases a with
 |inl i=>
  cases b with
  |inr _=>cases hk
  |inl j=>
   obtain⟨t,rfl⟩:=ra;obtain⟨t',rfl⟩:=rb;cases top with
   |true=>exact kat_lt_int (E:=fun _ _=>False) q
   |false=>exact kat_one _ _ (lt_int q)
 |inr x=>
  cases b with
  |inl _=>cases hk
  |inr y=>
   obtain⟨t,rfl⟩:=ra;obtain⟨t',rfl⟩:=rb;cases top with
   |true=>exact oneLt_str q
   |false=>exact kat_one _ _ (lt_str q)
theorem lW{Q:Bool->Shared->Prop}:∀(k1 k2:List Key) (us ws:List Value) (i:Nat),Vals (k1.map kV) us->Vals (k2.map kV) ws->kinds k1=kinds k2->Q (d9 k1 k2) s->KatLex prog w A true false Q (us.zip ws) i s
 |[],[],_,_,_,.nil,.nil,_,q=>q
 |[],_::_,_,_,_,_,_,h,_=>by cases h
 |_::_,[],_,_,_,_,_,h,_=>by cases h
 |a::r,b::t,u::us,v::ws,i,.cons ru rus,.cons rv rvs,h,q=>by
  have h1:a.isLeft=b.isLeft:=(Wl h).1;have h2:kinds r=kinds t:=(Wl h).2;have q:Q (if a=b then d9 r t else pk.blt a b) s:=q;refine kat_cons (zW (A:=A) (s:=s) ru rv (lE a) (lE b) prog w _ _ ?_);rw[wt];by_cases e:a=b
  ·rw[Tt e]at q;rw[TV e];exact kat_yes (lW r t us ws (i+1) rus rvs h2 q)
  ·rw[TB e]at q;rw[Ui e];exact kat_no (Dt ru rv h1 q)
end
section
variable{X:Cx}{pi:List (Addr×Obj)}{σ:L2.St}{H:Hp}{s:Shared}
theorem pV(I:Inv X pi σ H s){a:Addr}{xs:List V}(h:SqT X.K H a xs):∃(us:List Value) (o:Obj) (n:Nat),Vals xs us/\s.heap.get? a=some o/\o.cls=.type "tuple"/\o.data=.seq us.toArray n:=by
 obtain⟨us,r,pl,_⟩:=I.tuple h;obtain⟨o,ho,oc,n,od⟩:=pl;exact⟨us,o,n,r,ho,oc,od⟩
theorem oA{al:List (Addr×List Key)}{us:List Value}(r:Vals (al.map fun a=>V.ref a.1) us){i:Nat}(h:i<al.length):us.getD i .none=.ref (al.getD i (0,[])).1:=by
 have e1:(al.map fun a=>V.ref a.1)[i]?=some (.ref (al.getD i (0,[])).1):=by
  rw[List.getElem?_map,List.getElem?_eq_getElem h,bL _ _ _ h];rfl
 obtain⟨u,hu,ru⟩:=r.get e1;rw[List.getD_eq_getElem?_getD,hu];exact ru
theorem sN{al:List (Addr×List Key)}{us:List Value}{h':Heap}(I:Inv X pi σ H s)(kk:∀b o,s.heap.get? b=some o->h'.get? b=some o)(top:Bool):
  (r:Vals (al.map fun a=>V.ref a.1) us)->(∀a∈al,SqT X.K H a.1 (a.2.map kV)/\∃t,kinds a.2=top::t)->∃fs:List Value,KatTups h' us fs/\fs.length=al.length/\∀v∈fs,∀M:Model,Looks M h' (typeOf v) (.type (if top then "int" else "str")):=by
 induction al generalizing us with
 |nil=>
  intro r _;cases r;exact⟨[],trivial,rfl,fun v hv=>by cases hv⟩
 |cons a al ih=>
  intro r h;cases r with
  |cons ra rs=>
   cases ra;obtain⟨fs,t1,t2,t3⟩:=ih rs fun b hb=>h b (Tx _ hb)
   obtain⟨ha,kt,hk⟩:=h a Tp;obtain⟨ws,o,n,rv,ho,oc,od⟩:=pV I ha;cases e2:a.2 with
   |nil=>rw[e2]at hk;cases hk
   |cons k ks=>
    rw[e2]at rv hk;have SH:k.isLeft=top:=(Wl hk).1;cases rv with
    | @cons _ f _ fr rf rfs=>
     refine⟨f::fs,KatTups.cons (kk _ _ ho) oc od (by simp) t1,by simp[t2],fun v hv M=>?_⟩;rcases Tz.mp hv with rfl|hv
     ·cases k with
      |inl i=>
       obtain⟨t,rfl⟩:=rf;have:top=true:=SH.symm;subst this;exact fun A Q E s _ q=>VZ (Xr s _ t) q
      |inr x=>
       obtain⟨t,rfl⟩:=rf;have:top=false:=SH.symm;subst this;exact fun A Q E s _ q=>VZ (Xq s _ t) q
     ·exact t3 v hv M
end
section
variable{X:Cx}
theorem lu(hc:X.calm=true):dD X (.builtin "sorted") (fun vs H Q=>∃(p:Addr) (al:List (Addr×List Key)) (top:Bool) (t:List Bool),vs=[.ref p]/\SqL X.K H p (al.map fun a=>V.ref a.1)/\(∀a∈al,SqT X.K H a.1 (a.2.map kV)/\kinds a.2=top::t)/\al.length<64/\
  ∀(D:Addr) (ms:List (Addr×List Key)),H D=none->ms.Perm al->ms.Pairwise (fun a b=>d9 b.2 a.2=false)->Q (.ref D) (upd H D (.lst (ms.map fun a=>V.ref a.1)))):=by
 intro pi s σ H vs us Q I r h;obtain⟨p,al,top,kt,rfl,hp,Ku,Mp,q⟩:=h;obtain⟨u,rfl,r1⟩:=fK r;cases r1;obtain⟨ws,rv,pl,hz⟩:=I.list hp;have hl:=rv.length;rw[To]at hl;refine kj (O:=EG) (key:=fun i=>(al.getD i (0,[])).2) (kd:=tuples' true) pl.isList (by lia) (fun h2 A' E' h' kk Q' q'=>?_) (fun i j hi hj h' kk C q'=>?_) fun pp h' e J3 hs he kk=>?_
 ·obtain⟨fs,t1,t2,t3⟩:=sN I kk top rv fun a ha=>⟨(Ku a ha).1,kt,(Ku a ha).2⟩
  refine kat_kind (T:=.type (if top then "int" else "str")) t1 (by lia) (fun v hv=>t3 v hv _) (by simp) ?_;have:((Value.type (if top then "int" else "str")) != Value.type "tuple")=true:=by cases top <;> decide
  rw[this];exact q'
 ·unfold kas_ask;have NF:i<al.length:=by lia
  have OU:j<al.length:=by lia
  rw[oA rv NF,oA rv OU];have mi:al.getD i (0,[])∈al:=by rw[bL _ _ _ NF];exact Vq _
  have mj:al.getD j (0,[])∈al:=by rw[bL _ _ _ OU];exact Vq _
  obtain⟨u1,o1,n1,r1,g1,_,d1⟩:=pV I (Ku _ mi).1;obtain⟨u2,o2,n2,r2,g2,_,d2⟩:=pV I (Ku _ mj).1;have ek:kinds (al.getD i (0,[])).2=kinds (al.getD j (0,[])).2:=by rw[(Ku _ mi).2,(Ku _ mj).2]
  have el:u1.length=u2.length:=by
   have a1:=r1.length;have a2:=r2.length;have a3:=UN List.length ek;simp only[kinds,To]at a1 a2 a3;lia
  refine kat_lt (kk _ _ g1) d1 (kk _ _ g2) d2 ?_;have ef:decide (u1.toArray.size<u2.toArray.size)=false:=by simp[el]
  rw[ef];exact lW _ _ _ _ 0 r1 r2 ek q'
 ·rw[<-hl]at J3 hs;have OV:POk (al.map fun a=>V.ref a.1).length pp:=by rw[To];exact J3
  have eo:uB pp (al.map fun a=>V.ref a.1)=(pp.toList.map fun i=>al.getD i (0,[])).map fun a=>V.ref a.1:=by
   unfold uB;rw[TN];refine Up fun i hi=>?_
   have hi:=Uz.mp (J3.perm.mem_iff.mp hi);show(al.map fun a=>V.ref a.1).getD i .non=V.ref (al.getD i (0,[])).1;rw[bL _ _ _ (by rw[To];exact hi),bL _ _ _ hi];simp
  have hn:H (s.heap.objs.size+1)=none:=I.hok.fresh (Vy _);refine⟨.ref (s.heap.objs.size+1),_,jA I kk (Vy _) he (lD rv OV) ?_,rfl,?_⟩
  ·show(uB pp (al.map fun a=>V.ref a.1)).length<=sizeLine;rw[eo,To,To,J3.perm.length_eq,TH,UD];lia
  ·rw[eo];refine q _ _ hn (lC (0,[]) J3) ?_;exact iE (O:=EG) (0,[]) (fun a:Addr×List Key=>a.2) J3 hs
end
end NX
namespace L2
open PySem PySem.Spec PyProof.Rows
section
variable{κ:Type}[DecidableEq κ]
def pW(kvs:List (κ×V))(k:κ):Option V:=(kvs.find? fun kv=>decide (kv.1=k)).map (·.2)
def lx(kvs:List (κ×V))(k:κ)(v:V):List (κ×V):=
 if(kvs.any fun kv=>decide (kv.1=k))=true then kvs.map (fun kv=>if kv.1=k then(kv.1,v) else kv) else kvs++[(k,v)]
theorem oB{p:κ×V}{r:List (κ×V)}{k:κ}(e:p.1=k):pW (p::r) k=some p.2:=by simp[pW,List.find?_cons,e]
theorem oC{p:κ×V}{r:List (κ×V)}{k:κ}(e:¬ p.1=k):pW (p::r) k=pW r k:=by simp[pW,List.find?_cons,e]
theorem sO(k:κ):∀kvs:List (κ×V),(kvs.any fun kv=>decide (kv.1=k))=(pW kvs k).isSome
 |[]=>rfl
 |p::r=>by
  rw[XZ];by_cases e:p.1=k
  ·simp only[oB e,TV e,Yi,Option.isSome_some]
  ·rw[oC e,Ui e,Bool.false_or];exact sO k r
theorem jb(kvs:List (κ×V))(k:κ)(v:V):(lx kvs k v).length<=kvs.length+1:=by
 unfold lx;split
 ·rw[To];lia
 ·rw[Ud,TJ,Um];lia
theorem RelO.isSome_eq{o:Option V}{u:Option Value}(r:RelO o u):o.isSome=u.isSome:=by
 cases o with
 |none=>cases u with
  |none=>rfl
  |some _=>exact(show False from r).elim
 |some _=>cases u with
  |none=>exact(show False from r).elim
  |some _=>rfl
theorem KV.val{kvs:List (κ×V)}{vs:List (κ×Value)}(r:KV kvs vs)(k:κ):RelO (pW kvs k) (valueAt vs k):=by
 unfold KV at r;induction r with
 |nil=>exact True.intro
 | @cons p q ps qs h t ih=>
  obtain⟨h1,h2⟩:=h;by_cases e:p.1=k
  ·have e':q.1=k:=h1.symm.trans e;have b:valueAt (q::qs) k=some q.2:=by simp[valueAt,List.find?_cons,e']
   rw[oB e,b];exact h2
  ·have e':¬ q.1=k:=fun z=>e (h1.trans z)
   have b:valueAt (q::qs) k=valueAt qs k:=by simp[valueAt,List.find?_cons,e']
   rw[oC e,b];exact ih
theorem KV.any{kvs:List (κ×V)}{vs:List (κ×Value)}(r:KV kvs vs)(k:κ):(kvs.any fun kv=>decide (kv.1=k))=vs.any fun kv=>decide (kv.1=k):=by
 unfold KV at r;induction r with
 |nil=>rfl
 |cons h t ih=>rw[XZ,XZ,ih,h.1]
theorem KV.repl{kvs:List (κ×V)}{vs:List (κ×Value)}(r:KV kvs vs)(k:κ){y:V}{u:Value}(ry:RelV y u):
  KV (kvs.map fun kv=>if kv.1=k then(kv.1,y) else kv) (vs.map fun kv=>if kv.1=k then(kv.1,u) else kv):=by
 unfold KV at r ⊢;induction r with
 |nil=>exact .nil
 | @cons p q ps qs h t ih=>
  rw[TZ,TZ];refine .cons ?_ ih;obtain⟨h1,h2⟩:=h;by_cases e:p.1=k
  ·rw[Tt e,Tt (h1.symm.trans e)];exact⟨h1,ry⟩
  ·rw[TB e,TB (fun z=>e (h1.trans z))];exact⟨h1,h2⟩
theorem KV.put{kvs:List (κ×V)}{vs:List (κ×Value)}(r:KV kvs vs)(k:κ){y:V}{u:Value}(ry:RelV y u):KV (lx kvs k y) (stored vs k u):=by
 unfold lx stored;rw[r.any k];by_cases e:(vs.any fun kv=>decide (kv.1=k))=true
 ·rw[Tt e,Tt e];exact r.repl k ry
 ·rw[TB e,TB e];exact Paired.snoc r ⟨rfl,ry⟩
theorem KV.length{kvs:List (κ×V)}{vs:List (κ×Value)}(r:KV kvs vs):kvs.length=vs.length:=Wh r
end
theorem kV_is{P:Program}{w:World}{k:Key}{u:Value}(r:RelV (kV k) u):(mixKind P w).is k u=true:=by
 cases k with
 |inl i=>obtain⟨t,e⟩:=(show ∃t,u=Value.int i t from r);subst e;exact qR P w i t
 |inr x=>obtain⟨t,e⟩:=(show ∃t,u=Value.str x t from r);subst e;exact qS P w x t
theorem pX{P:Program}{w:World}:∀{ks:List Key}{us:List Value},Vals (ks.map kV) us->ItemsAre (mixKind P w) ks us
 |[],_,r=>by rw[Ul]at r;cases r;exact .nil
 |k::ks,_,r=>by
  rw[TZ]at r;cases r with
  |cons h t=>exact .cons (kV_is h) (pX t)
abbrev KT(H:Hp):List (List Key×V)->List (List Key×Addr×Value)->Prop:=Paired fun p q=>p.1=q.1/\H q.2.1=some (.tup (p.1.map kV))/\RelV p.2 q.2.2
theorem KT.val{H:Hp}{kvs:List (List Key×V)}{xs:List (List Key×Addr×Value)}(r:KT H kvs xs)(k:List Key):RelO (pW kvs k) ((atKey xs k).map (·.2)):=by
 induction r with
 |nil=>exact True.intro
 | @cons p q ps qs h t ih=>
  obtain⟨h1,_,h2⟩:=h;by_cases e:p.1=k
  ·have e':q.1=k:=h1.symm.trans e;have b:atKey (q::qs) k=some q.2:=by simp[atKey,List.find?_cons,e']
   rw[oB e,b];exact h2
  ·have e':¬ q.1=k:=fun z=>e (h1.trans z)
   have b:atKey (q::qs) k=atKey qs k:=by simp[atKey,List.find?_cons,e']
   rw[oC e,b];exact ih
theorem KT.repl{H:Hp}{kvs:List (List Key×V)}{xs:List (List Key×Addr×Value)}(r:KT H kvs xs)(k:List Key){y:V}{u:Value}(ry:RelV y u):
  KT H (kvs.map fun kv=>if kv.1=k then(kv.1,y) else kv) (xs.map (putAt k u)):=by
 induction r with
 |nil=>exact .nil
 | @cons p q ps qs h t ih=>
  rw[TZ,TZ];refine .cons ?_ ih;obtain⟨h1,h2,h3⟩:=h;unfold putAt;by_cases e:p.1=k
  ·rw[Tt e,Tt (h1.symm.trans e)];exact⟨h1,h2,ry⟩
  ·rw[TB e,TB (fun z=>e (h1.trans z))];exact⟨h1,h2,h3⟩
theorem KT.put{H:Hp}{kvs:List (List Key×V)}{xs:List (List Key×Addr×Value)}(r:KT H kvs xs)(k:List Key){b:Addr}{y:V}{u:Value}(hb:H b=some (.tup (k.map kV)))(ry:RelV y u):
  KT H (lx kvs k y) (storedH xs k b u):=by
 have e:(kvs.any fun kv=>decide (kv.1=k))=(atKey xs k).isSome:=by
  rw[sO,(r.val k).isSome_eq,WH]
 unfold lx storedH;rw[e];by_cases q:(atKey xs k).isSome=true
 ·rw[Tt q,Tt q];exact r.repl k ry
 ·rw[TB q,TB q];exact Paired.snoc r ⟨rfl,hb,ry⟩
theorem KT.keeps{H H':Hp}{kvs:List (List Key×V)}{xs:List (List Key×Addr×Value)}(r:KT H kvs xs)(ht:∀b ys,H b=some (.tup ys)->H' b=some (.tup ys)):KT H' kvs xs:=
 Paired.mapP r fun _ _ z=>⟨z.1,ht _ _ z.2.1,z.2.2⟩
section
variable{P:Program}{w:World}{H:Hp}{h:Heap}{a:Addr}
theorem Du{u:HO}(ok:HOk P w H h)(e:Rd H a u):ObjOk P w H h a u:=e.ok ok
theorem uC{kvs:List (Key×V)}(ok:HOk P w H h)(e:Rd H a (.dK kvs)):kvs.length<=sizeLine/\(a==sysModules)=false/\∃vs,KV kvs vs/\h.DictOf (mixKind P w) a vs:=
 show ObjOk P w H h a (.dK kvs) from Du ok e
theorem Dv{kvs:List (Key×V)}(ok:HOk P w H h)(e:H a=some (.dK kvs)):kvs.length<=sizeLine/\(a==sysModules)=false/\∃vs,KV kvs vs/\h.DictOf (mixKind P w) a vs:=uC ok (.inl e)
theorem pY{ks:List Key}(ok:HOk P w H h)(e:H a=some (.tup (ks.map kV))):(tupleKind (mixKind P w)).is h ks a:=by
 obtain⟨_,HB,r,o,h1,h2,⟨n,h3⟩,_⟩:=(show ObjOk P w H h a (.tup (ks.map kV)) from ok a _ e)
 exact⟨o,HB.toArray,n,h1,h2,h3,by simpa using pX r⟩
theorem wu{kvs:List (List Key×V)}(ok:HOk P w H h)(e:Rd H a (.dT kvs)):kvs.length<=sizeLine/\(a==sysModules)=false/\
  ∃xs,KT H kvs xs/\h.DictOfH (tupleKind (mixKind P w)) a xs:=by
 obtain⟨z,y,xs,r,o,es,ep,h1,h2,h3,h4,h5⟩:=(show ObjOk P w H h a (.dT kvs) from Du ok e)
 refine⟨z,y,xs,r,o,es,ep,h1,h2,h3,h4,fun x hx=>?_,h5⟩;have all:∀{l:List (List Key×V)}{m:List (List Key×Addr×Value)},KT H l m->∀x∈m,(tupleKind (mixKind P w)).is h x.1 x.2.1:=by
  intro l m q;induction q with
  |nil=>intro x hx;exact nomatch hx
  | @cons p q ps qs hq t ih=>
   intro x hx;rcases Tz.mp hx with e|hx
   ·subst e;exact pY ok (by rw[<-hq.1];exact hq.2.1)
   ·exact ih x hx
 exact all r x hx
theorem Fn{kvs:List (List Key×V)}(ok:HOk P w H h)(e:H a=some (.dT kvs)):kvs.length<=sizeLine/\(a==sysModules)=false/\
  ∃xs,KT H kvs xs/\h.DictOfH (tupleKind (mixKind P w)) a xs:=wu ok (.inl e)
end
def DGet(H:Hp)(a:Addr)(y:V)(r:Option V):Prop:=
 (∃kvs k,Rd H a (.dK kvs)/\y=kV k/\r=pW kvs k)\/∃kvs k b,Rd H a (.dT kvs)/\y=.ref b/\H b=some (.tup (k.map kV))/\r=pW kvs k
def DPut(H:Hp)(a:Addr)(y v:V)(H':Hp):Prop:=
 (∃kvs k,H a=some (.dK kvs)/\y=kV k/\kvs.length<sizeLine/\H'=upd H a (.dK (lx kvs k v)))\/
 ∃kvs k b,H a=some (.dT kvs)/\y=.ref b/\H b=some (.tup (k.map kV))/\kvs.length<sizeLine/\H'=upd H a (.dT (lx kvs k v))
theorem DGet.k{H:Hp}{a:Addr}{kvs:List (Key×V)}{k:Key}(e:H a=some (.dK kvs)):DGet H a (kV k) (pW kvs k):=.inl ⟨kvs,k,.inl e,rfl,rfl⟩
theorem DGet.t{H:Hp}{a b:Addr}{kvs:List (List Key×V)}{k:List Key}(e:H a=some (.dT kvs))(eb:H b=some (.tup (k.map kV))):DGet H a (.ref b) (pW kvs k):=.inr ⟨kvs,k,b,.inl e,rfl,eb,rfl⟩
theorem DPut.k{H:Hp}{a:Addr}{kvs:List (Key×V)}{k:Key}{v:V}(e:H a=some (.dK kvs))(hl:kvs.length<sizeLine):DPut H a (kV k) v (upd H a (.dK (lx kvs k v))):=.inl ⟨kvs,k,e,rfl,hl,rfl⟩
theorem DPut.t{H:Hp}{a b:Addr}{kvs:List (List Key×V)}{k:List Key}{v:V}(e:H a=some (.dT kvs))(eb:H b=some (.tup (k.map kV)))(hl:kvs.length<sizeLine):
  DPut H a (.ref b) v (upd H a (.dT (lx kvs k v))):=.inr ⟨kvs,k,b,e,rfl,eb,hl,rfl⟩
section
variable{X:Cx}{pi:List (Addr×Obj)}{σ:St}{H:Hp}{s:Shared}{a:Addr}{y v:V}{u r:Value}{o:Option V}{A:Around}{E:Value->Shared->Prop}
theorem Inv.big(I:Inv X pi σ H s):sysModules<s.heap.objs.size:=by
 have h:mainGlobals<s.heap.objs.size:=(I.mod.glob.keeps I.bk).lt;exact Nat.lt_trans (by decide) h
theorem wx{Q:Value->Shared->Prop}(hu:A.units+1<cLine)(I:Inv X pi σ H s)(g:DGet H a y (some v))(ry:RelV y u)(h:∀w' s',Inv X pi σ H s'->RelV v w'->Q w' s'):
  wpAny (model X.prog X.w) A (getItem (.ref a) u) Q E s:=by
 rcases g with⟨kvs,k,e,ey,l⟩|⟨kvs,k,b,e,ey,eb,l⟩
 ·subst ey;obtain⟨z,hd,vs,rel,dd⟩:=uC I.hok e;obtain⟨w',hw,Mm⟩:=RelO.some_of (v:=v) (o:=valueAt vs k) (by rw[l];exact rel.val k);exact wpAny_getItem_of (kV_is ry) dd.mapOf hw (h w' _ (I.tok _) Mm)
 ·subst ey;cases(show u=Value.ref b from ry);obtain⟨z,hd,xs,rel,dd⟩:=wu I.hok e;obtain⟨w',hw,Mm⟩:=RelO.some_of (v:=v) (o:=(atKey xs k).map (·.2)) (by rw[l];exact rel.val k);obtain⟨p,hp,MY⟩:=Uk.mp hw;refine wpAny_getItem_heap (V4 hu) (pY I.hok eb) dd hp ?_;rw[MY];exact h w' _ (I.tok _) Mm
theorem GV{Q:Value->Shared->Prop}(hu:A.units+1<cLine)(I:Inv X pi σ H s)(g:DGet H a y o)(ry:RelV y u)(h:∀s',Inv X pi σ H s'->Q (.bool o.isSome) s'):
  wpAny (model X.prog X.w) A (compareOp .In u (.ref a)) Q E s:=by
 rcases g with⟨kvs,k,e,ey,l⟩|⟨kvs,k,b,e,ey,eb,l⟩
 ·subst ey;obtain⟨z,hd,vs,rel,dd⟩:=uC I.hok e;refine wpAny_in_of (kV_is ry) hd dd.mapOf ?_;rw[<-(rel.val k).isSome_eq,<-l];exact h _ (I.tok _)
 ·subst ey;cases(show u=Value.ref b from ry);obtain⟨z,hd,xs,rel,dd⟩:=wu I.hok e;refine wpAny_in_heap (V4 hu) (pY I.hok eb) hd dd ?_;have q:=(rel.val k).isSome_eq;rw[WH]at q;rw[<-q,<-l];exact h _ (I.tok _)
theorem A9{Q:Value->Shared->Prop}(hu:A.units+1<cLine)(I:Inv X pi σ H s)(g:DGet H a y o)(ry:RelV y u)(h:∀s',Inv X pi σ H s'->Q (.bool (!o.isSome)) s'):
  wpAny (model X.prog X.w) A (compareOp .NotIn u (.ref a)) Q E s:=by
 rcases g with⟨kvs,k,e,ey,l⟩|⟨kvs,k,b,e,ey,eb,l⟩
 ·subst ey;obtain⟨z,hd,vs,rel,dd⟩:=uC I.hok e;refine wpAny_notIn_of (kV_is ry) hd dd.mapOf ?_;rw[<-(rel.val k).isSome_eq,<-l];exact h _ (I.tok _)
 ·subst ey;cases(show u=Value.ref b from ry);obtain⟨z,hd,xs,rel,dd⟩:=wu I.hok e;refine wpAny_notIn_heap (V4 hu) (pY I.hok eb) hd dd ?_;have q:=(rel.val k).isSome_eq;rw[WH]at q;rw[<-q,<-l];exact h _ (I.tok _)
theorem qX{h':Heap}{t':Nat}{ob:HO}(I:Inv X pi σ H s)(mu:P6 (H a))(hs:Heap.SameBut a s.heap h')(he:∃q,h'.get? a=some q)(new:ObjOk X.prog X.w (upd H a ob) h' a ob):
  Inv X pi σ (upd H a ob) {s with heap:=h',toks:=t'}:=
 I.write (x:=a) (e:=a) mu (.inl rfl) (fun b q hb z=>(hs.2 b hb).trans z) he new
theorem z6{P:Program}{w:World}{H':Hp}{h':Heap}{kvs:List (Key×V)}{vs:List (Key×Value)}(z:kvs.length<=sizeLine)(hd:(a==sysModules)=false)(rel:KV kvs vs)(dd:h'.DictOf (mixKind P w) a vs):
  ObjOk P w H' h' a (.dK kvs):=⟨z,hd,vs,rel,dd⟩
theorem wy{H':Hp}{Q:Unit->Shared->Prop}(hu:A.units+1<cLine)(I:Inv X pi σ H s)(g:DPut H a y v H')(ry:RelV y u)(rv:RelV v r)(h:∀s',Inv X pi σ H' s'->Q () s'):
  wpAny (model X.prog X.w) A (setItem (.ref a) u r) Q E s:=by
 rcases g with⟨kvs,k,e,ey,l,eH⟩|⟨kvs,k,b,e,ey,eb,l,eH⟩
 ·subst ey eH;obtain⟨z,hd,vs,rel,dd⟩:=Dv I.hok e;have hz:vs.length<=sizeLine:=by rw[<-rel.length];exact z
  have hl:(lx kvs k v).length<=sizeLine:=by have:=jb kvs k v;lia
  refine wpAny_setItem_pairs (hsz:=hz) (kV_is ry) dd fun h' NS hs=>h _ ?_
  have he:∃q,h'.get? a=some q:=let⟨q,_,_,hq,_⟩:=NS;⟨q,hq⟩
  exact qX I (by rw[e];exact True.intro) hs he (z6 hl hd (rel.put k rv) NS)
 ·subst ey eH;cases(show u=Value.ref b from ry);obtain⟨z,hd,xs,rel,dd⟩:=Fn I.hok e;have hz:xs.length<=sizeLine:=by rw[<-Wh rel];exact z
  have hl:(lx kvs k v).length<=sizeLine:=by have:=jb kvs k v;lia
  refine wpAny_setItem_heap (hsz:=hz) (V4 hu) (pY I.hok eb) dd fun h' NS hs=>h _ ?_
  obtain⟨q,es,ep,hq,h2,h3,h4,_,h5⟩:=NS;refine qX I (by rw[e];exact True.intro) hs ⟨q,hq⟩ ⟨hl,hd,_,(rel.put k eb rv).keeps fun c ys ec=>?_,q,es,ep,hq,h2,h3,h4,h5⟩;rw[aJ (EM ec e (fun z=>nomatch z))];exact ec
end
section
variable{X:Cx}{pi:List (Addr×Obj)}{σ:St}{H:Hp}{s:Shared}{a:Addr}{kvs:List (Key×V)}{k:Key}{u:Value}{A:Around}{E:Value->Shared->Prop}
end
def NoSl(i:Expr):Prop:=∀ov iv,subscripted i false ov iv=operate [ov,iv] (getItem ov iv)
theorem Ba{prog:Program}{w:World}{A:Around}{E:Value->Shared->Prop}{s:Shared}{env:Env}{value slice:Expr}{pos:Pos}{T id:String}{Q:Value->Shared->Prop}
  (hl:typeLookup (.type T) "__getitem__" = pure (some (.builtin id))) (hs:NoSl slice)
  (h:wpAny (model prog w) A (eval value env) (fun o s₁=>wpAny (model prog w) A (eval slice env) (fun i s₂=>s₂.TypeIs o T/\wpAny (model prog w) A (getItem o i) Q E s₂) E s₁) E s):
  wpAny (model prog w) A (eval (.Subscript value slice pos) env) Q E s:=by
 refine Subscript_ (VX h (fun o s₁ h₁=>VX h₁ (fun i s₂ h₂=>?_) fun _ _ x=>x) fun _ _ x=>x);obtain⟨hT,h₂⟩:=h₂;unfold subscriptTail;refine Tj ?_;rw[getitemInPython_of_ne hT.not_modules];refine Tj (wpAny_specialOf hT hl ?_);have fin:wpAny (model prog w) A (subscripted slice false o i) (fun r s₃=>wpAny (model prog w) A (letTemporaryGo value o r >>= fun _=>pure r) Q E s₃) E s₂:=by
  rw[hs o i];exact wpAny_operating (VX h₂ (fun r s₃ h₃=>Tj (wpAny_letTemporaryGo (Tr h₃))) fun _ _ x=>x)
 first
  |exact Tr (Tj fin)
  |exact Tj (Tr (Tj fin))
  |exact Tj fin
theorem qY{X:Cx}{pi:List (Addr×Obj)}{σ:St}{H:Hp}{s:Shared}{a:Addr}{y:V}{o:Option V}(I:Inv X pi σ H s)(g:DGet H a y o):s.TypeIs (.ref a) "dict":=by
 rcases g with⟨kvs,k,e,_,_⟩|⟨kvs,k,b,e,_,_,_⟩
 ·obtain⟨_,_,vs,_,dd⟩:=uC I.hok e;exact dd.typeIs
 ·obtain⟨_,_,xs,_,dd⟩:=wu I.hok e;exact dd.typeIs
def Fo(td ty:TE):TE:=fun σ H Q=>td σ H fun x H1=>ty σ H1 fun y H2=>∃a v,x=.ref a/\DGet H2 a y (some v)/\Q v H2
def Fp(td ty tv:TE):TS:=fun D σ H=>tv σ H fun v H1=>td σ H1 fun x H2=>ty σ H2 fun y H3=>∃a H4,x=.ref a/\DPut H3 a y v H4/\D.nx σ H4
section
variable{X:Cx}{o i e value:Expr}{pos pos' tpos:Pos}{td ty tv:TE}
theorem Bb(hu:X.A.units+1<cLine)(ho:PE X o td)(hi:PE X i ty)(hs:NoSl i):PE X (.Subscript o i pos) (Fo td ty):=by
 intro pi s σ H Q I h;refine Ba PySem.F.slot_dict_getitem.lookup hs (HW (ho pi s σ H _ I h) fun u s1 ⟨x,H1,I1,rx,q1⟩=>HW (hi pi s1 σ H1 _ I1 q1) fun iv s2 HY=>?_);obtain⟨y,H2,I2,ry,a,v,ex,g,q2⟩:=HY;subst ex;obtain rfl:u=Value.ref a:=rx;exact⟨qY I2 g,wx hu I2 g ry fun w' s3 I3 Mm=>⟨v,H2,I3,Mm,q2⟩⟩
theorem Bc(hu:X.A.units+1<cLine)(ho:PE X o td)(hi:PE X i ty)(hv:PE X value tv)(hs:swapsWith value (some (.Subscript o i pos')) pos.line X.env=pure false):
  PS X (.Assign [.Subscript o i pos'] value pos) (Fp td ty tv):=by
 intro pi s σ H D I h;refine wpAny_Assign_Subscript (HW (hv pi s σ H _ I h) fun r s1 ⟨v,H1,I1,rv,q1⟩=>HW (ho pi s1 σ H1 _ I1 q1) fun u s2 ⟨x,H2,I2,rx,q2⟩=>HW (hi pi s2 σ H2 _ I2 q2) fun iv s3 ⟨y,H3,I3,ry,a,H4,ex,g,q3⟩=>?_) hs;subst ex;obtain rfl:u=Value.ref a:=rx;exact wy hu I3 g ry rv fun s4 I4=>⟨σ,H4,I4,q3⟩
end
theorem dk_empty{P:Program}{w:World}{H:Hp}(h:Heap)(hb:sysModules<h.objs.size):ObjOk P w H (h.push {cls:=.type "dict",data:=.dict #[]}) h.objs.size (.dK []):=
 ⟨Uj _,UC.mpr (UY (TR hb)),[],.nil,Heap.DictOf.new h⟩
theorem yB{P:Program}{w:World}{H:Hp}(h:Heap)(hb:sysModules<h.objs.size):ObjOk P w H (h.push {cls:=.type "dict",data:=.dict #[]}) h.objs.size (.dT []):=
 ⟨Uj _,UC.mpr (UY (TR hb)),[],.nil,_,#[],0,Heap.get?_push_size _ rfl,⟨rfl,rfl,rfl⟩,rfl,rfl,Uw⟩
def Dw:TE:=fun _ H Q=>∀p,H p=none->Q (.ref p) (upd H p (.dK []))
def Dx:TE:=fun _ H Q=>∀p,H p=none->Q (.ref p) (upd H p (.dT []))
section
variable{X:Cx}{pos:Pos}
theorem yC:PE X (.Dict [] [] pos) Dw:=fun pi s σ H Q I h=>
 wpAny_Dict_empty ⟨.ref s.heap.objs.size,_,I.laid (a:=s.heap.objs.size) (o:=.dK []) (t':=s.toks) (fun _ _ q=>Heap.get?_push_of_some _ q) (Ts _) (dk_empty s.heap I.big),rfl,h _ (I.hok.fresh (Ts _))⟩
theorem yD:PE X (.Dict [] [] pos) Dx:=fun pi s σ H Q I h=>
 wpAny_Dict_empty ⟨.ref s.heap.objs.size,_,I.laid (a:=s.heap.objs.size) (o:=.dT []) (t':=s.toks) (fun _ _ q=>Heap.get?_push_of_some _ q) (Ts _) (yB s.heap I.big),rfl,h _ (I.hok.fresh (Ts _))⟩
end
def tPairs:List (TE×TE)->St->Hp->(List (V×V)->Hp->Prop)->Prop
 |[],_,H,Q=>Q [] H
 |(tk,tv)::r,σ,H,Q=>tk σ H fun x H1=>tv σ H1 fun y H2=>tPairs r σ H2 fun ps H3=>Q ((x,y)::ps) H3
abbrev VV:List (V×V)->List (Value×Value)->Prop:=Paired fun p q=>RelV p.1 q.1/\RelV p.2 q.2
def Rm(X:Cx)(pos:Pos)(keys:List (Option Expr))(values:List Expr)(NT:List (TE×TE)):Prop:=
 ∀(pi:List (Addr×Obj)) (s:Shared) (σ:St) (H:Hp) (Q:List (V×V)->Hp->Prop),Inv X pi σ H s->tPairs NT σ H Q->
  wpAny (model X.prog X.w) X.A (evalPairs (pairTrees keys values X.env pos)) (fun vs s'=>∃ps H',Inv X pi σ H' s'/\VV ps vs/\Q ps H') X.xe s
theorem Bd{X:Cx}{pos:Pos}:Rm X pos [] [] []:=fun pi s σ H Q I h=>pairTrees_nil_walk ⟨[],H,I,.nil,h⟩
theorem yE{X:Cx}{pos:Pos}{k v:Expr}{ks:List (Option Expr)}{vs:List Expr}{tk tv:TE}{NT:List (TE×TE)}(hk:PE X k tk)(hv:PE X v tv)(hr:Rm X pos ks vs NT):
  Rm X pos (some k::ks) (v::vs) ((tk,tv)::NT):=fun pi s σ H Q I h=>
 pairTrees_cons_walk (HW (hk pi s σ H _ I h) fun u s1 ⟨x,H1,I1,rx,q1⟩=>HW (hv pi s1 σ H1 _ I1 q1) fun w2 s2 ⟨y,H2,I2,ry,q2⟩=>
  HW (hr pi s2 σ H2 _ I2 q2) fun ws s3 ⟨ps,H3,I3,rel,q3⟩=>⟨(x,y)::ps,H3,I3,.cons ⟨rx,ry⟩ rel,q3⟩)
def pZ(kvs more:List (Key×V)):List (Key×V):=more.foldl (fun acc kv=>lx acc kv.1 kv.2) kvs
theorem KV.merge:∀{more:List (Key×V)}{rs:List (Key×Value)}{kvs:List (Key×V)}{vs:List (Key×Value)},KV more rs->KV kvs vs->KV (pZ kvs more) (merged vs rs):=by
 intro more rs kvs vs r;unfold KV at r;induction r generalizing kvs vs with
 |nil=>intro q;exact q
 | @cons p q ps qs h t ih=>
  intro r0;have e:KV (lx kvs p.1 p.2) (stored vs q.1 q.2):=by
   have:=r0.put p.1 h.2;rw[<-h.1];exact this
  exact ih e
theorem jB:∀(more kvs:List (Key×V)),(pZ kvs more).length<=kvs.length+more.length
 |[],kvs=>by show kvs.length<=kvs.length+0;lia
 |p::r,kvs=>by
  have h1:=jB r (lx kvs p.1 p.2);have h2:=jb kvs p.1 p.2;show(pZ (lx kvs p.1 p.2) r).length<=_;rw[TJ];lia
theorem nL{P:Program}{w:World}:∀{kvs:List (Key×V)}{ws:List (Value×Value)},VV (kvs.map fun kv=>(kV kv.1,kv.2)) ws->∃rs,Carries (mixKind P w) ws rs/\KV kvs rs
 |[],_,r=>by rw[Ul]at r;cases r;exact⟨[],True.intro,.nil⟩
 |p::kvs,_,r=>by
  rw[TZ]at r;cases r with
  | @cons a b as bs h t=>
   obtain⟨rs,c,q⟩:=nL (P:=P) (w:=w) t;obtain⟨b1,b2⟩:=b;exact⟨(p.1,b2)::rs,⟨kV_is h.1,rfl,c⟩,.cons ⟨rfl,h.2⟩ q⟩
def Fq(NT:List (TE×TE)):TE:=fun σ H Q=>∀p,H p=none->tPairs NT σ (upd H p (.dK [])) fun ps H2=>H2 p=some (.dK [])/\∃kvs:List (Key×V),ps=kvs.map (fun kv=>(kV kv.1,kv.2))/\kvs.length<=15/\Q (.ref p) (upd H2 p (.dK (pZ [] kvs)))
theorem Be{X:Cx}{pos:Pos}{keys:List (Option Expr)}{values:List Expr}{NT:List (TE×TE)}(h:Rm X pos keys values NT)(LB:keys.all (·.isSome)=true)(hl:keys.length=values.length)(h0:keys≠[])
  (h15:keys.length<=15):PE X (.Dict keys values pos) (Fq NT):=by
 intro pi s σ H Q I q;have hn:=I.hok.fresh (Ts s.heap.objs.size);have I1:=I.laid (a:=s.heap.objs.size) (o:=.dK []) (h':=s.heap.push {cls:=.type "dict",data:=.dict #[]}) (t':=s.toks) (fun _ _ q=>Heap.get?_push_of_some _ q) (Ts _) (dk_empty s.heap I.big);refine wpAny_Dict_walk (knd:=mixKind X.prog X.w) LB hl h0 h15 (HW (h pi _ σ _ _ I1 (q _ hn)) fun ws s2 HY=>?_);obtain⟨ps,H2,I2,rel,e,kvs,ep,lk,q2⟩:=HY;subst ep;obtain⟨rs,c,rk⟩:=nL (P:=X.prog) (w:=X.w) rel;obtain⟨z,hd,vs0,r0,dd⟩:=Dv I2.hok e;cases r0;refine⟨rs,c,dd,fun h' NS hs=>⟨.ref s.heap.objs.size,_,?_,rfl,q2⟩⟩;have hz:(pZ [] kvs).length<=sizeLine:=by
  have h1:=jB kvs [];rw[Um]at h1;rw[UD];lia
 have he:∃q,h'.get? s.heap.objs.size=some q:=let⟨q,_,_,hq,_⟩:=NS;⟨q,hq⟩
 exact qX I2 (by rw[e];exact True.intro) hs he (z6 hz hd (rk.merge .nil) NS)
section
variable{X:Cx}{pi:List (Addr×Obj)}{σ:St}{H:Hp}{s:Shared}{a:Addr}{y d:V}{u r:Value}{o:Option V}{A:Around}{E:Value->Shared->Prop}
end
section
variable{X:Cx}{o e f:Expr}{apos HV:Pos}{td ty tx:TE}
end
section
variable{X:Cx}{pi:List (Addr×Obj)}{σ:St}{H:Hp}{s:Shared}{a:Addr}{kvs:List (Key×V)}{A:Around}{E:Value->Shared->Prop}
end
section
variable{X:Cx}{pi:List (Addr×Obj)}{σ:St}{H:Hp}{s:Shared}{a:Addr}{y:V}{u:Value}{A:Around}{E:Value->Shared->Prop}
end
section
variable{κ:Type}[DecidableEq κ]
end
end L2
namespace NX
open PySem PySem.Spec PyProof.Rows L2
def RawD(h:Heap)(d:Addr)(es:Array DictEntry)(ep:Nat):Prop:=∃o,h.get? d=some o/\o.ExactDict/\o.data=.dict es ep
theorem RawD.at{h h':Heap}{d:Addr}{es:Array DictEntry}{ep:Nat}(x:RawD h d es ep)(e:∀o,h.get? d=some o->h'.get? d=some o):RawD h' d es ep:=by
 obtain⟨o,g,r⟩:=x;exact⟨o,e o g,r⟩
section
variable{prog:Program}{w:World}{A:Around}{E:Value->Shared->Prop}{s:Shared}{d it:Addr}{es:Array DictEntry}{ep i:Nat}
theorem lF(x:RawD s.heap d es ep):s.TypeIs (.ref d) "dict":=by
 obtain⟨o,g,ex,_⟩:=x;exact⟨o,g,ex.1⟩
theorem yF{Q:Value->Shared->Prop}(nm:(d==sysModules)=false)(x:RawD s.heap d es ep)
  (q:Q (.ref s.heap.objs.size) {s with heap:=s.heap.push {cls:=.type "dict_keyiterator",data:=.fields #[.ref d,.int 0 0,.int es.size 0,.int ep 0]}}):wpAny (model prog w) A (pyIter (.ref d)) Q E s:=by
 have ty:=lF x;obtain⟨o,g,ex,dat⟩:=x;refine wpAny_pyIter_slot ty F.slot_dict_iter (UJ F.slot_dict_iter ty F.entry_dict_iter (Tj ?_) (F.args_dict_iter_1 _));refine Tj (wpAny_notOrdered_dict ty (Tr ?_));show wpAny _ _ (Builtin.Dict.showsAll d >>= fun _=>_) _ _ s;have ns:Builtin.Dict.showsAll d=pure ():=by
  unfold Builtin.Dict.showsAll;rw[nm];rfl
 rw[ns];refine Tj (Tr (Tj (V9 g dat (Tj (Xh g dat (Tj (Us (Tr ⟨_,rfl,"dict_keyiterator",_,⟨_,Heap.get?_push_size _ rfl,rfl⟩,F.slot_dict_keyiterator_next.lookup,?_⟩))))))));exact q
theorem yG{Q:Option Value->Shared->Prop}{e:DictEntry}(hit:s.heap.IsKeyIter it d i es.size ep)(x:RawD s.heap d es ep)(hx:es[i]?=some e)
  (q:∀h',h'.IsKeyIter it d (i+1) es.size ep->Heap.SameBut it s.heap h'->Q (some e.key) {s with heap:=h'}):wpAny (model prog w) A (pyNext (.ref it)) Q E s:=by
 have ti:=hit.typeIs;obtain⟨o,g,oc,od⟩:=hit;obtain⟨ob,gd,_,dat⟩:=x;have Iy:i<es.size:=(Array.getElem?_eq_some_iff.mp hx).1;unfold pyNext;refine Tj (WQ (wpAny_callSpecial?_slot (name:=Str.ofString "__next__") ti Vb (UJ Vb ti Wf
  (Tj (Tr (Tj (Tj ?_)))) (Wb _))))
 refine Tj (U9 ti (Tr (Tj (wpAny_fieldsOf g od ?_))));have Mi:Builtin.Dict_items.ownsTuple "dict_keyiterator" = false:=by decide
 simp only[Mi,UT,Wi];show wpAny _ _ (if(Value.ref d==Value.none)=true then _ else _) _ _ s;have nz:¬ ((Value.ref d==Value.none)=true):=Tw;rw[TB nz];refine Tj (Tr (Tj (V9 gd dat ?_)));rw[TB (by simp)];refine Tj (Tr (Tj (Xh gd dat ?_)));rw[TB (by simp)];refine Tr ?_;simp only[TB (show ¬ ((i:Int)<0) by lia),T4,hx];refine Tj (Tj (U9 ti (Tr (Tj (wpAny_isOneOf_keyiter ti ?_)))));show wpAny _ _ (setField (.ref it) 1 (rawInt ((i:Int)+1)) >>= fun _=>_) _ _ s;refine Tj (WB g od (by simp) ?_);have nx:(s.heap.update it (Obj.mapFields fun y=>y.setIfInBounds 1 (rawInt ((i:Int)+1)))).IsKeyIter it d (i+1) es.size ep:=
  ⟨_,Heap.get?_update_self _ g (Obj.isFreed_of_fields (V3 od _)),(Obj.cls_mapFields ..).trans oc,(V3 od _).trans (by simp[rawInt])⟩
 refine Tj (U2 (Tj (wpAny_isOneOf_keyiter (s:={s with heap:=s.heap.update it (Obj.mapFields fun y=>y.setIfInBounds 1 (rawInt ((i:Int)+1)))}) nx.typeIs ?_)));show wpAny _ _ (pure e.key) _ _ _;exact Tr (Tr ⟨_,rfl,Tr (q _ nx (VW ..))⟩)
theorem Bf{Q:Option Value->Shared->Prop}(hh:A.handled=none)(hit:s.heap.IsKeyIter it d i es.size ep)(x:RawD s.heap d es ep)(hx:es[i]?=none)
  (q:∀h',Heap.ExtBut it s.heap h'->Q none {s with heap:=h'}):wpAny (model prog w) A (pyNext (.ref it)) Q E s:=by
 have ti:=hit.typeIs;obtain⟨o,g,oc,od⟩:=hit;obtain⟨ob,gd,_,dat⟩:=x;unfold pyNext;refine Tj (WQ (wpAny_callSpecial?_slot (name:=Str.ofString "__next__") ti Vb (UJ Vb ti Wf
  (Tj (Tr (Tj (Tj ?_)))) (Wb _))))
 refine Tj (U9 ti (Tr (Tj (wpAny_fieldsOf g od ?_))));have Mi:Builtin.Dict_items.ownsTuple "dict_keyiterator" = false:=by decide
 simp only[Mi,UT,Wi];show wpAny _ _ (if(Value.ref d==Value.none)=true then _ else _) _ _ s;have nz:¬ ((Value.ref d==Value.none)=true):=Tw;rw[TB nz];refine Tj (Tr (Tj (V9 gd dat ?_)));rw[TB (by simp)];refine Tj (Tr (Tj (Xh gd dat ?_)));rw[TB (by simp)];refine Tr ?_;simp only[TB (show ¬ ((i:Int)<0) by lia),T4,hx];refine Tj (Tj (U9 ti (Tr ?_)));show wpAny _ _ (setField (.ref it) 0 .none >>= fun _=>_) _ _ s;refine Tj (WB g od (by simp) ?_);show wpAny _ _ (newExc (.type "StopIteration") [] >>= fun _=>_) _ _ _;refine Tj ?_;simp only[newExc,newTuple];refine Tj (Us (Tj (m:=firstArgMember _ _) (XH (a:=Value.none) (by first|rfl|(simp only[firstArgMember];rfl)) (Us ?_ (by size_fits)))) (by size_fits));simp only[raiseNew];refine Tj (wpAny_handled ?_);rw[show A.in1.handled=none from hh];refine Tj (Tr (wpAny_throw ?_));refine Tj (wpAny_isInstance (b:=true) (T:="StopIteration") ⟨_,Heap.get?_push_size _ rfl,rfl⟩ isSubtype_stop ?_);exact Tr (q _ (((VW ..).extBut.push _).push _))
theorem wz(hh:A.handled=none)(I:Addr)(ne:d≠I):Walks prog w A I [I,d] [I] es.size (fun i v=>∃e,es[i]?=some e/\v=e.key) (fun i h=>h.IsKeyIter I d i es.size ep/\RawD h d es ep) where
 sub:=fun b hb=>by
  rw[TU]at hb;rw[hb];exact Tp
 frame:=fun _ _ _ st hk=>⟨st.1.at fun o e=>hk I Tp o e,st.2.at fun o e=>hk d (Tx _ Tp) o e⟩
 item:=fun i s Q E hi st hQ=>by
  refine yG st.1 st.2 (Array.getElem?_eq_getElem hi) fun h' it' sb=>?_
  exact hQ _ h' s.toks ⟨_,Array.getElem?_eq_getElem hi,rfl⟩ ⟨it',st.2.at fun o e=>sb.extBut d o ne e⟩ fun b o hb e=>sb.extBut b o (fun z=>hb (by rw[z];exact Tp)) e
 done:=fun s Q E st hQ=>Bf hh st.1 st.2 (Array.getElem?_eq_none (Ts _)) fun h' ext=>hQ h' s.toks fun b o hb e=>ext b o (fun z=>hb (by rw[z];exact Tp)) e
 self:=fun _ _ _ _ st hQ=>wpAny_pyIter_keyiter st.1 hQ
theorem Bg(nm:(d==sysModules)=false):PySem.W.KdlSrc prog w "dict" d d es.size (fun i v=>∃e,es[i]?=some e/\v=e.key) (fun h=>RawD h d es ep) where
 type:=fun _ x=>lF x
 there:=fun _ x=>by
  obtain⟨o,g,_⟩:=x;exact⟨TC g,TC g⟩
 keep:=fun _ _ x hk=>x.at fun o e=>hk d (.inl rfl) o e
 notList:=by decide
 notTuple:=by decide
 hint:=fun _ _ _ _ x q=>PySem.W.kdl_hint_dict (lF x) q
 iter:=fun _ s hh x=>⟨_,_,(fun _ _ q=>yF nm x q),wz hh _ (by obtain⟨o,g,_⟩:=x;exact TR (TC g)),⟨⟨_,Heap.get?_push_size _ rfl,rfl,rfl⟩,x.at fun o e=>Heap.get?_push_of_some _ e⟩⟩
end
end NX
namespace NX
open PySem PySem.W PySem.Spec PyProof.Rows L2
section
variable{prog:Program}{w:World}{A:Around}{E:Value->Shared->Prop}{s:Shared}
theorem uD{O:KeyOrd}{key:Nat->O.α}{kd:SortKind}{l:Addr}{vs:List Value}{Q:Value->Shared->Prop}
  (hcol:∀Q':List Value->Shared->Prop,(∀h' tk,(∀b o,s.heap.get? b=some o->h'.get? b=some o)->Q' vs {s with heap:=h',toks:=tk})->wpAny (model prog w) A.in1 (collect (.ref l)) Q' E s) (Mp:vs.length<64)
  (Kj:2<=vs.length->∀(A':Around) (E':Value->Shared->Prop) (s':Shared),(∀b o,s.heap.get? b=some o->s'.heap.get? b=some o)->∀Q:SortKind->Shared->Prop,Q kd s'->wpAny (model prog w) A' (keyKind' vs.toArray) Q E' s')
  (MW:∀i j,i<vs.length->j<vs.length->∀s':Shared,(∀b o,s.heap.get? b=some o->s'.heap.get? b=some o)->∀C:Bool->Shared->Prop,C (O.blt (key i) (key j)) s'->kas_ask prog w A.in1.in1 kd vs i j C s')
  (h:∀(p:Array Nat) (h5 h':Heap) (tk e:Nat),POk vs.length p->bu key p vs.length->(∀b o,s.heap.get? b=some o->h5.get? b=some o)->(∀b o,h5.get? b=some o->h'.get? b=some o)->h'.get? h5.objs.size=some (seqObj "list" (List.toArray (p.toList.map fun i=>vs.getD i .none)) e)->Q (.ref h5.objs.size) {s with heap:=h',toks:=tk}):
  wpAny (model prog w) A (call (.builtin "sorted") [.ref l]) Q E s:=by
 refine VR kind_sorted plain_sorted entry_sorted (args_sorted1 _) ?_;unfold Builtin.«sorted»;refine Tj (m:=checkCount "sorted" 1 1 _) (Tr (Tj (hcol _ fun h5 tk k5=>?_)));refine Tj (XX ?_ (by rw[UD];lia));have k6:∀b o,s.heap.get? b=some o->(h5.push (seqObj "list" vs.toArray 0)).get? b=some o:=fun b o e=>Heap.get?_push_of_some _ (k5 b o e)
 have hL:(h5.push (seqObj "list" vs.toArray 0)).get? h5.objs.size=some (seqObj "list" vs.toArray 0):=Heap.get?_push_size _ rfl;have SI:∀b o,s.heap.get? b=some o->b<h5.objs.size:=fun b o e=>TC (k5 b o e)
 show wpAny _ _ _ _ _ {s with heap:=h5.push (seqObj "list" vs.toArray 0),toks:=tk};refine Tj (U2 (UJ slot_list_sort ⟨_,hL,rfl⟩ entry_list_sort (jz (key:=key) (kd:=kd) hL Mp (fun h2 h' kk Q' q=>Kj h2 _ _ _ (fun b o e=>kk b o (TR (SI b o e)) (k6 b o e)) Q' q)
  (fun i j hi hj h' kk C q=>MW i j hi hj _ (fun b o e=>kk b o (TR (SI b o e)) (k6 b o e)) C q) fun p h' hp hs ⟨e,he⟩ kk=>⟨_,rfl,?_⟩) (args_list_sort _)))
 exact Tr ⟨_,rfl,h p h5 h' tk e hp hs k5 (fun b o q=>kk b o (TR (TC q)) (Heap.get?_push_of_some _ q)) he⟩
end
section
variable{X:Cx}{pi:List (Addr×Obj)}{σ:L2.St}{H:Hp}{s:Shared}
theorem Bh{H:Hp}{kvs:List (List Key×V)}{xs:List (List Key×Addr×Value)}(r:KT H kvs xs):xs.map (·.1)=kvs.map (·.1):=by
 induction r with
 |nil=>rfl
 |cons hq _ ih=>rw[TZ,TZ,ih,hq.1]
theorem Fs{H:Hp}{kvs:List (List Key×V)}{xs:List (List Key×Addr×Value)}(r:KT H kvs xs):∀y∈xs,H y.2.1=some (.tup (y.1.map kV)):=by
 induction r with
 |nil=>exact fun y hy=>nomatch hy
 |cons hq _ ih=>
  intro y hy;rcases Tz.mp hy with rfl|hy
  ·rw[<-hq.1];exact hq.2.1
  ·exact ih y hy
theorem Bi(I:Inv X pi σ H s){a:Addr}{kvs:List (List Key×V)}(h:Rd H a (.dT kvs)):(a==sysModules)=false/\∃(al:List (Addr×List Key)) (es:Array DictEntry) (ep:Nat),
  RawD s.heap a es ep/\es.toList.map (·.key)=al.map (fun x=>Value.ref x.1)/\al.map (·.2)=kvs.map (·.1)/\∀x∈al,H x.1=some (.tup (x.2.map kV)):=by
 obtain⟨_,nm,xs,r,o,es,ep,h1,h2,h3,h4,_⟩:=h.ok I.hok;refine⟨nm,xs.map fun x=>(x.2.1,x.1),es,ep,⟨o,h1,h2,h3⟩,?_,?_,?_⟩
 ·rw[h4,TN,TN];rfl
 ·rw[TN];exact Bh r
 ·intro x hx;obtain⟨y,hy,rfl⟩:=Ur.mp hx;exact Fs r y hy
theorem nq(hc:X.calm=true):dD X (.builtin "sorted") (fun vs H Q=>∃(p:Addr) (kvs:List (List Key×V)) (top:Bool) (t:List Bool),vs=[.ref p]/\Rd H p (.dT kvs)/\(∀kv∈kvs,kinds kv.1=top::t)/\kvs.length<64/\
  ∀(D:Addr) (ms:List (Addr×List Key)),H D=none->(∀a∈ms,H a.1=some (.tup (a.2.map kV)))->(ms.map (·.2)).Perm (kvs.map (·.1))->ms.Pairwise (fun a b=>d9 b.2 a.2=false)->Q (.ref D) (upd H D (.lst (ms.map fun a=>V.ref a.1)))):=by
 intro pi s σ H vs us Q I r h;obtain⟨p,kvs,top,kt,rfl,hp,hk,Mp,q⟩:=h;obtain⟨u,rfl,r1⟩:=fK r;cases r1;obtain⟨nm,al,es,ep,raw,MZ,Rn,OW⟩:=Bi I hp;have LB:al.length=kvs.length:=by
  have:=UN List.length Rn;simpa using this
 have Ku:∀a∈al,SqT X.K H a.1 (a.2.map kV)/\kinds a.2=top::kt:=fun a ha=>by
  refine⟨SqT.of (OW a ha),?_⟩;have:a.2∈kvs.map (·.1):=by rw[<-Rn];exact Ur.mpr ⟨a,ha,rfl⟩
  obtain⟨kv,Kh,e⟩:=Ur.mp this;rw[<-e];exact hk kv Kh
 have rv:Vals (al.map fun a=>V.ref a.1) (al.map fun a=>Value.ref a.1):=by
  clear MZ Rn OW LB Ku;induction al with
  |nil=>exact .nil
  |cons a al ih=>exact .cons rfl ih
 have hl:(al.map fun a=>Value.ref a.1).length=al.length:=To ..;refine uD (O:=EG) (key:=fun i=>(al.getD i (0,[])).2) (kd:=tuples' true) (vs:=al.map fun a=>Value.ref a.1) (fun Q' hq=>?_) (by lia) (fun h2 A' E' s' kk Q' q'=>?_) (fun i j hi hj s' kk C q'=>?_) fun pp h5 h' tk e J3 hs k5 k' he=>?_
 ·refine kdu_collect (Bg nm) (I.ok.hd hc) raw (by have:=UN List.length MZ;simp only[To,UQ]at this;rw[UD];lia) fun h' tk acc kk LD=>?_
  have ea:acc.toList=al.map fun a=>Value.ref a.1:=by
   rw[<-MZ];apply V8;intro j;rw[List.getElem?_map,Array.getElem?_toList,Array.getElem?_toList];cases hj:acc[j]? with
   |none=>
    have:es[j]?=none:=by
     rw[Array.getElem?_eq_none_iff]at hj ⊢;rw[<-LD.1];exact hj
    rw[this];rfl
   |some v=>
    obtain⟨en,h1,h2⟩:=LD.2 j v hj;rw[h1,h2];rfl
  have:=hq h' tk kk;rw[<-ea]at this;exact this
 ·obtain⟨fs,t1,t2,t3⟩:=sN (h':=s'.heap) I kk top rv fun a ha=>⟨(Ku a ha).1,kt,(Ku a ha).2⟩
  refine kat_kind (T:=.type (if top then "int" else "str")) t1 (by lia) (fun v hv=>t3 v hv _) (by simp) ?_;have:((Value.type (if top then "int" else "str")) != Value.type "tuple")=true:=by cases top <;> decide
  rw[this];exact q'
 ·unfold kas_ask;have NF:i<al.length:=by lia
  have OU:j<al.length:=by lia
  rw[oA rv NF,oA rv OU];have mi:al.getD i (0,[])∈al:=by rw[bL _ _ _ NF];exact Vq _
  have mj:al.getD j (0,[])∈al:=by rw[bL _ _ _ OU];exact Vq _
  obtain⟨u1,o1,n1,r1,g1,_,d1⟩:=pV I (Ku _ mi).1;obtain⟨u2,o2,n2,r2,g2,_,d2⟩:=pV I (Ku _ mj).1;have ek:kinds (al.getD i (0,[])).2=kinds (al.getD j (0,[])).2:=by rw[(Ku _ mi).2,(Ku _ mj).2]
  have el:u1.length=u2.length:=by
   have a1:=r1.length;have a2:=r2.length;have a3:=UN List.length ek;simp only[kinds,To]at a1 a2 a3;lia
  refine kat_lt (kk _ _ g1) d1 (kk _ _ g2) d2 ?_;have ef:decide (u1.toArray.size<u2.toArray.size)=false:=by simp[el]
  rw[ef];exact lW _ _ _ _ 0 r1 r2 ek q'
 ·rw[hl]at J3 hs;have OV:POk (al.map fun a=>V.ref a.1).length pp:=by rw[To];exact J3
  have eo:uB pp (al.map fun a=>V.ref a.1)=(pp.toList.map fun i=>al.getD i (0,[])).map fun a=>V.ref a.1:=by
   unfold uB;rw[TN];refine Up fun i hi=>?_
   have hi:=Uz.mp (J3.perm.mem_iff.mp hi);show(al.map fun a=>V.ref a.1).getD i .non=V.ref (al.getD i (0,[])).1;rw[bL _ _ _ (by rw[To];exact hi),bL _ _ _ hi];simp
  have I5:Inv X pi σ H {s with heap:=h5,toks:=tk}:=I.kept k5;have hn:H h5.objs.size=none:=I5.hok.fresh (Ts _);refine⟨.ref h5.objs.size,_,jA (s:={s with heap:=h5,toks:=tk}) I5 k' (Ts _) he (lD rv OV) ?_,rfl,?_⟩
  ·show(uB pp (al.map fun a=>V.ref a.1)).length<=sizeLine;rw[eo,To,To,J3.perm.length_eq,TH,UD];lia
  ·rw[eo];have pm:=lC (0,[]) J3;refine q _ _ hn (fun a ha=>OW a (pm.mem_iff.mp ha)) ?_ ?_
   ·rw[<-Rn];exact pm.map _
   ·exact iE (O:=EG) (0,[]) (fun a:Addr×List Key=>a.2) J3 hs
end
end NX
namespace NX
open PySem PySem.Spec PyProof.Rows L2
section
open PySem.SeqAt
open PySem.AutoSeq1 (wpAny_loadPart')
open PySem.MeetsSeq PySem.MeetsSeq2 PySem.MeetsSeq3
theorem yH{A:Around}{s:Shared}{a c:Key}{u v:Value}(ra:RelV (kV a) u)(rc:RelV (kV c) v):EqAt A s u v (decide (a=c)):=by
 have h:=zW (A:=A) (s:=s) ra rc (lE a) (lE c);rw[wt]at h;exact h
theorem yI{prog:Program}{w:World}{A:Around}{E:Value->Shared->Prop}{s:Shared}{Q:Value->Shared->Prop}{a c:Key}{u v:Value}(ra:RelV (kV a) u)(rc:RelV (kV c) v)(hk:a.isLeft=c.isLeft)(h:Q (.bool (pk.blt a c)) s):
  wpAny (model prog w) A (richCompare .Lt u v) Q E s:=by
 cases a with
 |inl i=>
  cases c with
  |inr _=>cases hk
  |inl j=>
   obtain⟨t,rfl⟩:=ra;obtain⟨t',rfl⟩:=rc;exact(PyProof.Rows.lt_int h:wpAny (model prog w) A (compareOp .Lt (.int i t) (.int j t')) Q E s)
 |inr x=>
  cases c with
  |inl _=>cases hk
  |inr y=>
   obtain⟨t,rfl⟩:=ra;obtain⟨t',rfl⟩:=rc;exact(PyProof.Rows.lt_str h:wpAny (model prog w) A (compareOp .Lt (.str x t) (.str y t')) Q E s)
theorem wA(a c:Key)(r t:List Key):d9 (a::r) (c::t)=if a=c then d9 r t else pk.blt a c:=rfl
theorem oD(l b:Addr)(items Kk:Array Value)(n n2:Nat)(dd NC:Option Addr)(sl ND:Array (Option Value))(ks js:List Key)(hi:Vals (ks.map kV) items.toList)(hj:Vals (js.map kV) Kk.toList)(hk:kinds ks=kinds js):
  Meets (Builtin.«tuple.__lt__» ⟨[.ref l,.ref b],[]⟩)
   (fun _ R s=>s.heap.get? l=some {cls:=.type "tuple",dict:=dd,data:=.seq items n,slots:=sl}/\s.heap.get? b=some {cls:=.type "tuple",dict:=NC,data:=.seq Kk n2,slots:=ND}/\R (.ok (.ret (.bool (d9 ks js)))) s):=
 .of_wp fun prog w A R s h=>by
  obtain⟨hp,g,d,tk,os⟩:=s;obtain⟨hl,hb,h⟩:=h;have f2:=AutoSeq1.sub_tuple_tuple;have z1:items.size=ks.length:=by have:=hi.length;simp at this;lia
  have z2:Kk.size=js.length:=by have:=hj.length;simp at this;lia
  have z3:ks.length=js.length:=by have:=UN List.length hk;simpa[kinds] using this
  wp_walk using wpAny_loadPart' hl,wpAny_loadPart' hb,wpAny_forIn_list _ (fun dS b s'=>b.1=none/\s'=⟨hp,g,d,tk,os⟩/\∃(vs ws:List Value) (Lv Mq:List Key),dS=vs.zip ws/\
   Vals (Lv.map kV) vs/\Vals (Mq.map kV) ws/\kinds Lv=kinds Mq/\R (.ok (.ret (.bool (d9 Lv Mq)))) ⟨hp,g,d,tk,os⟩) _
  case turn=>
   rintro⟨y,x⟩ dS b s' ⟨Qo,rfl,vs,ws,Lv,Mq,hz,Ro,RY,PU,hR⟩;cases Lv with
   |nil=>
    cases Ro;rw[List.zip_nil_left]at hz;cases hz
   |cons a Lv=>
    cases Mq with
    |nil=>cases PU
    |cons c Mq=>
     cases Ro with
     | @cons _ va _ IX ra hvi'=>
      cases RY with
      | @cons _ vc _ Qp rc hwi'=>
       rw[Uh]at hz;injection hz with hyx hrest;injection hyx with hy hx;subst hy hx;have MJ:a.isLeft=c.isLeft:=(Wl PU).1;have Mc:kinds Lv=kinds Mq:=(Wl PU).2;rw[wA]at hR;have he:=yH (A:=A.in1) (s:=⟨hp,g,d,tk,os⟩) ra rc;refine Tj (he prog w _ _ ?_);by_cases OX:a=c
       ·rw[Tt OX]at hR;rw[TV OX]
        wp_walk
        exact⟨rfl,rfl,_,_,_,_,hrest,hvi',hwi',Mc,hR⟩
       ·rw[TB OX]at hR;rw[Ui OX];have hri:=fun E Q=>yI (prog:=prog) (w:=w) (A:=A.in1) (E:=E) (s:=⟨hp,g,d,tk,os⟩) (Q:=Q) ra rc MJ
        wp_walk using hri
        exact⟨_,rfl,by simpa using hR⟩
  case fin=>
   rintro⟨b1,b2⟩ s' ⟨Qo,rfl,vs,ws,Lv,Mq,hz,Ro,RY,PU,hR⟩;simp only at Qo;subst Qo;have hv:d9 Lv Mq=decide (items.size<Kk.size):=by
    cases Lv with
    |nil=>
     cases Mq with
     |nil=>exact(Ui (by lia)).symm
     |cons c Mq=>cases PU
    |cons a Lv=>
     cases Mq with
     |nil=>cases PU
     |cons c Mq=>
      cases Ro;cases RY;rw[Uh]at hz;cases hz
   rw[hv]at hR
   wp_walk
   exact⟨_,rfl,by simpa[Builtin.Tuple.tupleCompareSizes] using hR⟩
  case h=>
   exact⟨rfl,rfl,items.toList,Kk.toList,ks,js,rfl,hi,hj,hk,h⟩
end
section
variable{X:Cx}
def GW(K:W.Frag)(neg:Bool):R2:=fun x y H Q=>∃a b ks js,x=.ref a/\y=.ref b/\SqT K H a (ks.map kV)/\SqT K H b (js.map kV)/\kinds ks=kinds js/\Q (.bl (if neg then !d9 ks js else d9 ks js)) H
theorem Dy(hu:X.A.units<cLine):Ir X (compareOp .Lt) (GW X.K false):=by
 intro pi s σ H x y v u Q I rx ry h;obtain⟨a,b,ks,js,rfl,rfl,ha,hb,hk,q⟩:=h;cases rx;cases ry;obtain⟨HB,r1,p1,_⟩:=I.tuple ha;obtain⟨Ml,r2,p2,_⟩:=I.tuple hb;obtain⟨⟨cls,dd,data,sl⟩,ho,hc,n,hd⟩:=id p1;obtain⟨⟨ON,NC,data2,ND⟩,JU,Kt,n2,hd2⟩:=id p2;simp only at hc hd Kt hd2;subst hc hd Kt hd2;exact richCompare_meets_room (op:=.Lt) ⟨_,ho,rfl⟩ ⟨_,JU,rfl⟩ PySem.F.slot_tuple_lt PySem.F.entry_tuple_lt (PySem.F.args_tuple_lt_2 _ _) (oD a b _ _ n n2 dd NC sl ND ks js (by simpa using r1) (by simpa using r2) hk)
  ⟨ho,JU,show Value.bool (d9 ks js)≠Value.notImplemented/\EP X pi σ Q (.bool (d9 ks js)) s from⟨(fun x=>nomatch x),⟨.bl (d9 ks js),H,I,rfl,q⟩⟩⟩ hu
end
section
variable{prog:Program}{w:World}{A:Around}{E:Value->Shared->Prop}{s:Shared}
end
section
variable{X:Cx}{pi:List (Addr×Obj)}{σ:L2.St}{H:Hp}{s:Shared}{scope:Scope}{N:List Str}{ix:List (Option Nat)}{fp:List Addr}
end
section
variable{X:Cx}{scope:Scope}{N:List Str}{ix:List (Option Nat)}{tg iter elt:Expr}{ifs:List Expr}{pos:Pos}{wi:TI}{g:TG}{tc:TT}{te:TE}
end
end NX
namespace PV
open PySem L2 NX
inductive D where
 |non|bl (b:Bool)|int (i:Int)|str (l:List Nat)|tup (ds:List D)|lst (ds:List D)|dct (tk:Bool) (ks vs:List D)
inductive O where
 |f|l (c:O)|t (cs:List O)|d|pin (p:Addr) (c:O)
abbrev R:=O×D
abbrev Env:=List (Option R)
inductive Res(α:Type) where
 |ok (a:α)|exc (c:List Nat)|bad
def kD:Key->D
 | .inl i=>.int i
 | .inr x=>.str x.cps.toList
def isM:HO->Bool
 | .lst _=>true
 | .dK _=>true
 | .dT _=>true
 |_=>false
def isT:HO->Bool
 | .tup _=>true
 | .frz _ (.tup _)=>true
 |_=>false
def vz:Key->Prop
 | .inl _=>True
 | .inr x=>x.cps.toList.length<=sizeLine
def DictO(o:HO)(tk:Bool)(ks:List D)(xs:List V):Prop:=match tk with
 |true=>∃kvs:List (List Key×V),o=.dT kvs/\ks=kvs.map (fun kv=>D.tup (kv.1.map kD))/\xs=kvs.map (·.2)/\∀kv∈kvs,∀k∈kv.1,vz k
 |false=>∃kvs:List (Key×V),o=.dK kvs/\ks=kvs.map (fun kv=>kD kv.1)/\xs=kvs.map (·.2)/\∀kv∈kvs,vz kv.1
mutual
noncomputable def Rep(K:W.Frag)(G:Hp):D->V->Prop
 | .non,v=>v=.non
 | .bl b,v=>v=.bl b
 | .int i,v=>v=.int i
 | .str l,v=>v=.str (S l)/\l.length<=sizeLine
 | .tup ds,v=>∃p xs,v=.ref p/\G p=some (.tup xs)/\Reps K G ds xs
 | .lst ds,v=>∃p xs,v=.ref p/\SqL K G p xs/\Reps K G ds xs
 | .dct tk ks vs,v=>∃p xs o,v=.ref p/\Rd G p o/\DictO o tk ks xs/\Reps K G vs xs
noncomputable def Reps(K:W.Frag)(G:Hp):List D->List V->Prop
 |[],xs=>xs=[]
 |d::ds,xs=>∃y ys,xs=y::ys/\Rep K G d y/\Reps K G ds ys
end
def AllO(P:D->V->List Addr->Prop):List D->List V->List Addr->Prop
 |[],xs,fp=>xs=[]/\fp=[]
 |d::ds,xs,fp=>∃y ys a b,xs=y::ys/\fp=a++b/\P d y a/\AllO P ds ys b
mutual
noncomputable def RepO(K:W.Frag)(G H:Hp):O->D->V->List Addr->Prop
 | .f,d,v,fp=>Rep K G d v/\fp=[]
 | .l c,.lst ds,v,fp=>∃p xs HI,v=.ref p/\H p=some (.lst xs)/\fp=p::HI/\AllO (RepO K G H c) ds xs HI
 | .t cs,.tup ds,v,fp=>∃p xs,v=.ref p/\G p=some (.tup xs)/\RepT K G H cs ds xs fp
 | .d,.dct tk ks vs,v,fp=>∃p xs o,v=.ref p/\H p=some o/\DictO o tk ks xs/\fp=[p]/\Reps K G vs xs
 | .pin p c,d,v,fp=>v=.ref p/\RepO K G H c d v fp
 |_,_,_,_=>False
noncomputable def RepT(K:W.Frag)(G H:Hp):List O->List D->List V->List Addr->Prop
 |[],[],xs,fp=>xs=[]/\fp=[]
 |c::cs,d::ds,xs,fp=>∃y ys a b,xs=y::ys/\fp=a++b/\RepO K G H c d y a/\RepT K G H cs ds ys b
 |_,_,_,_=>False
end
section
variable{K:W.Frag}{G G' H H':Hp}
theorem Rd.mono{p:Addr}{u:HO}(h:Same G G')(r:Rd G p u):Rd G' p u:=by
 rcases r with r|⟨o,r⟩
 ·exact .inl (h _ _ r)
 ·exact .inr ⟨o,h _ _ r⟩
theorem iF{p:Addr}{xs:List V}(h:Same G G')(r:SqL K G p xs):SqL K G' p xs:=r.elim (fun r=>.inl (Rd.mono h r)) .inr
theorem bY{p:Addr}{xs:List V}(h:Same G G')(r:SqT K G p xs):SqT K G' p xs:=r.elim (fun r=>.inl (Rd.mono h r)) .inr
mutual
theorem Rep.mono(h:Same G G'):∀{d:D}{v:V},Rep K G d v->Rep K G' d v
 | .non,_,r=>by simpa only[Rep] using r
 | .bl _,_,r=>by simpa only[Rep] using r
 | .int _,_,r=>by simpa only[Rep] using r
 | .str _,_,r=>by simpa only[Rep] using r
 | .tup ds,_,r=>by
  simp only[Rep]at r ⊢;obtain⟨p,xs,e,q,rs⟩:=r;exact⟨p,xs,e,h _ _ q,Reps.mono h rs⟩
 | .lst ds,_,r=>by
  simp only[Rep]at r ⊢;obtain⟨p,xs,e,q,rs⟩:=r;exact⟨p,xs,e,iF h q,Reps.mono h rs⟩
 | .dct tk ks vs,_,r=>by
  simp only[Rep]at r ⊢;obtain⟨p,xs,o,e,q,dd,rs⟩:=r;exact⟨p,xs,o,e,Rd.mono h q,dd,Reps.mono h rs⟩
theorem Reps.mono(h:Same G G'):∀{ds:List D}{xs:List V},Reps K G ds xs->Reps K G' ds xs
 |[],_,r=>by simpa only[Reps] using r
 |d::ds,_,r=>by
  simp only[Reps]at r ⊢;obtain⟨y,ys,e,r1,r2⟩:=r;exact⟨y,ys,e,Rep.mono h r1,Reps.mono h r2⟩
end
theorem AllO.imp{P P':D->V->List Addr->Prop}:∀{ds:List D}{xs:List V}{fp:List Addr},(∀d v a,(∀p∈a,p∈fp)->P d v a->P' d v a)->AllO P ds xs fp->AllO P' ds xs fp
 |[],_,_,_,r=>r
 |d::ds,xs,fp,h,r=>by
  obtain⟨y,ys,a,b,e1,e2,p,q⟩:=r;subst e2;exact⟨y,ys,a,b,e1,rfl,h _ _ _ (fun p hp=>Tq _ hp) p,AllO.imp (fun d v c hc=>h d v c fun p hp=>Tn _ (hc p hp)) q⟩
mutual
theorem RepO.step(h:Same G G'):∀{o:O}{d:D}{v:V}{fp:List Addr},(∀p∈fp,H' p=H p)->RepO K G H o d v fp->RepO K G' H' o d v fp
 | .f,d,v,fp,hk,r=>by
  simp only[RepO]at r ⊢;exact⟨Rep.mono h r.1,r.2⟩
 | .pin p c,d,v,fp,hk,r=>by
  simp only[RepO]at r ⊢;exact⟨r.1,RepO.step h hk r.2⟩
 | .l c,.lst ds,v,fp,hk,r=>by
  simp only[RepO]at r ⊢;obtain⟨p,xs,HI,e,q,e2,a⟩:=r;subst e2;exact⟨p,xs,HI,e,(hk p Tp).trans q,rfl,AllO.imp (fun d v c hc=>RepO.step h fun z hz=>hk z (Tx _ (hc z hz))) a⟩
 | .t cs,.tup ds,v,fp,hk,r=>by
  simp only[RepO]at r ⊢;obtain⟨p,xs,e,q,a⟩:=r;exact⟨p,xs,e,h _ _ q,RepT.step h hk a⟩
 | .d,.dct tk ks vs,v,fp,hk,r=>by
  simp only[RepO]at r ⊢;obtain⟨p,xs,o,e,q,dd,e2,rs⟩:=r;subst e2;exact⟨p,xs,o,e,(hk p Tp).trans q,dd,rfl,Reps.mono h rs⟩
 | .l _,.non,_,_,_,r | .l _,.bl _,_,_,_,r | .l _,.int _,_,_,_,r | .l _,.str _,_,_,_,r | .l _,.tup _,_,_,_,r | .l _,.dct _ _ _,_,_,_,r=>by simp only[RepO]at r
 | .t _,.non,_,_,_,r | .t _,.bl _,_,_,_,r | .t _,.int _,_,_,_,r | .t _,.str _,_,_,_,r | .t _,.lst _,_,_,_,r | .t _,.dct _ _ _,_,_,_,r=>by simp only[RepO]at r
 | .d,.non,_,_,_,r | .d,.bl _,_,_,_,r | .d,.int _,_,_,_,r | .d,.str _,_,_,_,r | .d,.tup _,_,_,_,r | .d,.lst _,_,_,_,r=>by simp only[RepO]at r
theorem RepT.step(h:Same G G'):∀{cs:List O}{ds:List D}{xs:List V}{fp:List Addr},(∀p∈fp,H' p=H p)->RepT K G H cs ds xs fp->RepT K G' H' cs ds xs fp
 |[],[],_,_,_,r=>by simpa only[RepT] using r
 |c::cs,d::ds,xs,fp,hk,r=>by
  simp only[RepT]at r ⊢;obtain⟨y,ys,a,b,e1,e2,r1,r2⟩:=r;subst e2;exact⟨y,ys,a,b,e1,rfl,RepO.step h (fun p hp=>hk p (Tq _ hp)) r1,RepT.step h (fun p hp=>hk p (Tn _ hp)) r2⟩
 |[],_::_,_,_,_,r=>by simp only[RepT]at r
 |_::_,[],_,_,_,r=>by simp only[RepT]at r
end
theorem AllO.frozen{P:D->V->List Addr->Prop}:∀{ds:List D}{xs:List V}{fp:List Addr},(∀d v a,(∀p∈a,p∈fp)->P d v a->Rep K G' d v)->AllO P ds xs fp->Reps K G' ds xs
 |[],_,_,_,r=>by simp only[Reps];exact r.1
 |d::ds,xs,fp,h,r=>by
  obtain⟨y,ys,a,b,e1,e2,p,q⟩:=r;subst e2;simp only[Reps];exact⟨y,ys,e1,h _ _ _ (fun p hp=>Tq _ hp) p,AllO.frozen (fun d v c hc=>h d v c fun p hp=>Tn _ (hc p hp)) q⟩
mutual
theorem RepO.frozen(h:Same G G'):∀{o:O}{d:D}{v:V}{fp:List Addr},(∀p∈fp,∀u,H p=some u->G' p=some u)->RepO K G H o d v fp->Rep K G' d v
 | .f,d,v,fp,hk,r=>by
  simp only[RepO]at r;exact Rep.mono h r.1
 | .pin p c,d,v,fp,hk,r=>by
  simp only[RepO]at r;exact RepO.frozen h hk r.2
 | .l c,.lst ds,v,fp,hk,r=>by
  simp only[RepO]at r;simp only[Rep];obtain⟨p,xs,HI,e,q,e2,a⟩:=r;subst e2;exact⟨p,xs,e,SqL.of (hk p Tp _ q),AllO.frozen (fun d v c hc=>RepO.frozen h fun z hz=>hk z (Tx _ (hc z hz))) a⟩
 | .t cs,.tup ds,v,fp,hk,r=>by
  simp only[RepO]at r;simp only[Rep];obtain⟨p,xs,e,q,a⟩:=r;exact⟨p,xs,e,h _ _ q,RepT.frozen h hk a⟩
 | .d,.dct tk ks vs,v,fp,hk,r=>by
  simp only[RepO]at r;simp only[Rep];obtain⟨p,xs,o,e,q,dd,e2,rs⟩:=r;subst e2;exact⟨p,xs,o,e,.inl (hk p Tp _ q),dd,Reps.mono h rs⟩
 | .l _,.non,_,_,_,r | .l _,.bl _,_,_,_,r | .l _,.int _,_,_,_,r | .l _,.str _,_,_,_,r | .l _,.tup _,_,_,_,r | .l _,.dct _ _ _,_,_,_,r=>by simp only[RepO]at r
 | .t _,.non,_,_,_,r | .t _,.bl _,_,_,_,r | .t _,.int _,_,_,_,r | .t _,.str _,_,_,_,r | .t _,.lst _,_,_,_,r | .t _,.dct _ _ _,_,_,_,r=>by simp only[RepO]at r
 | .d,.non,_,_,_,r | .d,.bl _,_,_,_,r | .d,.int _,_,_,_,r | .d,.str _,_,_,_,r | .d,.tup _,_,_,_,r | .d,.lst _,_,_,_,r=>by simp only[RepO]at r
theorem RepT.frozen(h:Same G G'):∀{cs:List O}{ds:List D}{xs:List V}{fp:List Addr},(∀p∈fp,∀u,H p=some u->G' p=some u)->RepT K G H cs ds xs fp->Reps K G' ds xs
 |[],[],_,_,_,r=>by simp only[RepT]at r;simp only[Reps];exact r.1
 |c::cs,d::ds,xs,fp,hk,r=>by
  simp only[RepT]at r;simp only[Reps];obtain⟨y,ys,a,b,e1,e2,r1,r2⟩:=r;subst e2;exact⟨y,ys,e1,RepO.frozen h (fun p hp=>hk p (Tq _ hp)) r1,RepT.frozen h (fun p hp=>hk p (Tn _ hp)) r2⟩
 |[],_::_,_,_,_,r=>by simp only[RepT]at r
 |_::_,[],_,_,_,r=>by simp only[RepT]at r
end
theorem AllO.live{P:D->V->List Addr->Prop}:∀{ds:List D}{xs:List V}{fp:List Addr},(∀d v a,P d v a->∀p∈a,∃u,H p=some u)->AllO P ds xs fp->∀p∈fp,∃u,H p=some u
 |[],_,_,_,r=>by rw[r.2];intro p hp;cases hp
 |d::ds,xs,fp,h,r=>by
  obtain⟨y,ys,a,b,e1,e2,p,q⟩:=r;subst e2;intro z hz;rcases TX.mp hz with hz|hz
  ·exact h _ _ _ p z hz
  ·exact AllO.live h q z hz
mutual
theorem RepO.live:∀{o:O}{d:D}{v:V}{fp:List Addr},RepO K G H o d v fp->∀p∈fp,∃u,H p=some u
 | .f,d,v,fp,r=>by
  simp only[RepO]at r;rw[r.2];intro p hp;cases hp
 | .pin p c,d,v,fp,r=>by
  simp only[RepO]at r;exact RepO.live r.2
 | .l c,.lst ds,v,fp,r=>by
  simp only[RepO]at r;obtain⟨p,xs,HI,e,q,e2,a⟩:=r;subst e2;intro z hz;rcases Tz.mp hz with rfl|hz
  ·exact⟨_,q⟩
  ·exact AllO.live (fun d v a=>RepO.live) a z hz
 | .t cs,.tup ds,v,fp,r=>by
  simp only[RepO]at r;obtain⟨p,xs,e,q,a⟩:=r;exact RepT.live a
 | .d,.dct tk ks vs,v,fp,r=>by
  simp only[RepO]at r;obtain⟨p,xs,o,e,q,dd,e2,rs⟩:=r;subst e2;intro z hz;rw[TU]at hz;exact⟨_,hz▸q⟩
 | .l _,.non,_,_,r | .l _,.bl _,_,_,r | .l _,.int _,_,_,r | .l _,.str _,_,_,r | .l _,.tup _,_,_,r | .l _,.dct _ _ _,_,_,r=>by simp only[RepO]at r
 | .t _,.non,_,_,r | .t _,.bl _,_,_,r | .t _,.int _,_,_,r | .t _,.str _,_,_,r | .t _,.lst _,_,_,r | .t _,.dct _ _ _,_,_,r=>by simp only[RepO]at r
 | .d,.non,_,_,r | .d,.bl _,_,_,r | .d,.int _,_,_,r | .d,.str _,_,_,r | .d,.tup _,_,_,r | .d,.lst _,_,_,r=>by simp only[RepO]at r
theorem RepT.live:∀{cs:List O}{ds:List D}{xs:List V}{fp:List Addr},RepT K G H cs ds xs fp->∀p∈fp,∃u,H p=some u
 |[],[],_,_,r=>by
  simp only[RepT]at r;rw[r.2];intro p hp;cases hp
 |c::cs,d::ds,xs,fp,r=>by
  simp only[RepT]at r;obtain⟨y,ys,a,b,e1,e2,r1,r2⟩:=r;subst e2;intro z hz;rcases TX.mp hz with hz|hz
  ·exact RepO.live r1 z hz
  ·exact RepT.live r2 z hz
 |[],_::_,_,_,r=>by simp only[RepT]at r
 |_::_,[],_,_,r=>by simp only[RepT]at r
end
theorem DictO.isM{o:HO}{tk:Bool}{ks:List D}{xs:List V}(h:DictO o tk ks xs):PV.isM o=true:=by
 cases tk with
 |true=>
  obtain⟨kvs,e,_⟩:=h;rw[e];rfl
 |false=>
  obtain⟨kvs,e,_⟩:=h;rw[e];rfl
theorem AllO.mut{P:D->V->List Addr->Prop}:∀{ds:List D}{xs:List V}{fp:List Addr},(∀d v a,P d v a->∀p∈a,∃u,H p=some u/\isM u=true)->AllO P ds xs fp->∀p∈fp,∃u,H p=some u/\isM u=true
 |[],_,_,_,r=>by rw[r.2];intro p hp;cases hp
 |d::ds,xs,fp,h,r=>by
  obtain⟨y,ys,a,b,e1,e2,p,q⟩:=r;subst e2;intro z hz;rcases TX.mp hz with hz|hz
  ·exact h _ _ _ p z hz
  ·exact AllO.mut h q z hz
mutual
theorem RepO.mut:∀{o:O}{d:D}{v:V}{fp:List Addr},RepO K G H o d v fp->∀p∈fp,∃u,H p=some u/\isM u=true
 | .f,d,v,fp,r=>by
  simp only[RepO]at r;rw[r.2];intro p hp;cases hp
 | .pin p c,d,v,fp,r=>by
  simp only[RepO]at r;exact RepO.mut r.2
 | .l c,.lst ds,v,fp,r=>by
  simp only[RepO]at r;obtain⟨p,xs,HI,e,q,e2,a⟩:=r;subst e2;intro z hz;rcases Tz.mp hz with rfl|hz
  ·exact⟨_,q,rfl⟩
  ·exact AllO.mut (fun d v a=>RepO.mut) a z hz
 | .t cs,.tup ds,v,fp,r=>by
  simp only[RepO]at r;obtain⟨p,xs,e,q,a⟩:=r;exact RepT.mut a
 | .d,.dct tk ks vs,v,fp,r=>by
  simp only[RepO]at r;obtain⟨p,xs,o,e,q,dd,e2,rs⟩:=r;subst e2;intro z hz;rw[TU]at hz;exact⟨_,hz▸q,dd.isM⟩
 | .l _,.non,_,_,r | .l _,.bl _,_,_,r | .l _,.int _,_,_,r | .l _,.str _,_,_,r | .l _,.tup _,_,_,r | .l _,.dct _ _ _,_,_,r=>by simp only[RepO]at r
 | .t _,.non,_,_,r | .t _,.bl _,_,_,r | .t _,.int _,_,_,r | .t _,.str _,_,_,r | .t _,.lst _,_,_,r | .t _,.dct _ _ _,_,_,r=>by simp only[RepO]at r
 | .d,.non,_,_,r | .d,.bl _,_,_,r | .d,.int _,_,_,r | .d,.str _,_,_,r | .d,.tup _,_,_,r | .d,.lst _,_,_,r=>by simp only[RepO]at r
theorem RepT.mut:∀{cs:List O}{ds:List D}{xs:List V}{fp:List Addr},RepT K G H cs ds xs fp->∀p∈fp,∃u,H p=some u/\isM u=true
 |[],[],_,_,r=>by
  simp only[RepT]at r;rw[r.2];intro p hp;cases hp
 |c::cs,d::ds,xs,fp,r=>by
  simp only[RepT]at r;obtain⟨y,ys,a,b,e1,e2,r1,r2⟩:=r;subst e2;intro z hz;rcases TX.mp hz with hz|hz
  ·exact RepO.mut r1 z hz
  ·exact RepT.mut r2 z hz
 |[],_::_,_,_,r=>by simp only[RepT]at r
 |_::_,[],_,_,r=>by simp only[RepT]at r
end
noncomputable def RepE(K:W.Frag)(G H:Hp):Env->List (Option V)->List Addr->Prop
 |[],vs,fp=>vs=[]/\fp=[]
 |e::es,vs,fp=>∃y ys,vs=y::ys/\match e with
  |none=>RepE K G H es ys fp
  |some r=>∃v a b,y=some v/\fp=a++b/\RepO K G H r.1 r.2 v a/\RepE K G H es ys b
theorem RepE.step(h:Same G G'):∀{es:Env}{vs:List (Option V)}{fp:List Addr},(∀p∈fp,H' p=H p)->RepE K G H es vs fp->RepE K G' H' es vs fp
 |[],_,_,_,r=>r
 |none::es,vs,fp,hk,r=>by
  obtain⟨y,ys,e,r⟩:=r;exact⟨y,ys,e,RepE.step h hk r⟩
 |some r::es,vs,fp,hk,q=>by
  obtain⟨y,ys,e,v,a,b,e1,e2,r1,r2⟩:=q;subst e2;exact⟨y,ys,e,v,a,b,e1,rfl,RepO.step h (fun p hp=>hk p (Tq _ hp)) r1,RepE.step h (fun p hp=>hk p (Tn _ hp)) r2⟩
theorem RepE.live:∀{es:Env}{vs:List (Option V)}{fp:List Addr},RepE K G H es vs fp->∀p∈fp,∃u,H p=some u
 |[],_,_,r=>by
  rw[r.2];intro p hp;cases hp
 |none::es,vs,fp,r=>by
  obtain⟨y,ys,e,r⟩:=r;exact RepE.live r
 |some r::es,vs,fp,q=>by
  obtain⟨y,ys,e,v,a,b,e1,e2,r1,r2⟩:=q;subst e2;intro z hz;rcases TX.mp hz with hz|hz
  ·exact r1.live z hz
  ·exact RepE.live r2 z hz
theorem RepE.mut:∀{es:Env}{vs:List (Option V)}{fp:List Addr},RepE K G H es vs fp->∀p∈fp,∃u,H p=some u/\isM u=true
 |[],_,_,r=>by
  rw[r.2];intro p hp;cases hp
 |none::es,vs,fp,r=>by
  obtain⟨y,ys,e,r⟩:=r;exact RepE.mut r
 |some r::es,vs,fp,q=>by
  obtain⟨y,ys,e,v,a,b,e1,e2,r1,r2⟩:=q;subst e2;intro z hz;rcases TX.mp hz with hz|hz
  ·exact r1.mut z hz
  ·exact RepE.mut r2 z hz
theorem RepE.length:∀{es:Env}{vs:List (Option V)}{fp:List Addr},RepE K G H es vs fp->vs.length=es.length
 |[],_,_,r=>by rw[r.1];rfl
 |none::es,vs,fp,r=>by
  obtain⟨y,ys,e,r⟩:=r;rw[e,TJ,TJ,RepE.length r]
 |some r::es,vs,fp,q=>by
  obtain⟨y,ys,e,v,a,b,e1,e2,r1,r2⟩:=q;rw[e,TJ,TJ,RepE.length r2]
theorem RepE.take:∀{es:Env}{vs:List (Option V)}{fp:List Addr}{i:Nat}{r:R},RepE K G H es vs fp->es[i]?=some (some r)->
  ∃v a b,vs[i]?=some (some v)/\RepO K G H r.1 r.2 v a/\RepE K G H (es.set i none) vs b/\fp.Perm (a++b)
 |[],_,_,_,_,_,e=>by simp at e
 |none::es,vs,fp,0,r,q,e=>by simp at e
 |some r'::es,vs,fp,0,r,q,e=>by
  obtain⟨y,ys,e0,v,a,b,e1,e2,r1,r2⟩:=q;simp at e;subst e;subst e0;subst e1;exact⟨v,a,b,rfl,r1,⟨some v,ys,rfl,r2⟩,by rw[e2]⟩
 |none::es,vs,fp,i+1,r,q,e=>by
  obtain⟨y,ys,e0,q⟩:=q;obtain⟨v,a,b,g1,g2,g3,g4⟩:=RepE.take q (i:=i) (r:=r) (by simpa using e);subst e0;exact⟨v,a,b,by simpa using g1,g2,⟨y,ys,rfl,g3⟩,g4⟩
 |some r'::es,vs,fp,i+1,r,q,e=>by
  obtain⟨y,ys,e0,v',a',b',e1,e2,r1,r2⟩:=q;obtain⟨v,a,b,g1,g2,g3,g4⟩:=RepE.take r2 (i:=i) (r:=r) (by simpa using e);subst e0;refine⟨v,a,a'++b,by simpa using g1,g2,⟨y,ys,rfl,v',a',b,e1,rfl,r1,g3⟩,?_⟩;rw[e2];refine(Xj a' g4).trans ?_;rw[<-Ut,<-Ut];exact W5 b Xk
theorem RepE.put:∀{es:Env}{vs:List (Option V)}{b:List Addr}{i:Nat}{r:R}{v:V}{a:List Addr},RepE K G H es vs b->es[i]?=some none->RepO K G H r.1 r.2 v a->
  ∃fp,RepE K G H (es.set i (some r)) (vs.set i (some v)) fp/\fp.Perm (a++b)
 |[],_,_,_,_,_,_,_,e,_=>by simp at e
 |none::es,vs,b,0,r,v,a,q,e,ro=>by
  obtain⟨y,ys,e0,q⟩:=q;subst e0;exact⟨a++b,⟨some v,ys,rfl,v,a,b,rfl,rfl,ro,q⟩,.refl _⟩
 |some r'::es,vs,b,0,r,v,a,q,e,ro=>by simp at e
 |none::es,vs,b,i+1,r,v,a,q,e,ro=>by
  obtain⟨y,ys,e0,q⟩:=q;obtain⟨fp,g1,g2⟩:=RepE.put q (i:=i) (r:=r) (by simpa using e) ro;subst e0;exact⟨fp,⟨y,_,rfl,g1⟩,g2⟩
 |some r'::es,vs,b,i+1,r,v,a,q,e,ro=>by
  obtain⟨y,ys,e0,v',a',b',e1,e2,r1,r2⟩:=q;obtain⟨fp,g1,g2⟩:=RepE.put r2 (i:=i) (r:=r) (by simpa using e) ro;subst e0;refine⟨a'++fp,⟨y,_,rfl,v',a',fp,e1,rfl,r1,g1⟩,?_⟩;rw[e2];refine(Xj a' g2).trans ?_;rw[<-Ut,<-Ut];exact W5 b' Xk
structure Rel(K:W.Frag)(G H:Hp)(es:Env)(vs:List (Option V))(fp:List Addr):Prop where
 rep:RepE K G H es vs fp
 nd:fp.Nodup
 gn:∀p∈fp,G p=none
 gh:Same G H
structure Step(G H:Hp)(fp:List Addr)(G' H':Hp)(HI:List Addr):Prop where
 gg:Same G G'
 keep:∀q u,H q=some u->q∉fp->H' q=some u
 fpn:∀q∈HI,q∈fp\/H q=none
 gnew:∀q u,G' q=some u->G q=some u\/q∈fp\/H q=none\/isT u=true/\H q=some u
 there:∀q u,H q=some u->∃u',H' q=some u'
theorem Step.refl{fp:List Addr}:Step G H fp G H fp:=⟨.refl _,fun _ _ h _=>h,fun _ h=>.inl h,fun _ _ h=>.inl h,fun _ u h=>⟨u,h⟩⟩
theorem Step.trans{G1 H1 G2 H2:Hp}{fp HZ Ig:List Addr}(a:Step G H fp G1 H1 HZ)(b:Step G1 H1 HZ G2 H2 Ig):Step G H fp G2 H2 Ig:=by
 refine⟨a.gg.trans b.gg,fun q u h n=>?_,fun q hq=>?_,fun q u hq=>?_,fun q u h=>?_⟩
 ·refine b.keep q u (a.keep q u h n) fun hq=>?_
  rcases a.fpn q hq with z|z
  ·exact n z
  ·rw[z]at h;cases h
 ·rcases b.fpn q hq with z|z
  ·exact a.fpn q z
  ·cases e:H q with
   |none=>exact .inr rfl
   |some u=>
    obtain⟨u',e'⟩:=a.there q u e;rw[z]at e';cases e'
 ·rcases b.gnew q u hq with z|z|z|⟨t,z⟩
  ·exact a.gnew q u z
  ·exact .inr ((a.fpn q z).imp_right .inl)
  ·cases e:H q with
   |none=>exact .inr (.inr (.inl rfl))
   |some u=>
    obtain⟨u',e'⟩:=a.there q u e;rw[z]at e';cases e'
  ·cases e:H q with
   |none=>exact .inr (.inr (.inl rfl))
   |some u2=>
    by_cases hf:q∈fp
    ·exact .inr (.inl hf)
    ·rw[a.keep q u2 e hf]at z;cases z;exact .inr (.inr (.inr ⟨t,rfl⟩))
 ·obtain⟨u',h'⟩:=a.there q u h;exact b.there q u' h'
theorem Step.perm{fp fq HI Qq:List Addr}(a:Step G H fp G' H' HI)(h:∀q,q∈fp<->q∈fq)(h':∀q∈Qq,q∈HI):Step G H fq G' H' Qq:=
 ⟨a.gg,fun q u e n=>a.keep q u e fun z=>n ((h q).mp z),fun q hq=>(a.fpn q (h' q hq)).imp_left (h q).mp,fun q u e=>(a.gnew q u e).imp_right (Or.imp_left (h q).mp),a.there⟩
theorem Step.wide{fp fq HI Qq:List Addr}(a:Step G H fp G' H' HI)(h:∀q∈fp,q∈fq)(h':∀q∈Qq,q∈HI\/q∈fq):Step G H fq G' H' Qq:=
 ⟨a.gg,fun q u e n=>a.keep q u e fun z=>n (h q z),fun q hq=>(h' q hq).elim (fun z=>(a.fpn q z).imp_left (h q)) .inl,fun q u e=>(a.gnew q u e).imp_right (Or.imp_left (h q)),a.there⟩
theorem Rel.perm{es:Env}{vs:List (Option V)}{fp fq:List Addr}(r:RepE K G H es vs fq)(nd:fp.Nodup)(gn:∀p∈fp,G p=none)(gh:Same G H)(h:fp.Perm fq):Rel K G H es vs fq:=
 ⟨r,h.nodup_iff.mp nd,fun p hp=>gn p (h.mem_iff.mpr hp),gh⟩
theorem Rel.frame{r:R}{v:V}{es:Env}{vs:List (Option V)}{fp:List Addr}(q:Rel K G H (some r::es) (some v::vs) fp):
  ∃a b,fp=a++b/\RepO K G H r.1 r.2 v a/\Rel K G H es vs b/\∀(G' H':Hp) (L8:Env) (IX:List (Option V)) (b':List Addr),Step G H b G' H' b'->Rel K G' H' L8 IX b'->
   Rel K G' H' (some r::L8) (some v::IX) (a++b')/\Step G H (a++b) G' H' (a++b'):=by
 obtain⟨y,ys,e,v',a,b,e1,e2,r1,r2⟩:=q.rep;cases e;cases e1;subst e2;have nd:=TM.mp q.nd;refine⟨a,b,rfl,r1,⟨r2,nd.2.1,fun p hp=>q.gn p (Tn _ hp),q.gh⟩,fun G' H' L8 IX b' st k=>?_⟩;have nb:∀p∈a,p∉b:=fun p hp hb=>nd.2.2 p hp p hb rfl
 have same:∀p∈a,H' p=H p:=fun p hp=>by
  obtain⟨u,hu⟩:=r1.live p hp;rw[hu];exact st.keep p u hu (nb p hp)
 refine⟨⟨⟨some v,IX,rfl,v,a,b',rfl,rfl,r1.step st.gg same,k.rep⟩,?_,fun p hp=>?_,k.gh⟩,st.wide (fun p hp=>Tn _ hp) fun p hp=>?_⟩
 ·rw[TM];refine⟨nd.1,k.nd,fun p hp z hz e=>?_⟩;subst e;obtain⟨u,hu⟩:=r1.live p hp;rcases st.fpn p hz with z|z
  ·exact nb p hp z
  ·rw[z]at hu;cases hu
 ·rcases TX.mp hp with hp|hp
  ·cases e:G' p with
   |none=>rfl
   |some u=>
    exfalso;obtain⟨u',hu⟩:=r1.live p hp;rcases st.gnew p u e with z|z|z|⟨t,z⟩
    ·rw[q.gn p (Tq _ hp)]at z;cases z
    ·exact nb p hp z
    ·rw[z]at hu;cases hu
    ·obtain⟨u2,h2,hm⟩:=r1.mut p hp;rw[z]at h2;cases h2;cases u with
     |tup _=>cases hm
     |frz _ _=>cases hm
     |_=>cases t
  ·exact k.gn p hp
 ·rcases TX.mp hp with hp|hp
  ·exact .inr (Tq _ hp)
  ·exact .inl hp
theorem Rel.freeze{r:R}{v:V}{es:Env}{vs:List (Option V)}{fp:List Addr}(q:Rel K G H (some r::es) (some v::vs) fp):
  ∃G' b,Rep K G' r.2 v/\Rel K G' H es vs b/\Step G H fp G' H b:=by
 obtain⟨y,ys,e,v',a,b,e1,e2,r1,r2⟩:=q.rep;cases e;cases e1;subst e2;have nd:=TM.mp q.nd;have nb:∀p∈a,p∉b:=fun p hp hb=>nd.2.2 p hp p hb rfl
 have hg:Same G (fun p=>if p∈a then H p else G p):=fun p u e=>by
  show(if p∈a then H p else G p)=some u;by_cases hp:p∈a
  ·rw[Tt hp];exact q.gh p u e
  ·rw[TB hp];exact e
 refine⟨fun p=>if p∈a then H p else G p,b,r1.frozen hg fun p hp u e=>?_,⟨r2.step hg fun _ _=>rfl,nd.2.1,fun p hp=>?_,fun p u e=>?_⟩,⟨hg,fun _ _ e _=>e,fun p hp=>.inl (Tn _ hp),fun p u e=>?_,fun _ u e=>⟨u,e⟩⟩⟩
 ·show(if p∈a then H p else G p)=some u;rw[Tt hp];exact e
 ·show(if p∈a then H p else G p)=none;rw[TB (fun z=>nb p z hp)];exact q.gn p (Tn _ hp)
 ·have e:(if p∈a then H p else G p)=some u:=e;by_cases hp:p∈a
  ·rw[Tt hp]at e;exact e
  ·rw[TB hp]at e;exact q.gh p u e
 ·have e:(if p∈a then H p else G p)=some u:=e;by_cases hp:p∈a
  ·exact .inr (.inl (Tq _ hp))
  ·rw[TB hp]at e;exact .inl e
end
section
variable{K:W.Frag}{G G' H H':Hp}{es:Env}{vs:List (Option V)}{fp:List Addr}
theorem sP:∀{ds:List D}{xs:List V}{fp:List Addr},AllO (RepO K G H .f) ds xs fp<->Reps K G ds xs/\fp=[]
 |[],xs,fp=>by simp only[AllO,Reps]
 |d::ds,xs,fp=>by
  simp only[AllO,Reps,RepO];constructor
  ·rintro⟨y,ys,a,b,e1,e2,⟨r,e3⟩,q⟩;obtain⟨q1,q2⟩:=sP.mp q;subst e3;subst q2;exact⟨⟨y,ys,e1,r,q1⟩,e2⟩
  ·rintro⟨⟨y,ys,e1,r,q1⟩,e⟩;exact⟨y,ys,[],[],e1,e,⟨r,rfl⟩,sP.mpr ⟨q1,rfl⟩⟩
theorem kJ{d:D}{v:V}{a:List Addr}:RepO K G H .f d v a<->Rep K G d v/\a=[]:=by simp only[RepO]
theorem dE{ds:List D}{v:V}{a:List Addr}:RepO K G H (.l .f) (.lst ds) v a<->∃p xs,v=.ref p/\H p=some (.lst xs)/\a=[p]/\Reps K G ds xs:=by
 rw[RepO];constructor
 ·rintro⟨p,xs,b,e,q,e2,r⟩;obtain⟨r',eb⟩:=sP.mp r;subst eb;exact⟨p,xs,e,q,e2,r'⟩
 ·rintro⟨p,xs,e,q,e2,r⟩;exact⟨p,xs,[],e,q,e2,sP.mpr ⟨r,rfl⟩⟩
theorem Reps.length:∀{ds:List D}{xs:List V},Reps K G ds xs->xs.length=ds.length
 |[],xs,r=>by simp only[Reps]at r;rw[r];rfl
 |d::ds,xs,r=>by
  simp only[Reps]at r;obtain⟨y,ys,e,_,q⟩:=r;rw[e,TJ,TJ,Reps.length q]
theorem Reps.get:∀{ds:List D}{xs:List V}{i:Nat}{d:D},Reps K G ds xs->ds[i]?=some d->∃v,xs[i]?=some v/\Rep K G d v
 |[],_,_,_,_,e=>by simp at e
 |d'::ds,xs,0,d,r,e=>by
  simp only[Reps]at r;obtain⟨y,ys,e1,q,_⟩:=r;simp at e;subst e;exact⟨y,by rw[e1];rfl,q⟩
 |d'::ds,xs,i+1,d,r,e=>by
  simp only[Reps]at r;obtain⟨y,ys,e1,_,q⟩:=r;obtain⟨v,a,b⟩:=Reps.get q (i:=i) (d:=d) (by simpa using e);exact⟨v,by rw[e1];simpa using a,b⟩
theorem Reps.app:∀{ds es:List D}{xs ys:List V},Reps K G ds xs->Reps K G es ys->Reps K G (ds++es) (xs++ys)
 |[],_,_,_,r,q=>by simp only[Reps]at r;rw[r];exact q
 |d::ds,es,xs,ys,r,q=>by
  simp only[Reps]at r;obtain⟨z,zs,e,r1,r2⟩:=r;rw[e];simp only[VH,Reps];exact⟨z,_,rfl,r1,r2.app q⟩
theorem Reps.one{d:D}{v:V}(r:Rep K G d v):Reps K G [d] [v]:=by
 simp only[Reps];exact⟨v,[],rfl,r,rfl⟩
theorem Reps.nil:Reps K G [] []:=by simp only[Reps]
theorem Reps.cons{d:D}{v:V}{ds:List D}{xs:List V}(r:Rep K G d v)(q:Reps K G ds xs):Reps K G (d::ds) (v::xs):=by
 simp only[Reps];exact⟨v,xs,rfl,r,q⟩
theorem Reps.cons_iff{d:D}{v:V}{ds:List D}{xs:List V}:Reps K G (d::ds) (v::xs)<->Rep K G d v/\Reps K G ds xs:=by
 simp only[Reps];constructor
 ·rintro⟨y,ys,e,r,q⟩;cases e;exact⟨r,q⟩
 ·rintro⟨r,q⟩;exact⟨v,xs,rfl,r,q⟩
theorem Reps.take:∀{ds:List D}{xs:List V}(n:Nat),Reps K G ds xs->Reps K G (ds.take n) (xs.take n)
 |_,_,0,_=>by rw[Vd,Vd];exact Reps.nil
 |[],xs,n+1,r=>by simp only[Reps]at r;rw[r];exact Reps.nil
 |d::ds,xs,n+1,r=>by
  simp only[Reps]at r;obtain⟨y,ys,e,r1,r2⟩:=r;rw[e,XJ,XJ];exact .cons r1 (r2.take n)
theorem Reps.drop:∀{ds:List D}{xs:List V}(n:Nat),Reps K G ds xs->Reps K G (ds.drop n) (xs.drop n)
 |_,_,0,r=>r
 |[],xs,n+1,r=>by simp only[Reps]at r;rw[r];exact Reps.nil
 |d::ds,xs,n+1,r=>by
  simp only[Reps]at r;obtain⟨y,ys,e,r1,r2⟩:=r;rw[e,XM,XM];exact r2.drop n
theorem Reps.ofAll{ds:List D}{xs:List V}(hl:xs.length=ds.length)(h:∀(i:Nat) (d:D) (v:V),ds[i]?=some d->xs[i]?=some v->Rep K G d v):Reps K G ds xs:=by
 induction ds generalizing xs with
 |nil=>simp only[Reps];exact Ue hl
 |cons d ds ih=>
  cases xs with
  |nil=>simp at hl
  |cons v xs=>exact .cons (h 0 d v rfl rfl) (ih (by simpa using hl) fun i d v a b=>h (i+1) d v (by simpa using a) (by simpa using b))
theorem Step.cut{fq:List Addr}(h:∀q∈fq,q∈fp):Step G H fp G H fq:=⟨.refl _,fun _ _ e _=>e,fun q hq=>.inl (h q hq),fun _ _ e=>.inl e,fun _ u e=>⟨u,e⟩⟩
theorem Rel.drop{r:R}{y:Option V}(q:Rel K G H (some r::es) (y::vs) fp):∃b,Rel K G H es vs b/\Step G H fp G H b:=by
 obtain⟨y,ys,e,v',a,b,e1,e2,r1,r2⟩:=q.rep;cases e;cases e1;subst e2;have nd:=TM.mp q.nd;exact⟨b,⟨r2,nd.2.1,fun p hp=>q.gn p (Tn _ hp),q.gh⟩,Step.cut fun p hp=>Tn _ hp⟩
theorem Rel.top{r:R}{v:V}(q:Rel K G H (some r::es) (some v::vs) fp):Rep K H r.2 v:=by
 obtain⟨y,ys,e,v',a,b,e1,e2,r1,r2⟩:=q.rep;cases e;cases e1;exact r1.frozen q.gh fun p hp u e=>e
theorem Rel.out{i:Nat}{r:R}(q:Rel K G H es vs fp)(e:es[i]?=some (some r)):∃v fq,vs[i]?=some (some v)/\Rel K G H (some r::es.set i none) (some v::vs) fq/\Step G H fp G H fq/\Step G H fq G H fp:=by
 obtain⟨v,a,b,e1,r1,r2,pm⟩:=q.rep.take e;exact⟨v,a++b,e1,Rel.perm ⟨some v,vs,rfl,v,a,b,rfl,rfl,r1,r2⟩ q.nd q.gn q.gh pm,Step.cut fun p hp=>pm.mem_iff.mpr hp,Step.cut fun p hp=>pm.mem_iff.mp hp⟩
theorem Rel.view{i:Nat}{r:R}(q:Rel K G H es vs fp)(e:es[i]?=some (some r)):∃v,vs[i]?=some (some v)/\Rep K H r.2 v:=by
 obtain⟨v,fq,e1,r1,_⟩:=q.out e;exact⟨v,e1,r1.top⟩
theorem lG{α:Type}{l:List α}{i:Nat}{x:α}(h:l[i]?=some x):l.set i x=l:=by
 apply V8;intro j;by_cases e:i=j
 ·subst e;rw[List.getElem?_set_self (List.getElem?_eq_some_iff.mp h).1,h]
 ·rw[List.getElem?_set_ne e]
theorem Rel.store{i:Nat}{r:R}{v:V}(q:Rel K G H (some r::es) (some v::vs) fp)(hi:i<es.length):∃fq,Rel K G H (es.set i (some r)) (vs.set i (some v)) fq/\Step G H fp G H fq:=by
 obtain⟨y,ys,e,v',a,b,e1,e2,r1,r2⟩:=q.rep;cases e;cases e1;subst e2;obtain⟨c,hc⟩:∃c,es[i]?=some c:=⟨_,List.getElem?_eq_getElem hi⟩
 have nd:=TM.mp q.nd;have key:∃b',RepE K G H (es.set i none) vs b'/\(∀p∈b',p∈b)/\b'.Nodup:=by
  cases c with
  |none=>exact⟨b,by rw[lG hc];exact r2,fun _ h=>h,nd.2.1⟩
  |some r'=>
   obtain⟨v2,a2,b2,_,_,g,pm⟩:=r2.take hc;refine⟨b2,g,fun p hp=>pm.mem_iff.mpr (Tn _ hp),?_⟩;exact(TM.mp (pm.nodup_iff.mp nd.2.1)).2.1
 obtain⟨b',g,sub,ndb⟩:=key;obtain⟨fq,g2,pm⟩:=g.put (i:=i) (r:=r) (v:=v) (by rw[List.getElem?_set_self hi]) r1;rw[Wc]at g2;have M0:(a++b').Nodup:=by
  rw[TM];exact⟨nd.1,ndb,fun p hp z hz=>nd.2.2 p hp z (sub z hz)⟩
 refine⟨fq,Rel.perm g2 M0 (fun p hp=>?_) q.gh pm.symm,Step.cut fun p hp=>?_⟩
 ·refine q.gn p ?_;rcases TX.mp hp with hp|hp
  ·exact Tq _ hp
  ·exact Tn _ (sub p hp)
 ·rcases TX.mp (pm.mem_iff.mp hp) with hp|hp
  ·exact Tq _ hp
  ·exact Tn _ (sub p hp)
theorem Rel.back{i:Nat}{r:R}{v:V}(q:Rel K G H (some r::es) (some v::vs) fp)(hi:i<es.length)(hv:vs[i]?=some (some v)):∃fq,Rel K G H (es.set i (some r)) vs fq/\Step G H fp G H fq:=by
 obtain⟨fq,g,st⟩:=q.store hi;rw[lG hv]at g;exact⟨fq,g,st⟩
theorem Rel.freezeAt{i:Nat}{r:R}(q:Rel K G H es vs fp)(e:es[i]?=some (some r)):∃v G' fq,vs[i]?=some (some v)/\Rep K G' r.2 v/\Rel K G' H (es.set i (some (.f,r.2))) vs fq/\Step G H fp G' H fq:=by
 obtain⟨v,fq,ev,g,st,_⟩:=q.out e;obtain⟨G',b,rv,g2,HJ⟩:=g.freeze;have g3:Rel K G' H (some (.f,r.2)::es.set i none) (some v::vs) b:=by
  refine⟨⟨some v,vs,rfl,v,[],b,rfl,rfl,?_,g2.rep⟩,g2.nd,g2.gn,g2.gh⟩;exact kJ.mpr ⟨rv,rfl⟩
 obtain⟨fz,g4,JE⟩:=g3.back (i:=i) (by rw[U6];exact(List.getElem?_eq_some_iff.mp e).1) ev;rw[Wc]at g4;exact⟨v,G',fz,ev,rv,g4,st.trans (HJ.trans JE)⟩
theorem Rel.push{d:D}{v:V}(q:Rel K G H es vs fp)(r:Rep K G d v):Rel K G H (some (.f,d)::es) (some v::vs) fp:=by
 refine⟨⟨some v,vs,rfl,v,[],fp,rfl,rfl,?_,q.rep⟩,q.nd,q.gn,q.gh⟩;exact kJ.mpr ⟨r,rfl⟩
theorem Rel.newF{p:Addr}{u:HO}(q:Rel K G H es vs fp)(hp:H p=none):Rel K (upd G p u) (upd H p u) es vs fp/\Step G H fp (upd G p u) (upd H p u) fp:=by
 have gp:G p=none:=by
  cases e:G p with
  |none=>rfl
  |some o=>rw[q.gh p o e]at hp;cases hp
 have np:p∉fp:=fun z=>by
  obtain⟨u,e⟩:=q.rep.live p z;rw[hp]at e;cases e
 have sg:Same G (upd G p u):=fun b o e=>by rw[aJ (aU e gp)];exact e
 have sh:Same H (upd H p u):=fun b o e=>by rw[aJ (aU e hp)];exact e
 refine⟨⟨q.rep.step sg fun z hz=>aJ fun e=>np (e▸hz),q.nd,fun z hz=>?_,fun b o e=>?_⟩,⟨sg,fun b o e _=>sh b o e,fun _ h=>.inl h,fun b o e=>?_,fun b o e=>⟨o,sh b o e⟩⟩⟩
 ·have:z≠p:=fun e=>np (e▸hz)
  rw[aJ this];exact q.gn z hz
 ·by_cases hb:b=p
  ·subst hb;rw[aY]at e ⊢;exact e
  ·rw[aJ hb]at e ⊢;exact q.gh b o e
 ·by_cases hb:b=p
  ·subst hb;exact .inr (.inr (.inl hp))
  ·rw[aJ hb]at e;exact .inl e
theorem Rel.newL{p:Addr}{ds:List D}{xs:List V}(q:Rel K G H es vs fp)(hp:H p=none)(r:Reps K G ds xs):
  Rel K G (upd H p (.lst xs)) (some (.l .f,.lst ds)::es) (some (.ref p)::vs) (p::fp)/\Step G H fp G (upd H p (.lst xs)) (p::fp):=by
 have gp:G p=none:=by
  cases e:G p with
  |none=>rfl
  |some o=>rw[q.gh p o e]at hp;cases hp
 have np:p∉fp:=fun z=>by
  obtain⟨u,e⟩:=q.rep.live p z;rw[hp]at e;cases e
 have sh:Same H (upd H p (.lst xs)):=fun b o e=>by rw[aJ (aU e hp)];exact e
 refine⟨⟨⟨some (.ref p),vs,rfl,.ref p,[p],fp,rfl,rfl,dE.mpr ⟨p,xs,rfl,aY,rfl,r⟩,q.rep.step (.refl _) fun z hz=>aJ fun e=>np (e▸hz)⟩,TY.mpr ⟨np,q.nd⟩,fun z hz=>?_,fun b o e=>?_⟩,
  ⟨.refl _,fun b o e _=>sh b o e,fun b hb=>?_,fun b o e=>.inl e,fun b o e=>⟨o,sh b o e⟩⟩⟩
 ·rcases Tz.mp hz with rfl|hz
  ·exact gp
  ·exact q.gn z hz
 ·exact sh b o (q.gh b o e)
 ·rcases Tz.mp hb with rfl|hb
  ·exact .inr hp
  ·exact .inl hb
theorem Rel.chg{i:Nat}{ds ds':List D}(q:Rel K G H es vs fp)(e:es[i]?=some (some (.l .f,.lst ds))):∃p xs,vs[i]?=some (some (.ref p))/\H p=some (.lst xs)/\Reps K G ds xs/\
  ∀IJ,Reps K G ds' IJ->∃fq,Rel K G (upd H p (.lst IJ)) (es.set i (some (.l .f,.lst ds'))) vs fq/\Step G H fp G (upd H p (.lst IJ)) fq:=by
 obtain⟨v,fq,ev,g,st,JZ⟩:=q.out e;obtain⟨y,ys,e0,v',a,b,e1,e2,r1,r2⟩:=g.rep;cases e0;cases e1;obtain⟨p,xs,e3,hp,e4,rs⟩:=dE.mp r1;subst e3;subst e4;subst e2;have nd:=TY.mp (show(p::b).Nodup from g.nd);refine⟨p,xs,ev,hp,rs,fun IJ JH=>?_⟩;have g2:Rel K G (upd H p (.lst IJ)) (some (.l .f,.lst ds')::es.set i none) (some (.ref p)::vs) (p::b):=by
  refine⟨⟨some (.ref p),vs,rfl,.ref p,[p],b,rfl,rfl,dE.mpr ⟨p,IJ,rfl,aY,rfl,JH⟩,r2.step (.refl _) fun z hz=>aJ fun e=>nd.1 (e▸hz)⟩,g.nd,g.gn,fun z o ez=>?_⟩;have:z≠p:=fun w=>by
   subst w;rw[g.gn z Tp]at ez;cases ez
  rw[aJ this];exact g.gh z o ez
 have Qr:Step G H (p::b) G (upd H p (.lst IJ)) (p::b):=by
  refine⟨.refl _,fun z o ez nz=>?_,fun z hz=>.inl hz,fun z o ez=>.inl ez,fun z o ez=>?_⟩
  ·have:z≠p:=fun w=>nz (by rw[w];exact Tp)
   rw[aJ this];exact ez
  ·by_cases w:z=p
   ·subst w;exact⟨_,aY⟩
   ·exact⟨o,by rw[aJ w];exact ez⟩
 obtain⟨fz,g3,Ip⟩:=g2.back (i:=i) (by rw[U6];exact(List.getElem?_eq_some_iff.mp e).1) ev;rw[Wc]at g3;exact⟨fz,g3,st.trans (Qr.trans Ip)⟩
end
mutual
noncomputable def dh:D->Bool
 | .tup ds=>flatDs ds
 | .lst _=>false
 | .dct _ _ _=>false
 |_=>true
noncomputable def flatDs:List D->Bool
 |[]=>true
 |d::ds=>dh d&&flatDs ds
end
mutual
noncomputable def aT:O->D->Bool
 | .f,d=>dh d
 | .l c,.lst ds=>ds.all (aT c)
 | .t cs,.tup ds=>sQ cs ds
 | .d,.dct _ _ vs=>flatDs vs
 | .pin _ c,d=>aT c d
 |_,_=>false
noncomputable def sQ:List O->List D->Bool
 |[],[]=>true
 |c::cs,d::ds=>aT c d&&sQ cs ds
 |_,_=>false
end
def frz:Option R->Option R:=Option.map fun r=>(.f,r.2)
theorem cy:∀ds,flatDs ds=ds.all dh
 |[]=>rfl
 |d::ds=>by rw[flatDs,Wm,cy ds]
section
variable{K:W.Frag}{G G' G2 G3 H H' H2:Hp}{es:Env}{vs:List (Option V)}{fp:List Addr}
mutual
theorem Rep.flat(h:∀p u,isT u=true->G2 p=some u->G3 p=some u):∀{d:D}{v:V},dh d=true->Rep K G2 d v->Rep K G3 d v
 | .non,_,_,r=>by simpa only[Rep] using r
 | .bl _,_,_,r=>by simpa only[Rep] using r
 | .int _,_,_,r=>by simpa only[Rep] using r
 | .str _,_,_,r=>by simpa only[Rep] using r
 | .tup ds,_,e,r=>by
  simp only[Rep]at r ⊢;simp only[dh]at e;obtain⟨p,xs,ev,q,rs⟩:=r;exact⟨p,xs,ev,h _ _ rfl q,Reps.flat h e rs⟩
 | .lst ds,_,e,r=>by simp only[dh]at e;cases e
 | .dct _ _ _,_,e,r=>by simp only[dh]at e;cases e
theorem Reps.flat(h:∀p u,isT u=true->G2 p=some u->G3 p=some u):∀{ds:List D}{xs:List V},flatDs ds=true->Reps K G2 ds xs->Reps K G3 ds xs
 |[],_,_,r=>by simpa only[Reps] using r
 |d::ds,_,e,r=>by
  simp only[Reps]at r ⊢;simp only[flatDs,TL]at e;obtain⟨y,ys,ev,r1,r2⟩:=r;exact⟨y,ys,ev,Rep.flat h e.1 r1,Reps.flat h e.2 r2⟩
end
theorem AllO.clean{P P':D->V->List Addr->Prop}{c:D->Bool}:∀{ds:List D}{xs:List V}{fp:List Addr},(∀d v a,c d=true->P d v a->P' d v a)->ds.all c=true->AllO P ds xs fp->AllO P' ds xs fp
 |[],_,_,_,_,r=>r
 |d::ds,xs,fp,h,e,r=>by
  obtain⟨y,ys,a,b,e1,e2,p,q⟩:=r;rw[Wm,TL]at e;exact⟨y,ys,a,b,e1,e2,h _ _ _ e.1 p,AllO.clean h e.2 q⟩
mutual
theorem RepO.clean(h:∀p u,isT u=true->G2 p=some u->G3 p=some u):∀{o:O}{d:D}{v:V}{fp:List Addr},aT o d=true->RepO K G2 H o d v fp->RepO K G3 H o d v fp
 | .f,d,v,fp,e,r=>by
  simp only[RepO]at r ⊢;simp only[aT]at e;exact⟨r.1.flat h e,r.2⟩
 | .pin p c,d,v,fp,e,r=>by
  simp only[RepO]at r ⊢;simp only[aT]at e;exact⟨r.1,RepO.clean h e r.2⟩
 | .l c,.lst ds,v,fp,e,r=>by
  rw[RepO]at r ⊢;rw[aT]at e;obtain⟨p,xs,HI,ev,q,e2,a⟩:=r;exact⟨p,xs,HI,ev,q,e2,AllO.clean (fun d v a=>RepO.clean h) e a⟩
 | .t cs,.tup ds,v,fp,e,r=>by
  rw[RepO]at r ⊢;rw[aT]at e;obtain⟨p,xs,ev,q,a⟩:=r;exact⟨p,xs,ev,h _ _ rfl q,RepT.clean h e a⟩
 | .d,.dct tk ks vs,v,fp,e,r=>by
  rw[RepO]at r ⊢;rw[aT]at e;obtain⟨p,xs,o,ev,q,dd,e2,rs⟩:=r;exact⟨p,xs,o,ev,q,dd,e2,rs.flat h e⟩
 | .l _,.non,_,_,_,r | .l _,.bl _,_,_,_,r | .l _,.int _,_,_,_,r | .l _,.str _,_,_,_,r | .l _,.tup _,_,_,_,r | .l _,.dct _ _ _,_,_,_,r=>by simp only[RepO]at r
 | .t _,.non,_,_,_,r | .t _,.bl _,_,_,_,r | .t _,.int _,_,_,_,r | .t _,.str _,_,_,_,r | .t _,.lst _,_,_,_,r | .t _,.dct _ _ _,_,_,_,r=>by simp only[RepO]at r
 | .d,.non,_,_,_,r | .d,.bl _,_,_,_,r | .d,.int _,_,_,_,r | .d,.str _,_,_,_,r | .d,.tup _,_,_,_,r | .d,.lst _,_,_,_,r=>by simp only[RepO]at r
theorem RepT.clean(h:∀p u,isT u=true->G2 p=some u->G3 p=some u):∀{cs:List O}{ds:List D}{xs:List V}{fp:List Addr},sQ cs ds=true->RepT K G2 H cs ds xs fp->RepT K G3 H cs ds xs fp
 |[],[],_,_,_,r=>by simpa only[RepT] using r
 |c::cs,d::ds,xs,fp,e,r=>by
  rw[RepT]at r ⊢;rw[sQ,TL]at e;obtain⟨y,ys,a,b,e1,e2,r1,r2⟩:=r;exact⟨y,ys,a,b,e1,e2,RepO.clean h e.1 r1,RepT.clean h e.2 r2⟩
 |[],_::_,_,_,_,r=>by simp only[RepT]at r
 |_::_,[],_,_,_,r=>by simp only[RepT]at r
end
theorem RepE.frz(h:Same G G'):∀{es:Env}{vs:List (Option V)}{fp:List Addr},(∀p∈fp,∀u,H p=some u->G' p=some u)->RepE K G H es vs fp->RepE K G' H' (es.map PV.frz) vs []
 |[],_,_,_,r=>⟨r.1,rfl⟩
 |none::es,vs,fp,hk,r=>by
  obtain⟨y,ys,e,r⟩:=r;exact⟨y,ys,e,RepE.frz h hk r⟩
 |some r::es,vs,fp,hk,q=>by
  obtain⟨y,ys,e,v,a,b,e1,e2,r1,r2⟩:=q;subst e2;exact⟨y,ys,e,v,[],[],e1,rfl,kJ.mpr ⟨r1.frozen h (fun p hp=>hk p (Tq _ hp)),rfl⟩,RepE.frz h (fun p hp=>hk p (Tn _ hp)) r2⟩
theorem RepE.rep(h:Same G G'):∀{es:Env}{vs:List (Option V)}{fp:List Addr}{i:Nat}{r:R}{v:V},(∀p∈fp,∀u,H p=some u->G' p=some u)->RepE K G H es vs fp->es[i]?=some (some r)->vs[i]?=some (some v)->Rep K G' r.2 v:=fun{es vs fp i r v} hk q e ev=>by
 obtain⟨v',a,b,e1,r1,_,pm⟩:=q.take e;rw[ev]at e1;cases e1;exact r1.frozen h fun p hp=>hk p (pm.mem_iff.mpr (Tq _ hp))
theorem Rel.lend(q:Rel K G H es vs fp):∃G1,Same G G1/\Same G1 H/\(∀(i:Nat) (r:R) (v:V),es[i]?=some (some r)->vs[i]?=some (some v)->Rep K G1 r.2 v)/\
  RepE K G1 H (es.map PV.frz) vs []/\
  ∀(H2 G2:Hp) (Ig:List Addr) (r:R) (v:V),Step G1 H [] G2 H2 Ig->Rel K G2 H2 [some r] [some v] Ig->
   (aT r.1 r.2=true->∃G3 Ji,Step G H fp G3 H2 Ji/\Rel K G3 H2 (some r::es) (some v::vs) Ji)/\
   ∃G3 Ji,Step G H fp G3 H2 Ji/\Rel K G3 H2 (some r::es.map PV.frz) (some v::vs) Ji:=by
 have hg:Same G (fun p=>if p∈fp then H p else G p):=fun p u e=>by
  show(if p∈fp then H p else G p)=some u;by_cases hp:p∈fp
  ·rw[Tt hp];exact q.gh p u e
  ·rw[TB hp];exact e
 have hh:Same (fun p=>if p∈fp then H p else G p) H:=fun p u e=>by
  have e:(if p∈fp then H p else G p)=some u:=e;by_cases hp:p∈fp
  ·rw[Tt hp]at e;exact e
  ·rw[TB hp]at e;exact q.gh p u e
 have hk:∀p∈fp,∀u,H p=some u->(fun p=>if p∈fp then H p else G p) p=some u:=fun p hp u e=>by
  show(if p∈fp then H p else G p)=some u;rw[Tt hp];exact e
 refine⟨fun p=>if p∈fp then H p else G p,hg,hh,fun i r v e ev=>q.rep.rep hg hk e ev,q.rep.frz hg hk,fun H2 G2 Ig r v st k=>?_⟩;obtain⟨y,ys,e0,v',a,b,e1,e2,r1,r2⟩:=k.rep;cases e0;cases e1;obtain⟨_,e3⟩:=r2;subst e3;rw[T9]at e2;subst e2;have fresh:∀p∈Ig,H p=none:=fun p hp=>by
  rcases st.fpn p hp with z|z
  ·cases z
  ·exact z
 have kept:∀p∈fp,H2 p=H p:=fun p hp=>by
  obtain⟨u,hu⟩:=q.rep.live p hp;rw[hu];exact st.keep p u hu (by simp)
 refine⟨fun cl=>?_,⟨G2,Ig,⟨hg.trans st.gg,fun p u e n=>st.keep p u e (by simp),fun p hp=>.inr (fresh p hp),fun p u e=>?_,st.there⟩,?_⟩⟩
 ·have apart:∀p∈Ig,p∉fp:=fun p hp hf=>by
   obtain⟨u,hu⟩:=q.rep.live p hf;rw[fresh p hp]at hu;cases hu
  have g3:Same G (fun p=>if p∈fp then none else G2 p):=fun p u e=>by
   show(if p∈fp then none else G2 p)=some u;rw[TB (fun z=>by rw[q.gn p z]at e;cases e)];exact st.gg p u (hg p u e)
  refine⟨fun p=>if p∈fp then none else G2 p,Ig++fp,⟨g3,fun p u e n=>st.keep p u e (by simp),fun p hp=>?_,fun p u e=>?_,st.there⟩,⟨⟨some v,vs,rfl,v,Ig,fp,rfl,rfl,r1.clean (fun p u t e=>?_) cl,q.rep.step g3 kept⟩,?_,fun p hp=>?_,fun p u e=>?_⟩⟩
  ·rcases TX.mp hp with hp|hp
   ·exact .inr (fresh p hp)
   ·exact .inl hp
  ·have e:(if p∈fp then none else G2 p)=some u:=e;by_cases hp:p∈fp
   ·rw[Tt hp]at e;cases e
   ·rw[TB hp]at e;rcases st.gnew p u e with z|z|z
    ·have z:(if p∈fp then H p else G p)=some u:=z;rw[TB hp]at z;exact .inl z
    ·cases z
    ·exact .inr (.inr z)
  ·show(if p∈fp then none else G2 p)=some u;by_cases hp:p∈fp
   ·exfalso;obtain⟨u',hu,hm⟩:=q.rep.mut p hp;have:=st.gg p u' (hk p hp u' hu);rw[e]at this;cases this;cases u with
    |lst _=>cases t
    |dK _=>cases t
    |dT _=>cases t
    |_=>cases hm
   ·rw[TB hp];exact e
  ·rw[TM];exact⟨k.nd,q.nd,fun p hp z hz e=>apart p hp (e▸hz)⟩
  ·show(if p∈fp then none else G2 p)=none;by_cases hf:p∈fp
   ·rw[Tt hf]
   ·rw[TB hf];rcases TX.mp hp with hp|hp
    ·exact k.gn p hp
    ·exact absurd hp hf
  ·have e:(if p∈fp then none else G2 p)=some u:=e;by_cases hp:p∈fp
   ·rw[Tt hp]at e;cases e
   ·rw[TB hp]at e;exact k.gh p u e
 ·rcases st.gnew p u e with z|z|z
  ·have z:(if p∈fp then H p else G p)=some u:=z;by_cases hp:p∈fp
   ·exact .inr (.inl hp)
   ·rw[TB hp]at z;exact .inl z
  ·cases z
  ·exact .inr (.inr z)
 ·refine⟨⟨some v,vs,rfl,v,Ig,[],rfl,(T9 _).symm,r1,q.rep.frz (hg.trans st.gg) fun p hp u e=>st.gg p u (hk p hp u e)⟩,k.nd,k.gn,k.gh⟩
end
end PV
namespace PV
open PySem PySem.Spec PyProof.Rows L2 NX
def Res.bind{α β:Type}:Res α->(α->Res β)->Res β
 | .ok a,f=>f a
 | .exc c,_=>.exc c
 | .bad,_=>.bad
inductive BindOk{α β:Type}(x:Res α)(f:α->Res β)(b:β):Prop
 |mk (a:α) (h:x=.ok a) (k:f a=.ok b):BindOk x f b
theorem au{α β:Type}{x:Res α}{f:α->Res β}{b:β}(h:x.bind f=.ok b):BindOk x f b:=by
 cases x with
 |ok a=>exact⟨a,rfl,h⟩
 |exc c=>cases h
 |bad=>cases h
inductive Opd where
 |val (d:D)|var (i:Nat)
def OpdOk(K:W.Frag)(G:Hp)(σ:L2.St):Opd->V->Prop
 | .val d,v=>Rep K G d v
 | .var i,v=>σ[i]?=some (some v)
theorem OpdOk.mono{K:W.Frag}{G G':Hp}{σ:L2.St}{o:Opd}{v:V}(h:Same G G')(r:OpdOk K G σ o v):OpdOk K G' σ o v:=by
 cases o with
 |val d=>exact Rep.mono h r
 |var i=>exact r
def lX(K:W.Frag)(G:Hp)(σ:L2.St):List Opd->List V->Prop
 |[],vs=>vs=[]
 |o::os,vs=>∃y ys,vs=y::ys/\OpdOk K G σ o y/\lX K G σ os ys
def z7:O->Bool
 | .f=>true
 | .l .f=>true
 | .d=>true
 | .pin _ .f=>true
 | .pin _ (.l .f)=>true
 | .pin _ .d=>true
 |_=>false
def Jj(env:PV.Env):Opd->Res D
 | .val d=>.ok d
 | .var i=>match env[i]? with
  |some (some r)=>if z7 r.1 then .ok r.2 else .bad
  |_=>.bad
def uE(env:PV.Env):Opd->Res D
 | .val d=>.ok d
 | .var i=>match env[i]? with
  |some (some r)=>.ok r.2
  |_=>.bad
def qM(env:PV.Env):List Opd->Res (List D)
 |[]=>.ok []
 |o::os=>(Jj env o).bind fun d=>(qM env os).bind fun ds=>.ok (d::ds)
def jC(env:PV.Env):List Opd->Res (List D)
 |[]=>.ok []
 |o::os=>(uE env o).bind fun d=>(jC env os).bind fun ds=>.ok (d::ds)
def Vw(K:W.Frag)(G H:Hp):D->V->Prop
 | .lst ds,v=>∃p xs,v=.ref p/\SqL K H p xs/\Reps K G ds xs
 | .dct tk ks vs,v=>∃p xs o,v=.ref p/\Rd H p o/\DictO o tk ks xs/\Reps K G vs xs
 |d,v=>Rep K G d v
def OY(K:W.Frag)(G H:Hp):List D->List V->Prop
 |[],vs=>vs=[]
 |d::ds,vs=>∃y ys,vs=y::ys/\Vw K G H d y/\OY K G H ds ys
section
variable{K:W.Frag}{G G' H H':Hp}{es:PV.Env}{σ:L2.St}{fp:List Addr}
theorem Vw.of{d:D}{v:V}(gh:Same G H)(r:Rep K G d v):Vw K G H d v:=by
 cases d with
 |lst ds=>
  rw[Rep]at r;obtain⟨p,xs,e,q,rs⟩:=r;exact⟨p,xs,e,iF gh q,rs⟩
 |dct tk ks vs=>
  rw[Rep]at r;obtain⟨p,xs,o,e,q,dd,rs⟩:=r;exact⟨p,xs,o,e,PV.Rd.mono gh q,dd,rs⟩
 |_=>exact r
theorem Vw.rep{d:D}{v:V}(gh:Same G H)(r:Vw K G H d v):Rep K H d v:=by
 cases d with
 |lst ds=>
  obtain⟨p,xs,e,q,rs⟩:=r;rw[Rep];exact⟨p,xs,e,q,rs.mono gh⟩
 |dct tk ks vs=>
  obtain⟨p,xs,o,e,q,dd,rs⟩:=r;rw[Rep];exact⟨p,xs,o,e,q,dd,rs.mono gh⟩
 |non=>exact Rep.mono gh r
 |bl b=>exact Rep.mono gh r
 |int i=>exact Rep.mono gh r
 |str l=>exact Rep.mono gh r
 |tup ds=>exact Rep.mono gh r
theorem RepO.vw0{o:O}{d:D}{v:V}{a:List Addr}(gh:Same G H)(hs:o=.f\/o=.l .f\/o=.d)(r:RepO K G H o d v a):Vw K G H d v:=by
 rcases hs with rfl|rfl|rfl
 ·exact Vw.of gh (kJ.mp r).1
 ·cases d with
  |lst ds=>
   obtain⟨p,xs,e,q,_,rs⟩:=dE.mp r;exact⟨p,xs,e,SqL.of q,rs⟩
  |_=>simp only[RepO]at r
 ·cases d with
  |dct tk ks vs=>
   rw[RepO]at r;obtain⟨p,xs,o,e,q,dd,_,rs⟩:=r;exact⟨p,xs,o,e,.inl q,dd,rs⟩
  |_=>simp only[RepO]at r
theorem RepO.vw{o:O}{d:D}{v:V}{a:List Addr}(gh:Same G H)(hs:z7 o=true)(r:RepO K G H o d v a):Vw K G H d v:=by
 unfold z7 at hs;split at hs
 ·exact r.vw0 gh (.inl rfl)
 ·exact r.vw0 gh (.inr (.inl rfl))
 ·exact r.vw0 gh (.inr (.inr rfl))
 ·rw[RepO]at r;exact r.2.vw0 gh (.inl rfl)
 ·rw[RepO]at r;exact r.2.vw0 gh (.inr (.inl rfl))
 ·rw[RepO]at r;exact r.2.vw0 gh (.inr (.inr rfl))
 ·cases hs
theorem Rel.vw{o:Opd}{v:V}{d:D}(q:Rel K G H es σ fp)(k:OpdOk K G σ o v)(e:Jj es o=.ok d):Vw K G H d v:=by
 cases o with
 |val d'=>
  cases e;exact Vw.of q.gh k
 |var i=>
  unfold Jj at e;dsimp only at e;split at e
  ·rename_i r hr;split at e
   ·rename_i hs;cases e;obtain⟨v',a,b,ev,r1,_⟩:=q.rep.take hr;have k:σ[i]?=some (some v):=k;rw[k]at ev;cases ev;exact r1.vw q.gh hs
   ·cases e
  ·cases e
theorem Rel.vwA{o:Opd}{v:V}{d:D}(q:Rel K G H es σ fp)(k:OpdOk K G σ o v)(e:uE es o=.ok d):Rep K H d v:=by
 cases o with
 |val d'=>
  cases e;exact Rep.mono q.gh k
 |var i=>
  unfold uE at e;dsimp only at e;split at e
  ·rename_i r hr;cases e;obtain⟨v',ev,r1⟩:=q.view hr;have k:σ[i]?=some (some v):=k;rw[k]at ev;cases ev;exact r1
  ·cases e
theorem Rel.vws(q:Rel K G H es σ fp):∀{os:List Opd}{vs:List V}{ds:List D},lX K G σ os vs->qM es os=.ok ds->OY K G H ds vs
 |[],_,_,k,e=>by
  cases e;exact k
 |o::os,_,_,⟨y,ys,e0,k1,k2⟩,e=>by
  unfold qM at e;obtain⟨d,e1,e⟩:=au e;obtain⟨ds,e2,e⟩:=au e;cases e;exact⟨y,ys,e0,q.vw k1 e1,Rel.vws q k2 e2⟩
theorem jD{G1:Hp}(gg:Same G G1)(ht:∀(i:Nat) (r:R) (v:V),es[i]?=some (some r)->σ[i]?=some (some v)->Rep K G1 r.2 v):∀{os:List Opd}{vs:List V}{ds:List D},lX K G σ os vs->jC es os=.ok ds->Reps K G1 ds vs
 |[],_,_,k,e=>by
  cases e;have k:_=_:=k;rw[k];exact Reps.nil
 |o::os,_,_,⟨y,ys,e0,k1,k2⟩,e=>by
  unfold jC at e;obtain⟨d,e1,e⟩:=au e;obtain⟨ds,e2,e⟩:=au e;cases e;rw[e0];refine .cons ?_ (jD gg ht k2 e2);cases o with
  |val d'=>
   cases e1;exact Rep.mono gg k1
  |var i=>
   unfold uE at e1;dsimp only at e1;split at e1
   ·rename_i r hr;cases e1;exact ht i r y hr k1
   ·cases e1
end
abbrev FX:=PV.Env->Res (R×PV.Env)
abbrev FO:=PV.Env->Res (Opd×PV.Env)
abbrev FOs:=PV.Env->Res (List Opd×PV.Env)
abbrev FT:=PV.Env->Res (Bool×PV.Env)
inductive Out where
 |nx (env:PV.Env)|rt (r:R)|bk (env:PV.Env)|ct (env:PV.Env)
abbrev FS:=PV.Env->Res Out
inductive tQ(K:W.Frag)(f:FX)(σ:L2.St)(H:Hp)(Q:VK):Prop
 |mk:∀G env fp r env',Rel K G H env σ fp->f env=.ok (r,env')->(∀v H' G' HI,Step G H fp G' H' HI->Rel K G' H' (some r::env') (some v::σ) HI->Q v H')->tQ K f σ H Q
inductive tO(K:W.Frag)(f:FO)(σ:L2.St)(H:Hp)(Q:VK):Prop
 |mk:∀G env fp o env',Rel K G H env σ fp->f env=.ok (o,env')->(∀v H' G' HI,Step G H fp G' H' HI->Rel K G' H' env' σ HI->OpdOk K G' σ o v->Q v H')->tO K f σ H Q
inductive tOs(K:W.Frag)(f:FOs)(σ:L2.St)(H:Hp)(Q:List V->Hp->Prop):Prop
 |mk:∀G env fp o env',Rel K G H env σ fp->f env=.ok (o,env')->(∀v H' G' HI,Step G H fp G' H' HI->Rel K G' H' env' σ HI->lX K G' σ o v->Q v H')->tOs K f σ H Q
inductive tQT(K:W.Frag)(f:FT)(σ:L2.St)(H:Hp)(Q:Bool->Hp->Prop):Prop
 |mk:∀G env fp b env',Rel K G H env σ fp->f env=.ok (b,env')->(∀H' G' HI,Step G H fp G' H' HI->Rel K G' H' env' σ HI->Q b H')->tQT K f σ H Q
inductive Mode where
 |plain|mut
def F9(md:Mode)(K:W.Frag)(G H:Hp)(r:R)(v:V)(fp:List Addr):Prop:=match md with
 | .plain=>Rel K G H [some r] [some v] fp
 | .mut=>∃o d p c d0,r=(.t [o,.pin p c],.tup [d,d0])/\Rel K G H [some (o,d),some (.pin p c,d0)] [some v,some (.ref p)] fp
noncomputable def OutOk{md:Mode}(K:W.Frag)(G H:Hp)(fp:List Addr)(Dd:Ends):Res Out->Prop
 | .ok (.nx env')=>∀σ' H' G' HI,Step G H fp G' H' HI->Rel K G' H' env' σ' HI->Dd.nx σ' H'
 | .ok (.bk env')=>∀σ' H' G' HI,Step G H fp G' H' HI->Rel K G' H' env' σ' HI->Dd.bk σ' H'
 | .ok (.ct env')=>∀σ' H' G' HI,Step G H fp G' H' HI->Rel K G' H' env' σ' HI->Dd.ct σ' H'
 | .ok (.rt r)=>∀v H' G' HI,Step G H fp G' H' HI->F9 md K G' H' r v HI->Dd.rt v H'
 |_=>False
inductive tQS{md:Mode}(K:W.Frag)(g:FS)(Dd:Ends)(σ:L2.St)(H:Hp):Prop
 |mk:∀G env fp,Rel K G H env σ fp->OutOk (md:=md) K G H fp Dd (g env)->tQS (md:=md) K g Dd σ H
def QE(X:Cx)(e:Expr)(f:FX):Prop:=PE X e (tQ X.K f)
def QO(X:Cx)(e:Expr)(f:FO):Prop:=PE X e (tO X.K f)
def Md(X:Cx)(es:List Expr)(f:FOs):Prop:=PA X es (tOs X.K f)
def QT(X:Cx)(e:Expr)(f:FT):Prop:=PT X e (tQT X.K f)
def QW(X:Cx)(e:Expr)(f:FT):Prop:=PW X e (tQT X.K f)
def QS{md:Mode}(X:Cx)(st:Stmt)(g:FS):Prop:=PS X st (tQS (md:=md) X.K g)
def MK{md:Mode}(X:Cx)(st:List Stmt)(g:FS):Prop:=PSs X st (tQS (md:=md) X.K g)
theorem bx{X:Cx}{e:Expr}{t t':TE}(h:PE X e t)(k:∀σ H Q,t' σ H Q->t σ H Q):PE X e t':=fun pi s σ H Q I w=>h pi s σ H Q I (k σ H Q w)
theorem sR{X:Cx}{e:Expr}{t t':TT}(h:PT X e t)(k:∀σ H Q,t' σ H Q->t σ H Q):PT X e t':=fun pi s σ H Q I w=>h pi s σ H Q I (k σ H Q w)
theorem z8{X:Cx}{e:Expr}{t t':TT}(h:PW X e t)(k:∀σ H Q,t' σ H Q->t σ H Q):PW X e t':=fun wh pi s σ H Q I w=>h wh pi s σ H Q I (k σ H Q w)
theorem sS{X:Cx}{e:List Expr}{t t':TA}(h:PA X e t)(k:∀σ H Q,t' σ H Q->t σ H Q):PA X e t':=fun pos pi s σ H Q I w=>h pos pi s σ H Q I (k σ H Q w)
theorem gL{X:Cx}{e:Stmt}{t t':TS}(h:PS X e t)(k:∀D σ H,t' D σ H->t D σ H):PS X e t':=fun pi s σ H D I w=>h pi s σ H D I (k D σ H w)
theorem wB{X:Cx}{e:List Stmt}{t t':TS}(h:PSs X e t)(k:∀D σ H,t' D σ H->t D σ H):PSs X e t':=fun pi s σ H D I w=>h pi s σ H D I (k D σ H w)
theorem OutOk.imp{md:Mode}{K:W.Frag}{G H G1 H1:Hp}{fp HZ:List Addr}{Dd Qs:Ends}{r:Res Out}(st:Step G H fp G1 H1 HZ)(h:OutOk (md:=md) K G H fp Dd r)(n:∀σ H,Dd.nx σ H->Qs.nx σ H)(b:∀σ H,Dd.bk σ H->Qs.bk σ H)(c:∀σ H,Dd.ct σ H->Qs.ct σ H)(t:∀v H,Dd.rt v H->Qs.rt v H):OutOk (md:=md) K G1 H1 HZ Qs r:=by
 match r,h with
 | .ok (.nx env'),h=>exact fun σ' H' G' HI s q=>n _ _ (h σ' H' G' HI (st.trans s) q)
 | .ok (.bk env'),h=>exact fun σ' H' G' HI s q=>b _ _ (h σ' H' G' HI (st.trans s) q)
 | .ok (.ct env'),h=>exact fun σ' H' G' HI s q=>c _ _ (h σ' H' G' HI (st.trans s) q)
 | .ok (.rt r),h=>exact fun v H' G' HI s q=>t _ _ (h v H' G' HI (st.trans s) q)
theorem OutOk.after{md:Mode}{K:W.Frag}{G H G1 H1:Hp}{fp HZ:List Addr}{Dd:Ends}{r:Res Out}(st:Step G H fp G1 H1 HZ)(h:OutOk (md:=md) K G H fp Dd r):OutOk (md:=md) K G1 H1 HZ Dd r:=h.imp st (fun _ _ z=>z) (fun _ _ z=>z) (fun _ _ z=>z) fun _ _ z=>z
def aE(d:D):FX:=fun env=>.ok ((.f,d),env)
def fz:O->O
 | .pin p .f=>.pin p .f
 |_=>.f
def aR(i:Nat):FX:=fun env=>match env[i]? with
 |some (some r)=>.ok ((.f,r.2),env.set i (some (fz r.1,r.2)))
 |_=>.bad
def nr(i:Nat):FX:=fun env=>match env[i]? with
 |some (some r)=>.ok (r,env.set i none)
 |_=>.bad
def ai(f:FX):FO:=fun env=>(f env).bind fun p=>.ok (.val p.1.2,p.2)
def aq(i:Nat):FO:=fun env=>match env[i]? with
 |some (some _)=>.ok (.var i,env)
 |_=>.bad
def aD:FOs:=fun env=>.ok ([],env)
def ah(f:FO)(g:FOs):FOs:=fun env=>(f env).bind fun p=>(g p.2).bind fun q=>.ok (p.1::q.1,q.2)
section
variable{X:Cx}
theorem sT{e:Expr}{v:V}{d:D}(h:PE X e (tC v))(r:∀G,Rep X.K G d v):QE X e (aE d):=bx h fun σ H Q HP=>by
 obtain⟨G,env,fp,rr,env',rel,e,k⟩:=HP;cases e;exact k v H G fp .refl (rel.push (r G))
theorem ao{i j pos}:QE X (.Constant (.int i) j pos) (aE (.int i)):=sT CI fun G=>by rw[Rep]
theorem qZ{i j pos}:QE X (.Constant (.bool i) j pos) (aE (.bl i)):=sT EN fun G=>by rw[Rep]
theorem sU{j pos}:QE X (.Constant .none j pos) (aE .non):=sT CJ fun G=>by rw[Rep]
theorem iP{x j pos}{l:List Nat}(h:x=S l)(hl:l.length<=1000):QE X (.Constant (.str x) j pos) (aE (.str l)):=sT CK fun G=>by
 rw[Rep,h];exact⟨rfl,by rw[line_eq];lia⟩
theorem aI{i:Nat}{e:Expr}(h:PE X e (yd i)):QE X e (aR i):=bx h fun σ H Q HP=>by
 obtain⟨G,env,fp,rr,env',rel,e,k⟩:=HP;unfold aR at e;split at e
 ·rename_i r hr;cases e;by_cases hf:fz r.1=.f
  ·obtain⟨v,G',fq,ev,rv,Ij,st⟩:=rel.freezeAt hr;rw[hf]at k;exact⟨v,ev,k v H G' fq st (Ij.push rv)⟩
  ·have hp:∃p,r.1=.pin p .f:=by
    unfold fz at hf;split at hf
    ·rename_i p hp;exact⟨p,hp⟩
    ·exact absurd rfl hf
   obtain⟨p,hp⟩:=hp;obtain⟨v,a,b,ev,r1,_,_⟩:=rel.rep.take hr;rw[hp,RepO]at r1;have es:env.set i (some (fz r.1,r.2))=env:=by
    refine lG ?_;rw[hr,hp];show some (some r)=some (some (.pin p .f,r.2));rw[<-hp]
   rw[es]at k;exact⟨v,ev,k v H G fp .refl (rel.push (kJ.mp r1.2).1)⟩
 ·cases e
theorem jc{i:Nat}{e:Expr}(h:PE X e (yd i)):QE X e (nr i):=bx h fun σ H Q HP=>by
 obtain⟨G,env,fp,rr,env',rel,e,k⟩:=HP;unfold nr at e;split at e
 ·rename_i r hr;cases e;obtain⟨v,fq,ev,Ij,st,_⟩:=rel.out hr;exact⟨v,ev,k v H G fq st Ij⟩
 ·cases e
theorem ae{e:Expr}{f:FX}(h:QE X e f):QO X e (ai f):=bx h fun σ H Q HP=>by
 obtain⟨G,env,fp,o,env',rel,e,k⟩:=HP;obtain⟨⟨r,Hy⟩,e1,e⟩:=au e;cases e;refine⟨G,env,fp,r,Hy,rel,e1,fun v H' G' HI st Ij=>?_⟩;obtain⟨G2,b,rv,Hz,HJ⟩:=Ij.freeze;exact k v H' G2 b (st.trans HJ) Hz rv
theorem af{i:Nat}{e:Expr}(h:PE X e (yd i)):QO X e (aq i):=bx h fun σ H Q HP=>by
 obtain⟨G,env,fp,o,env',rel,e,k⟩:=HP;unfold aq at e;split at e
 ·rename_i r hr;cases e;obtain⟨v,ev,_⟩:=rel.view hr;exact⟨v,ev,k v H G fp .refl rel ev⟩
 ·cases e
theorem ar:Md X [] aD:=sS pE fun σ H Q HP=>by
 obtain⟨G,env,fp,o,env',rel,e,k⟩:=HP;cases e;exact k [] H G fp .refl rel rfl
theorem ag{e:Expr}{es:List Expr}{f:FO}{g:FOs}(h:QO X e f)(hs:Md X es g)(L9:starEach (e::es) X.env=(false,eval e X.env)::starEach es X.env:=by rfl):Md X (e::es) (ah f g):=
 sS (i9 h hs L9) fun σ H Q HP=>by
  obtain⟨G,env,fp,o,env',rel,e,k⟩:=HP;obtain⟨⟨o1,Hy⟩,e1,e⟩:=au e;obtain⟨⟨os,HN⟩,e2,e⟩:=au e;cases e;exact⟨G,env,fp,o1,Hy,rel,e1,fun v H1 G1 HZ HU HA Jz=>⟨G1,Hy,HZ,os,HN,HA,e2,fun vs H2 G2 Ig HJ Hz Lw=>k _ H2 G2 Ig (HU.trans HJ) Hz ⟨v,vs,rfl,Jz.mono HJ.gg,Lw⟩⟩⟩
def av(g:D->D->Res R)(fa fb:FO):FX:=fun env=>(fa env).bind fun p=>(fb p.2).bind fun q=>(Jj q.2 p.1).bind fun a=>(Jj q.2 q.1).bind fun b=>(g a b).bind fun r=>.ok (r,q.2)
def bC(g:D->D->Res R)(fa fb:FO):FX:=fun env=>(fa env).bind fun p=>(fb p.2).bind fun q=>(uE q.2 p.1).bind fun a=>(uE q.2 q.1).bind fun b=>(g a b).bind fun r=>.ok (r,q.2)
structure Goes(K:W.Frag)(H:Hp)(G:Hp)(fp:List Addr)(es:PV.Env)(vs:L2.St)(r:R)(Q:VK):Prop where
 rel:Rel K G H es vs fp
 goes:∀v H' G' HI,Step G H fp G' H' HI->Rel K G' H' (some r::es) (some v::vs) HI->Q v H'
inductive rG(K:W.Frag)(g:D->D->Res R)(x:V)(y:V)(H:Hp)(Q:VK):Prop
 |mk:∀G fp es vs a b r,Goes K H G fp es vs r Q->Vw K G H a x->Vw K G H b y->g a b=.ok r->rG K g x y H Q
inductive rGA(K:W.Frag)(g:D->D->Res R)(x:V)(y:V)(H:Hp)(Q:VK):Prop
 |mk:∀G fp es vs a b r,Goes K H G fp es vs r Q->Rep K H a x->Rep K H b y->g a b=.ok r->rGA K g x y H Q
variable{a b c:Expr}{fa fb fc:FO}{pos:Pos}{g g':D->D->Res R}
theorem sV{σ:L2.St}{H:Hp}{Q:VK}(h:tQ X.K (av g fa fb) σ H Q):PM (rG X.K g) (tO X.K fa) (tO X.K fb) σ H Q:=by
 obtain⟨G,env,fp,r,env',rel,e,k⟩:=h;obtain⟨⟨oa,e1⟩,ha,e⟩:=au e;obtain⟨⟨ob,e2⟩,hb,e⟩:=au e;obtain⟨da,M1,e⟩:=au e;obtain⟨db,JT,e⟩:=au e;obtain⟨r',hr,e⟩:=au e;cases e;exact⟨G,env,fp,oa,e1,rel,ha,fun x H1 G1 HZ HU HA Jz=>⟨G1,e1,HZ,ob,e2,HA,hb,fun y H2 G2 Ig HJ Hz Lw=>
  ⟨G2,Ig,e2,σ,da,db,r,⟨Hz,fun v H' G' HI st Ij=>k v H' G' HI (HU.trans (HJ.trans st)) Ij⟩,Hz.vw (Jz.mono HJ.gg) M1,Hz.vw Lw JT,hr⟩⟩⟩
theorem wC{σ:L2.St}{H:Hp}{Q:VK}(h:tQ X.K (bC g fa fb) σ H Q):PM (rGA X.K g) (tO X.K fa) (tO X.K fb) σ H Q:=by
 obtain⟨G,env,fp,r,env',rel,e,k⟩:=h;obtain⟨⟨oa,e1⟩,ha,e⟩:=au e;obtain⟨⟨ob,e2⟩,hb,e⟩:=au e;obtain⟨da,M1,e⟩:=au e;obtain⟨db,JT,e⟩:=au e;obtain⟨r',hr,e⟩:=au e;cases e;exact⟨G,env,fp,oa,e1,rel,ha,fun x H1 G1 HZ HU HA Jz=>⟨G1,e1,HZ,ob,e2,HA,hb,fun y H2 G2 Ig HJ Hz Lw=>
  ⟨G2,Ig,e2,σ,da,db,r,⟨Hz,fun v H' G' HI st Ij=>k v H' G' HI (HU.trans (HJ.trans st)) Ij⟩,Hz.vwA (Jz.mono HJ.gg) M1,Hz.vwA Lw JT,hr⟩⟩⟩
theorem aM{op:Operator}(ho:Ir X (binaryOp op) (rG X.K g))(ha:QO X a fa)(hb:QO X b fb):QE X (.BinOp a op b pos) (av g fa fb):=bx (E6 ho ha hb) fun _ _ _=>sV
theorem sW{op:CmpOp}(ho:Ir X (compareOp op) (rG X.K g))(ha:QO X a fa)(hb:QO X b fb)(hm:behindInMarks op b=false):QE X (.Compare a [op] [b] pos) (av g fa fb):=bx (vL ho ha hb hm) fun _ _ _=>sV
theorem lY{op:CmpOp}(ho:Ir X (compareOp op) (rGA X.K g))(ha:QO X a fa)(hb:QO X b fb)(hm:behindInMarks op b=false):QE X (.Compare a [op] [b] pos) (bC g fa fb):=bx (vL ho ha hb hm) fun _ _ _=>wC
def Ic(f:FX):FT:=fun env=>(f env).bind fun p=>match p.1.2 with
 | .bl k=>.ok (k,p.2)
 |_=>.bad
theorem Bj{f:FX}{σ:L2.St}{H:Hp}{Q:Bool->Hp->Prop}(h:tQT X.K (Ic f) σ H Q):tQ X.K f σ H fun x H'=>∃k,x=.bl k/\Q k H':=by
 obtain⟨G,env,fp,k,env',rel,e,q⟩:=h;obtain⟨⟨⟨o,d⟩,Hy⟩,e1,e⟩:=au e;dsimp only at e;split at e
 ·cases e;refine⟨G,env,fp,_,_,rel,e1,fun v H' G' HI st Ij=>?_⟩;have hv:=Ij.top;rw[show((o,D.bl k):R).2=D.bl k from rfl,Rep]at hv;obtain⟨b,Hz,HJ⟩:=Ij.drop;exact⟨k,hv,q H' G' b (st.trans HJ) Hz⟩
 ·cases e
theorem sX{e:Expr}{f:FX}(h:QE X e f)(he:∀whole,isTrue e X.env whole=(do let v <-whole;standAt e.pos;holding [v] (truthy v)):=by intro _;rfl):QT X e (Ic f):=sR (CL h he) fun _ _ _=>Bj
theorem kK{op:CmpOp}(ho:Ir X (compareOp op) (rG X.K g))(ha:QO X a fa)(hb:QO X b fb)(hm:behindInMarks op b=false):QT X (.Compare a [op] [b] pos) (Ic (av g fa fb)):=
 sR (vM ho ha hb hm) fun _ _ _ h=>sV (Bj h)
theorem a9{op:CmpOp}(ho:Ir X (compareOp op) (rGA X.K g))(ha:QO X a fa)(hb:QO X b fb)(hm:behindInMarks op b=false):QT X (.Compare a [op] [b] pos) (Ic (bC g fa fb)):=
 sR (vM ho ha hb hm) fun _ _ _ h=>wC (Bj h)
def Bk(f g:FT):FT:=fun env=>(f env).bind fun p=>if p.1 then g p.2 else .ok (false,p.2)
def PX(f g:FT):FT:=fun env=>(f env).bind fun p=>if p.1 then .ok (true,p.2) else g p.2
def Cz(f:FT):FT:=fun env=>(f env).bind fun p=>.ok (!p.1,p.2)
variable{ga gb:FT}{dS:List Expr}
theorem rg(h:QT X a ga):QW X (.BoolOp .And [a] pos) ga:=Ax h
theorem wF(h:QT X a ga):QW X (.BoolOp .Or [a] pos) ga:=CM h
theorem sY(h:QT X a ga)(h2:QW X (.BoolOp .And (b::dS) pos) gb):QW X (.BoolOp .And (a::b::dS) pos) (Bk ga gb):=z8 (CN h h2) fun σ H Q HP=>by
 obtain⟨G,env,fp,k,env',rel,e,q⟩:=HP;obtain⟨⟨k1,Hy⟩,e1,e⟩:=au e;refine⟨G,env,fp,k1,Hy,rel,e1,fun H1 G1 HZ HU HA=>?_⟩;dsimp only at e;cases k1 with
 |true=>exact⟨G1,Hy,HZ,k,env',HA,e,fun H2 G2 Ig HJ Hz=>q H2 G2 Ig (HU.trans HJ) Hz⟩
 |false=>
  cases e;exact q H1 G1 HZ HU HA
theorem yJ(h:QT X a ga)(h2:QW X (.BoolOp .Or (b::dS) pos) gb):QW X (.BoolOp .Or (a::b::dS) pos) (PX ga gb):=z8 (ER h h2) fun σ H Q HP=>by
 obtain⟨G,env,fp,k,env',rel,e,q⟩:=HP;obtain⟨⟨k1,Hy⟩,e1,e⟩:=au e;refine⟨G,env,fp,k1,Hy,rel,e1,fun H1 G1 HZ HU HA=>?_⟩;dsimp only at e;cases k1 with
 |false=>exact⟨G1,Hy,HZ,k,env',HA,e,fun H2 G2 Ig HJ Hz=>q H2 G2 Ig (HU.trans HJ) Hz⟩
 |true=>
  cases e;exact q H1 G1 HZ HU HA
theorem QW.qt{e:Expr}{f:FT}(h:QW X e f):QT X e f:=h.pt
theorem sZ(h:QT X a ga):QT X (.UnaryOp .Not a pos) (Cz ga):=sR (CO h) fun σ H Q HP=>by
 obtain⟨G,env,fp,k,env',rel,e,q⟩:=HP;obtain⟨⟨k1,Hy⟩,e1,e⟩:=au e;cases e;exact⟨G,env,fp,k1,Hy,rel,e1,fun H1 G1 HZ HU HA=>q H1 G1 HZ HU HA⟩
def Bl(f g:FX):FX:=fun env=>(f env).bind fun p=>match p.1.2 with
 | .bl true=>g p.2
 | .bl false=>.ok ((.f,.bl false),p.2)
 |_=>.bad
def eOr(f g:FX):FX:=fun env=>(f env).bind fun p=>match p.1.2 with
 | .bl true=>.ok ((.f,.bl true),p.2)
 | .bl false=>g p.2
 |_=>.bad
def EJ(f:FX):FX:=fun env=>(f env).bind fun p=>match p.1.2 with
 | .bl k=>.ok ((.f,.bl (!k)),p.2)
 |_=>.bad
def eIf(c:FT)(f g:FX):FX:=fun env=>(c env).bind fun p=>if p.1 then f p.2 else g p.2
variable{ea eb:FX}
theorem wG{op}(h:QE X a ea):QE X (.BoolOp op [a] pos) ea:=CP h
theorem cO{K:W.Frag}{G:Hp}(k:Bool):Rep K G (.bl k) (.bl k):=by rw[Rep]
theorem bB{K:W.Frag}{G:Hp}(k:Int):Rep K G (.int k) (.int k):=by rw[Rep]
theorem rh{K:W.Frag}{G:Hp}:Rep K G .non .non:=by rw[Rep]
theorem jd{K:W.Frag}{G:Hp}{l:List Nat}(h:l.length<=sizeLine):Rep K G (.str l) (.str (S l)):=by
 rw[Rep];exact⟨rfl,h⟩
theorem cU{K:W.Frag}{G:Hp}{k:Bool}{v:V}(h:Rep K G (.bl k) v):v=.bl k:=by rw[Rep]at h;exact h
theorem bO{K:W.Frag}{G:Hp}{k:Int}{v:V}(h:Rep K G (.int k) v):v=.int k:=by rw[Rep]at h;exact h
theorem cA{K:W.Frag}{G:Hp}{v:V}(h:Rep K G .non v):v=.non:=by rw[Rep]at h;exact h
theorem bD{K:W.Frag}{G:Hp}{l:List Nat}{v:V}(h:Rep K G (.str l) v):v=.str (S l)/\l.length<=sizeLine:=by rw[Rep]at h;exact h
inductive OfT(K:W.Frag)(G:Hp)(l:List D)(v:V):Prop
 |mk (p:Addr) (xs:List V) (e:v=.ref p) (q:SqT K G p xs) (r:Reps K G l xs):OfT K G l v
inductive OfL(K:W.Frag)(G:Hp)(l:List D)(v:V):Prop
 |mk (p:Addr) (xs:List V) (e:v=.ref p) (q:SqL K G p xs) (r:Reps K G l xs):OfL K G l v
theorem bz{K:W.Frag}{G:Hp}{l:List D}{v:V}(h:Rep K G (.tup l) v):OfT K G l v:=by
 rw[Rep]at h;obtain⟨p,xs,e,q,r⟩:=h;exact⟨p,xs,e,SqT.of q,r⟩
theorem wH{K:W.Frag}{G:Hp}{l:List D}{v:V}(h:Rep K G (.tup l) v):∃p xs,v=.ref p/\G p=some (.tup xs)/\Reps K G l xs:=by rw[Rep]at h;exact h
theorem bM{K:W.Frag}{G:Hp}{l:List D}{v:V}(h:Rep K G (.lst l) v):OfL K G l v:=by
 rw[Rep]at h;obtain⟨p,xs,e,q,r⟩:=h;exact⟨p,xs,e,q,r⟩
theorem bH{K:W.Frag}{G H:Hp}{k:Int}{v:V}(h:Vw K G H (.int k) v):v=.int k:=bO (K:=K) (G:=G) h
theorem gM{K:W.Frag}{G H:Hp}{l:List Nat}{v:V}(h:Vw K G H (.str l) v):v=.str (S l)/\l.length<=sizeLine:=bD (K:=K) (G:=G) h
theorem iQ{K:W.Frag}{G H:Hp}{l:List D}{v:V}(h:Vw K G H (.tup l) v):OfT K G l v:=bz (K:=K) (G:=G) h
theorem p0(h:QE X a ea)(h2:QE X (.BoolOp .And (b::dS) pos) eb):QE X (.BoolOp .And (a::b::dS) pos) (Bl ea eb):=bx (CQ h h2) fun σ H Q HP=>by
 obtain⟨G,env,fp,r,env',rel,e,q⟩:=HP;obtain⟨⟨⟨o,d⟩,Hy⟩,e1,e⟩:=au e;refine⟨G,env,fp,_,Hy,rel,e1,fun v H1 G1 HZ HU HA=>?_⟩;have hv:=HA.top;obtain⟨b',Hz,HJ⟩:=HA.drop;dsimp only at e hv;split at e
 ·exact⟨true,cU hv,Cy ⟨G1,Hy,b',r,env',Hz,e,fun v H2 G2 Ig Ip Ia=>q v H2 G2 Ig (HU.trans (HJ.trans Ip)) Ia⟩⟩
 ·cases e;exact⟨false,cU hv,iteF (q _ H1 G1 b' (HU.trans HJ) (Hz.push (cO _)))⟩
 ·cases e
theorem z9(h:QE X a ea):QE X (.UnaryOp .Not a pos) (EJ ea):=bx (CS h) fun σ H Q HP=>by
 obtain⟨G,env,fp,r,env',rel,e,q⟩:=HP;obtain⟨⟨⟨o,d⟩,Hy⟩,e1,e⟩:=au e;refine⟨G,env,fp,_,Hy,rel,e1,fun v H1 G1 HZ HU HA=>?_⟩;have hv:=HA.top;obtain⟨b',Hz,HJ⟩:=HA.drop;dsimp only at e hv;split at e
 ·cases e;exact⟨_,cU hv,q _ H1 G1 b' (HU.trans HJ) (Hz.push (cO _))⟩
 ·cases e
noncomputable def tf(g g':D->D->Res R)(fa fb fc:FO):FX:=fun env=>(fa env).bind fun p=>(fb p.2).bind fun q=>(Jj q.2 p.1).bind fun a=>(Jj q.2 q.1).bind fun b=>(g a b).bind fun r=>match r with
 |(.f,.bl true)=>(fc q.2).bind fun t=>(Jj t.2 q.1).bind fun b=>(Jj t.2 t.1).bind fun c=>(g' b c).bind fun r=>.ok (r,t.2)
 |(.f,.bl false)=>.ok ((.f,.bl false),q.2)
 |_=>.bad
theorem yK{σ:L2.St}{H:Hp}{Q:VK}(h:tQ X.K (tf g g' fa fb fc) σ H Q):zT (rG X.K g) (rG X.K g') (tO X.K fa) (tO X.K fb) (tO X.K fc) σ H Q:=by
 obtain⟨G,env,fp,r,env',rel,e,k⟩:=h;obtain⟨⟨oa,e1⟩,ha,e⟩:=au e;obtain⟨⟨ob,e2⟩,hb,e⟩:=au e;obtain⟨da,M1,e⟩:=au e;obtain⟨db,JT,e⟩:=au e;obtain⟨r',hr,e⟩:=au e;refine⟨G,env,fp,oa,e1,rel,ha,fun x H1 G1 HZ HU HA Jz=>⟨G1,e1,HZ,ob,e2,HA,hb,fun y H2 G2 Ig HJ Hz Lw=>
  ⟨G2,Ig,e2,σ,da,db,r',⟨Hz,fun v H3 G3 Ji Ip Ia=>?_⟩,Hz.vw (Jz.mono HJ.gg) M1,Hz.vw Lw JT,hr⟩⟩⟩
 have hv:=Ia.top;obtain⟨b3,IB,JE⟩:=Ia.drop;split at e
 ·refine⟨true,cU hv,Cy ?_⟩;obtain⟨⟨oc,e3⟩,hc,e⟩:=au e;obtain⟨db',hdb',e⟩:=au e;obtain⟨dc,hdc,e⟩:=au e;obtain⟨r2,hr2,e⟩:=au e;cases e;exact⟨G3,e2,b3,oc,e3,IB,hc,fun z H5 G5 NH Kd Jm ok5=>⟨G5,NH,e3,σ,db',dc,r,⟨Jm,fun v H' G' HI st Ij=>k v H' G' HI (HU.trans (HJ.trans (Ip.trans (JE.trans (Kd.trans st))))) Ij⟩,
   Jm.vw ((Lw.mono Ip.gg).mono Kd.gg) hdb',Jm.vw ok5 hdc,hr2⟩⟩
 ·cases e;exact⟨false,cU hv,iteF (k _ H3 G3 b3 (HU.trans (HJ.trans (Ip.trans JE))) (IB.push (cO _)))⟩
 ·cases e
theorem yL{op NA:CmpOp}(ho:Ir X (compareOp op) (rG X.K g))(Mj:Ir X (compareOp NA) (rG X.K g'))(ha:QO X a fa)(hb:QO X b fb)(hc:QO X c fc)(hm:lastMarks [op,NA] [b,c]=false:=by with_unfolding_all rfl):
  QE X (.Compare a [op,NA] [b,c] pos) (tf g g' fa fb fc):=bx (yk ho Mj ha hb hc hm) fun _ _ _=>yK
inductive rC(K:W.Frag)(g:List D->Res R)(xs:List V)(H:Hp)(Q:VK):Prop
 |mk:∀G fp es vs ds r,Goes K H G fp es vs r Q->OY K G H ds xs->g ds=.ok r->rC K g xs H Q
def aX(g:List D->Res R)(fs:FOs):FX:=fun env=>(fs env).bind fun p=>(qM p.2 p.1).bind fun ds=>(g ds).bind fun r=>.ok (r,p.2)
theorem wI{gg:List D->Res R}{fs:FOs}{σ:L2.St}{H:Hp}{Q:VK}(h:tQ X.K (aX gg fs) σ H Q):RG (rC X.K gg) (tOs X.K fs) σ H Q:=by
 obtain⟨G,env,fp,r,env',rel,e,k⟩:=h;obtain⟨⟨os,e1⟩,ha,e⟩:=au e;obtain⟨ds,hd,e⟩:=au e;obtain⟨r',hr,e⟩:=au e;cases e;exact⟨G,env,fp,os,e1,rel,ha,fun vs H1 G1 HZ HU HA Jz=>⟨G1,HZ,e1,σ,ds,r,⟨HA,fun v H' G' HI st Ij=>k v H' G' HI (HU.trans st) Ij⟩,HA.vws Jz hd,hr⟩⟩
variable{x:Str}{p:Pos}{e:Expr}{es:List Expr}{gg:List D->Res R}{fs:FOs}{id T:String}
theorem aP(hc:dD X (.builtin id) (rC X.K gg))(hg:Gl X x)(hm:X.mg x=none)(hv:bootBuiltins x=some (.builtin id))(ha:Md X (e::es) fs)(hn:x≠"__name__":=by decide)(JT:(x==("__debug__" : Str))=false:=by decide)
  (he:starEach (e::es) X.env=(false,eval e X.env)::starEach es X.env:=by rfl) (JC:(backTo pos (starEach es X.env)).any (·.1)=false:=by rfl):QE X (.Call (.Name x p) (e::es) [] pos) (aX gg fs):=
 bx (sx hc hg hm hv ha hn JT he JC) fun _ _ _=>wI
theorem cP(hc:dD X (.type T) (rC X.K gg))(hg:Gl X x)(hm:X.mg x=none)(hv:bootBuiltins x=some (.type T))(ha:Md X (e::es) fs)(hn:x≠"__name__":=by decide)(JT:(x==("__debug__" : Str))=false:=by decide)
  (he:starEach (e::es) X.env=(false,eval e X.env)::starEach es X.env:=by rfl) (JC:(backTo pos (starEach es X.env)).any (·.1)=false:=by rfl):QE X (.Call (.Name x p) (e::es) [] pos) (aX gg fs):=
 bx (vR hc hg hm hv ha hn JT he JC) fun _ _ _=>wI
inductive spF(K:W.Frag)(F:List D->Res R)(vs:List V)(H:Hp)(Q:VK)(zz:XK):Prop
 |mk:∀G ds r,Same G H->Reps K G ds vs->F ds=.ok r->(∀v H' G' HI,Step G H [] G' H' HI->Rel K G' H' [some r] [some v] HI->Q v H')->spF K F vs H Q zz
def eE(F:List D->Res R)(fs:FOs):FX:=fun env=>(fs env).bind fun p=>(jC p.2 p.1).bind fun ds=>(F ds).bind fun r=>.ok (r,if aT r.1 r.2 then p.2 else p.2.map frz)
theorem a8{F:List D->Res R}{k:Nat}(C:Ct X.prog X.w X.K X.mg X.base x k (spF X.K F))(hr:Room k X.A)(hg:Gl X x)(ha:Md X (e::es) fs)(JT:(x==("__debug__" : Str))=false:=by decide)
  (he:starEach (e::es) X.env=(false,eval e X.env)::starEach es X.env:=by rfl) (JC:(backTo pos (starEach es X.env)).any (·.1)=false:=by rfl):QE X (.Call (.Name x p) (e::es) [] pos) (eE F fs):=
 bx (yu C hr hg ha JT he JC) fun σ H Q HP=>by
  obtain⟨G,env,fp,r,env',rel,e,k⟩:=HP;obtain⟨⟨os,e1⟩,ha,e⟩:=au e;obtain⟨ds,hd,e⟩:=au e;obtain⟨r',hr,e⟩:=au e;refine⟨G,env,fp,os,e1,rel,ha,fun vs H1 G1 HZ HU HA Jz=>?_⟩;show spF X.K F (vs++[]) H1 Q _;rw[T9];obtain⟨G2,ML,NU,JV,_,JW⟩:=HA.lend;refine⟨G2,ds,r',NU,jD ML JV Jz hd,hr,fun v H' G' HI st Ij=>?_⟩;obtain⟨k1,k2⟩:=JW H' G' HI r' v st Ij;by_cases hc:aT r'.1 r'.2=true
  ·rw[Tt hc]at e;cases e;obtain⟨G3,Ji,Ip,Ia⟩:=k1 hc;exact k v H' G3 Ji (HU.trans Ip) Ia
  ·rw[TB hc]at e;cases e;obtain⟨G3,Ji,Ip,Ia⟩:=k2;exact k v H' G3 Ji (HU.trans Ip) Ia
end
def sSeq(g1 g2:FS):FS:=fun env=>(g1 env).bind fun o=>match o with
 | .nx e=>g2 e
 |o=>.ok o
def dy:FS:=fun env=>.ok (.nx env)
def Aa:FS:=fun _=>.bad
def bP(i:Nat)(f:FX):FS:=fun env=>(f env).bind fun p=>if i<p.2.length then .ok (.nx (p.2.set i (some p.1))) else .bad
def iL(f:FX):FS:=fun env=>(f env).bind fun p=>.ok (.nx p.2)
def gS(f:FX):FS:=fun env=>(f env).bind fun p=>.ok (.rt p.1)
def Jn(c:FT)(g h:FS):FS:=fun env=>(c env).bind fun p=>if p.1 then g p.2 else h p.2
section
variable{md:Mode}{X:Cx}{st:Stmt}{SJ:List Stmt}{g h:FS}{f:FX}{c:FT}{pos:Pos}{e:Expr}
theorem bE:MK (md:=md) X [] dy:=wB Ay fun D σ H ⟨G,env,fp,rel,k⟩=>k σ H G fp .refl rel
theorem aw(a:QS (md:=md) X st g):MK (md:=md) X [st] g:=Az a
theorem aj(a:QS (md:=md) X st g)(b:MK (md:=md) X SJ h):MK (md:=md) X (st::SJ) (sSeq g h):=wB (yf a b) fun D σ H HP=>by
 obtain⟨G,env,fp,rel,k⟩:=HP;refine⟨G,env,fp,rel,?_⟩;have k:OutOk X.K G H fp D ((g env).bind fun o=>match o with | .nx e=>h e|o=>.ok o):=k;match q:g env,k with
 | .ok (.nx Hy),k=>exact fun σ1 H1 G1 HZ HU HA=>⟨G1,Hy,HZ,HA,OutOk.after HU k⟩
 | .ok (.bk Hy),k=>exact k
 | .ok (.ct Hy),k=>exact k
 | .ok (.rt r),k=>exact k
theorem yM:QS (md:=md) X st Aa:=gL yg fun D σ H ⟨G,env,fp,rel,k⟩=>k
theorem ri{K:W.Frag}{G H:Hp}{fp:List Addr}{D:Ends}{i:Nat}{env:PV.Env}{σ:L2.St}(rel:Rel K G H env σ fp)(k:OutOk (md:=md) K G H fp D (bP i f env)):tQ K f σ H fun v H'=>D.nx (σ.set i (some v)) H':=by
 unfold bP at k;match q:f env,k with
 | .ok (r,Hy),k=>
  have k:OutOk K G H fp D (if i<Hy.length then .ok (.nx (Hy.set i (some r))) else .bad):=k;by_cases hi:i<Hy.length
  ·rw[Tt hi]at k;refine⟨G,env,fp,r,Hy,rel,q,fun v H1 G1 HZ HU HA=>?_⟩;obtain⟨fq,Hz,HJ⟩:=HA.store hi;exact k _ H1 G1 fq (HU.trans HJ) Hz
  ·rw[TB hi]at k;exact k.elim
theorem aN{i:Nat}{x:Str}{pos':Pos}(hN:X.N.Nodup)(hi:X.N[i]?=some x)(hx:Loc X.env.scope x)(he:QE X e f)(hs:swapsWith e (some (.Name x pos')) pos.line X.env=pure false:=by rfl)(hf:X.fn x=true\/X.env.scope.names.lookup x=some .local:=by first|exact .inl rfl|exact .inr rfl|assumption):
  QS (md:=md) X (.Assign [.Name x pos'] e pos) (bP i f):=gL (CY (i:=i) hN hi hx he hs hf) fun D σ H ⟨G,env,fp,rel,k⟩=>ri rel k
theorem dk(he:QE X e f)(hs:swapsWith e none pos.line X.env=pure false:=by rfl):QS (md:=md) X (.Expr e pos) (iL f):=gL (AA he hs) fun D σ H HP=>by
 obtain⟨G,env,fp,rel,k⟩:=HP;unfold iL at k;match q:f env,k with
 | .ok (r,Hy),k=>
  refine⟨G,env,fp,r,Hy,rel,q,fun v H1 G1 HZ HU HA=>?_⟩;obtain⟨b,Hz,HJ⟩:=HA.drop;exact k _ H1 G1 b (HU.trans HJ) Hz
theorem Rel.only{K:W.Frag}{G H:Hp}{r:R}{v:V}{es:PV.Env}{vs:L2.St}{fp:List Addr}(q:Rel K G H (some r::es) (some v::vs) fp):∃a,Rel K G H [some r] [some v] a/\Step G H fp G H a:=by
 obtain⟨y,ys,e,v',a,b,e1,e2,r1,r2⟩:=q.rep;cases e;cases e1;subst e2;have nd:=TM.mp q.nd;exact⟨a,⟨⟨some v,[],rfl,v,a,[],rfl,(T9 _).symm,r1,rfl,rfl⟩,nd.1,fun p hp=>q.gn p (Tq _ hp),q.gh⟩,Step.cut fun p hp=>Tq _ hp⟩
theorem bA(he:QE X e f):QS (md:=.plain) X (.Return (some e) pos) (gS f):=gL (zS he) fun D σ H HP=>by
 obtain⟨G,env,fp,rel,k⟩:=HP;unfold gS at k;match q:f env,k with
 | .ok (r,Hy),k=>
  refine⟨G,env,fp,r,Hy,rel,q,fun v H1 G1 HZ HU HA=>?_⟩;obtain⟨b,Hz,HJ⟩:=HA.only;exact k _ H1 G1 b (HU.trans HJ) Hz
theorem Rel.nilF{K:W.Frag}{G H:Hp}{es:PV.Env}{vs:L2.St}{fp:List Addr}(q:Rel K G H es vs fp):Rel K G H [] [] []:=⟨⟨rfl,rfl⟩,Uw,(fun _ h=>nomatch h),q.gh⟩
theorem dQ{a b:List Stmt}{ct:Expr}(hc:QT X ct c)(ha:MK (md:=md) X a g)(hb:MK (md:=md) X b h):QS (md:=md) X (.If ct a b pos) (Jn c g h):=gL (EW hc ha hb) fun D σ H HP=>by
 obtain⟨G,env,fp,rel,k⟩:=HP;unfold Jn at k;match q:c env,k with
 | .ok (true,Hy),k=>exact⟨G,env,fp,true,Hy,rel,q,fun H1 G1 HZ HU HA=>Cy ⟨G1,Hy,HZ,HA,OutOk.after HU k⟩⟩
 | .ok (false,Hy),k=>exact⟨G,env,fp,false,Hy,rel,q,fun H1 G1 HZ HU HA=>iteF ⟨G1,Hy,HZ,HA,OutOk.after HU k⟩⟩
def eN(c:FT)(g:FS):Nat->FS
 | 0,_=>.bad
 |n+1,env=>(c env).bind fun p=>if p.1 then(g p.2).bind fun o=>match o with
  | .nx e=>eN c g n e
  | .ct e=>eN c g n e
  | .bk e=>.ok (.nx e)
  | .rt r=>.ok (.rt r)
  else .ok (.nx p.2)
theorem oE{ct:Expr}{body:List Stmt}(n:Nat)(hp:PassesOwn (model X.prog X.w) X.A X.env X.xe)(hc:QT X ct c)(hb:MK (md:=md) X body g):QS (md:=md) X (.While ct body [] pos) (eN c g n):=
 gL (yi hp hc hb) fun D σ H HP=>by
  obtain⟨G,env,fp,rel,k⟩:=HP;refine⟨fun m σ' H'=>∃G' env' HI,Rel X.K G' H' env' σ' HI/\OutOk X.K G' H' HI D (eN c g m env'),⟨n,G,env,fp,rel,k⟩,?_⟩;rintro m σ1 H1 ⟨G1,Hy,HZ,HA,k1⟩;cases m with
  |zero=>exact k1.elim
  |succ m=>
   unfold eN at k1;match q:c Hy,k1 with
   | .ok (false,HN),k1=>exact⟨G1,Hy,HZ,false,HN,HA,q,fun H2 G2 Ig HJ Hz=>iteF (k1 _ H2 G2 Ig HJ Hz)⟩
   | .ok (true,HN),k1=>
    refine⟨G1,Hy,HZ,true,HN,HA,q,fun H2 G2 Ig HJ Hz=>Cy ?_⟩;refine⟨fun σ' H'=>∃G' env' HI,Rel X.K G' H' env' σ' HI/\OutOk X.K G' H' HI D (eN c g m env'),fun σ' H' z=>⟨m,VG _,z⟩,G2,HN,Ig,Hz,?_⟩;have k2:OutOk X.K G1 H1 HZ D ((g HN).bind fun o=>match o with | .nx e=>eN c g m e | .ct e=>eN c g m e | .bk e=>.ok (.nx e) | .rt r=>.ok (.rt r)):=k1;match q2:g HN,k2 with
    | .ok (.nx e),k2=>exact fun σ' H' G' HI st rel=>⟨G',e,HI,rel,OutOk.after (HJ.trans st) k2⟩
    | .ok (.ct e),k2=>exact fun σ' H' G' HI st rel=>⟨G',e,HI,rel,OutOk.after (HJ.trans st) k2⟩
    | .ok (.bk e),k2=>exact fun σ' H' G' HI st rel=>k2 σ' H' G' HI (HJ.trans st) rel
    | .ok (.rt r),k2=>exact fun v H' G' HI st rel=>k2 v H' G' HI (HJ.trans st) rel
def Walk(K:W.Frag)(G:Hp)(J:It)(ds:List D):Prop:=∀G' H' es vs fp,Same G G'->Rel K G' H' es vs fp->∀i:Nat,
 (∀d,ds[i]?=some d->J.go i H'/\∀x H2,J.yld i H' x H2->∃G2,Rep K G2 d x/\Rel K G2 H2 es vs fp/\Step G' H' fp G2 H2 fp)/\(i=ds.length->J.stop i H')
abbrev FI:=PV.Env->Res (List D×PV.Env)
inductive tQI(K:W.Frag)(f:FI)(σ:L2.St)(H:Hp)(R:It->Hp->Prop):Prop
 |mk:∀G env fp ds env',Rel K G H env σ fp->f env=.ok (ds,env')->(∀J H' G' HI,Step G H fp G' H' HI->Rel K G' H' env' σ HI->Walk K G' J ds->R J H')->tQI K f σ H R
def QI(X:Cx)(tg e:Expr)(f:FI):Prop:=PI X tg e (tQI X.K f)
theorem jE{X:Cx}{tg e:Expr}{t t':TI}(h:PI X tg e t)(k:∀σ H R,t' σ H R->t σ H R):PI X tg e t':=fun pi s σ H R I w=>h pi s σ H R I (k σ H R w)
abbrev FG:=D->PV.Env->Res PV.Env
inductive tQG(K:W.Frag)(a:FG)(v:V)(σ:L2.St)(H:Hp)(Q:L2.St->Hp->Prop):Prop
 |mk:∀G env fp d env',Rel K G H env σ fp->Rep K G d v->a d env=.ok env'->(∀σ' G' HI,Step G H fp G' H HI->Rel K G' H env' σ' HI->Q σ' H)->tQG K a v σ H Q
def QG(X:Cx)(tg:Expr)(a:FG):Prop:=PG X tg (tQG X.K a)
def ax(i:Nat):FG:=fun d env=>if i<env.length then .ok (env.set i (some (.f,d))) else .bad
theorem Ab{X:Cx}{tg:Expr}{t t':TG}(h:PG X tg t)(k:∀v σ H Q,t' v σ H Q->t v σ H Q):PG X tg t':=fun pi s σ H v u Q I r w=>h pi s σ H v u Q I r (k v σ H Q w)
theorem wJ{X:Cx}{tg:List Expr}{t t':Oy}(h:OL X tg t)(k:∀v σ H Q,t' v σ H Q->t v σ H Q):OL X tg t':=fun pi s σ H v u Q I r w=>h pi s σ H v u Q I r (k v σ H Q w)
theorem ay{i:Nat}{x:Str}(hN:X.N.Nodup)(hi:X.N[i]?=some x)(hx:Loc X.env.scope x)(hf:X.fn x=true\/X.env.scope.names.lookup x=some .local:=by first|exact .inl rfl|exact .inr rfl|assumption):QG X (.Name x pos) (ax i):=
 Ab (AB (i:=i) hN hi hx hf) fun v σ H Q HP=>by
  obtain⟨G,env,fp,d,env',rel,r,e,k⟩:=HP;unfold ax at e;split at e
  ·rename_i hl;cases e;obtain⟨fq,Hz,HJ⟩:=(rel.push r).store hl;exact k _ G fq HJ Hz
  ·cases e
abbrev NV:=List D->PV.Env->Res PV.Env
inductive tQGs(K:W.Frag)(a:NV)(vs:List V)(σ:L2.St)(H:Hp)(Q:L2.St->Hp->Prop):Prop
 |mk:∀G env fp ds env',Rel K G H env σ fp->Reps K G ds vs->a ds env=.ok env'->(∀σ' G' HI,Step G H fp G' H HI->Rel K G' H env' σ' HI->Q σ' H)->tQGs K a vs σ H Q
def Rp(X:Cx)(tg:List Expr)(a:NV):Prop:=OL X tg (tQGs X.K a)
def bW:NV:=fun ds env=>match ds with
 |[]=>.ok env
 |_=>.bad
def az(a:FG)(b:NV):NV:=fun ds env=>match ds with
 |d::ds=>(a d env).bind fun e=>b ds e
 |_=>.bad
theorem bR:Rp X [] bW:=wJ AD fun vs σ H Q HP=>by
 obtain⟨G,env,fp,ds,env',rel,r,e,k⟩:=HP;cases ds with
 |nil=>
  cases e;rw[Reps]at r;exact⟨r,k σ G fp .refl rel⟩
 |cons d ds=>cases e
theorem aG{tg:Expr}{Mr:List Expr}{a:FG}{b:NV}(h1:QG X tg a)(h2:Rp X Mr b)(hs:(assignEach (tg::Mr) X.env).map (·.2)=assign tg X.env::(assignEach Mr X.env).map (·.2):=by rfl):Rp X (tg::Mr) (az a b):=
 wJ (yh h1 h2 hs) fun vs σ H Q HP=>by
  obtain⟨G,env,fp,ds,env',rel,r,e,k⟩:=HP;cases ds with
  |nil=>cases e
  |cons d ds=>
   rw[Reps]at r;obtain⟨y,ys,ev,r1,r2⟩:=r;obtain⟨Hy,e1,e2⟩:=au e;exact⟨y,ys,ev,G,env,fp,d,Hy,rel,r1,e1,fun σ1 G1 HZ HU HA=>⟨G1,Hy,HZ,ds,env',HA,r2.mono HU.gg,e2,fun σ2 G2 Ig HJ Hz=>k σ2 G2 Ig (HU.trans HJ) Hz⟩⟩
def fB(n:Nat)(a:NV):FG:=fun d env=>match d with
 | .tup ds=>if ds.length=n then a ds env else .bad
 |_=>.bad
theorem cQ{Mr:List Expr}{k n:Nat}{a:NV}(hc:X.calm=true)(h:Rp X Mr a)(hn:(assignEach Mr X.env).length=n:=by rfl)(L9:(assignEach Mr X.env).findIdx? (·.1)=none:=by rfl):QG X (.Tuple Mr k pos) (fB n a):=
 Ab (CV hc h hn L9) fun v σ H Q HP=>by
  obtain⟨G,env,fp,d,env',rel,r,e,k⟩:=HP;unfold fB at e;split at e
  ·rename_i ds;split at e
   ·rename_i hl;obtain⟨p,xs,ev,sq,rs⟩:=bz r;exact⟨p,xs,ev,bY rel.gh sq,rs.length.trans hl,G,env,fp,ds,env',rel,rs,e,k⟩
   ·cases e
  ·cases e
def lH(a:FG)(g:FS):List D->FS
 |[],env=>.ok (.nx env)
 |d::ds,env=>(a d env).bind fun e=>(g e).bind fun o=>match o with
  | .nx e=>lH a g ds e
  | .ct e=>lH a g ds e
  | .bk e=>.ok (.nx e)
  | .rt r=>.ok (.rt r)
def kM(f:FI)(a:FG)(g:FS):FS:=fun env=>(f env).bind fun p=>lH a g p.1 p.2
theorem cw{tg iter:Expr}{body:List Stmt}{fi:FI}{a:FG}(hp:PassesOwn (model X.prog X.w) X.A X.env X.xe)(hc:X.calm=true)(hi:QI X tg iter fi)(hg:QG X tg a)(hb:MK (md:=md) X body g)(hs:∀x,foldedSetIterable iter X.env x=pure x:=by intro _;rfl):QS (md:=md) X (.For tg iter body [] pos) (kM fi a g):=
 gL (C1 hp hc hi hg hb hs) fun D σ H HP=>by
  obtain⟨G,env,fp,rel,k⟩:=HP;unfold kM at k;match q:fi env,k with
  | .ok (ds,Hy),k=>
   refine⟨G,env,fp,ds,Hy,rel,q,fun J H1 G1 HZ HU HA wk=>?_⟩;have k:OutOk X.K G H fp D (lH a g ds Hy):=k;refine⟨fun i m σ' H'=>m=ds.length-i/\i<=ds.length/\∃G' env' HI,Same G1 G'/\Rel X.K G' H' env' σ' HI/\OutOk X.K G' H' HI D (lH a g (ds.drop i) env'),⟨_,rfl,Uj _,G1,Hy,HZ,.refl _,HA,OutOk.after HU k⟩,?_⟩;rintro i m σ2 H2 ⟨rfl,hi,G2,HN,Ig,gg,Hz,k2⟩;obtain⟨w1,w2⟩:=wk G2 H2 _ _ _ gg Hz i;by_cases Iy:i<ds.length
   ·have hd:ds[i]?=some ds[i]:=List.getElem?_eq_getElem Iy;obtain⟨go,yl⟩:=w1 _ hd;rw[VT Iy]at k2;refine .inr ⟨go,fun σ' H'=>∃G' env' HI,Same G1 G'/\Rel X.K G' H' env' σ' HI/\OutOk X.K G' H' HI D (lH a g (ds.drop (i+1)) env'),fun σ' H' z=>⟨ds.length-(i+1),by lia,rfl,Iy,z⟩,fun x H3 y=>?_⟩;obtain⟨G3,rx,Ia,Ip⟩:=yl x H3 y;unfold lH at k2;match q3:a ds[i] HN,k2 with
    | .ok Jo,k2=>
     refine⟨G3,HN,Ig,ds[i],Jo,Ia,rx,q3,fun σ4 G4 fp4 JE IB=>⟨G4,Jo,fp4,IB,?_⟩⟩;have k3:OutOk X.K G2 H2 Ig D ((g Jo).bind fun o=>match o with | .nx e=>lH a g (ds.drop (i+1)) e | .ct e=>lH a g (ds.drop (i+1)) e | .bk e=>.ok (.nx e) | .rt r=>.ok (.rt r)):=k2;match q4:g Jo,k3 with
     | .ok (.nx e),k3=>exact fun σ' H' G' HI st rel=>⟨G',e,HI,gg.trans (Ip.gg.trans (JE.gg.trans st.gg)),rel,OutOk.after (Ip.trans (JE.trans st)) k3⟩
     | .ok (.ct e),k3=>exact fun σ' H' G' HI st rel=>⟨G',e,HI,gg.trans (Ip.gg.trans (JE.gg.trans st.gg)),rel,OutOk.after (Ip.trans (JE.trans st)) k3⟩
     | .ok (.bk e),k3=>exact fun σ' H' G' HI st rel=>k3 σ' H' G' HI (Ip.trans (JE.trans st)) rel
     | .ok (.rt r),k3=>exact fun v H' G' HI st rel=>k3 v H' G' HI (Ip.trans (JE.trans st)) rel
   ·have e:i=ds.length:=by lia
    subst e;rw[WX]at k2;exact .inl ⟨w2 rfl,k2 σ2 H2 G2 Ig .refl Hz⟩
def Dz(f:FX):FI:=fun env=>(f env).bind fun p=>match p.1.2 with
 | .lst ds=>.ok (ds,p.2)
 |_=>.bad
def kl(f:FX):FI:=fun env=>(f env).bind fun p=>match p.1.2 with
 | .tup ds=>.ok (ds,p.2)
 |_=>.bad
variable{tg l:Expr}
theorem p3{K:W.Frag}{G:Hp}{a:Addr}{xs:List V}{ds:List D}(sq:SqL K G a xs)(rs:Reps K G ds xs):Walk K G (PL K a) ds:=by
 intro G' H' es vs fp gg rel i;have JA:SqL K H' a xs:=iF rel.gh (iF gg sq);refine⟨fun d hd=>?_,fun e=>⟨xs,JA,by rw[rs.length];lia⟩⟩;obtain⟨x,hx,rx⟩:=rs.get hd;refine⟨⟨xs,x,JA,hx⟩,fun y H2 ⟨e,hy⟩=>?_⟩;subst e;have:=hy xs JA;rw[hx]at this;cases this;exact⟨G',Rep.mono gg rx,rel,.refl⟩
theorem yN{K:W.Frag}{G:Hp}{a:Addr}{xs:List V}{ds:List D}(sq:SqT K G a xs)(rs:Reps K G ds xs):Walk K G (RC K a) ds:=by
 intro G' H' es vs fp gg rel i;have JA:SqT K H' a xs:=bY rel.gh (bY gg sq);refine⟨fun d hd=>?_,fun e=>⟨xs,JA,by rw[rs.length];lia⟩⟩;obtain⟨x,hx,rx⟩:=rs.get hd;refine⟨⟨xs,x,JA,hx⟩,fun y H2 ⟨e,hy⟩=>?_⟩;subst e;have:=hy xs JA;rw[hx]at this;cases this;exact⟨G',Rep.mono gg rx,rel,.refl⟩
theorem Bm(h:QE X l f):QI X tg l (Dz f):=jE (vE h) fun σ H R HP=>by
 obtain⟨G,env,fp,ds,env',rel,e,k⟩:=HP;obtain⟨⟨⟨o,d⟩,Hy⟩,e1,e⟩:=au e;dsimp only at e;split at e
 ·cases e;refine⟨G,env,fp,_,_,rel,e1,fun v H1 G1 HZ HU HA=>?_⟩;obtain⟨G2,b,rv,Hz,HJ⟩:=HA.freeze;obtain⟨p,xs,ev,sq,rs⟩:=bM rv;exact⟨p,ev,⟨xs,iF Hz.gh sq⟩,k _ H1 G2 b (HU.trans HJ) Hz (p3 sq rs)⟩
 ·cases e
theorem nM(h:QE X l f):QI X tg l (kl f):=jE (C0 h) fun σ H R HP=>by
 obtain⟨G,env,fp,ds,env',rel,e,k⟩:=HP;obtain⟨⟨⟨o,d⟩,Hy⟩,e1,e⟩:=au e;dsimp only at e;split at e
 ·cases e;refine⟨G,env,fp,_,_,rel,e1,fun v H1 G1 HZ HU HA=>?_⟩;obtain⟨G2,b,rv,Hz,HJ⟩:=HA.freeze;obtain⟨p,xs,ev,sq,rs⟩:=bz rv;exact⟨p,ev,⟨xs,bY Hz.gh sq⟩,k _ H1 G2 b (HU.trans HJ) Hz (yN sq rs)⟩
 ·cases e
def km(f:FX):FI:=fun env=>(f env).bind fun p=>match p.1.2 with
 | .str l=>.ok (l.map fun c=>.str [c],p.2)
 |_=>.bad
theorem nN(h:QE X l f):QI X tg l (km f):=jE (Dp h) fun σ H R HP=>by
 obtain⟨G,env,fp,ds,env',rel,e,k⟩:=HP;obtain⟨⟨⟨o,d⟩,Hy⟩,e1,e⟩:=au e;dsimp only at e;split at e
 ·rename_i cs;cases e;refine⟨G,env,fp,_,_,rel,e1,fun v H1 G1 HZ HU HA=>?_⟩;obtain⟨G2,b,rv,Hz,HJ⟩:=HA.freeze;obtain⟨ev,hl⟩:=bD rv;refine⟨cs,ev,k _ H1 G2 b (HU.trans HJ) Hz fun G' H' es vs HI gg Ij i=>⟨fun d hd=>?_,fun e=>?_⟩⟩
  ·rw[List.getElem?_map]at hd;cases hc:cs[i]? with
   |none=>rw[hc]at hd;cases hd
   |some c=>
    rw[hc]at hd;cases hd;refine⟨(List.getElem?_eq_some_iff.mp hc).1,fun x H2 ⟨e1,e2⟩=>?_⟩;subst e1;refine⟨G',?_,Ij,.refl⟩;rw[e2];show Rep X.K G' (.str [c]) (.str (S [cs.getD i 0]));rw[List.getD_eq_getElem?_getD,hc];exact jd (by rw[line_eq];simp)
  ·rw[To]at e;exact e
 ·cases e
def bZ(f:FO):FI:=fun env=>(f env).bind fun p=>(Jj p.2 p.1).bind fun d=>match d with
 | .int j=>if -4611686018427387904<=j/\j<4611686018427387904 then .ok ((List.range j.toNat).map fun(k:Nat)=>D.int (k:Int),p.2) else .bad
 |_=>.bad
theorem nO{K:W.Frag}{G:Hp}(lo:Int)(n:Nat):Walk K G (P7 lo n) ((List.range n).map fun(k:Nat)=>D.int (lo+(k:Int))):=by
 intro G' H' es vs fp gg rel i;refine⟨fun d hd=>?_,fun e=>?_⟩
 ·rw[List.getElem?_map]at hd;cases hc:(List.range n)[i]? with
  |none=>rw[hc]at hd;cases hd
  |some c=>
   rw[hc]at hd;cases hd;obtain⟨h1,h2⟩:=List.getElem?_eq_some_iff.mp hc;rw[TH]at h1;rw[U8]at h2;subst h2;refine⟨h1,fun x H2 ⟨e1,e2⟩=>?_⟩;subst e1;exact⟨G',by rw[e2];exact bB _,rel,.refl⟩
 ·rw[To,TH]at e;exact Xd e.symm
theorem b5{a:Expr}{fa:FO}{p pos:Pos}(hg:Gl X "range")(hm:X.mg "range" = none)(ha:QO X a fa)(hs:starEach [a] X.env=[(false,eval a X.env)]:=by rfl):QI X tg (.Call (.Name "range" p) [a] [] pos) (bZ fa):=
 jE (vF hg hm (ag ha ar hs) hs) fun σ H R HP=>by
  obtain⟨G,env,fp,ds,env',rel,e,k⟩:=HP;obtain⟨⟨o,Hy⟩,e1,e⟩:=au e;obtain⟨d,e2,e⟩:=au e;dsimp only at e;split at e
  ·rename_i j;split at e
   ·rename_i hj;cases e;refine⟨G,env,fp,[o],_,rel,by show(fa env).bind _=_;rw[e1];rfl,fun vs H1 G1 HZ HU HA Jz=>?_⟩;obtain⟨y,ys,ev,k1,k2⟩:=Jz;have k2:ys=[]:=k2;subst k2;have hv:=bH (HA.vw k1 e2);subst hv;refine⟨j,ev,by lia,by lia,k _ H1 G1 HZ HU HA ?_⟩;have w:=nO (K:=X.K) (G:=G1) 0 j.toNat
    simpa using w
   ·cases e
  ·cases e
noncomputable def rj(fs:FOs):FI:=fun env=>(fs env).bind fun p=>(qM p.2 p.1).bind fun d=>match d with
 |[.int i,.int j]=>if(-4611686018427387904<=i/\i<4611686018427387904)/\-4611686018427387904<=j/\j<4611686018427387904 then .ok ((List.range (j-i).toNat).map fun(k:Nat)=>D.int (i+(k:Int)),p.2) else .bad
 |_=>.bad
theorem wK{a b:Expr}{fs:FOs}{p pos:Pos}(hg:Gl X "range")(hm:X.mg "range" = none)(ha:Md X [a,b] fs)(hs:starEach [a,b] X.env=[(false,eval a X.env),(false,eval b X.env)]:=by rfl)(Mk:starEach [b] X.env=[(false,eval b X.env)]:=by rfl):
  QI X tg (.Call (.Name "range" p) [a,b] [] pos) (rj fs):=
 jE (vG hg hm ha hs Mk) fun σ H R HP=>by
  obtain⟨G,env,fp,ds,env',rel,e,k⟩:=HP;obtain⟨⟨o,Hy⟩,e1,e⟩:=au e;obtain⟨d,e2,e⟩:=au e;dsimp only at e;split at e
  ·rename_i i j;split at e
   ·rename_i hj;cases e;refine⟨G,env,fp,o,_,rel,e1,fun vs H1 G1 HZ HU HA Jz=>?_⟩;obtain⟨y,ys,ev,v1,z,zs,Qt,v2,e3⟩:=HA.vws Jz e2;have e3:zs=[]:=e3;subst e3;have h1:=bH v1;have h2:=bH v2;subst h1;subst h2;subst Qt;exact⟨i,j,ev,⟨by lia,by lia,by lia,by lia⟩,k _ H1 G1 HZ HU HA (nO i _)⟩
   ·cases e
  ·cases e
def kn(k:Bool):D->Res (List D)
 | .lst ds=>if k then .ok ds else .bad
 | .tup ds=>if k then .bad else .ok ds
 |_=>.bad
def uF(k1 k2:Bool)(fs:FOs):FI:=fun env=>(fs env).bind fun p=>match p.1 with
 |[.val d1,.val d2]=>(kn k1 d1).bind fun a=>(kn k2 d2).bind fun b=>.ok ((a.zip b).map fun z=>D.tup [z.1,z.2],p.2)
 |_=>.bad
theorem tj{K:W.Frag}{G:Hp}{k:Bool}{d:D}{ds:List D}{v:V}(e:kn k d=.ok ds)(r:Rep K G d v):∃p xs,v=.ref p/\(if k then SqL K G p xs else SqT K G p xs)/\Reps K G ds xs:=by
 cases d with
 |lst es=>
  cases k with
  |true=>
   cases e;obtain⟨p,xs,e1,q,rs⟩:=bM r;exact⟨p,xs,e1,q,rs⟩
  |false=>cases e
 |tup es=>
  cases k with
  |true=>cases e
  |false=>
   cases e;obtain⟨p,xs,e1,q,rs⟩:=bz r;exact⟨p,xs,e1,q,rs⟩
 |_=>cases e
theorem oF{K:W.Frag}{G G':Hp}{k:Bool}{p:Addr}{xs:List V}(h:Same G G')(r:if k then SqL K G p xs else SqT K G p xs):if k then SqL K G' p xs else SqT K G' p xs:=by
 cases k with
 |true=>exact iF h r
 |false=>exact bY h r
theorem yO{K:W.Frag}{G:Hp}{k1 k2:Bool}{p1 p2:Addr}{xs ys:List V}{as bs:List D}(s1:if k1 then SqL K G p1 xs else SqT K G p1 xs)(s2:if k2 then SqL K G p2 ys else SqT K G p2 ys)(r1:Reps K G as xs)(r2:Reps K G bs ys):
  Walk K G (RS K k1 k2 p1 p2) ((as.zip bs).map fun z=>D.tup [z.1,z.2]):=by
 intro G' H' es vs fp gg rel i;have g1:=oF (gg.trans rel.gh) s1;have g2:=oF (gg.trans rel.gh) s2;refine⟨fun d hd=>?_,fun e=>⟨xs,ys,g1,g2,?_⟩⟩
 ·rw[List.getElem?_map]at hd;cases hz:(as.zip bs)[i]? with
  |none=>rw[hz]at hd;cases hd
  |some z=>
   rw[hz]at hd;cases hd;obtain⟨h1,h2⟩:=List.getElem?_zip_eq_some.mp hz;obtain⟨x,hx,rx⟩:=r1.get h1;obtain⟨y,hy,ry⟩:=r2.get h2;refine⟨⟨xs,ys,x,y,g1,g2,hx,hy⟩,fun v H2 ⟨T,hT,ev,hh⟩=>?_⟩;have e2:=hh xs ys x y g1 g2 hx hy;subst e2;obtain⟨Hz,HJ⟩:=rel.newF (u:=.tup [x,y]) hT;refine⟨_,?_,Hz,HJ⟩;rw[Rep];exact⟨T,[x,y],ev,aY,.cons (Rep.mono (gg.trans HJ.gg) rx) (.one (Rep.mono (gg.trans HJ.gg) ry))⟩
 ·rw[To,UO]at e;rw[r1.length,r2.length];exact e
theorem tm(k1 k2:Bool){Mr:List Expr}{kt:Nat}{pt:Pos}{e1 e2:Expr}{fs:FOs}{p pos:Pos}(hg:Gl X "zip")(hm:X.mg "zip" = none)(ha:Md X [e1,e2] fs)(he:starEach [e1,e2] X.env=(false,eval e1 X.env)::starEach [e2] X.env:=by rfl)(JC:(backTo pos (starEach [e2] X.env)).any (·.1)=false:=by rfl):
  QI X (.Tuple Mr kt pt) (.Call (.Name "zip" p) [e1,e2] [] pos) (uF k1 k2 fs):=
 jE (Ds k1 k2 hg hm ha he JC) fun σ H R HP=>by
  obtain⟨G,env,fp,ds,env',rel,e,k⟩:=HP;obtain⟨⟨o,Hy⟩,e1,e⟩:=au e;dsimp only at e;split at e
  ·rename_i d1 d2;obtain⟨a,ea,e⟩:=au e;obtain⟨b,eb,e⟩:=au e;cases e;refine⟨G,env,fp,_,_,rel,e1,fun vs H1 G1 HZ HU HA Jz=>?_⟩;obtain⟨y,ys,ev,v1,z,zs,Qt,v2,e3⟩:=Jz;have e3:zs=[]:=e3;subst e3;obtain⟨p1,xs1,ep1,q1,r1⟩:=tj ea v1;obtain⟨p2,PY,ep2,q2,r2⟩:=tj eb v2;subst ep1;subst ep2;subst Qt;exact⟨p1,p2,xs1,PY,ev,oF HA.gh q1,oF HA.gh q2,k _ H1 G1 HZ HU HA (yO q1 q2 r1 r2)⟩
  ·cases e
end
def fBody(np nn:Nat)(g:FS):List D->Res R:=fun ds=>if ds.length=np then(g (ds.map (fun d=>some (O.f,d))++List.replicate nn none)).bind fun o=>match o with
 | .rt r=>.ok r
 | .nx _=>.ok (.f,.non)
 |_=>.bad
 else .bad
theorem gY{K:W.Frag}{G H:Hp}(n:Nat):∀{ds:List D}{vs:List V},Reps K G ds vs->RepE K G H (ds.map (fun d=>some (O.f,d))++List.replicate n none) (vs.map some++List.replicate n none) []
 |[],vs,r=>by
  rw[Reps]at r;subst r;show RepE K G H (List.replicate n none) (List.replicate n none) [];induction n with
  |zero=>exact⟨rfl,rfl⟩
  |succ n ih=>exact⟨none,_,rfl,ih⟩
 |d::ds,vs,r=>by
  rw[Reps]at r;obtain⟨y,ys,e,r1,r2⟩:=r;subst e;exact⟨some y,_,rfl,y,[],[],rfl,rfl,kJ.mpr ⟨r1,rfl⟩,gY n r2⟩
theorem dF{P:Program}{w:World}{K:W.Frag}{mg:Str->Option Value}{base:Heap}{x:Str}{st:Stmt}{N ps:List Str}{k:Nat}{g:FS}(Df:Def K mg x st)(sc:FnScope N ps (defScope st))
  (hb:∀(kV doc pm:Value) (an:Option Addr) (HX ct:Value) (us:List Value),us.length=ps.length->bindArgs (PySem.W.fnOf x x (eM st) (cM st) (defScope st) .none kV doc pm an HX ct) ⟨us,[]⟩=pure (ps.zip us))
  (body:∀(f:Addr) (HX:Value) (A:Around) (outer:List PySem.Env) (s:Shared) (H:Hp) (E:XK),Room k (A.deeper (envOfC x (defScope st) s.heap.objs.size f HX))->MK (md:=.plain) (x3 Mn P w K mg base N x (defScope st) f HX A outer s H E).nox (cM st) g):
  Ct P w K mg base x (k+1) (spF K (fBody ps.length (N.length-ps.length) g)):=by
 obtain⟨f,fd,F,m⟩:=Df;refine⟨f,fd,ps,F.ok sc (fun vs H Q E h=>?_) (fun HX A outer s H vs Q E hr h=>?_),m,F.kp,F.binds hb⟩
 ·obtain⟨G,ds,r,_,rs,e,_⟩:=h;unfold fBody at e;split at e
  ·rename_i hl;rw[rs.length,hl]
  ·cases e
 ·obtain⟨G,ds,r,gh,rs,e,q⟩:=h;unfold fBody at e;split at e
  ·rename_i hl;refine⟨_,body f HX A outer s H E hr,G,ds.map (fun d=>some (O.f,d))++List.replicate (N.length-ps.length) none,[],⟨?_,Uw,(fun _ h=>nomatch h),gh⟩,?_⟩
   ·have:=gY (K:=K) (G:=G) (H:=H) (N.length-ps.length) rs;unfold L2.start;rw[rs.length,hl];exact this
   ·obtain⟨o,eo,e⟩:=au e;rw[eo];cases o with
    |rt r'=>
     cases e;exact fun v H' G' HI st rel=>q v H' G' HI st rel
    |nx env'=>
     cases e;exact fun σ' H' G' HI st rel=>q .non H' G' [] (st.trans (Step.cut fun _ h=>nomatch h)) (rel.nilF.push rh)
    |bk env'=>cases e
    |ct env'=>cases e
  ·cases e
def cN(ix:List (Option Nat))(env:PV.Env):PV.Env:=ix.map fun j=>j.bind fun j=>match env[j]? with
 |some (some r)=>some (O.f,r.2)
 |_=>none
def dW:FT:=fun env=>.ok (true,env)
def dm(a:FG)(c:FT)(f:FX):List D->PV.Env->Res (List D)
 |[],_=>.ok []
 |d::ds,env=>(a d env).bind fun e=>(c e).bind fun p=>if p.1 then(f p.2).bind fun q=>(dm a c f ds q.2).bind fun rs=>.ok (q.1.2::rs) else dm a c f ds p.2
def di(fi:FI)(ix:List (Option Nat))(a:FG)(c:FT)(f:FX):FX:=fun env=>(fi env).bind fun p=>(dm a c f p.1 (cN ix p.2)).bind fun ds=>if ds.length<=sizeLine then .ok ((.l .f,.lst ds),if flatDs ds then p.2 else p.2.map frz) else .bad
theorem jF:∀ds,ds.all (aT .f)=flatDs ds
 |[]=>rfl
 |d::ds=>by rw[Wm,flatDs,jF ds,aT]
theorem fO{K:W.Frag}{G1 H:Hp}{es:PV.Env}{σ:L2.St}(ht:∀(i:Nat) (r:R) (v:V),es[i]?=some (some r)->σ[i]?=some (some v)->Rep K G1 r.2 v)(hv:∀(i:Nat) (r:R),es[i]?=some (some r)->∃v,σ[i]?=some (some v)):
  ∀ix:List (Option Nat),RepE K G1 H (cN ix es) (jx ix σ) []
 |[]=>⟨rfl,rfl⟩
 |none::ix=>⟨none,_,rfl,fO ht hv ix⟩
 |some j::ix=>by
  show RepE K G1 H ((match es[j]? with|some (some r)=>some (O.f,r.2)|_=>none)::cN ix es) ((σ[j]?).bind id::jx ix σ) [];cases e:es[j]? with
  |none=>exact⟨_,_,rfl,fO ht hv ix⟩
  |some r=>
   cases r with
   |none=>exact⟨_,_,rfl,fO ht hv ix⟩
   |some r=>
    obtain⟨v,ev⟩:=hv j r e;refine⟨_,_,rfl,v,[],[],?_,rfl,kJ.mpr ⟨ht j r v e ev,rfl⟩,fO ht hv ix⟩;rw[ev];rfl
section
variable{md:Mode}{X:Cx}{scope:Scope}{N:List Str}{tg iter elt:Expr}{ifs:List Expr}{pos:Pos}{fi:FI}{a:FG}{c:FT}{f:FX}
def PZ(X:Cx)(ifs:List Expr)(c:FT):Prop:=PQ X ifs (tQT X.K c)
theorem bS:PZ X [] dW:=fun pi s σ H Q I HP=>by
 obtain⟨G,env,fp,b,env',rel,e,k⟩:=HP;cases e;exact AR pi s σ H Q I (k H G fp .refl rel)
theorem lZ{t:Expr}(h:QT X t c):PZ X [t] c:=AS h
end
section
variable{X:Cx}
inductive rCatS(K:W.Frag)(x:V)(y:V)(H:Hp)(Q:VK):Prop
 |mk:∀l b xs zs,x=.ref l->y=.ref b->SqL K H l xs->SqL K H b zs->xs.length+zs.length<=sizeLine->(∀p,H p=none->Q (.ref p) (upd H p (.lst (xs++zs))))->rCatS K x y H Q
theorem Bn:Ir X (binaryOp .Add) (rCatS X.K):=by
 intro pi s σ H x y v u Q I rx ry h;obtain⟨l,b,xs,zs,rfl,rfl,hH,hB,hz,q⟩:=h;cases rx;cases ry;obtain⟨HB,r1,p1,_⟩:=I.list hH;obtain⟨Ml,r2,p2,_⟩:=I.list hB;have l1:=r1.length;have l2:=r2.length;obtain⟨⟨cls,dd,data,sl⟩,ho,hc,n,hd⟩:=id p1.isList;obtain⟨⟨ON,NC,data2,ND⟩,JU,Kt,n2,hd2⟩:=id p2.isList;simp only at hc hd Kt hd2;subst hc hd Kt hd2;have e:HB.toArray++Ml.toArray=(HB++Ml).toArray:=by simp
 refine Xc ⟨_,ho,rfl⟩ ⟨_,JU,rfl⟩ noFill_list_add seq_list_add PySem.F.slot_list_add PySem.F.entry_list_add (PySem.F.args_list_add_2 _ _) (list_addW l b HB.toArray Ml.toArray n n2 dd NC sl ND (by rw[Tv,Tv];lia)) ⟨ho,JU,?_⟩;rw[e];exact⟨.ref _,_,I.lnew (t':=s.toks) (r1.append r2) (by rw[Ud];lia),rfl,q _ I.fresh⟩
end
noncomputable def addD:D->D->Res R
 | .int i,.int j=>.ok (.f,.int (i+j))
 | .str a,.str b=>if a.length+b.length<=sizeLine then .ok (.f,.str (a++b)) else .bad
 | .lst a,.lst b=>if a.length+b.length<=sizeLine then .ok (.l .f,.lst (a++b)) else .bad
 | .tup a,.tup b=>if a≠[]/\a.length+b.length<=sizeLine then .ok (.f,.tup (a++b)) else .bad
 |_,_=>.bad
section
variable{X:Cx}
theorem oG{K:W.Frag}{G H:Hp}{fp:List Addr}{es:PV.Env}{vs:L2.St}{ds:List D}{xs:List V}{p:Addr}(rel:Rel K G H es vs fp)(hp:H p=none)(r:Reps K G ds xs):
  ∃G',Rel K G' (upd H p (.tup xs)) (some (.f,.tup ds)::es) (some (.ref p)::vs) fp/\Step G H fp G' (upd H p (.tup xs)) fp:=by
 obtain⟨Hz,HJ⟩:=rel.newF (u:=.tup xs) hp;refine⟨_,Hz.push ?_,HJ⟩;rw[Rep];exact⟨p,xs,rfl,aY,r.mono HJ.gg⟩
theorem DA:Ir X (binaryOp .Add) (rG X.K addD):=by
 rintro pi s σ H x y v u Q I rx ry ⟨G,fp,es,vs,a,b,r,⟨rel,k⟩,va,vb,e⟩;unfold addD at e;split at e
 ·rename_i i j;cases e;cases bH va;cases bH vb;exact C2 pi s σ H _ _ v u Q I rx ry ⟨i,j,rfl,rfl,k _ H G fp .refl (rel.push (bB _))⟩
 ·rename_i i j;split at e
  ·rename_i hl;cases e;obtain⟨e1,h1⟩:=gM va;obtain⟨e2,h2⟩:=gM vb;subst e1;subst e2;refine uo pi s σ H _ _ v u Q I rx ry ⟨_,_,rfl,rfl,by rw[pP,pP];exact hl,?_⟩;rw[Fj];exact k _ H G fp .refl (rel.push (jd (by rw[Ud];exact hl)))
  ·cases e
 ·rename_i i j;split at e
  ·rename_i hl;cases e;obtain⟨p,xs,e1,h1,r1⟩:=va;obtain⟨p2,PY,e2,h2,r2⟩:=vb;subst e1;subst e2;refine Bn pi s σ H _ _ v u Q I rx ry ⟨p,p2,xs,PY,rfl,rfl,h1,h2,by rw[r1.length,r2.length];exact hl,fun q hq=>?_⟩;obtain⟨Hz,HJ⟩:=rel.newL hq (r1.app r2);exact k _ _ G _ HJ Hz
  ·cases e
 ·rename_i i j;split at e
  ·rename_i hl;cases e;obtain⟨p,xs,e1,h1,r1⟩:=iQ va;obtain⟨p2,PY,e2,h2,r2⟩:=iQ vb;subst e1;subst e2;have hx:xs≠[]:=fun z=>hl.1 (Ue (by rw[<-r1.length,z];rfl))
   refine AK pi s σ H _ _ v u Q I rx ry ⟨p,p2,xs,PY,rfl,rfl,bY rel.gh h1,bY rel.gh h2,hx,by rw[r1.length,r2.length];exact hl.2,fun z=>?_,fun z q hq=>?_⟩
   ·have:j=[]:=Ue (by rw[<-r2.length,z];rfl);subst this;rw[T9]at k;exact k _ H G fp .refl (rel.push va)
   ·obtain⟨G',Hz,HJ⟩:=oG rel hq (r1.app r2);exact k _ _ G' _ HJ Hz
  ·cases e
 ·cases e
def jG:D->D->Res R
 | .int i,.int j=>.ok (.f,.int (i-j))
 |_,_=>.bad
theorem dA:Ir X (binaryOp .Sub) (rG X.K jG):=by
 rintro pi s σ H x y v u Q I rx ry ⟨G,fp,es,vs,a,b,r,⟨rel,k⟩,va,vb,e⟩;unfold jG at e;split at e
 ·rename_i i j;cases e;cases bH va;cases bH vb;exact C3 pi s σ H _ _ v u Q I rx ry ⟨i,j,rfl,rfl,k _ H G fp .refl (rel.push (bB _))⟩
 ·cases e
def dq(i:Int):Bool:=decide (-(2 ^ 64)<i/\i<2 ^ 64)
def Ft:D->D->Res R
 | .int i,.int j=>if dq i||dq j then .ok (.f,.int (i*j)) else .bad
 |_,_=>.bad
theorem DB:Ir X (binaryOp .Mult) (rG X.K Ft):=by
 rintro pi s σ H x y v u Q I rx ry ⟨G,fp,es,vs,a,b,r,⟨rel,k⟩,va,vb,e⟩;unfold Ft at e;split at e
 ·rename_i i j;split at e
  ·rename_i hc;cases e;cases bH va;cases bH vb;have hc:CMul i j:=by
    rw[Xf]at hc;exact hc.imp VO VO
   exact C4 pi s σ H _ _ v u Q I rx ry ⟨i,j,rfl,rfl,hc,k _ H G fp .refl (rel.push (bB _))⟩
  ·cases e
 ·cases e
def gT:D->D->Res R
 | .int i,.int j=>if 0<j/\j<1073741824 then .ok (.f,.int (i / j)) else .bad
 |_,_=>.bad
theorem ko:Ir X (binaryOp .FloorDiv) (rG X.K gT):=by
 rintro pi s σ H x y v u Q I rx ry ⟨G,fp,es,vs,a,b,r,⟨rel,k⟩,va,vb,e⟩;unfold gT at e;split at e
 ·rename_i i j;split at e
  ·rename_i hc;cases e;cases bH va;cases bH vb;exact AE pi s σ H _ _ v u Q I rx ry ⟨i,j,rfl,rfl,hc,k _ H G fp .refl (rel.push (bB _))⟩
  ·cases e
 ·cases e
def cV:D->D->Res R
 | .int i,.int j=>if 0<j then .ok (.f,.int (i%j)) else .bad
 |_,_=>.bad
theorem bj:Ir X (binaryOp .Mod) (rG X.K cV):=by
 rintro pi s σ H x y v u Q I rx ry ⟨G,fp,es,vs,a,b,r,⟨rel,k⟩,va,vb,e⟩;unfold cV at e;split at e
 ·rename_i i j;split at e
  ·rename_i hc;cases e;cases bH va;cases bH vb;exact C5 pi s σ H _ _ v u Q I rx ry ⟨i,j,rfl,rfl,hc,k _ H G fp .refl (rel.push (bB _))⟩
  ·cases e
 ·cases e
def qN:D->D->Res R
 | .int i,.int j=>if 0<=j/\j<=1000000/\i.natAbs<2 ^ 64 then .ok (.f,.int (i ^ j.toNat)) else .bad
 |_,_=>.bad
theorem Ac:Ir X (binaryOp .Pow) (rG X.K qN):=by
 rintro pi s σ H x y v u Q I rx ry ⟨G,fp,es,vs,a,b,r,⟨rel,k⟩,va,vb,e⟩;unfold qN at e;split at e
 ·rename_i i j;split at e
  ·rename_i hc;cases e;cases bH va;cases bH vb;exact C6 pi s σ H _ _ v u Q I rx ry ⟨i,j,rfl,rfl,hc,k _ H G fp .refl (rel.push (bB _))⟩
  ·cases e
 ·cases e
def PR:D->D->Res R
 | .int i,.int j=>.ok (.f,.bl (decide (i<j)))
 | .str a,.str b=>.ok (.f,.bl (decide (a<b)))
 |_,_=>.bad
theorem Fu:Ir X (compareOp .Lt) (rG X.K PR):=by
 rintro pi s σ H x y v u Q I rx ry ⟨G,fp,es,vs,a,b,r,⟨rel,k⟩,va,vb,e⟩;unfold PR at e;split at e
 ·rename_i i j;cases e;cases bH va;cases bH vb;exact E8 pi s σ H _ _ v u Q I rx ry ⟨i,j,rfl,rfl,k _ H G fp .refl (rel.push (cO _))⟩
 ·rename_i i j;cases e;obtain⟨e1,h1⟩:=gM va;obtain⟨e2,h2⟩:=gM vb;subst e1;subst e2;refine vI pi s σ H _ _ v u Q I rx ry ⟨_,_,rfl,rfl,?_⟩;rw[dP,dP];exact k _ H G fp .refl (rel.push (cO _))
 ·cases e
def Rq:D->D->Res R
 | .int i,.int j=>.ok (.f,.bl (decide (i<=j)))
 | .str a,.str b=>.ok (.f,.bl (!decide (b<a)))
 |_,_=>.bad
theorem Fv:Ir X (compareOp .LtE) (rG X.K Rq):=by
 rintro pi s σ H x y v u Q I rx ry ⟨G,fp,es,vs,a,b,r,⟨rel,k⟩,va,vb,e⟩;unfold Rq at e;split at e
 ·rename_i i j;cases e;cases bH va;cases bH vb;exact L2.E9 pi s σ H _ _ v u Q I rx ry ⟨i,j,rfl,rfl,k _ H G fp .refl (rel.push (cO _))⟩
 ·rename_i i j;cases e;obtain⟨e1,h1⟩:=gM va;obtain⟨e2,h2⟩:=gM vb;subst e1;subst e2;refine vZ pi s σ H _ _ v u Q I rx ry ⟨_,_,rfl,rfl,?_⟩;rw[dP,dP];exact k _ H G fp .refl (rel.push (cO _))
 ·cases e
def Qu:D->D->Res R
 | .int i,.int j=>.ok (.f,.bl (decide (j<i)))
 |_,_=>.bad
theorem DD:Ir X (compareOp .Gt) (rG X.K Qu):=by
 rintro pi s σ H x y v u Q I rx ry ⟨G,fp,es,vs,a,b,r,⟨rel,k⟩,va,vb,e⟩;unfold Qu at e;split at e
 ·rename_i i j;cases e;cases bH va;cases bH vb;exact Fb pi s σ H _ _ v u Q I rx ry ⟨i,j,rfl,rfl,k _ H G fp .refl (rel.push (cO _))⟩
 ·cases e
def geD:D->D->Res R
 | .int i,.int j=>.ok (.f,.bl (decide (j<=i)))
 |_,_=>.bad
end
abbrev FDs:=PV.Env->Res (List D×PV.Env)
inductive tDs(K:W.Frag)(f:FDs)(σ:L2.St)(H:Hp)(Q:List V->Hp->Prop):Prop
 |mk:∀G env fp ds env',Rel K G H env σ fp->f env=.ok (ds,env')->(∀vs H' G' HI,Step G H fp G' H' HI->Rel K G' H' env' σ HI->Reps K G' ds vs->Q vs H')->tDs K f σ H Q
def Qv(X:Cx)(es:List Expr)(f:FDs):Prop:=PA X es (tDs X.K f)
def ba:FDs:=fun env=>.ok ([],env)
def aA(f:FX)(g:FDs):FDs:=fun env=>(f env).bind fun p=>(g p.2).bind fun q=>.ok (p.1.2::q.1,q.2)
section
variable{X:Cx}
theorem aV:Qv X [] ba:=sS pE fun σ H Q HP=>by
 obtain⟨G,env,fp,o,env',rel,e,k⟩:=HP;cases e;exact k [] H G fp .refl rel .nil
theorem aF{e:Expr}{es:List Expr}{f:FX}{g:FDs}(h:QE X e f)(hs:Qv X es g)(L9:starEach (e::es) X.env=(false,eval e X.env)::starEach es X.env:=by rfl):Qv X (e::es) (aA f g):=
 sS (i9 h hs L9) fun σ H Q HP=>by
  obtain⟨G,env,fp,o,env',rel,e,k⟩:=HP;obtain⟨⟨r,Hy⟩,e1,e⟩:=au e;obtain⟨⟨ds,HN⟩,e2,e⟩:=au e;cases e;refine⟨G,env,fp,r,Hy,rel,e1,fun v H1 G1 HZ HU HA=>?_⟩;obtain⟨G2,b,rv,Hz,HJ⟩:=HA.freeze;exact⟨G2,Hy,b,ds,HN,Hz,e2,fun vs H3 G3 Ji Ip Ia rs=>k _ H3 G3 Ji (HU.trans (HJ.trans Ip)) Ia (.cons (Rep.mono Ip.gg rv) rs)⟩
def fP(fs:FDs):FX:=fun env=>(fs env).bind fun p=>if p.1.length<=1000 then .ok ((.f,.tup p.1),p.2) else .bad
def m7(fs:FDs):FX:=fun env=>(fs env).bind fun p=>if p.1.length<=1000 then .ok ((.l .f,.lst p.1),p.2) else .bad
variable{es:List Expr}{fs:FDs}{pos:Pos}
theorem cJ{x1}(h:Qv X es fs):QE X (.Tuple es x1 pos) (fP fs):=bx (C7 h) fun σ H Q HP=>by
 obtain⟨G,env,fp,r,env',rel,e,k⟩:=HP;obtain⟨⟨ds,Hy⟩,e1,e⟩:=au e;dsimp only at e;split at e
 ·rename_i hl;cases e;refine⟨G,env,fp,ds,env',rel,e1,fun vs H1 G1 HZ HU HA rs=>⟨by rw[rs.length,line_eq];lia,fun p hp=>?_⟩⟩;obtain⟨G2,Hz,HJ⟩:=oG HA hp rs;exact k _ _ G2 _ (HU.trans HJ) Hz
 ·cases e
theorem d6(h:Qv X es fs):QE X (.List es pos) (m7 fs):=bx (C8 h) fun σ H Q HP=>by
 obtain⟨G,env,fp,r,env',rel,e,k⟩:=HP;obtain⟨⟨ds,Hy⟩,e1,e⟩:=au e;dsimp only at e;split at e
 ·rename_i hl;cases e;refine⟨G,env,fp,ds,env',rel,e1,fun vs H1 G1 HZ HU HA rs=>⟨by rw[rs.length,line_eq];lia,fun p hp=>?_⟩⟩;obtain⟨Hz,HJ⟩:=HA.newL hp rs;exact k _ _ G1 _ (HU.trans HJ) Hz
 ·cases e
noncomputable def HG:D->D->Res R
 | .lst ds,.int i=>match IH ds i with
  |some d=>.ok (.f,d)
  |none=>.bad
 | .tup ds,.int i=>match IH ds i with
  |some d=>.ok (.f,d)
  |none=>.bad
 | .str l,.int i=>match IH l i with
  |some c=>.ok (.f,.str [c])
  |none=>.bad
 |_,_=>.bad
theorem tq{K:W.Frag}{G:Hp}{ds:List D}{xs:List V}{i:Int}{d:D}(r:Reps K G ds xs)(e:IH ds i=some d):∃v,IH xs i=some v/\Rep K G d v:=by
 unfold IH at e ⊢;rw[r.length];cases hn:ixN ds.length i with
 |none=>rw[hn]at e;cases e
 |some j=>
  rw[hn]at e;exact r.get e
theorem Fx:Qc X (rG X.K HG):=by
 rintro value slice pi s σ H x y v u Q I rx ry ⟨G,fp,es,vs,a,b,r,⟨rel,k⟩,va,vb,e⟩ hs;unfold HG at e;split at e
 ·rename_i ds i;split at e
  ·rename_i d hd;cases e;obtain⟨p,xs,ev,sq,rs⟩:=va;subst ev;cases bH vb;obtain⟨w',hw,Mm⟩:=tq rs hd;exact AM value slice pi s σ H _ _ v u Q I rx ry ⟨p,xs,i,w',rfl,rfl,sq,hw,k _ H G fp .refl (rel.push Mm)⟩ hs
  ·cases e
 ·rename_i ds i;split at e
  ·rename_i d hd;cases e;obtain⟨p,xs,ev,sq,rs⟩:=iQ va;subst ev;cases bH vb;obtain⟨w',hw,Mm⟩:=tq rs hd;exact De value slice pi s σ H _ _ v u Q I rx ry ⟨p,xs,i,w',rfl,rfl,bY rel.gh sq,hw,k _ H G fp .refl (rel.push Mm)⟩ hs
  ·cases e
 ·rename_i l i;split at e
  ·rename_i c hc;cases e;obtain⟨ev,hl⟩:=gM va;subst ev;cases bH vb;refine Dg value slice pi s σ H _ _ v u Q I rx ry ⟨_,i,c,rfl,rfl,by rw[pP];exact hl,by rw[dP];exact hc,?_⟩ hs;exact k _ H G fp .refl (rel.push (jd (l:=[c]) (by rw[line_eq];simp)))
  ·cases e
 ·cases e
variable{a b:Expr}{fa fb:FO}
theorem aO(ha:QO X a fa)(hb:QO X b fb)(hs:vV b:=by exact fun _ _=>rfl):QE X (.Subscript a b pos) (av HG fa fb):=bx (Fg Fx ha hb hs) fun _ _ _=>sV
abbrev FP:=PV.Env->Res (Option Int×PV.Env)
inductive tQP(K:W.Frag)(f:FP)(σ:L2.St)(H:Hp)(Q:Option Int->Hp->Prop):Prop
 |mk:∀G env fp i env',Rel K G H env σ fp->f env=.ok (i,env')->(∀H' G' HI,Step G H fp G' H' HI->Rel K G' H' env' σ HI->Q i H')->tQP K f σ H Q
def QP(X:Cx)(e:Option Expr)(f:FP):Prop:=PO X e (tQP X.K f)
def ly:FP:=fun env=>.ok (none,env)
def jH(f:FX):FP:=fun env=>(f env).bind fun p=>match p.1.2 with
 | .int i=>.ok (some i,p.2)
 |_=>.bad
theorem Ad{X:Cx}{e:Option Expr}{t t':TO}(h:PO X e t)(k:∀σ H Q,t' σ H Q->t σ H Q):PO X e t':=fun pi s σ H Q I w=>h pi s σ H Q I (k σ H Q w)
theorem je:QP X none ly:=Ad AI fun σ H Q HP=>by
 obtain⟨G,env,fp,i,env',rel,e,k⟩:=HP;cases e;exact k H G fp .refl rel
theorem gc{e:Expr}{f:FX}(h:QE X e f):QP X (some e) (jH f):=Ad (AJ h) fun σ H Q HP=>by
 obtain⟨G,env,fp,i,env',rel,e,k⟩:=HP;obtain⟨⟨⟨o,d⟩,Hy⟩,e1,e⟩:=au e;dsimp only at e;split at e
 ·rename_i j;cases e;refine⟨G,env,fp,_,_,rel,e1,fun v H1 G1 HZ HU HA=>?_⟩;have hv:=HA.top;obtain⟨b,Hz,HJ⟩:=HA.drop;exact⟨j,bO hv,k H1 G1 b (HU.trans HJ) Hz⟩
 ·cases e
def lz{α:Type}(xs:List α)(lo hi:Option Int):List α:=(xs.drop (HT.sIx xs.length 0 lo)).take (HT.sIx xs.length xs.length hi-HT.sIx xs.length 0 lo)
noncomputable def Qw(k:D)(lo hi:Option Int):Res R:=match k with
 | .lst ds=>.ok (.l .f,.lst (lz ds lo hi))
 | .tup ds=>if ¬ (HT.sIx ds.length 0 lo=0/\HT.sIx ds.length ds.length hi=ds.length) then .ok (.f,.tup (lz ds lo hi)) else .bad
 | .str l=>.ok (.f,.str (lz l lo hi))
 |_=>.bad
def eSl(fa:FO)(lo hi:FP):FX:=fun env=>(fa env).bind fun p=>(lo p.2).bind fun q=>(hi q.2).bind fun t=>(Jj t.2 p.1).bind fun d=>(Qw d q.1 t.1).bind fun r=>.ok (r,t.2)
theorem tu{K:W.Frag}{G:Hp}{ds:List D}{xs:List V}{lo hi:Option Int}(r:Reps K G ds xs):Reps K G (lz ds lo hi) (zV xs lo hi):=by
 unfold lz zV;rw[r.length];exact(r.drop _).take _
theorem Bo{α:Type}(xs:List α)(lo hi:Option Int):(lz xs lo hi).length<=xs.length:=by
 unfold lz;rw[UI,VF];lia
inductive rSl(K:W.Frag)(x:V)(lo:Option Int)(hi:Option Int)(H:Hp)(Q:VK):Prop
 |mk:∀G fp es vs d r,Goes K H G fp es vs r Q->Vw K G H d x->Qw d lo hi=.ok r->rSl K x lo hi H Q
theorem DE:OO X (rSl X.K):=by
 rintro pi s σ H x v vl vu lo hi sl Q I rx hs pl pu ⟨G,fp,es,vs,d,r,⟨rel,k⟩,vd,e⟩;unfold Qw at e;split at e
 ·rename_i ds;cases e;obtain⟨p,xs,ev,sq,rs⟩:=vd;subst ev;refine AN pi s σ H _ v vl vu lo hi sl Q I rx hs pl pu ⟨p,xs,rfl,sq,fun q hq=>?_⟩;obtain⟨Hz,HJ⟩:=rel.newL hq (tu (lo:=lo) (hi:=hi) rs);exact k _ _ G _ HJ Hz
 ·rename_i ds;split at e
  ·rename_i hw;cases e;obtain⟨p,xs,ev,sq,rs⟩:=iQ vd;subst ev;refine Dc pi s σ H _ v vl vu lo hi sl Q I rx hs pl pu ⟨p,xs,rfl,bY rel.gh sq,by rw[rs.length];exact hw,fun q hq=>?_⟩;obtain⟨G2,Hz,HJ⟩:=oG rel hq (tu (lo:=lo) (hi:=hi) rs);exact k _ _ G2 _ HJ Hz
  ·cases e
 ·rename_i l;cases e;obtain⟨ev,hl⟩:=gM vd;subst ev;exact Dm pi s σ H _ v vl vu lo hi sl Q I rx hs pl pu ⟨l,rfl,hl,k _ H G fp .refl (rel.push (jd (l:=Dl l lo hi) (Uq (Bo l lo hi) hl)))⟩
 ·cases e
def wL(env:PV.Env)(i:Nat):Bool:=match env[i]? with
 |some (some (_,.lst _))=>true
 |_=>false
theorem yP{K:W.Frag}{G H:Hp}{es:PV.Env}{σ:L2.St}{fp:List Addr}{i:Nat}(rel:Rel K G H es σ fp)(h:wL es i=true):∃v,σ[i]?=some (some v)/\Qd K "list" v H:=by
 unfold wL at h;split at h
 ·rename_i o ds hr;obtain⟨v,ev,rv⟩:=rel.view hr;obtain⟨p,xs,e,sq,_⟩:=bM rv;subst e;exact⟨_,ev,.inl ⟨rfl,xs,sq⟩⟩
 ·cases h
def rm(i:Nat)(f:FX):FX:=fun env=>if wL env i then(f env).bind fun p=>match p.2[i]? with
 |some (some (.l .f,.lst ds))=>if ds.length<sizeLine then .ok ((.f,.non),p.2.set i (some (.l .f,.lst (ds++[p.1.2])))) else .bad
 |_=>.bad
 else .bad
theorem b6{i:Nat}{o e:Expr}{f:FX}{apos HV:Pos}(ho:PE X o (yd i))(he:QE X e f)
  (Iv:attributeBase o "append" X.env (eval o X.env)=eval o X.env:=by rfl)
  (KP:((backTo HV (starEach [e] X.env)).all (fun x=>!x.1)&&(backToKw HV (keywordEach [] X.env)).all (fun x=>x.1.isSome)&&decide ([e].length+([]:List Keyword).length+(if([]:List Keyword).isEmpty then 0 else 1)<30))=true:=by rfl)
  (Iw:(apos.endLine==HV.line)=true:=by rfl) (hs:starEach [e] X.env=(false,eval e X.env)::starEach [] X.env:=by rfl) (IY:(backTo HV (starEach [] X.env)).any (·.1)=false:=by rfl):
  QE X (.Call (.Attribute o "append" apos) [e] [] HV) (rm i f):=by
 refine bx (Di V5 PySem.F.slot_list_append PySem.F.type_list_append pM ho (aF he aV hs) Iv KP Iw hs IY) fun σ H Q HY=>?_
 obtain⟨G,env,fp,r,env',rel,e,k⟩:=HY;unfold rm at e;split at e
 ·rename_i hil;obtain⟨v,ev,ty⟩:=yP rel hil;obtain⟨⟨r1,Hy⟩,e1,e⟩:=au e;dsimp only at e;split at e
  ·rename_i ds NM;split at e
   ·rename_i hl;cases e;refine⟨v,ev,ty,G,env,fp,[r1.2],Hy,rel,by show(f env).bind _=_;rw[e1];rfl,fun vs H1 G1 HZ HU HA rs=>?_⟩;rw[Reps]at rs;obtain⟨y,ys,eys,ry,rn⟩:=rs;rw[Reps]at rn;subst rn;obtain⟨p,xs,ep,hp,OC,cg⟩:=HA.chg (ds':=ds++[r1.2]) NM;rw[ev]at ep;cases ep;obtain⟨fq,Hz,HJ⟩:=cg (xs++[y]) (OC.app (.one ry));exact⟨p,xs,y,rfl,eys,hp,by rw[OC.length];exact hl,k _ _ G1 fq (HU.trans HJ) (Hz.push rh)⟩
   ·cases e
  ·cases e
 ·cases e
def Fy:List D->Res R
 |[.lst ds]=>.ok (.f,.int ds.length)
 |[.tup ds]=>.ok (.f,.int ds.length)
 |[.str l]=>.ok (.f,.int l.length)
 |_=>.bad
theorem pq{K:W.Frag}{G H:Hp}{d:D}{xs:List V}(h:OY K G H [d] xs):∃v,xs=[v]/\Vw K G H d v:=by
 obtain⟨y,ys,e,v1,e2⟩:=h;have e2:ys=[]:=e2;subst e2;exact⟨y,e,v1⟩
theorem Ga{K:W.Frag}{G H:Hp}{d d':D}{xs:List V}(h:OY K G H [d,d'] xs):∃v w,xs=[v,w]/\Vw K G H d v/\Vw K G H d' w:=by
 obtain⟨y,ys,e,v1,h2⟩:=h;obtain⟨z,e2,v2⟩:=pq h2;subst e2;exact⟨y,z,e,v1,v2⟩
theorem DF:dD X (.builtin "len") (rC X.K Fy):=by
 rintro pi s σ H xs us Q I rx ⟨G,fp,es,vs,ds,r,⟨rel,k⟩,vd,e⟩;unfold Fy at e;split at e
 ·rename_i ds;cases e;obtain⟨v,ev,p,ys,ep,sq,rs⟩:=pq vd;subst ev;subst ep;refine kH pi s σ H _ us Q I rx ⟨p,ys,rfl,.inl sq,?_⟩;rw[rs.length];exact k _ H G fp .refl (rel.push (bB _))
 ·rename_i ds;cases e;obtain⟨v,ev,vt⟩:=pq vd;obtain⟨p,ys,ep,sq,rs⟩:=iQ vt;subst ev;subst ep;refine kH pi s σ H _ us Q I rx ⟨p,ys,rfl,.inr (bY rel.gh sq),?_⟩;rw[rs.length];exact k _ H G fp .refl (rel.push (bB _))
 ·rename_i l;cases e;obtain⟨v,ev,vt⟩:=pq vd;obtain⟨ep,hl⟩:=gM vt;subst ev;subst ep;refine pK pi s σ H _ us Q I rx ⟨S l,rfl,by rw[pP];exact hl,?_⟩;rw[pP];exact k _ H G fp .refl (rel.push (bB _))
 ·cases e
def wM:List D->Res R
 |[.lst ds]=>.ok (.l .f,.lst ds)
 |[.tup ds]=>.ok (.l .f,.lst ds)
 |_=>.bad
theorem wN:dD X (.type "list") (rC X.K wM):=by
 rintro pi s σ H xs us Q I rx ⟨G,fp,es,vs,ds,r,⟨rel,k⟩,vd,e⟩;unfold wM at e;split at e
 ·rename_i ds;cases e;obtain⟨v,ev,p,ys,ep,sq,rs⟩:=pq vd;subst ev;subst ep;refine kI pi s σ H _ us Q I rx ⟨p,ys,rfl,.inl sq,fun q hq=>?_⟩;obtain⟨Hz,HJ⟩:=rel.newL hq rs;exact k _ _ G _ HJ Hz
 ·rename_i ds;cases e;obtain⟨v,ev,vt⟩:=pq vd;obtain⟨p,ys,ep,sq,rs⟩:=iQ vt;subst ev;subst ep;refine kI pi s σ H _ us Q I rx ⟨p,ys,rfl,.inr (bY rel.gh sq),fun q hq=>?_⟩;obtain⟨Hz,HJ⟩:=rel.newL hq rs;exact k _ _ G _ HJ Hz
 ·cases e
def jI:List D->Res R
 |[.lst ds]=>.ok (.f,.tup ds)
 |[.tup ds]=>.ok (.f,.tup ds)
 |_=>.bad
theorem e9:dD X (.type "tuple") (rC X.K jI):=by
 rintro pi s σ H xs us Q I rx ⟨G,fp,es,vs,ds,r,⟨rel,k⟩,vd,e⟩;unfold jI at e;split at e
 ·rename_i ds;cases e;obtain⟨v,ev,p,ys,ep,sq,rs⟩:=pq vd;subst ev;subst ep;refine jw pi s σ H _ us Q I rx ⟨p,ys,rfl,.inl ⟨sq,fun q hq=>?_⟩⟩;obtain⟨G2,Hz,HJ⟩:=oG rel hq rs;exact k _ _ G2 _ HJ Hz
 ·rename_i ds;cases e;obtain⟨v,ev,vt⟩:=pq vd;obtain⟨p,ys,ep,sq,rs⟩:=iQ vt;subst ev;subst ep;exact jw pi s σ H _ us Q I rx ⟨p,ys,rfl,.inr ⟨bY rel.gh sq,k _ H G fp .refl (rel.push vt)⟩⟩
 ·cases e
def yQ:List D->Option (List Bool)
 |[]=>some []
 | .bl b::ds=>(yQ ds).map (b:: ·)
 |_=>none
def cC:List D->Option (List Int)
 |[]=>some []
 | .int b::ds=>(cC ds).map (b:: ·)
 |_=>none
theorem jg{K:W.Frag}{G:Hp}:∀{ds:List D}{bs:List Int}{xs:List V},cC ds=some bs->Reps K G ds xs->xs=bs.map V.int
 |[],_,_,e,r=>by
  cases e;rw[Reps]at r;exact r
 | .int b::ds,_,_,e,r=>by
  rw[cC,Uk]at e;obtain⟨bs,e1,e2⟩:=e;subst e2;rw[Reps]at r;obtain⟨y,ys,e3,r1,r2⟩:=r;rw[e3,bO r1,jg e1 r2];rfl
 | .non::_,_,_,e,_ | .bl _::_,_,_,e,_ | .str _::_,_,_,e,_ | .tup _::_,_,_,e,_ | .lst _::_,_,_,e,_ | .dct _ _ _::_,_,_,e,_=>by simp[cC]at e
theorem nP(ns:List Int):cC (ns.map D.int)=some ns:=by
 induction ns with
 |nil=>rfl
 |cons n ns ih=>rw[TZ,cC,ih];rfl
theorem DG(ns:List Bool):yQ (ns.map D.bl)=some ns:=by
 induction ns with
 |nil=>rfl
 |cons n ns ih=>rw[TZ,yQ,ih];rfl
def m9:D->Option (List D)
 | .lst ds=>some ds
 | .tup ds=>some ds
 |_=>none
theorem Bp{K:W.Frag}{G H:Hp}{d:D}{ds:List D}{v:V}(gh:Same G H)(e:m9 d=some ds)(h:Vw K G H d v):∃p xs,v=.ref p/\(SqL K H p xs\/SqT K H p xs)/\Reps K G ds xs:=by
 cases d with
 |lst es=>
  cases e;obtain⟨p,xs,ev,sq,rs⟩:=h;exact⟨p,xs,ev,.inl sq,rs⟩
 |tup es=>
  cases e;obtain⟨p,xs,ev,sq,rs⟩:=bz h;exact⟨p,xs,ev,.inr (bY gh sq),rs⟩
 |_=>cases e
def Hr:List D->Res R
 |[d]=>match(m9 d).bind yQ with
  |some bs=>.ok (.f,.bl (bs.all id))
  |none=>.bad
 |_=>.bad
def x5:List D->Res R
 |[d]=>match(m9 d).bind cC with
  |some ns=>.ok (.f,.int ns.sum)
  |none=>.bad
 |_=>.bad
def maxD:List D->Res R
 |[d]=>match(m9 d).bind cC with
  |some (n::ns)=>.ok (.f,.int (uw (n::ns)))
  |_=>.bad
 |[.int i,.int j]=>.ok (.f,.int (if i<j then j else i))
 |_=>.bad
def minD:List D->Res R
 |[d]=>match(m9 d).bind cC with
  |some (n::ns)=>.ok (.f,.int (ni (n::ns)))
  |_=>.bad
 |_=>.bad
theorem gZ{K:W.Frag}{G H:Hp}{d:D}{ns:List Int}{v:V}(gh:Same G H)(hb:(m9 d).bind cC=some ns)(vt:Vw K G H d v):∃p,v=.ref p/\(SqL K H p (ns.map V.int)\/SqT K H p (ns.map V.int)):=by
 obtain⟨l,hl,hb⟩:=VE.mp hb;obtain⟨p,ys,ep,sq,rs⟩:=Bp gh hl vt;have:=jg hb rs;subst this;exact⟨p,ep,sq⟩
theorem tw(hc:X.calm=true):dD X (.builtin "sum") (rC X.K x5):=by
 rintro pi s σ H xs us Q I rx ⟨G,fp,es,vs,ds,r,⟨rel,k⟩,vd,e⟩;unfold x5 at e;split at e
 ·rename_i d;split at e
  ·rename_i ns hb;cases e;obtain⟨v,ev,vt⟩:=pq vd;obtain⟨p,ep,sq⟩:=gZ rel.gh hb vt;subst ev;subst ep;exact wj hc pi s σ H _ us Q I rx ⟨p,ns,rfl,sq,k _ H G fp .refl (rel.push (bB _))⟩
  ·cases e
 ·cases e
end
mutual
noncomputable def HE:D->D->Bool
 | .non,.non=>true
 | .bl a,.bl b=>a==b
 | .bl a,.int j=>(if a then 1 else 0)==j
 | .int i,.bl b=>i==(if b then 1 else 0)
 | .int i,.int j=>i==j
 | .str a,.str b=>a==b
 | .tup a,.tup b=>ng a b
 | .lst a,.lst b=>ng a b
 |_,_=>false
noncomputable def ng:List D->List D->Bool
 |[],[]=>true
 |a::as,b::bs=>HE a b&&ng as bs
 |_,_=>false
end
mutual
noncomputable def plainD:Nat->D->Bool
 |n+1,.tup ds=>plainDs n ds
 |n+1,.lst ds=>plainDs n ds
 | 0,.tup _=>false
 | 0,.lst _=>false
 |_,.dct _ _ _=>false
 |_,_=>true
noncomputable def plainDs:Nat->List D->Bool
 |_,[]=>true
 |n,d::ds=>plainD n d&&plainDs n ds
end
theorem plainDs_mem:∀{n:Nat}{ds:List D},plainDs n ds=true->∀{i:Nat}{d:D},ds[i]?=some d->plainD n d=true
 |_,[],_,_,_,e=>by simp at e
 |n,a::ds,h,0,d,e=>by
  rw[plainDs,TL]at h;simp at e;rw[<-e];exact h.1
 |n,a::ds,h,i+1,d,e=>by
  rw[plainDs,TL]at h;exact plainDs_mem h.2 (i:=i) (by simpa using e)
theorem jJ:∀{a b:List D},a.length≠b.length->ng a b=false
 |[],[],h=>absurd rfl h
 |[],_::_,_=>by simp only[ng]
 |_::_,[],_=>by simp only[ng]
 |x::xs,y::ys,h=>by
  rw[ng,jJ (fun e=>h (by simp[e])),XB]
theorem fQ:∀{a b:List D},a.length=b.length->(List.range a.length).all (fun j=>HE (a.getD j .non) (b.getD j .non))=ng a b
 |[],[],_=>rfl
 |[],_::_,h=>by simp at h
 |_::_,[],h=>by simp at h
 |x::xs,y::ys,h=>by
  rw[ng,<-fQ (a:=xs) (b:=ys) (by simpa using h),TJ,List.range_succ_eq_map,Wm,U7];rfl
section
variable{X:Cx}{pi:List (Addr×Obj)}{σ:L2.St}{H:Hp}{s:Shared}
theorem l5(I:Inv X pi σ H s){p:Addr}{xs ys:List V}(h:SqL X.K H p xs)(h':SqT X.K H p ys):False:=by
 obtain⟨us,_,p1,_⟩:=I.list h;obtain⟨ws,_,p2,_⟩:=I.tuple h';exact SeqAt.ne_of_list_tuple p1.isList (show s.heap.IsTuple p ws.toArray from p2) rfl
mutual
theorem l6(I:Inv X pi σ H s):∀(d e:D) (x:V) (n:Nat),plainD n d=true->Rep X.K H d x->Rep X.K H e x->d=e
 | .non,e,x,n,_,r,q=>by
  cases cA r;cases e with
  |non=>rfl
  |bl b=>cases cU q
  |int i=>cases bO q
  |str l=>cases(bD q).1
  |tup l=>obtain⟨p,xs,ev,_⟩:=bz q;cases ev
  |lst l=>obtain⟨p,xs,ev,_⟩:=bM q;cases ev
  |dct tk ks vs=>rw[Rep]at q;obtain⟨p,xs,o,ev,_⟩:=q;cases ev
 | .bl b,e,x,n,_,r,q=>by
  cases cU r;cases e with
  |non=>cases cA q
  |bl b=>cases cU q;rfl
  |int i=>cases bO q
  |str l=>cases(bD q).1
  |tup l=>obtain⟨p,xs,ev,_⟩:=bz q;cases ev
  |lst l=>obtain⟨p,xs,ev,_⟩:=bM q;cases ev
  |dct tk ks vs=>rw[Rep]at q;obtain⟨p,xs,o,ev,_⟩:=q;cases ev
 | .int i,e,x,n,_,r,q=>by
  cases bO r;cases e with
  |non=>cases cA q
  |bl b=>cases cU q
  |int i=>cases bO q;rfl
  |str l=>cases(bD q).1
  |tup l=>obtain⟨p,xs,ev,_⟩:=bz q;cases ev
  |lst l=>obtain⟨p,xs,ev,_⟩:=bM q;cases ev
  |dct tk ks vs=>rw[Rep]at q;obtain⟨p,xs,o,ev,_⟩:=q;cases ev
 | .str l,e,x,n,_,r,q=>by
  have hr:=(bD r).1;subst hr;cases e with
  |non=>cases cA q
  |bl b=>cases cU q
  |int i=>cases bO q
  |str l'=>
   have hq:=(bD q).1;injection hq with hq;rw[S_inj hq]
  |tup l=>obtain⟨p,xs,ev,_⟩:=bz q;cases ev
  |lst l=>obtain⟨p,xs,ev,_⟩:=bM q;cases ev
  |dct tk ks vs=>rw[Rep]at q;obtain⟨p,xs,o,ev,_⟩:=q;cases ev
 | .tup l,e,x,n,h,r,q=>by
  obtain⟨p,xs,ev,sq,rs⟩:=bz r;subst ev;cases e with
  |non=>cases cA q
  |bl b=>cases cU q
  |int i=>cases bO q
  |str l=>cases(bD q).1
  |tup l'=>
   obtain⟨p',IJ,J4,JA,JH⟩:=bz q;cases J4;have:=I.tuple_inj sq JA;subst this;cases n with
   |zero=>simp only[plainD]at h;cases h
   |succ n=>
    simp only[plainD]at h;rw[oH I l l' xs n h rs JH]
  |lst l'=>
   obtain⟨p',IJ,J4,JA,JH⟩:=bM q;cases J4;exact(l5 I JA sq).elim
  |dct tk ks vs=>
   exfalso;rw[Rep]at q;obtain⟨p',IJ,o,J4,rd,dd,_⟩:=q;cases J4;obtain⟨HB,_,ip,_⟩:=I.tuple sq;obtain⟨ob,ho,hc,_⟩:=ip;have Qx:=rd.ok I.hok;cases tk with
   |true=>
    obtain⟨kvs,eo,_⟩:=dd;subst eo;obtain⟨_,_,_,_,o2,_,_,JU,ex,_⟩:=Qx;rw[ho]at JU;cases JU;rw[ex.1]at hc;exact absurd hc (by decide)
   |false=>
    obtain⟨kvs,eo,_⟩:=dd;subst eo;obtain⟨_,_,_,_,o2,_,_,JU,ex,_⟩:=Qx;rw[ho]at JU;cases JU;rw[ex.1]at hc;exact absurd hc (by decide)
 | .lst l,e,x,n,h,r,q=>by
  obtain⟨p,xs,ev,sq,rs⟩:=bM r;subst ev;cases e with
  |non=>cases cA q
  |bl b=>cases cU q
  |int i=>cases bO q
  |str l=>cases(bD q).1
  |tup l'=>
   obtain⟨p',IJ,J4,JA,JH⟩:=bz q;cases J4;exact(l5 I sq JA).elim
  |lst l'=>
   obtain⟨p',IJ,J4,JA,JH⟩:=bM q;cases J4;have:=I.list_inj sq JA;subst this;cases n with
   |zero=>simp only[plainD]at h;cases h
   |succ n=>
    simp only[plainD]at h;rw[oH I l l' xs n h rs JH]
  |dct tk ks vs=>
   exfalso;rw[Rep]at q;obtain⟨p',IJ,o,J4,rd,dd,_⟩:=q;cases J4;obtain⟨HB,_,ip,_⟩:=I.list sq;obtain⟨ob,_,ho,hc,_⟩:=ip;have Qx:=rd.ok I.hok;cases tk with
   |true=>
    obtain⟨kvs,eo,_⟩:=dd;subst eo;obtain⟨_,_,_,_,o2,_,_,JU,ex,_⟩:=Qx;rw[ho]at JU;cases JU;rw[ex.1]at hc;exact absurd hc (by decide)
   |false=>
    obtain⟨kvs,eo,_⟩:=dd;subst eo;obtain⟨_,_,_,_,o2,_,_,JU,ex,_⟩:=Qx;rw[ho]at JU;cases JU;rw[ex.1]at hc;exact absurd hc (by decide)
 | .dct _ _ _,_,_,n,h,_,_=>by cases n <;> (simp only[plainD]at h;cases h)
theorem oH(I:Inv X pi σ H s):∀(ds es:List D) (xs:List V) (n:Nat),plainDs n ds=true->Reps X.K H ds xs->Reps X.K H es xs->ds=es
 |[],es,xs,n,_,r,q=>by
  rw[Reps]at r;subst r;cases es with
  |nil=>rfl
  |cons e es=>
   rw[Reps]at q;obtain⟨y,ys,ev,_⟩:=q;cases ev
 |d::ds,es,xs,n,h,r,q=>by
  rw[Reps]at r;obtain⟨y,ys,ev,r1,r2⟩:=r;subst ev;rw[plainDs,TL]at h;cases es with
  |nil=>
   rw[Reps]at q;cases q
  |cons e es=>
   rw[Reps]at q;obtain⟨y',ys',ev,q1,q2⟩:=q;cases ev;rw[l6 I d e y n h.1 r1 q1,oH I ds es ys n h.2 r2 q2]
end
mutual
theorem lI:∀(d:D) (n:Nat),plainD n d=true->HE d d=true
 | .non,_,_=>by simp only[HE]
 | .bl _,_,_=>by simp only[HE,T1]
 | .int _,_,_=>by simp only[HE,T1]
 | .str _,_,_=>by simp only[HE,T1]
 | .tup ds,0,h=>by simp only[plainD]at h;cases h
 | .tup ds,n+1,h=>by simp only[plainD]at h;simp only[HE];exact l7 ds n h
 | .lst ds,0,h=>by simp only[plainD]at h;cases h
 | .lst ds,n+1,h=>by simp only[plainD]at h;simp only[HE];exact l7 ds n h
 | .dct _ _ _,n,h=>by cases n <;> (simp only[plainD]at h;cases h)
theorem l7:∀(ds:List D) (n:Nat),plainDs n ds=true->ng ds ds=true
 |[],_,_=>by simp only[ng]
 |d::ds,n,h=>by
  rw[plainDs,TL]at h;rw[ng,lI d n h.1,l7 ds n h.2];rfl
end
open PySem.SeqAt
theorem bQ{n:Nat}{tk:Bool}{ks vs:List D}(h:plainD n (.dct tk ks vs)=true):False:=by cases n <;> (simp only[plainD]at h;cases h)
mutual
theorem Bq(I:Inv X pi σ H s):∀(d e:D) (x y:V) (v u:Value) (A:Around) (n:Nat),plainD n d=true->plainD n e=true->A.units+n<cLine->Rep X.K H d x->Rep X.K H e y->RelV x v->RelV y u->EqAt A s v u (HE d e)
 | .non,e,x,y,v,u,A,n,h,h',hu,r,q,rx,ry=>by
  cases cA r;cases rx;cases e with
  |non=>cases cA q;cases ry;simp only[HE];exact .same _
  |bl b=>cases cU q;cases ry;simp only[HE];exact .none_bool _
  |int i=>cases bO q;obtain⟨t,rfl⟩:=ry;simp only[HE];exact .none_int _ _
  |str l=>cases(bD q).1;obtain⟨t,rfl⟩:=ry;simp only[HE];exact .none_str _ _
  |tup l=>obtain⟨p,xs,rfl,sq,_⟩:=bz q;cases ry;obtain⟨HB,_,ip,_⟩:=I.tuple sq;simp only[HE];exact .none_tuple (show s.heap.IsTuple p HB.toArray from ip) (by lia)
  |lst l=>obtain⟨p,xs,rfl,sq,_⟩:=bM q;cases ry;obtain⟨HB,_,ip,_⟩:=I.list sq;simp only[HE];exact .none_list ip.isList (by lia)
  |dct tk ks vs=>exact(bQ h').elim
 | .bl b,e,x,y,v,u,A,n,h,h',hu,r,q,rx,ry=>by
  cases cU r;cases rx;cases e with
  |non=>cases cA q;cases ry;simp only[HE];exact .bool_none _
  |bl b=>cases cU q;cases ry;simp only[HE];exact .bool_bool _ _
  |int i=>cases bO q;obtain⟨t,rfl⟩:=ry;simp only[HE];exact .bool_int _ _ _
  |str l=>cases(bD q).1;obtain⟨t,rfl⟩:=ry;simp only[HE];exact .bool_str _ _ _
  |tup l=>obtain⟨p,xs,rfl,sq,_⟩:=bz q;cases ry;obtain⟨HB,_,ip,_⟩:=I.tuple sq;simp only[HE];exact .bool_tuple _ (show s.heap.IsTuple p HB.toArray from ip) (by lia)
  |lst l=>obtain⟨p,xs,rfl,sq,_⟩:=bM q;cases ry;obtain⟨HB,_,ip,_⟩:=I.list sq;simp only[HE];exact .bool_list _ ip.isList (by lia)
  |dct tk ks vs=>exact(bQ h').elim
 | .int b,e,x,y,v,u,A,n,h,h',hu,r,q,rx,ry=>by
  cases bO r;obtain⟨t0,rfl⟩:=rx;cases e with
  |non=>cases cA q;cases ry;simp only[HE];exact .int_none _ _
  |bl b=>cases cU q;cases ry;simp only[HE];exact .int_bool _ _ _
  |int i=>cases bO q;obtain⟨t,rfl⟩:=ry;simp only[HE];exact .int_int _ _ _ _
  |str l=>cases(bD q).1;obtain⟨t,rfl⟩:=ry;simp only[HE];exact .int_str _ _ _ _
  |tup l=>obtain⟨p,xs,rfl,sq,_⟩:=bz q;cases ry;obtain⟨HB,_,ip,_⟩:=I.tuple sq;simp only[HE];exact .int_tuple _ _ (show s.heap.IsTuple p HB.toArray from ip) (by lia)
  |lst l=>obtain⟨p,xs,rfl,sq,_⟩:=bM q;cases ry;obtain⟨HB,_,ip,_⟩:=I.list sq;simp only[HE];exact .int_list _ _ ip.isList (by lia)
  |dct tk ks vs=>exact(bQ h').elim
 | .str b,e,x,y,v,u,A,n,h,h',hu,r,q,rx,ry=>by
  have hr:=(bD r).1;subst hr;obtain⟨t0,rfl⟩:=rx;cases e with
  |non=>cases cA q;cases ry;simp only[HE];exact .str_none _ _
  |bl b=>cases cU q;cases ry;simp only[HE];exact .str_bool _ _ _
  |int i=>cases bO q;obtain⟨t,rfl⟩:=ry;simp only[HE];exact .str_int _ _ _ _
  |str l=>
   have hq:=(bD q).1;subst hq;obtain⟨t,rfl⟩:=ry;have e1:(b==l)=(S b==S l):=by
    rw[T7,T6,T6];exact⟨fun z=>by rw[z],S_inj⟩
   simp only[HE,e1];exact .str_str _ _ _ _
  |tup l=>obtain⟨p,xs,rfl,sq,_⟩:=bz q;cases ry;obtain⟨HB,_,ip,_⟩:=I.tuple sq;simp only[HE];exact .str_tuple _ _ (show s.heap.IsTuple p HB.toArray from ip) (by lia)
  |lst l=>obtain⟨p,xs,rfl,sq,_⟩:=bM q;cases ry;obtain⟨HB,_,ip,_⟩:=I.list sq;simp only[HE];exact .str_list _ _ ip.isList (by lia)
  |dct tk ks vs=>exact(bQ h').elim
 | .tup l,e,x,y,v,u,A,n,h,h',hu,r,q,rx,ry=>by
  have rr:=r;obtain⟨p,xs,ev,sq,rs⟩:=bz r;subst ev;cases rx;obtain⟨HB,vl,ip,_⟩:=I.tuple sq;have ip:s.heap.IsTuple p HB.toArray:=ip;cases e with
  |non=>cases cA q;cases ry;simp only[HE];exact .tuple_none ip (by lia)
  |bl b=>cases cU q;cases ry;simp only[HE];exact .tuple_bool _ ip (by lia)
  |int i=>cases bO q;obtain⟨t,rfl⟩:=ry;simp only[HE];exact .tuple_int _ _ ip (by lia)
  |str l=>cases(bD q).1;obtain⟨t,rfl⟩:=ry;simp only[HE];exact .tuple_str _ _ ip (by lia)
  |tup l'=>
   obtain⟨p',IJ,J4,JA,JH⟩:=bz q;subst J4;cases ry;by_cases hp:p=p'
   ·subst hp;have hz:=l6 I _ _ _ n h rr q;rw[<-hz,lI _ n h];exact .same _
   ·obtain⟨its',M3,JR,_⟩:=I.tuple JA;have JR:s.heap.IsTuple p' its'.toArray:=JR;cases n with
    |zero=>simp only[plainD]at h;cases h
    |succ n=>
     simp only[plainD]at h h';have l1:=vl.length;have l2:=M3.length;have l3:=rs.length;have l4:=JH.length;have key:=RcAt.tuples (A:=A) (e:=fun j=>HE (l.getD j .non) (l'.getD j .non)) ip JR (by lia) fun j h1 h2=>by
      simp only[Tv]at h1 h2;have g1:l[j]?=some (l[j]'(by lia)):=List.getElem?_eq_getElem _;have g2:l'[j]?=some (l'[j]'(by lia)):=List.getElem?_eq_getElem _;obtain⟨w1,LH,LI⟩:=rs.get g1;obtain⟨w2,M4,M5⟩:=JH.get g2;obtain⟨u1,Kl,LJ⟩:=vl.get LH;obtain⟨u2,Lh,M6⟩:=M3.get M4;have q1:HB.toArray[j]=u1:=by rw[List.getElem?_eq_getElem h1]at Kl;simpa using Kl
      have q2:its'.toArray[j]=u2:=by rw[List.getElem?_eq_getElem h2]at Lh;simpa using Lh
      rw[q1,q2,List.getD_eq_getElem?_getD,List.getD_eq_getElem?_getD,g1,g2];exact p4 I l j _ g1 _ w1 w2 u1 u2 A.in1 n (plainDs_mem h g1) (plainDs_mem h' g2) (by show A.units+1+n<cLine;lia) LI M5 LJ M6
     simp only[HE];have fin:((List.range (min HB.toArray.size its'.toArray.size)).all (fun j=>HE (l.getD j .non) (l'.getD j .non))&&HB.toArray.size==its'.toArray.size)=ng l l':=by
      simp only[Tv];by_cases hl:l.length=l'.length
      ·rw[<-fQ hl,show min HB.length its'.length=l.length by lia,show(HB.length==its'.length)=true by rw[T6];lia,Bool.and_true]
      ·rw[jJ hl,show(HB.length==its'.length)=false by rw[UC];lia,XB]
     rw[<-fin];exact .of_refs hp key
  |lst l'=>obtain⟨p',IJ,J4,JA,_⟩:=bM q;subst J4;cases ry;obtain⟨its',_,JR,_⟩:=I.list JA;simp only[HE];exact .tuple_list ip JR.isList (by lia)
  |dct tk ks vs=>exact(bQ h').elim
 | .lst l,e,x,y,v,u,A,n,h,h',hu,r,q,rx,ry=>by
  have rr:=r;obtain⟨p,xs,ev,sq,rs⟩:=bM r;subst ev;cases rx;obtain⟨HB,vl,ip,_⟩:=I.list sq;have ip:=ip.isList;cases e with
  |non=>cases cA q;cases ry;simp only[HE];exact .list_none ip (by lia)
  |bl b=>cases cU q;cases ry;simp only[HE];exact .list_bool _ ip (by lia)
  |int i=>cases bO q;obtain⟨t,rfl⟩:=ry;simp only[HE];exact .list_int _ _ ip (by lia)
  |str l=>cases(bD q).1;obtain⟨t,rfl⟩:=ry;simp only[HE];exact .list_str _ _ ip (by lia)
  |lst l'=>
   obtain⟨p',IJ,J4,JA,JH⟩:=bM q;subst J4;cases ry;by_cases hp:p=p'
   ·subst hp;have hz:=l6 I _ _ _ n h rr q;rw[<-hz,lI _ n h];exact .same _
   ·obtain⟨its',M3,JR,_⟩:=I.list JA;have JR:=JR.isList;cases n with
    |zero=>simp only[plainD]at h;cases h
    |succ n=>
     simp only[plainD]at h h';have l1:=vl.length;have l2:=M3.length;have l3:=rs.length;have l4:=JH.length;simp only[HE];by_cases hl:l.length=l'.length
     ·have key:=RcAt.lists (A:=A) (e:=fun j=>HE (l.getD j .non) (l'.getD j .non)) ip JR (by simp only[Tv];lia) (by lia) fun j h1 h2=>by
       simp only[Tv]at h1 h2;have g1:l[j]?=some (l[j]'(by lia)):=List.getElem?_eq_getElem _;have g2:l'[j]?=some (l'[j]'(by lia)):=List.getElem?_eq_getElem _;obtain⟨w1,LH,LI⟩:=rs.get g1;obtain⟨w2,M4,M5⟩:=JH.get g2;obtain⟨u1,Kl,LJ⟩:=vl.get LH;obtain⟨u2,Lh,M6⟩:=M3.get M4;have q1:HB.toArray[j]=u1:=by rw[List.getElem?_eq_getElem h1]at Kl;simpa using Kl
       have q2:its'.toArray[j]=u2:=by rw[List.getElem?_eq_getElem h2]at Lh;simpa using Lh
       rw[q1,q2,List.getD_eq_getElem?_getD,List.getD_eq_getElem?_getD,g1,g2];exact p4 I l j _ g1 _ w1 w2 u1 u2 A.in1 n (plainDs_mem h g1) (plainDs_mem h' g2) (by show A.units+1+n<cLine;lia) LI M5 LJ M6
      rw[<-fQ hl,show l.length=HB.toArray.size by simp only[Tv];lia];exact .of_refs hp key
     ·rw[jJ hl];exact .of_refs hp (RcAt.lists_lengths ip JR (by simp only[Tv,Zo];lia) (by lia))
  |tup l'=>obtain⟨p',IJ,J4,JA,_⟩:=bz q;subst J4;cases ry;obtain⟨its',_,JR,_⟩:=I.tuple JA;simp only[HE];exact .list_tuple ip (show s.heap.IsTuple p' its'.toArray from JR) (by lia)
  |dct tk ks vs=>exact(bQ h').elim
 | .dct _ _ _,_,_,_,_,_,_,n,h,_,_,_,_,_,_=>(bQ h).elim
theorem p4(I:Inv X pi σ H s):∀(ds:List D) (j:Nat) (d:D),ds[j]?=some d->∀(e:D) (x y:V) (v u:Value) (A:Around) (n:Nat),plainD n d=true->plainD n e=true->A.units+n<cLine->Rep X.K H d x->Rep X.K H e y->RelV x v->RelV y u->EqAt A s v u (HE d e)
 |[],_,_,hj=>by simp at hj
 |d'::ds,0,d,hj=>by
  simp at hj;subst hj;exact Bq I d'
 |d'::ds,j+1,d,hj=>p4 I ds j d (by simpa using hj)
end
end
section
variable{X:Cx}
def Jl(a b:D):Res R:=if plainD 40 a&&plainD 40 b then .ok (.f,.bl (HE a b)) else .bad
def Me(a b:D):Res R:=if plainD 40 a&&plainD 40 b then .ok (.f,.bl (!HE a b)) else .bad
open PySem.SeqAt in
theorem DH{pi:List (Addr×Obj)}{σ:L2.St}{H:Hp}{s:Shared}(I:Inv X pi σ H s){d e:D}{x y:V}{v u:Value}{A:Around}(h:plainD 40 d=true)(h':plainD 40 e=true)(hu:A.units+64<cLine)(r:Rep X.K H d x)(q:Rep X.K H e y)(rx:RelV x v)(ry:RelV y u):
  RcAt A s v u (HE d e)/\RcNeAt A s v u (!HE d e):=by
 cases d with
 |non=>
  cases cA r;cases rx;cases e with
  |non=>cases cA q;cases ry;simp only[HE];exact⟨.none_none,.none_none⟩
  |bl b=>cases cU q;cases ry;simp only[HE];exact⟨.none_bool _,.none_bool _⟩
  |int i=>cases bO q;obtain⟨t,rfl⟩:=ry;simp only[HE];exact⟨.none_int _ _,.none_int _ _⟩
  |str l=>cases(bD q).1;obtain⟨t,rfl⟩:=ry;simp only[HE];exact⟨.none_str _ _,.none_str _ _⟩
  |tup l=>obtain⟨p,xs,rfl,sq,_⟩:=bz q;cases ry;obtain⟨HB,_,ip,_⟩:=I.tuple sq;simp only[HE];exact⟨.none_tuple (show s.heap.IsTuple p HB.toArray from ip) (by lia),.none_tuple (show s.heap.IsTuple p HB.toArray from ip) (by lia)⟩
  |lst l=>obtain⟨p,xs,rfl,sq,_⟩:=bM q;cases ry;obtain⟨HB,_,ip,_⟩:=I.list sq;simp only[HE];exact⟨.none_list ip.isList (by lia),.none_list ip.isList (by lia)⟩
  |dct tk ks vs=>exact(bQ h').elim
 |bl b=>
  cases cU r;cases rx;cases e with
  |non=>cases cA q;cases ry;simp only[HE];exact⟨.bool_none _,.bool_none _⟩
  |bl b=>cases cU q;cases ry;simp only[HE];exact⟨.bool_bool _ _,.bool_bool _ _⟩
  |int i=>cases bO q;obtain⟨t,rfl⟩:=ry;simp only[HE];exact⟨.bool_int _ _ _,.bool_int _ _ _⟩
  |str l=>cases(bD q).1;obtain⟨t,rfl⟩:=ry;simp only[HE];exact⟨.bool_str _ _ _,.bool_str _ _ _⟩
  |tup l=>obtain⟨p,xs,rfl,sq,_⟩:=bz q;cases ry;obtain⟨HB,_,ip,_⟩:=I.tuple sq;simp only[HE];exact⟨.bool_tuple _ (show s.heap.IsTuple p HB.toArray from ip) (by lia),.bool_tuple _ (show s.heap.IsTuple p HB.toArray from ip) (by lia)⟩
  |lst l=>obtain⟨p,xs,rfl,sq,_⟩:=bM q;cases ry;obtain⟨HB,_,ip,_⟩:=I.list sq;simp only[HE];exact⟨.bool_list _ ip.isList (by lia),.bool_list _ ip.isList (by lia)⟩
  |dct tk ks vs=>exact(bQ h').elim
 |int b=>
  cases bO r;obtain⟨t0,rfl⟩:=rx;cases e with
  |non=>cases cA q;cases ry;simp only[HE];exact⟨.int_none _ _,.int_none _ _⟩
  |bl b=>cases cU q;cases ry;simp only[HE];exact⟨.int_bool _ _ _,.int_bool _ _ _⟩
  |int i=>cases bO q;obtain⟨t,rfl⟩:=ry;simp only[HE];exact⟨.int_int _ _ _ _,.int_int _ _ _ _⟩
  |str l=>cases(bD q).1;obtain⟨t,rfl⟩:=ry;simp only[HE];exact⟨.int_str _ _ _ _,.int_str _ _ _ _⟩
  |tup l=>obtain⟨p,xs,rfl,sq,_⟩:=bz q;cases ry;obtain⟨HB,_,ip,_⟩:=I.tuple sq;simp only[HE];exact⟨.int_tuple _ _ (show s.heap.IsTuple p HB.toArray from ip) (by lia),.int_tuple _ _ (show s.heap.IsTuple p HB.toArray from ip) (by lia)⟩
  |lst l=>obtain⟨p,xs,rfl,sq,_⟩:=bM q;cases ry;obtain⟨HB,_,ip,_⟩:=I.list sq;simp only[HE];exact⟨.int_list _ _ ip.isList (by lia),.int_list _ _ ip.isList (by lia)⟩
  |dct tk ks vs=>exact(bQ h').elim
 |str b=>
  have hr:=(bD r).1;subst hr;obtain⟨t0,rfl⟩:=rx;cases e with
  |non=>cases cA q;cases ry;simp only[HE];exact⟨.str_none _ _,.str_none _ _⟩
  |bl b=>cases cU q;cases ry;simp only[HE];exact⟨.str_bool _ _ _,.str_bool _ _ _⟩
  |int i=>cases bO q;obtain⟨t,rfl⟩:=ry;simp only[HE];exact⟨.str_int _ _ _ _,.str_int _ _ _ _⟩
  |str l=>
   have hq:=(bD q).1;subst hq;obtain⟨t,rfl⟩:=ry;have e1:(b==l)=(S b==S l):=by
    rw[T7,T6,T6];exact⟨fun z=>by rw[z],S_inj⟩
   simp only[HE,e1];exact⟨.str_str _ _ _ _,.str_str _ _ _ _⟩
  |tup l=>obtain⟨p,xs,rfl,sq,_⟩:=bz q;cases ry;obtain⟨HB,_,ip,_⟩:=I.tuple sq;simp only[HE];exact⟨.str_tuple _ _ (show s.heap.IsTuple p HB.toArray from ip) (by lia),.str_tuple _ _ (show s.heap.IsTuple p HB.toArray from ip) (by lia)⟩
  |lst l=>obtain⟨p,xs,rfl,sq,_⟩:=bM q;cases ry;obtain⟨HB,_,ip,_⟩:=I.list sq;simp only[HE];exact⟨.str_list _ _ ip.isList (by lia),.str_list _ _ ip.isList (by lia)⟩
  |dct tk ks vs=>exact(bQ h').elim
 |tup l=>
  obtain⟨p,xs,ev,sq,rs⟩:=bz r;subst ev;cases rx;obtain⟨HB,vl,ip,_⟩:=I.tuple sq;have ip:s.heap.IsTuple p HB.toArray:=ip;cases e with
  |non=>cases cA q;cases ry;simp only[HE];exact⟨.tuple_none ip (by lia),.tuple_none ip (by lia)⟩
  |bl b=>cases cU q;cases ry;simp only[HE];exact⟨.tuple_bool _ ip (by lia),.tuple_bool _ ip (by lia)⟩
  |int i=>cases bO q;obtain⟨t,rfl⟩:=ry;simp only[HE];exact⟨.tuple_int _ _ ip (by lia),.tuple_int _ _ ip (by lia)⟩
  |str l=>cases(bD q).1;obtain⟨t,rfl⟩:=ry;simp only[HE];exact⟨.tuple_str _ _ ip (by lia),.tuple_str _ _ ip (by lia)⟩
  |tup l'=>
   obtain⟨p',IJ,J4,JA,JH⟩:=bz q;subst J4;cases ry;obtain⟨its',M3,JR,_⟩:=I.tuple JA;have JR:s.heap.IsTuple p' its'.toArray:=JR;simp only[plainD]at h h';have l1:=vl.length;have l2:=M3.length;have l3:=rs.length;have l4:=JH.length;have el:∀j (h1:j<HB.toArray.size) (h2:j<its'.toArray.size),EqAt A.in1 s HB.toArray[j] its'.toArray[j] ((fun j=>HE (l.getD j .non) (l'.getD j .non)) j):=fun j h1 h2=>by
    simp only[Tv]at h1 h2;have g1:l[j]?=some (l[j]'(by lia)):=List.getElem?_eq_getElem _;have g2:l'[j]?=some (l'[j]'(by lia)):=List.getElem?_eq_getElem _;obtain⟨w1,LH,LI⟩:=rs.get g1;obtain⟨w2,M4,M5⟩:=JH.get g2;obtain⟨u1,Kl,LJ⟩:=vl.get LH;obtain⟨u2,Lh,M6⟩:=M3.get M4;have q1:HB.toArray[j]=u1:=by rw[List.getElem?_eq_getElem h1]at Kl;simpa using Kl
    have q2:its'.toArray[j]=u2:=by rw[List.getElem?_eq_getElem h2]at Lh;simpa using Lh
    dsimp only;rw[q1,q2,List.getD_eq_getElem?_getD,List.getD_eq_getElem?_getD,g1,g2];exact p4 I l j _ g1 _ w1 w2 u1 u2 A.in1 39 (plainDs_mem h g1) (plainDs_mem h' g2) (by show A.units+1+39<cLine;lia) LI M5 LJ M6
   simp only[HE];have fin:((List.range (min HB.toArray.size its'.toArray.size)).all (fun j=>HE (l.getD j .non) (l'.getD j .non))&&HB.toArray.size==its'.toArray.size)=ng l l':=by
    simp only[Tv];by_cases hl:l.length=l'.length
    ·rw[<-fQ hl,show min HB.length its'.length=l.length by lia,show(HB.length==its'.length)=true by rw[T6];lia,Bool.and_true]
    ·rw[jJ hl,show(HB.length==its'.length)=false by rw[UC];lia,XB]
   rw[<-fin];exact⟨.tuples ip JR (by lia) el,.tuples ip JR (by lia) el⟩
  |lst l'=>obtain⟨p',IJ,J4,JA,_⟩:=bM q;subst J4;cases ry;obtain⟨its',_,JR,_⟩:=I.list JA;simp only[HE];exact⟨.tuple_list ip JR.isList (by lia),.tuple_list ip JR.isList (by lia)⟩
  |dct tk ks vs=>exact(bQ h').elim
 |lst l=>
  obtain⟨p,xs,ev,sq,rs⟩:=bM r;subst ev;cases rx;obtain⟨HB,vl,ip,_⟩:=I.list sq;have ip:=ip.isList;cases e with
  |non=>cases cA q;cases ry;simp only[HE];exact⟨.list_none ip (by lia),.list_none ip (by lia)⟩
  |bl b=>cases cU q;cases ry;simp only[HE];exact⟨.list_bool _ ip (by lia),.list_bool _ ip (by lia)⟩
  |int i=>cases bO q;obtain⟨t,rfl⟩:=ry;simp only[HE];exact⟨.list_int _ _ ip (by lia),.list_int _ _ ip (by lia)⟩
  |str l=>cases(bD q).1;obtain⟨t,rfl⟩:=ry;simp only[HE];exact⟨.list_str _ _ ip (by lia),.list_str _ _ ip (by lia)⟩
  |lst l'=>
   obtain⟨p',IJ,J4,JA,JH⟩:=bM q;subst J4;cases ry;obtain⟨its',M3,JR,_⟩:=I.list JA;have JR:=JR.isList;simp only[plainD]at h h';have l1:=vl.length;have l2:=M3.length;have l3:=rs.length;have l4:=JH.length;simp only[HE];by_cases hl:l.length=l'.length
   ·have el:∀j (h1:j<HB.toArray.size) (h2:j<its'.toArray.size),EqAt A.in1 s HB.toArray[j] its'.toArray[j] ((fun j=>HE (l.getD j .non) (l'.getD j .non)) j):=fun j h1 h2=>by
     simp only[Tv]at h1 h2;have g1:l[j]?=some (l[j]'(by lia)):=List.getElem?_eq_getElem _;have g2:l'[j]?=some (l'[j]'(by lia)):=List.getElem?_eq_getElem _;obtain⟨w1,LH,LI⟩:=rs.get g1;obtain⟨w2,M4,M5⟩:=JH.get g2;obtain⟨u1,Kl,LJ⟩:=vl.get LH;obtain⟨u2,Lh,M6⟩:=M3.get M4;have q1:HB.toArray[j]=u1:=by rw[List.getElem?_eq_getElem h1]at Kl;simpa using Kl
     have q2:its'.toArray[j]=u2:=by rw[List.getElem?_eq_getElem h2]at Lh;simpa using Lh
     dsimp only;rw[q1,q2,List.getD_eq_getElem?_getD,List.getD_eq_getElem?_getD,g1,g2];exact p4 I l j _ g1 _ w1 w2 u1 u2 A.in1 39 (plainDs_mem h g1) (plainDs_mem h' g2) (by show A.units+1+39<cLine;lia) LI M5 LJ M6
    rw[<-fQ hl,show l.length=HB.toArray.size by simp only[Tv];lia];exact⟨.lists ip JR (by simp only[Tv];lia) (by lia) el,.lists ip JR (by simp only[Tv];lia) (by lia) el⟩
   ·rw[jJ hl];exact⟨.lists_lengths ip JR (by simp only[Tv,Zo];lia) (by lia),.lists_lengths ip JR (by simp only[Tv,Zo];lia) (by lia)⟩
  |tup l'=>obtain⟨p',IJ,J4,JA,_⟩:=bz q;subst J4;cases ry;obtain⟨its',_,JR,_⟩:=I.tuple JA;simp only[HE];exact⟨.list_tuple ip (show s.heap.IsTuple p' its'.toArray from JR) (by lia),.list_tuple ip (show s.heap.IsTuple p' its'.toArray from JR) (by lia)⟩
  |dct tk ks vs=>exact(bQ h').elim
 |dct tk ks vs=>exact(bQ h).elim
theorem fR(hu:X.A.units+64<cLine):Ir X (compareOp .Eq) (rGA X.K Jl):=by
 rintro pi s σ H x y v u Q I rx ry ⟨G,fp,es,vs,a,b,r,⟨rel,k⟩,va,vb,e⟩;unfold Jl at e;split at e
 ·rename_i hp;cases e;rw[TL]at hp;exact(DH I hp.1 hp.2 hu va vb rx ry).1 _ _ _ _ ⟨.bl _,H,I,rfl,k _ H G fp .refl (rel.push (cO _))⟩
 ·cases e
theorem rq(hu:X.A.units+64<cLine):Ir X (compareOp .NotEq) (rGA X.K Me):=by
 rintro pi s σ H x y v u Q I rx ry ⟨G,fp,es,vs,a,b,r,⟨rel,k⟩,va,vb,e⟩;unfold Me at e;split at e
 ·rename_i hp;cases e;rw[TL]at hp;exact(DH I hp.1 hp.2 hu va vb rx ry).2 _ _ _ _ ⟨.bl _,H,I,rfl,k _ H G fp .refl (rel.push (cO _))⟩
 ·cases e
def x6(a:D)(ds:List D):Bool:=ds.any fun d=>HE d a
noncomputable def M7(a b:D):Res R:=match b with
 | .lst ds=>if plainD 40 a&&plainDs 40 ds then .ok (.f,.bl (x6 a ds)) else .bad
 | .tup ds=>if plainD 40 a&&plainDs 40 ds then .ok (.f,.bl (x6 a ds)) else .bad
 | .str l=>match a with
  | .str [c]=>.ok (.f,.bl (decide (c∈l)))
  |_=>.bad
 |_=>.bad
def Ae(a b:D):Res R:=(M7 a b).bind fun r=>match r.2 with
 | .bl k=>.ok (.f,.bl (!k))
 |_=>.bad
open PySem.SeqAt in
theorem tF{pi:List (Addr×Obj)}{σ:L2.St}{H:Hp}{s:Shared}(I:Inv X pi σ H s){a:D}{x:V}{v:Value}{A:Around}(h:plainD 40 a=true)(hu:A.units+64<cLine)(r:Rep X.K H a x)(rx:RelV x v):
  ∀(ds:List D) (xs:List V) (us:List Value),plainDs 40 ds=true->Reps X.K H ds xs->Vals xs us->∃e:Value->Bool,us.any e=x6 a ds/\∀u∈us,EqAt A s u v (e u):=by
 classical
 intro ds xs us hp rs vl;refine⟨fun u=>decide (∃(j:Nat) (d:D),ds[j]?=some d/\us[j]?=some u/\HE d a=true),?_,fun u RZ=>?_⟩
 ·rw[T7,Uy];unfold x6;rw[Uy];constructor
  ·rintro⟨u,_,hd⟩;obtain⟨j,d,h1,_,h2⟩:=VO hd;exact⟨d,T3 h1,h2⟩
  ·rintro⟨d,hd,h2⟩;obtain⟨j,hj⟩:=Ug.mp hd;obtain⟨w1,LH,LI⟩:=rs.get hj;obtain⟨u1,Kl,LJ⟩:=vl.get LH;exact⟨u1,T3 Kl,TV ⟨j,d,hj,Kl,h2⟩⟩
 ·obtain⟨j,hj⟩:=Ug.mp RZ;have l1:=vl.length;have l2:=rs.length;have Qy:=(List.getElem?_eq_some_iff.mp hj).1;have g1:ds[j]?=some (ds[j]'(by lia)):=List.getElem?_eq_getElem _;obtain⟨w1,LH,LI⟩:=rs.get g1;obtain⟨u1,Kl,LJ⟩:=vl.get LH;rw[hj]at Kl;cases Kl;have z:=Bq I _ _ w1 x u v A 40 (plainDs_mem hp g1) h (by lia) LI r LJ rx;have e:decide (∃(j:Nat) (d:D),ds[j]?=some d/\us[j]?=some u/\HE d a=true)=HE (ds[j]'(by lia)) a:=by
   rw[T7,TF];constructor
   ·rintro⟨j2,d2,k1,k2,k3⟩;obtain⟨w2,M4,M5⟩:=rs.get k1;obtain⟨u2,Lh,M6⟩:=vl.get M4;rw[k2]at Lh;cases Lh;have:=LJ.inj M6;subst this;rw[l6 I _ _ _ 40 (plainDs_mem hp g1) LI M5];exact k3
   ·intro k3;exact⟨j,_,g1,hj,k3⟩
  show EqAt A s u v (decide (∃(j:Nat) (d:D),ds[j]?=some d/\us[j]?=some u/\HE d a=true));rw[e];exact z
theorem p5(l:List Nat)(c:Nat):(!(Builtin.Str.occurrences (S l) (S [c]) 0 (S l).length 1).isEmpty)=decide (c∈l):=by
 have h:=PySem.StrLaws.found_one (S l) c;rw[dP]at h;exact h
theorem oI{e:Value->Bool}(us:List Value):us.toArray.any e=us.any e:=by simp
theorem Fz(hu:X.A.units+65<cLine):Ir X (compareOp .In) (rGA X.K M7):=by
 rintro pi s σ H x y v u Q I rx ry ⟨G,fp,es,vs,a,b,r,⟨rel,k⟩,va,vb,e⟩;unfold M7 at e;split at e
 ·rename_i ds;split at e
  ·rename_i hp;cases e;rw[TL]at hp;obtain⟨p,xs,ev,sq,rs⟩:=bM vb;subst ev;cases ry;obtain⟨HB,vl,ip,_⟩:=I.list sq;obtain⟨ef,e1,e2⟩:=tF (A:=X.A.in1) I hp.1 (by show X.A.units+1+64<cLine;lia) va rx ds xs HB hp.2 rs vl;refine SeqAt.in_listAt ef ip.isList (fun z hz=>e2 z (by simpa using hz)) ?_;rw[oI,e1];exact⟨.bl _,H,I,rfl,k _ H G fp .refl (rel.push (cO _))⟩
  ·cases e
 ·rename_i ds;split at e
  ·rename_i hp;cases e;rw[TL]at hp;obtain⟨p,xs,ev,sq,rs⟩:=bz vb;subst ev;cases ry;obtain⟨HB,vl,ip,_⟩:=I.tuple sq;obtain⟨ef,e1,e2⟩:=tF (A:=X.A.in1) I hp.1 (by show X.A.units+1+64<cLine;lia) va rx ds xs HB hp.2 rs vl;refine SeqAt.in_tupleAt ef (show s.heap.IsTuple p HB.toArray from ip) (fun z hz=>e2 z (by simpa using hz)) ?_;rw[oI,e1];exact⟨.bl _,H,I,rfl,k _ H G fp .refl (rel.push (cO _))⟩
  ·cases e
 ·rename_i l;split at e
  ·rename_i c;cases e;obtain⟨e1,h1⟩:=bD va;obtain⟨e2,h2⟩:=bD vb;subst e1;subst e2;refine vJ pi s σ H _ _ v u Q I rx ry ⟨_,_,rfl,rfl,?_⟩;rw[p5];exact k _ H G fp .refl (rel.push (cO _))
  ·cases e
 ·cases e
theorem DI(hu:X.A.units+65<cLine):Ir X (compareOp .NotIn) (rGA X.K Ae):=by
 rintro pi s σ H x y v u Q I rx ry ⟨G,fp,es,vs,a,b,r,⟨rel,k⟩,va,vb,e⟩;unfold Ae at e;obtain⟨r0,e0,e⟩:=au e;unfold M7 at e0;split at e0
 ·rename_i ds;split at e0
  ·rename_i hp;cases e0;cases e;rw[TL]at hp;obtain⟨p,xs,ev,sq,rs⟩:=bM vb;subst ev;cases ry;obtain⟨HB,vl,ip,_⟩:=I.list sq;obtain⟨ef,e1,e2⟩:=tF (A:=X.A.in1) I hp.1 (by show X.A.units+1+64<cLine;lia) va rx ds xs HB hp.2 rs vl;refine SeqAt.notIn_listAt ef ip.isList (fun z hz=>e2 z (by simpa using hz)) ?_;rw[oI,e1];exact⟨.bl _,H,I,rfl,k _ H G fp .refl (rel.push (cO _))⟩
  ·cases e0
 ·rename_i ds;split at e0
  ·rename_i hp;cases e0;cases e;rw[TL]at hp;obtain⟨p,xs,ev,sq,rs⟩:=bz vb;subst ev;cases ry;obtain⟨HB,vl,ip,_⟩:=I.tuple sq;obtain⟨ef,e1,e2⟩:=tF (A:=X.A.in1) I hp.1 (by show X.A.units+1+64<cLine;lia) va rx ds xs HB hp.2 rs vl;refine SeqAt.notIn_tupleAt ef (show s.heap.IsTuple p HB.toArray from ip) (fun z hz=>e2 z (by simpa using hz)) ?_;rw[oI,e1];exact⟨.bl _,H,I,rfl,k _ H G fp .refl (rel.push (cO _))⟩
  ·cases e0
 ·rename_i l;split at e0
  ·rename_i c;cases e0;cases e;obtain⟨e1,h1⟩:=bD va;obtain⟨e2,h2⟩:=bD vb;subst e1;subst e2;refine pB pi s σ H _ _ v u Q I rx ry ⟨_,_,rfl,rfl,?_⟩;rw[p5];exact k _ H G fp .refl (rel.push (cO _))
  ·cases e0
 ·cases e0
def R0(a b:D):Res R:=match b with
 | .bl k=>.ok (.f,.bl (match a with | .bl j=>j==k|_=>false))
 | .non=>.ok (.f,.bl (match a with | .non=>true|_=>false))
 |_=>.bad
def isnO(a b:D):Res R:=(R0 a b).bind fun r=>match r.2 with
 | .bl k=>.ok (.f,.bl (!k))
 |_=>.bad
theorem yR{K:W.Frag}{H:Hp}{a b:D}{x y:V}{v u:Value}{r:R}(va:Rep K H a x)(vb:Rep K H b y)(rx:RelV x v)(ry:RelV y u)(e:R0 a b=.ok r):plainIs v u=true/\r=(.f,.bl (v==u)):=by
 unfold R0 at e;split at e
 ·rename_i k;cases e;cases cU vb;cases ry;cases a with
  |non=>cases cA va;cases rx;exact⟨rfl,rfl⟩
  |bl j=>cases cU va;cases rx;refine⟨rfl,?_⟩;cases j <;> cases k <;> rfl
  |int i=>cases bO va;obtain⟨t,rfl⟩:=rx;exact⟨rfl,rfl⟩
  |str l=>cases(bD va).1;obtain⟨t,rfl⟩:=rx;exact⟨rfl,rfl⟩
  |tup l=>obtain⟨p,xs,rfl,_⟩:=bz va;cases rx;exact⟨rfl,rfl⟩
  |lst l=>obtain⟨p,xs,rfl,_⟩:=bM va;cases rx;exact⟨rfl,rfl⟩
  |dct tk ks vs=>rw[Rep]at va;obtain⟨p,xs,o,rfl,_⟩:=va;cases rx;exact⟨rfl,rfl⟩
 ·cases e;cases cA vb;cases ry;cases a with
  |non=>cases cA va;cases rx;exact⟨rfl,rfl⟩
  |bl j=>cases cU va;cases rx;exact⟨rfl,rfl⟩
  |int i=>cases bO va;obtain⟨t,rfl⟩:=rx;exact⟨rfl,rfl⟩
  |str l=>cases(bD va).1;obtain⟨t,rfl⟩:=rx;exact⟨rfl,rfl⟩
  |tup l=>obtain⟨p,xs,rfl,_⟩:=bz va;cases rx;exact⟨rfl,rfl⟩
  |lst l=>obtain⟨p,xs,rfl,_⟩:=bM va;cases rx;exact⟨rfl,rfl⟩
  |dct tk ks vs=>rw[Rep]at va;obtain⟨p,xs,o,rfl,_⟩:=va;cases rx;exact⟨rfl,rfl⟩
 ·cases e
theorem Af:Ir X (compareOp .IsNot) (rGA X.K isnO):=by
 rintro pi s σ H x y v u Q I rx ry ⟨G,fp,es,vs,a,b,r,⟨rel,k⟩,va,vb,e⟩;obtain⟨r0,e0,e⟩:=au e;obtain⟨h1,h2⟩:=yR va vb rx ry e0;subst h2;cases e;exact wpAny_isNot_plain h1 ⟨.bl _,H,I,rfl,k _ H G fp .refl (rel.push (cO _))⟩
end
section
variable{X:Cx}
theorem p6(hc:X.calm=true):dD X (.builtin "max") (rC X.K maxD):=by
 rintro pi s σ H xs us Q I rx ⟨G,fp,es,vs,ds,r,⟨rel,k⟩,vd,e⟩;unfold maxD at e;split at e
 ·rename_i d;split at e
  ·rename_i n ns hb;cases e;obtain⟨v,ev,vt⟩:=pq vd;obtain⟨p,ep,sq⟩:=gZ rel.gh hb vt;subst ev;subst ep;exact we hc pi s σ H _ us Q I rx ⟨p,n::ns,rfl,sq,by simp,k _ H G fp .refl (rel.push (bB _))⟩
  ·cases e
 ·rename_i i j;cases e;obtain⟨v,w',ev,v1,v2⟩:=Ga vd;subst ev;cases bH v1;cases bH v2;obtain⟨u,u',rfl,⟨t,rfl⟩,t',rfl⟩:=ym rx;refine max_two_ints (I.ok.hd hc) fun h' tk kk=>?_
  have I2:Inv X pi σ H {s with heap:=h',toks:=tk}:=I.kept kk;refine⟨.int (if i<j then j else i),H,I2,?_,k _ H G fp .refl (rel.push (bB _))⟩;by_cases NG:i<j
  ·rw[Tt NG,Tt (show j>i from NG)];exact⟨_,rfl⟩
  ·rw[TB NG,TB (show ¬ j>i from NG)];exact⟨_,rfl⟩
 ·cases e
def uG(f g:FX):FX:=fun env=>(f env).bind fun p=>(g p.2).bind fun q=>match(m9 p.1.2).bind cC,q.1.2 with
 |some ns,.int d=>.ok ((.f,.int (NX.maxD ns d)),q.2)
 |_,_=>.bad
theorem wO{e k:Expr}{f g:FX}{p pos KO:Pos}(hc:X.calm=true)(hg:Gl X "max")(hm:X.mg "max" = none)(he:QE X e f)(hk:QE X k g)(hs:starEach [e] X.env=[(false,eval e X.env)]:=by rfl):
  QE X (.Call (.Name "max" p) [e] [⟨some "default",k,KO⟩] pos) (uG f g):=bx (AU hc hg hm he hk hs) fun σ H Q HP=>by
 obtain⟨G,env,fp,r,env',rel,e,k⟩:=HP;obtain⟨⟨r1,Hy⟩,e1,e⟩:=au e;obtain⟨⟨r2,HN⟩,e2,e⟩:=au e;dsimp only at e;split at e
 ·rename_i ns d OB hd;cases e;refine⟨G,env,fp,r1,Hy,rel,e1,fun v H1 G1 HZ HU HA=>?_⟩;obtain⟨G2,b,rv,Hz,HJ⟩:=HA.freeze;refine⟨G2,Hy,b,r2,_,Hz,e2,fun w' H3 G3 Ji Ip Ia=>?_⟩;have hw:=Ia.top;obtain⟨b3,IB,JE⟩:=Ia.drop;rw[hd]at hw;obtain⟨p',ep,sq⟩:=gZ IB.gh OB (Vw.of IB.gh (Rep.mono Ip.gg rv));subst ep;exact⟨p',ns,d,rfl,by rw[bO hw],sq,k _ H3 G3 b3 (HU.trans (HJ.trans (Ip.trans JE))) (IB.push (bB _))⟩
 ·cases e
def Ht:List D->Res R
 |[.bl b]=>.ok (.f,.int (if b then 1 else 0))
 |[.int i]=>.ok (.f,.int i)
 |_=>.bad
def rA:D->String
 | .non=>"NoneType"
 | .bl _=>"bool"
 | .int _=>"int"
 | .str _=>"str"
 | .tup _=>"tuple"
 | .lst _=>"list"
 | .dct _ _ _=>"dict"
def x9(T:String)(d:D):Bool:=rA d==T||(rA d == "bool" && T == "int")
def P0(T:String)(f:FO):FX:=fun env=>(f env).bind fun p=>(uE p.2 p.1).bind fun d=>.ok ((.f,.bl (x9 T d)),p.2)
theorem DJ(K:W.Frag)(d:D){T:String}(hT:T = "int"\/T = "bool"\/T = "str"\/T = "list"\/T = "tuple"\/T = "dict"):PySem.W.kitOne K (.type (rA d)) (.type T)=some (x9 T d):=by
 rcases hT with rfl|rfl|rfl|rfl|rfl|rfl <;> cases d <;> (unfold PySem.W.kitOne PySem.W.kitCls PySem.W.subIn;kernel_rfl)
theorem yS:dD X (.builtin "isinstance") (fun xs H Q=>∃d x T,xs=[x,.ty T]/\Rep X.K H d x/\(T = "int"\/T = "bool"\/T = "str"\/T = "list"\/T = "tuple"\/T = "dict")/\Q (.bl (x9 T d)) H):=by
 intro pi s σ H xs us Q I r h;obtain⟨d,x,T,rfl,rd,hT,q⟩:=h;obtain⟨u,w',rfl,r1,r2⟩:=ym r;cases(show w'=Value.type T from r2);have e:=DJ X.K d hT;have fin:∀tk,EP X pi σ Q (.bool (x9 T d)) {s with toks:=tk}:=fun tk=>⟨.bl (x9 T d),H,I.tok tk,rfl,q⟩
 cases d with
 |non=>cases cA rd;cases(show u=Value.none from r1);exact Vk PySem.W.kitx_none I.kIn True.intro e (fun z=>nomatch z) fin
 |bl y=>cases cU rd;cases(show u=Value.bool y from r1);exact Vk PySem.W.kitx_bool I.kIn True.intro e (fun z=>nomatch z) fin
 |int i=>cases bO rd;obtain⟨t,z⟩:=(show ∃t,u=Value.int i t from r1);cases z;exact Vk PySem.W.kitx_int I.kIn True.intro e (fun z=>nomatch z) fin
 |str l=>
  have hr:=(bD rd).1;subst hr;obtain⟨t,z⟩:=(show ∃t,u=Value.str (S l) t from r1)
  cases z;exact Vk PySem.W.kitx_str I.kIn True.intro e (fun z=>nomatch z) fin
 |lst l=>
  obtain⟨p,xs,ev,sq,_⟩:=bM rd;subst ev;cases(show u=Value.ref p from r1);obtain⟨HB,_,ip,_⟩:=I.list sq;obtain⟨o,ho,hc,_⟩:=ip.isList;exact Vk PySem.W.kitx_list I.kIn ⟨o,ho,hc⟩ e (fun z=>nomatch z) fin
 |tup l=>
  obtain⟨p,xs,ev,sq,_⟩:=bz rd;subst ev;cases(show u=Value.ref p from r1);obtain⟨HB,_,ip,_⟩:=I.tuple sq;obtain⟨o,ho,hc,_⟩:=ip;exact Vk PySem.W.kitx_tuple I.kIn ⟨o,ho,hc⟩ e (fun z=>nomatch z) fin
 |dct tk ks vs=>
  rw[Rep]at rd;obtain⟨p,xs,o,ev,hr,dd,_⟩:=rd;subst ev;cases(show u=Value.ref p from r1);have ok:=hr.ok I.hok;cases tk with
  |true=>
   obtain⟨kvs,eo,_⟩:=dd;subst eo;obtain⟨_,_,_,_,o2,_,_,JU,ex,_⟩:=ok;exact Vk PySem.W.kitx_dict I.kIn ⟨o2,JU,ex.1⟩ e (fun z=>nomatch z) fin
  |false=>
   obtain⟨kvs,eo,_⟩:=dd;subst eo;obtain⟨_,_,_,_,o2,_,_,JU,ex,_⟩:=ok;exact Vk PySem.W.kitx_dict I.kIn ⟨o2,JU,ex.1⟩ e (fun z=>nomatch z) fin
theorem yT{T:String}{x:Str}{e:Expr}{f:FO}{p q pos:Pos}(hT:T = "int"\/T = "bool"\/T = "str"\/T = "list"\/T = "tuple"\/T = "dict")(he:QO X e f)(hg:Gl X "isinstance")(hm:X.mg "isinstance" = none)(hg2:Gl X x)(hm2:X.mg x=none)(hv2:bootBuiltins x=some (.type T))(hn:x≠"__name__":=by decide)(JT:(x==("__debug__" : Str))=false:=by decide)
  (hs:starEach [e,.Name x q] X.env=(false,eval e X.env)::starEach [.Name x q] X.env:=by rfl) (Mk:starEach [.Name x q] X.env=(false,eval (.Name x q) X.env)::starEach [] X.env:=by rfl) (JC:(backTo pos (starEach [.Name x q] X.env)).any (·.1)=false:=by rfl):
  QE X (.Call (.Name "isinstance" p) [e,.Name x q] [] pos) (P0 T f):=
 bx (sx yS hg hm om (i9 he (i9 (Aw (v:=.ty T) hg2 hm2 hv2 rfl hn JT) pE Mk) hs) (by decide) (by decide) hs JC) fun σ H Q HP=>by
  obtain⟨G,env,fp,r,env',rel,e,k⟩:=HP;obtain⟨⟨o,Hy⟩,e1,e⟩:=au e;obtain⟨d,e2,e⟩:=au e;cases e;exact⟨G,env,fp,o,_,rel,e1,fun v H1 G1 HZ HU HA Jz=>⟨d,v,T,rfl,HA.vwA Jz e2,hT,k _ H1 G1 HZ HU (HA.push (cO _))⟩⟩
def JI{α:Type}(f g:PV.Env->Res α):PV.Env->Res α:=fun env=>match f env with
 | .ok a=>.ok a
 |_=>g env
theorem Ag{α:Type}{f g:PV.Env->Res α}{env:PV.Env}{a:α}(h:JI f g env=.ok a):f env=.ok a\/g env=.ok a:=by
 unfold JI at h;split at h
 ·rename_i b hb;cases h;exact .inl hb
 ·exact .inr h
theorem wQ{tg e:Expr}{f g:FI}(h:QI X tg e f)(h2:QI X tg e g):QI X tg e (JI f g):=fun pi s σ H R I HP=>by
 obtain⟨G,env,fp,ds,env',rel,ee,k⟩:=HP;rcases Ag ee with z|z
 ·exact h pi s σ H R I ⟨G,env,fp,ds,env',rel,z,k⟩
 ·exact h2 pi s σ H R I ⟨G,env,fp,ds,env',rel,z,k⟩
end
section
variable{α:Type}
def ins(lt:α->α->Bool)(x:α):List α->List α
 |[]=>[x]
 |y::ys=>if lt y x then y::ins lt x ys else x::y::ys
def bX(lt:α->α->Bool)(l:List α):List α:=l.foldr (ins lt) []
structure Ord(lt:α->α->Bool):Prop where
 irr:∀a,lt a a=false
 trans:∀a b c,lt a b=true->lt b c=true->lt a c=true
 tot:∀a b,lt a b=false->lt b a=false->a=b
theorem oJ(lt:α->α->Bool)(x:α):∀l,(ins lt x l).Perm (x::l)
 |[]=>.refl _
 |y::ys=>by
  unfold ins;split
  ·exact(List.Perm.cons y (oJ lt x ys)).trans (List.Perm.swap x y ys)
  ·exact .refl _
theorem fS(lt:α->α->Bool):∀l,(bX lt l).Perm l
 |[]=>.refl _
 |x::l=>(oJ lt x _).trans (List.Perm.cons x (fS lt l))
theorem nQ{lt:α->α->Bool}(o:Ord lt)(x:α):∀l:List α,l.Pairwise (fun a b=>lt b a=false)->(ins lt x l).Pairwise (fun a b=>lt b a=false)
 |[],_=>by simp[ins]
 |y::ys,h=>by
  rw[UU]at h;unfold ins;split
  ·rename_i hy;rw[UU];refine⟨fun z hz=>?_,nQ o x ys h.2⟩;rcases Tz.mp ((oJ lt x ys).mem_iff.mp hz) with rfl|hz
   ·cases e:lt z y with
    |false=>rfl
    |true=>
     have:=o.trans y z y hy e;rw[o.irr]at this;cases this
   ·exact h.1 z hz
  ·rename_i hy;have hy:lt y x=false:=by simpa using hy
   rw[UU,UU];refine⟨fun z hz=>?_,h⟩;rcases Tz.mp hz with rfl|Li
   ·exact hy
   ·cases e:lt z x with
    |false=>rfl
    |true=>
     exfalso;cases e2:lt x y with
     |true=>
      have:=o.trans z x y e e2;rw[h.1 z Li]at this;cases this
     |false=>
      have hxy:=o.tot x y e2 hy;rw[hxy,h.1 z Li]at e;cases e
theorem cj{lt:α->α->Bool}(o:Ord lt):∀l:List α,(bX lt l).Pairwise (fun a b=>lt b a=false)
 |[]=>.nil
 |x::l=>nQ o x _ (cj o l)
theorem p7{lt:α->α->Bool}(o:Ord lt):∀{a b:List α},a.Perm b->a.Pairwise (fun a b=>lt b a=false)->b.Pairwise (fun a b=>lt b a=false)->a=b
 |[],_,p,_,_=>p.nil_eq
 |x::xs,[],p,_,_=>absurd p.length_eq (by simp)
 |x::xs,y::ys,p,ha,hb=>by
  rw[UU]at ha hb;have hx:x∈y::ys:=p.mem_iff.mp Tp;have hy:y∈x::xs:=p.mem_iff.mpr Tp;have e:x=y:=by
   rcases Tz.mp hx with e|hx
   ·exact e
   ·rcases Tz.mp hy with e|hy
    ·exact e.symm
    ·exact o.tot x y (hb.1 x hx) (ha.1 y hy)
  subst e;rw[p7 o p.cons_inv ha.2 hb.2]
theorem jK{lt:α->α->Bool}(o:Ord lt){l ms:List α}(p:ms.Perm l)(h:ms.Pairwise (fun a b=>lt b a=false)):ms=bX lt l:=p7 o (p.trans (fS lt l).symm) h (cj o l)
end
def ltI(a b:Int):Bool:=decide (a<b)
def KI(a b:List Nat):Bool:=decide (a<b)
theorem Br:Ord ltI:=⟨fun a=>by simp[ltI],fun a b c=>by simp only[ltI,TF];lia,fun a b=>by simp only[ltI,UL];lia⟩
theorem l8:Ord KI:=by
 refine⟨fun a=>?_,fun a b c h1 h2=>?_,fun a b h1 h2=>?_⟩
 ·unfold KI;rw[UL];exact List.lt_irrefl a
 ·unfold KI at *;rw[TF] at *;exact List.lt_trans h1 h2
 ·unfold KI at *;rw[UL] at *;exact List.le_antisymm (WR.mp h2) (WR.mp h1)
theorem l9:Ord d9:=⟨ja,iA,iC⟩
def iR:List D->Option (List (List Nat))
 |[]=>some []
 | .str b::ds=>(iR ds).map (b:: ·)
 |_=>none
def ma:D->Option Key
 | .int i=>some (.inl i)
 | .str l=>some (.inr (S l))
 |_=>none
def gf:List D->Option (List Key)
 |[]=>some []
 |d::ds=>(ma d).bind fun k=>(gf ds).map (k:: ·)
def gj:D->Option (List Key)
 | .tup ds=>gf ds
 |_=>none
def jL:List D->Option (List (List Key))
 |[]=>some []
 |d::ds=>(gj d).bind fun k=>(jL ds).map (k:: ·)
def kT(k:List Key):D:=.tup (k.map kD)
section
variable{K:W.Frag}{G:Hp}
theorem gk:∀{ds:List D}{bs:List (List Nat)}{xs:List V},iR ds=some bs->Reps K G ds xs->xs=bs.map (fun l=>V.str (S l))/\∀l∈bs,l.length<=sizeLine
 |[],_,_,e,r=>by
  cases e;rw[Reps]at r;exact⟨r,fun _ h=>nomatch h⟩
 |d::ds,_,_,e,r=>by
  cases d with
  |str b=>
   rw[iR,Uk]at e;obtain⟨bs,e1,e2⟩:=e;subst e2;rw[Reps]at r;obtain⟨y,ys,e3,r1,r2⟩:=r;obtain⟨h1,h2⟩:=gk e1 r2;obtain⟨h3,h4⟩:=bD r1;subst h3;refine⟨by rw[e3,h1];rfl,fun l hl=>?_⟩;rcases Tz.mp hl with rfl|hl
   ·exact h4
   ·exact h2 l hl
  |_=>simp[iR]at e
theorem iG{d:D}{k:Key}{v:V}(e:ma d=some k)(r:Rep K G d v):v=kV k/\d=kD k:=by
 cases d with
 |int i=>
  cases e;exact⟨bO r,rfl⟩
 |str l=>
  cases e;refine⟨(bD r).1,?_⟩;show D.str l=D.str (S l).cps.toList;rw[dP]
 |_=>cases e
theorem kN:∀{ds:List D}{ks:List Key}{xs:List V},gf ds=some ks->Reps K G ds xs->xs=ks.map kV/\ds=ks.map kD
 |[],_,_,e,r=>by
  cases e;rw[Reps]at r;exact⟨r,rfl⟩
 |d::ds,_,_,e,r=>by
  rw[gf,VE]at e;obtain⟨k,e1,e⟩:=e;rw[Uk]at e;obtain⟨ks,e2,e3⟩:=e;subst e3;rw[Reps]at r;obtain⟨y,ys,e4,r1,r2⟩:=r;obtain⟨h1,h2⟩:=iG e1 r1;obtain⟨h3,h4⟩:=kN e2 r2;rw[e4,h1,h2,h3,h4];exact⟨rfl,rfl⟩
theorem eO{d:D}{ks:List Key}{v:V}(e:gj d=some ks)(r:Rep K G d v):∃p,v=.ref p/\G p=some (.tup (ks.map kV))/\d=kT ks:=by
 cases d with
 |tup ds=>
  obtain⟨p,xs,ev,g,rs⟩:=wH r;obtain⟨h1,h2⟩:=kN e rs;subst h1;exact⟨p,ev,g,by rw[h2];rfl⟩
 |_=>cases e
theorem me:∀{ds:List D}{Km:List (List Key)}{xs:List V},jL ds=some Km->Reps K G ds xs->∃al:List (Addr×List Key),xs=al.map (fun a=>V.ref a.1)/\Km=al.map (·.2)/\ds=al.map (fun a=>kT a.2)/\∀a∈al,G a.1=some (.tup (a.2.map kV))/\Rep K G (kT a.2) (.ref a.1)
 |[],_,_,e,r=>by
  cases e;rw[Reps]at r;exact⟨[],r,rfl,rfl,fun _ h=>nomatch h⟩
 |d::ds,_,_,e,r=>by
  rw[jL,VE]at e;obtain⟨k,e1,e⟩:=e;rw[Uk]at e;obtain⟨ks,e2,e3⟩:=e;subst e3;rw[Reps]at r;obtain⟨y,ys,e4,r1,r2⟩:=r;obtain⟨p,h1,h2,h5⟩:=eO e1 r1;obtain⟨al,h3,h4,h6,h7⟩:=me e2 r2;subst h1;refine⟨(p,k)::al,by rw[e4,h3];rfl,by rw[h4];rfl,by rw[h5,h6];rfl,fun a ha=>?_⟩;rcases Tz.mp ha with rfl|ha
  ·exact⟨h2,by rw[<-h5];exact r1⟩
  ·exact h7 a ha
theorem gm{α:Type}{f:α->D}{g:α->V}:∀{l:List α},(∀a∈l,Rep K G (f a) (g a))->Reps K G (l.map f) (l.map g)
 |[],_=>Reps.nil
 |a::l,h=>.cons (h a Tp) (gm fun b hb=>h b (Tx _ hb))
end
def sameKinds(k:List Key)(Km:List (List Key)):Bool:=!k.isEmpty&&Km.all fun j=>kinds j==kinds k
noncomputable def mf(ds:List D):Option (List D):=match cC ds with
 |some ns=>some ((bX ltI ns).map D.int)
 |none=>match iR ds with
  |some ls=>some ((bX KI ls).map D.str)
  |none=>match jL ds with
   |some (k::Km)=>if sameKinds k Km then some ((bX d9 (k::Km)).map kT) else none
   |_=>none
noncomputable def dX:List D->Res R
 |[.lst ds]=>if ds.length<64 then match mf ds with
  |some l=>.ok (.l .f,.lst l)
  |none=>.bad
  else .bad
 |[.dct true ks _]=>if ks.length<64 then match ks,jL ks with
  |[],_=>.ok (.l .f,.lst [])
  |_,some (k::Km)=>if sameKinds k Km then .ok (.l .f,.lst ((bX d9 (k::Km)).map kT)) else .bad
  |_,_=>.bad
  else .bad
 |_=>.bad
theorem jM{k:List Key}{Km:List (List Key)}(h:sameKinds k Km=true):∃top t,∀j∈k::Km,kinds j=top::t:=by
 unfold sameKinds at h;rw[TL,T8]at h;cases k with
 |nil=>simp at h
 |cons a k=>
  refine⟨a.isLeft,kinds k,fun j hj=>?_⟩;rcases Tz.mp hj with rfl|hj
  ·rfl
  ·exact T6.mp (h.2 j hj)
def kO(H G:Hp):Hp:=fun p=>match H p with
 |some (HO.tup xs)=>some (HO.tup xs)
 |_=>G p
theorem uH{H G:Hp}{p:Addr}{xs:List V}(e:H p=some (.tup xs)):kO H G p=some (.tup xs):=by
 unfold kO;rw[e]
theorem mh{H G:Hp}{p:Addr}{u:HO}(e:kO H G p=some u):G p=some u\/(isT u=true/\H p=some u):=by
 unfold kO at e;split at e
 ·rename_i xs hx;cases e;exact .inr ⟨rfl,hx⟩
 ·exact .inl e
theorem wR{H G:Hp}(gh:Same G H):Same G (kO H G):=fun p u e=>by
 unfold kO;rw[gh p u e];cases u with
 |tup xs=>rfl
 |_=>exact e
theorem Rel.addT{K:W.Frag}{G H:Hp}{es:PV.Env}{vs:L2.St}{fp:List Addr}(q:Rel K G H es vs fp):∃G',Rel K G' H es vs fp/\Step G H fp G' H fp/\∀p xs,H p=some (.tup xs)->G' p=some (.tup xs):=by
 have gg:=wR q.gh;refine⟨kO H G,⟨q.rep.step gg fun _ _=>rfl,q.nd,fun p hp=>?_,fun p u e=>?_⟩,⟨gg,fun _ _ e _=>e,fun _ h=>.inl h,fun p u e=>(mh e).imp_right fun z=>.inr (.inr z),fun _ u e=>⟨u,e⟩⟩,fun p xs e=>uH e⟩
 ·cases e:kO H G p with
  |none=>rfl
  |some u=>
   exfalso;rcases mh e with z|⟨t,z⟩
   ·rw[q.gn p hp]at z;cases z
   ·obtain⟨u2,h2,hm⟩:=q.rep.mut p hp;rw[z]at h2;cases h2;cases u with
    |tup _=>cases hm
    |frz _ _=>cases hm
    |_=>cases t
 ·rcases mh e with z|z
  ·exact q.gh p u z
  ·exact z.2
theorem wU{K:W.Frag}{G:Hp}{k:Key}(h:vz k):Rep K G (kD k) (kV k):=by
 cases k with
 |inl i=>exact bB i
 |inr x=>
  have:=jd (K:=K) (G:=G) (l:=x.cps.toList) h;rw[pO]at this;exact this
theorem DK(k:Key):ma (kD k)=some k:=by
 cases k with
 |inl i=>rfl
 |inr x=>
  show some (Sum.inr (S x.cps.toList))=_;rw[pO]
theorem ml:∀ks:List Key,gf (ks.map kD)=some ks
 |[]=>rfl
 |k::ks=>by
  rw[TZ,gf,DK,ml ks];rfl
theorem iH:∀Km:List (List Key),jL (Km.map kT)=some Km
 |[]=>rfl
 |k::Km=>by
  rw[TZ,jL];show(gf (k.map kD)).bind _=_;rw[ml,iH Km];rfl
section
variable{X:Cx}
theorem SK{α:Type}{lt:α->α->Bool}{p:α->α->Prop}(h:∀a b,p a b->lt b a=false){l:List α}(q:l.Pairwise p):l.Pairwise (fun a b=>lt b a=false):=q.imp (h _ _)
theorem jN(hc:X.calm=true):dD X (.builtin "sorted") (rC X.K dX):=by
 rintro pi s σ H xs us Q I rx ⟨G,fp,es,vs,ds,r,⟨rel,k⟩,vd,e⟩;unfold dX at e;split at e
 ·rename_i ds;split at e
  ·rename_i Mp;split at e
   ·rename_i l hl;cases e;obtain⟨v,ev,p,ys,ep,sq,rs⟩:=pq vd;subst ev;subst ep;unfold mf at hl;split at hl
    ·rename_i ns OB;cases hl;have hy:=jg OB rs;subst hy;have hlen:ns.length<64:=by have:=rs.length;rw[To]at this;lia
     refine lq hc pi s σ H _ us Q I rx ⟨p,ns,rfl,sq,hlen,fun q ms hq pm sm=>?_⟩;have em:=jK Br pm (SK (fun a b h=>by unfold ltI;rw[UL];lia) sm);subst em;obtain⟨Hz,HJ⟩:=rel.newL hq (gm (K:=X.K) (G:=G) (f:=D.int) (g:=V.int) fun a _=>bB a);exact k _ _ G _ HJ Hz
    ·split at hl
     ·rename_i ls hls;cases hl;obtain⟨hy,hz⟩:=gk hls rs;subst hy;have hlen:ls.length<64:=by have:=rs.length;rw[To]at this;lia
      refine lr hc pi s σ H _ us Q I rx ⟨p,ls,rfl,sq,hlen,fun q ms hq pm sm=>?_⟩;have em:=jK l8 pm (SK (fun a b h=>by unfold KI;rw[UL];exact h) sm);obtain⟨Hz,HJ⟩:=rel.newL hq (gm (K:=X.K) (G:=G) (f:=D.str) (g:=fun l=>V.str (S l)) (l:=ms) fun a ha=>jd (hz a (pm.mem_iff.mp ha)));rw[<-em]at k;exact k _ _ G _ HJ Hz
     ·split at hl
      ·rename_i kk Km hk;split at hl
       ·rename_i hsk;cases hl;obtain⟨al,h1,h2,h3,h4⟩:=me hk rs;obtain⟨top,t,Kn⟩:=jM hsk;subst h1;have hlen:al.length<64:=by have:=rs.length;rw[To]at this;lia
        refine lu hc pi s σ H _ us Q I rx ⟨p,al,top,t,rfl,sq,fun a ha=>⟨SqT.of (rel.gh _ _ (h4 a ha).1),Kn a.2 (by rw[h2];exact Ur.mpr ⟨a,ha,rfl⟩)⟩,hlen,fun q ms hq pm sm=>?_⟩;have em:ms.map (·.2)=bX d9 (kk::Km):=by
         rw[h2];refine jK l9 (pm.map _) ?_;rw[Wa];exact sm
        obtain⟨Hz,HJ⟩:=rel.newL hq (gm (K:=X.K) (G:=G) (f:=fun a:Addr×List Key=>kT a.2) (g:=fun a=>V.ref a.1) (l:=ms) fun a ha=>(h4 a (pm.mem_iff.mp ha)).2);have ek:ms.map (fun a=>kT a.2)=(bX d9 (kk::Km)).map kT:=by rw[<-em,TN];rfl
        rw[ek]at Hz;exact k _ _ G _ HJ Hz
       ·cases hl
      ·cases hl
   ·cases e
  ·cases e
 ·rename_i ks vv;split at e
  ·rename_i Mp;obtain⟨v,ev,vt⟩:=pq vd;obtain⟨p,ys,o,ep,rd,dd,rs⟩:=vt;subst ev;subst ep;obtain⟨kvs,eo,ek,ex,Jk⟩:=dd;subst eo;have ek:ks=(kvs.map (·.1)).map kT:=by rw[ek,TN];rfl
   have hlen:kvs.length<64:=by rw[ek,To,To]at Mp;exact Mp
   have go:∀(top:Bool) (t:List Bool),(∀kv∈kvs,kinds kv.1=top::t)->r=(.l .f,.lst ((bX d9 (kvs.map (·.1))).map kT))->wpAny (model X.prog X.w) X.A (call (.builtin "sorted") us) (EP X pi σ Q) X.xe s:=fun top t Kn er=>by
    subst er;refine nq hc pi s σ H _ us Q I rx ⟨p,kvs,top,t,rfl,rd,Kn,hlen,fun q ms hq hm pm sm=>?_⟩;have em:ms.map (·.2)=bX d9 (kvs.map (·.1)):=by
     refine jK l9 pm ?_;rw[Wa];exact sm
    obtain⟨G2,Hz,HJ,ht⟩:=rel.addT;have JV:∀a∈ms,Rep X.K G2 (kT a.2) (.ref a.1):=fun a ha=>by
     unfold kT;rw[Rep];refine⟨a.1,_,rfl,ht _ _ (hm a ha),?_⟩;refine gm (f:=kD) (g:=kV) fun key JJ=>wU ?_
     have:a.2∈kvs.map (·.1):=pm.mem_iff.mp (Ur.mpr ⟨a,ha,rfl⟩);obtain⟨kv,Kh,e2⟩:=Ur.mp this;exact Jk kv Kh key (by rw[e2];exact JJ)
    obtain⟨Ia,Ip⟩:=Hz.newL hq (gm (K:=X.K) (G:=G2) (f:=fun a:Addr×List Key=>kT a.2) (g:=fun a=>V.ref a.1) (l:=ms) JV);have ek:ms.map (fun a=>kT a.2)=(bX d9 (kvs.map (·.1))).map kT:=by rw[<-em,TN];rfl
    rw[ek]at Ia;exact k _ _ G2 _ (HJ.trans Ip) Ia
   rw[ek,iH]at e;split at e
   ·rename_i hnil;cases e;have:kvs=[]:=by
     cases kvs with
     |nil=>rfl
     |cons a b=>cases hnil
    subst this;exact go true [] (fun _ h=>nomatch h) rfl
   ·rename_i kk Km heq JD;split at e
    ·rename_i hsk;cases e;obtain⟨top,t,Kn⟩:=jM hsk;have heq:kvs.map (·.1)=kk::Km:=by
      injection heq
     refine go top t (fun kv Kh=>Kn kv.1 ?_) (by rw[heq]);rw[<-heq];exact Ur.mpr ⟨kv,Kh,rfl⟩
    ·cases e
   ·cases e
  ·cases e
 ·cases e
def Kv(a b:D):Res R:=match gj a,gj b with
 |some ks,some js=>if kinds ks==kinds js then .ok (.f,.bl (d9 ks js)) else .bad
 |_,_=>PR a b
def geO(a b:D):Res R:=match gj a,gj b with
 |some ks,some js=>if kinds ks==kinds js then .ok (.f,.bl (!d9 ks js)) else .bad
 |_,_=>match a,b with
  | .str a,.str b=>.ok (.f,.bl (!decide (a<b)))
  |a,b=>geD a b
theorem g5(hu:X.A.units<cLine):Ir X (compareOp .Lt) (rG X.K Kv):=by
 rintro pi s σ H x y v u Q I rx ry ⟨G,fp,es,vs,a,b,r,⟨rel,k⟩,va,vb,e⟩;unfold Kv at e;split at e
 ·rename_i ks js h1 h2;split at e
  ·rename_i hk;cases e;have ra:Rep X.K G a x:=by cases a <;> first|exact va|cases h1
   have rb:Rep X.K G b y:=by cases b <;> first|exact vb|cases h2
   obtain⟨p,e1,g1,_⟩:=eO h1 ra;obtain⟨p2,e2,g2,_⟩:=eO h2 rb;subst e1;subst e2;exact Dy hu pi s σ H _ _ v u Q I rx ry ⟨p,p2,ks,js,rfl,rfl,SqT.of (rel.gh _ _ g1),SqT.of (rel.gh _ _ g2),T6.mp hk,k _ H G fp .refl (rel.push (cO _))⟩
  ·cases e
 ·exact Fu pi s σ H x y v u Q I rx ry ⟨G,fp,es,vs,a,b,r,⟨rel,k⟩,va,vb,e⟩
end
def eNewD(tk:Bool):FX:=fun env=>.ok ((.d,.dct tk [] []),env)
section
variable{md:Mode}{X:Cx}
theorem Rel.newD{K:W.Frag}{G H:Hp}{es:PV.Env}{vs:L2.St}{fp:List Addr}{p:Addr}{u:HO}{tk:Bool}(q:Rel K G H es vs fp)(hp:H p=none)(h:DictO u tk [] []):
  Rel K G (upd H p u) (some (.d,.dct tk [] [])::es) (some (.ref p)::vs) (p::fp)/\Step G H fp G (upd H p u) (p::fp):=by
 have gp:G p=none:=by
  cases e:G p with
  |none=>rfl
  |some o=>rw[q.gh p o e]at hp;cases hp
 have np:p∉fp:=fun z=>by
  obtain⟨u,e⟩:=q.rep.live p z;rw[hp]at e;cases e
 have sh:Same H (upd H p u):=fun b o e=>by rw[aJ (aU e hp)];exact e
 refine⟨⟨⟨some (.ref p),vs,rfl,.ref p,[p],fp,rfl,rfl,?_,q.rep.step (.refl _) fun z hz=>aJ fun e=>np (e▸hz)⟩,TY.mpr ⟨np,q.nd⟩,fun z hz=>?_,fun b o e=>?_⟩,
  ⟨.refl _,fun b o e _=>sh b o e,fun b hb=>?_,fun b o e=>.inl e,fun b o e=>⟨o,sh b o e⟩⟩⟩
 ·rw[RepO];exact⟨p,[],u,rfl,aY,h,rfl,Reps.nil⟩
 ·rcases Tz.mp hz with rfl|hz
  ·exact gp
  ·exact q.gn z hz
 ·exact sh b o (q.gh b o e)
 ·rcases Tz.mp hb with rfl|hb
  ·exact .inr hp
  ·exact .inl hb
theorem wV{pos:Pos}:QE X (.Dict [] [] pos) (eNewD true):=bx yD fun σ H Q HP p hp=>by
 obtain⟨G,env,fp,r,env',rel,e,k⟩:=HP;cases e;obtain⟨Hz,HJ⟩:=rel.newD (tk:=true) (u:=.dT []) hp ⟨[],rfl,rfl,rfl,fun _ h=>nomatch h⟩;exact k _ _ G _ HJ Hz
theorem Bs{pos:Pos}:QE X (.Dict [] [] pos) (eNewD false):=bx yC fun σ H Q HP p hp=>by
 obtain⟨G,env,fp,r,env',rel,e,k⟩:=HP;cases e;obtain⟨Hz,HJ⟩:=rel.newD (tk:=false) (u:=.dK []) hp ⟨[],rfl,rfl,rfl,fun _ h=>nomatch h⟩;exact k _ _ G _ HJ Hz
def lJ(ks vs:List D)(k v:D):List D×List D:=if ks.any (HE k) then(ks,(ks.zip vs).map fun p=>if HE k p.1 then v else p.2) else(ks++[k],vs++[v])
def dY(tk:Bool)(k:D):Bool:=if tk then(gj k).isSome else(ma k).isSome
noncomputable def wW(i:Nat)(fk fv:FX):FS:=fun env=>(fv env).bind fun p=>(fk p.2).bind fun q=>match p.2[i]?,q.2[i]? with
 |some (some _),some (some (.d,.dct tk ks vs))=>if dY tk q.1.2&&decide (ks.length<sizeLine) then .ok (.nx (q.2.set i (some (.d,.dct tk (lJ ks vs q.1.2 p.1.2).1 (lJ ks vs q.1.2 p.1.2).2)))) else .bad
 |_,_=>.bad
theorem wX(a b:Key):HE (kD a) (kD b)=decide (a=b):=by
 cases a with
 |inl i=>
  cases b with
  |inl j=>simp only[kD,HE];rw[T7];simp
  |inr y=>simp only[kD,HE];simp
 |inr x=>
  cases b with
  |inl j=>simp only[kD,HE];simp
  |inr y=>
   simp only[kD,HE];rw[T7];simp only[T6,TF,Sum.inr.injEq];exact⟨fun h=>by rw[<-pO x,<-pO y,h],fun h=>by rw[h]⟩
theorem wY:∀a b:List Key,ng (a.map kD) (b.map kD)=decide (a=b)
 |[],[]=>by simp[ng]
 |[],_::_=>by simp[ng]
 |_::_,[]=>by simp[ng]
 |a::r,b::t=>by
  rw[TZ,TZ,ng,wX,wY r t,T7];simp
theorem Ah(a b:List Key):HE (kT a) (kT b)=decide (a=b):=by
 unfold kT;rw[HE];exact wY a b
theorem p8{κ:Type}[DecidableEq κ]{K:W.Frag}{G:Hp}(f:κ->D)(hf:∀a b,HE (f a) (f b)=decide (a=b)){kvs:List (κ×V)}{vs:List D}{k:κ}{v:D}{y:V}(r:Reps K G vs (kvs.map (·.2)))(ry:Rep K G v y):
  (lx kvs k y).map (fun kv=>f kv.1)=(lJ (kvs.map fun kv=>f kv.1) vs (f k) v).1/\Reps K G (lJ (kvs.map fun kv=>f kv.1) vs (f k) v).2 ((lx kvs k y).map (·.2)):=by
 have e:(kvs.map fun kv=>f kv.1).any (HE (f k))=kvs.any fun kv=>decide (kv.1=k):=by
  rw[Ve];congr 1
  funext kv
  show HE (f k) (f kv.1)=_;rw[hf,T7];simp only[TF];exact⟨fun z=>z.symm,fun z=>z.symm⟩
 unfold lJ lx;rw[e];split
 ·refine⟨?_,?_⟩
  ·rw[TN];refine Up fun kv _=>?_
   show f (if kv.1=k then(kv.1,y) else kv).1=f kv.1;split <;> rfl
  ·rename_i hany;clear e hany;induction kvs generalizing vs with
   |nil=>
    have:vs=[]:=Ue (by rw[<-r.length];rfl);subst this;exact Reps.nil
   |cons kv kvs ih=>
    cases vs with
    |nil=>have:=r.length;simp at this
    |cons d vs=>
     rw[TZ,Reps.cons_iff]at r;rw[TZ,Uh,TZ,TZ,TZ];refine .cons ?_ (ih r.2);show Rep K G (if HE (f k) (f kv.1)=true then v else d) (if kv.1=k then(kv.1,y) else kv).2;rw[hf];by_cases hk:kv.1=k
     ·rw[Tt (by simp[hk]),Tt hk];exact ry
     ·rw[TB (by simp;exact fun z=>hk z.symm),TB hk];exact r.1
 ·refine⟨?_,?_⟩
  ·rw[Tu];rfl
  ·rw[Tu];exact r.app (.one ry)
theorem Rel.chgD{K:W.Frag}{G H:Hp}{es:PV.Env}{vs:L2.St}{fp:List Addr}{i:Nat}{tk:Bool}{ks ws:List D}(q:Rel K G H es vs fp)(e:es[i]?=some (some (.d,.dct tk ks ws))):∃p xs u,vs[i]?=some (some (.ref p))/\H p=some u/\DictO u tk ks xs/\Reps K G ws xs/\
  ∀u' Lv IJ Qp,DictO u' tk Lv IJ->Reps K G Qp IJ->∃fq,Rel K G (upd H p u') (es.set i (some (.d,.dct tk Lv Qp))) vs fq/\Step G H fp G (upd H p u') fq:=by
 obtain⟨v,fq,ev,g,st,JZ⟩:=q.out e;obtain⟨y,ys,e0,v',a,b,e1,e2,r1,r2⟩:=g.rep;cases e0;cases e1;rw[RepO]at r1;obtain⟨p,xs,u,e3,hp,dd,e4,rs⟩:=r1;subst e3;subst e4;subst e2;have nd:=TY.mp (show(p::b).Nodup from g.nd);refine⟨p,xs,u,ev,hp,dd,rs,fun u' Lv IJ Qp NS JH=>?_⟩;have g2:Rel K G (upd H p u') (some (.d,.dct tk Lv Qp)::es.set i none) (some (.ref p)::vs) (p::b):=by
  refine⟨⟨some (.ref p),vs,rfl,.ref p,[p],b,rfl,rfl,?_,r2.step (.refl _) fun z hz=>aJ fun e=>nd.1 (e▸hz)⟩,g.nd,g.gn,fun z o ez=>?_⟩
  ·rw[RepO];exact⟨p,IJ,u',rfl,aY,NS,rfl,JH⟩
  ·have:z≠p:=fun w=>by
    subst w;rw[g.gn z Tp]at ez;cases ez
   rw[aJ this];exact g.gh z o ez
 have Qr:Step G H (p::b) G (upd H p u') (p::b):=by
  refine⟨.refl _,fun z o ez nz=>?_,fun z hz=>.inl hz,fun z o ez=>.inl ez,fun z o ez=>?_⟩
  ·have:z≠p:=fun w=>nz (by rw[w];exact Tp)
   rw[aJ this];exact ez
  ·by_cases w:z=p
   ·subst w;exact⟨_,aY⟩
   ·exact⟨o,by rw[aJ w];exact ez⟩
 obtain⟨fz,g3,Ip⟩:=g2.back (i:=i) (by rw[U6];exact(List.getElem?_eq_some_iff.mp e).1) ev;rw[Wc]at g3;exact⟨fz,g3,st.trans (Qr.trans Ip)⟩
theorem wZ{K:W.Frag}{G:Hp}{d:D}{k:Key}{v:V}(e:ma d=some k)(r:Rep K G d v):vz k:=by
 cases d with
 |int i=>cases e;trivial
 |str l=>
  cases e;show(S l).cps.toList.length<=sizeLine;rw[dP];exact(bD r).2
 |_=>cases e
theorem w4{K:W.Frag}{G:Hp}:∀{ds:List D}{ks:List Key}{xs:List V},gf ds=some ks->Reps K G ds xs->∀k∈ks,vz k
 |[],_,_,e,_=>by
  cases e;exact fun _ h=>nomatch h
 |d::ds,_,_,e,r=>by
  rw[gf,VE]at e;obtain⟨k,e1,e⟩:=e;rw[Uk]at e;obtain⟨ks,e2,e3⟩:=e;subst e3;rw[Reps]at r;obtain⟨y,ys,e4,r1,r2⟩:=r;intro z hz;rcases Tz.mp hz with rfl|hz
  ·exact wZ e1 r1
  ·exact w4 e2 r2 z hz
theorem tG{κ:Type}[DecidableEq κ]{P:κ->Prop}{kvs:List (κ×V)}{k:κ}{y:V}(h:∀kv∈kvs,P kv.1)(hk:P k):∀kv∈lx kvs k y,P kv.1:=by
 intro kv Kh;unfold lx at Kh;split at Kh
 ·obtain⟨z,hz,e⟩:=Ur.mp Kh;rw[<-e];split
  ·exact h z hz
  ·exact h z hz
 ·rcases TX.mp Kh with Kh|Kh
  ·exact h kv Kh
  ·rw[TU]at Kh;rw[Kh];exact hk
theorem kP{i:Nat}{o ix value:Expr}{fk fv:FX}{pos pos':Pos}(hu:X.A.units+1<cLine)(ho:PE X o (yd i))(hi:QE X ix fk)(hv:QE X value fv)(hs:swapsWith value (some (.Subscript o ix pos')) pos.line X.env=pure false:=by rfl):
  QS (md:=md) X (.Assign [.Subscript o ix pos'] value pos) (wW i fk fv):=gL (Bc hu ho hi hv hs) fun Dd σ H HP=>by
 obtain⟨G,env,fp,rel,k⟩:=HP;unfold wW at k;match q1:fv env,k with
 | .ok (r1,Hy),k=>
  have k:OutOk X.K G H fp Dd ((fk Hy).bind fun q=>match Hy[i]?,q.2[i]? with
   |some (some _),some (some (.d,.dct tk ks vs))=>if dY tk q.1.2&&decide (ks.length<sizeLine) then .ok (.nx (q.2.set i (some (.d,.dct tk (lJ ks vs q.1.2 r1.2).1 (lJ ks vs q.1.2 r1.2).2)))) else .bad
   |_,_=>.bad):=k
  match q2:fk Hy,k with
  | .ok (r2,HN),k=>
   have k:OutOk X.K G H fp Dd (match Hy[i]?,HN[i]? with
    |some (some _),some (some (.d,.dct tk ks vs))=>if dY tk r2.2&&decide (ks.length<sizeLine) then .ok (.nx (HN.set i (some (.d,.dct tk (lJ ks vs r2.2 r1.2).1 (lJ ks vs r2.2 r1.2).2)))) else .bad
    |_,_=>.bad):=k
   split at k
   ·rename_i rr tk ks ws h1 h2;split at k
    ·rename_i hc;rw[TL,TF]at hc;refine⟨G,env,fp,r1,Hy,rel,q1,fun y H1 G1 HZ HU HA=>?_⟩;obtain⟨G2,b,ry,Hz,HJ⟩:=HA.freeze;obtain⟨v0,R1,_⟩:=Hz.view h1;refine⟨v0,R1,G2,Hy,b,r2,HN,Hz,q2,fun z H3 G3 Ji Ip Ia=>?_⟩;obtain⟨G4,b4,rz,IB,JE⟩:=Ia.freeze;obtain⟨p,xs,u,ep,hp,dd,rs,cg⟩:=IB.chgD h2;rw[R1]at ep;cases ep;have SM:Rep X.K G4 r1.2 y:=Rep.mono (Ip.gg.trans JE.gg) ry;cases tk with
     |true=>
      obtain⟨kvs,eu,ek,ex,Jk⟩:=dd;subst eu;subst ex;have hk:=hc.1;unfold dY at hk;rw[Tt rfl,UR]at hk;obtain⟨kk,hk⟩:=hk;obtain⟨pz,ez,gz,dz⟩:=eO hk rz;subst ez;obtain⟨t1,t2⟩:=p8 (K:=X.K) (G:=G4) kT Ah (k:=kk) rs SM;have ek:ks=kvs.map fun kv=>kT kv.1:=ek
      rw[<-ek,<-dz]at t1 t2;have hfk:∀key∈kk,vz key:=by
       cases hd:r2.2 with
       |tup ds=>
        rw[hd]at hk rz;obtain⟨_,IJ,_,_,JH⟩:=wH rz;exact w4 hk JH
       |_=>rw[hd]at hk;cases hk
      obtain⟨fq,Jm,Kd⟩:=cg (.dT (lx kvs kk y)) _ _ _ ⟨lx kvs kk y,rfl,t1.symm,rfl,tG (P:=fun ks=>∀k∈ks,vz k) Jk hfk⟩ t2;have hlen:kvs.length<sizeLine:=by have:=hc.2;rw[ek,To]at this;exact this
      exact⟨p,_,rfl,DPut.t hp (IB.gh _ _ gz) hlen,k _ _ G4 fq (HU.trans (HJ.trans (Ip.trans (JE.trans Kd)))) Jm⟩
     |false=>
      obtain⟨kvs,eu,ek,ex,Jk⟩:=dd;subst eu;subst ex;have hk:=hc.1;unfold dY at hk;rw[TB Tw,UR]at hk;obtain⟨kk,hk⟩:=hk;obtain⟨ez,dz⟩:=iG hk rz;subst ez;obtain⟨t1,t2⟩:=p8 (K:=X.K) (G:=G4) kD wX (k:=kk) rs SM;rw[<-ek,<-dz]at t1 t2;obtain⟨fq,Jm,Kd⟩:=cg (.dK (lx kvs kk y)) _ _ _ ⟨lx kvs kk y,rfl,t1.symm,rfl,tG (P:=vz) Jk (wZ hk rz)⟩ t2;have hlen:kvs.length<sizeLine:=by have:=hc.2;rw[ek,To]at this;exact this
      exact⟨p,_,rfl,DPut.k hp hlen,k _ _ G4 fq (HU.trans (HJ.trans (Ip.trans (JE.trans Kd)))) Jm⟩
    ·exact k.elim
   ·exact k.elim
end
end PV
namespace NX
open PySem PySem.Spec PyProof.Rows L2
section
variable{prog:Program}{w:World}{A:Around}{E:Value->Shared->Prop}{s:Shared}{d:Addr}{es:Array DictEntry}{ep:Nat}
theorem oK(nm:(d==sysModules)=false):MeetsIn prog w (Builtin.«dict.__len__» ⟨[.ref d],[]⟩) (fun _ R s=>RawD s.heap d es ep/\R (.ok (.ret (.int es.size s.toks))) {s with toks:=s.toks+1}):=
 .of_wp fun A R s HP=>by
  obtain⟨⟨o,g,_,dat⟩,h⟩:=HP;show wpAny _ _ (dictSize d >>= fun _=>_) _ _ s;unfold dictSize;refine Tj (Tj (V9 g dat (Tr ?_)));show wpAny _ _ (Builtin.Dict.pendingCount d >>= fun _=>_) _ _ s;refine Tj (wpAny_pendingCount_other nm (wpAny_ret_mkInt ?_));rw[Yj];exact h
theorem Bt{Q:Value->Shared->Prop}(nm:(d==sysModules)=false)(x:RawD s.heap d es ep)(hf:(es.size:Int)<2 ^ 63)(h:Q (.int es.size (s.toks+1)) {s with toks:=s.toks+1+1}):wpAny (model prog w) A (call (.builtin "len") [.ref d]) Q E s:=by
 have ty:=lF x;refine VR kind_len plain_len entry_len (args_len1 _) ?_;unfold Builtin.«len»;refine Tj (m:=oneArg "len" _) (Tr (Tj (m:=callSpecial? (.ref d) (Str.ofString "__len__")) (wpAny_callSpecial?_slot (name:=Str.ofString "__len__") ty F.slot_dict_len
  (call_meetsIn F.slot_dict_len ty F.entry_dict_len (F.args_dict_len_1 _) (oK (es:=es) (ep:=ep) nm) ⟨x,?_⟩))))
 show wpAny _ _ _ _ _ {s with toks:=s.toks+1};refine Tj (U2 (Tr (Tj (Vi ?_))));show wpAny _ _ (if((es.size:Nat):Int)<0 then _ else _) _ _ _;rw[TB (Int.not_lt.mpr (Int.natCast_nonneg _))];show wpAny _ _ (if((es.size:Nat):Int)>=2 ^ 63 then _ else _) _ _ _;rw[TB (Int.not_le.mpr hf)];exact Tj (wpAny_mkInt (Tr ⟨_,rfl,h⟩))
end
end NX
namespace PV
open PySem PySem.Spec PyProof.Rows L2 NX
section
variable{X:Cx}
def fT:List D->Res R
 |[.dct _ ks _]=>.ok (.f,.int ks.length)
 |ds=>Fy ds
theorem DL{pi:List (Addr×Obj)}{σ:L2.St}{H:Hp}{s:Shared}(I:Inv X pi σ H s){p:Addr}{o:HO}{tk:Bool}{ks:List D}{xs:List V}(rd:Rd H p o)(dd:DictO o tk ks xs):(p==sysModules)=false/\∃es ep,RawD s.heap p es ep/\es.size=ks.length/\ks.length<=sizeLine:=by
 have ok:=rd.ok I.hok;cases tk with
 |true=>
  obtain⟨kvs,eo,ek,_⟩:=dd;subst eo;obtain⟨z,nm,ws,r,o2,es,ep,h1,h2,h3,h4,_⟩:=ok;refine⟨nm,es,ep,⟨o2,h1,h2,h3⟩,?_,by rw[ek,To];exact z⟩;have:=UN List.length h4;rw[To,UQ,<-Wh r]at this;rw[ek,To];exact this
 |false=>
  obtain⟨kvs,eo,ek,_⟩:=dd;subst eo;obtain⟨z,nm,ws,r,o2,es,ep,h1,h2,h3,h4,h5,_⟩:=ok;refine⟨nm,es,ep,⟨o2,h1,h2,h3⟩,?_,by rw[ek,To];exact z⟩;have l1:=h5.length;have l2:kvs.length=ws.length:=Wh r;rw[ek,To];rw[UQ]at l1;lia
theorem bU:dD X (.builtin "len") (rC X.K fT):=by
 rintro pi s σ H xs us Q I rx ⟨G,fp,es,vs,ds,r,⟨rel,k⟩,vd,e⟩;unfold fT at e;split at e
 ·rename_i tk ks ws;cases e;obtain⟨v,ev,p,ys,o,ep,rd,dd,_⟩:=pq vd;subst ev;subst ep;obtain⟨u,rfl,ru⟩:=fK rx;cases ru;obtain⟨nm,en,ep,raw,h1,h2⟩:=DL I rd dd;refine Bt nm raw (by rw[h1];rw[UD]at h2;lia) ?_;refine⟨.int ks.length,H,I.tok _,⟨_,by rw[h1]⟩,k _ H G fp .refl (rel.push (bB _))⟩
 ·exact DF pi s σ H xs us Q I rx ⟨G,fp,es,vs,_,r,⟨rel,k⟩,vd,e⟩
def Hu(g:List Nat->List D->Res R)(fa:FO)(fs:FOs):FX:=fun env=>(fa env).bind fun p=>match Jj p.2 p.1 with
 | .ok (.str l)=>(fs p.2).bind fun q=>(qM q.2 q.1).bind fun ds=>(g l ds).bind fun r=>.ok (r,q.2)
 |_=>.bad
end
theorem fnok_of{P:Program}{w:World}{K:W.Frag}{mg:Str->Option Value}{base:Heap}{x:Str}{st:Stmt}{N ps:List Str}{k:Nat}{g:FS}{f:Addr}{fd:FuncData}(F:Fun K x x st f fd)(sc:FnScope N ps (defScope st))
  (body:∀(HX:Value) (A:Around) (outer:List PySem.Env) (s:Shared) (H:Hp) (E:XK),Room k (A.deeper (envOfC x (defScope st) s.heap.objs.size f HX))->MK (md:=.plain) (x3 Mn P w K mg base N x (defScope st) f HX A outer s H E).nox (cM st) g):
  FnOk P w K mg base Mn (k+1) f fd ps (spF K (fBody ps.length (N.length-ps.length) g)):=by
 refine F.ok sc (fun vs H Q E h=>?_) (fun HX A outer s H vs Q E hr h=>?_)
 ·obtain⟨G,ds,r,_,rs,e,_⟩:=h;unfold fBody at e;split at e
  ·rename_i hl;rw[rs.length,hl]
  ·cases e
 ·obtain⟨G,ds,r,gh,rs,e,q⟩:=h;unfold fBody at e;split at e
  ·rename_i hl;refine⟨_,body HX A outer s H E hr,G,ds.map (fun d=>some (O.f,d))++List.replicate (N.length-ps.length) none,[],⟨?_,Uw,(fun _ h=>nomatch h),gh⟩,?_⟩
   ·have:=gY (K:=K) (G:=G) (H:=H) (N.length-ps.length) rs;unfold L2.start;rw[rs.length,hl];exact this
   ·obtain⟨o,eo,e⟩:=au e;rw[eo];cases o with
    |rt r'=>
     cases e;exact fun v H' G' HI st rel=>q v H' G' HI st rel
    |nx env'=>
     cases e;exact fun σ' H' G' HI st rel=>q .non H' G' [] (st.trans (Step.cut fun _ h=>nomatch h)) (rel.nilF.push rh)
    |bk env'=>cases e
    |ct env'=>cases e
  ·cases e
def yU(K:W.Frag):Sp:=fun vs H Q _=>∃(a:Addr) (ns:List Int),vs=[.ref a]/\SqL K H a (ns.map V.int)/\ns.length<=63/\∀H',Q (.bl true) H'
theorem DM{K:W.Frag}{F:List D->Res R}(h:∀ns:List Int,ns.length<=63->∃o,F [.lst (ns.map D.int)]=.ok (o,.bl true)):∀vs H Q E,yU K vs H Q E->spF K F vs H Q E:=by
 rintro vs H Q E ⟨a,ns,rfl,sq,hl,q⟩;obtain⟨o,e⟩:=h ns hl;refine⟨H,_,_,.refl _,?_,e,fun v H' G' HI st rel=>?_⟩
 ·refine .one ?_;rw[Rep];exact⟨a,_,rfl,sq,gm fun n _=>bB n⟩
 ·rw[cU rel.top];exact q H'
theorem _root_.L2.Room.u65{k:Nat}{A:Around}(r:Room k A):A.units+65<cLine:=by have:=r.un;lia
def DN(f:FX)(a:FG):FS:=fun env=>(f env).bind fun p=>(a p.1.2 p.2).bind fun e=>.ok (.nx e)
theorem DO{X:Cx}{tg e:Expr}{f:FX}{a:FG}{pos:Pos}(he:QE X e f)(hg:QG X tg a)(hs:swapsWithSole [tg] e pos.line X.env=pure false:=by rfl)(hw:swappedStores [tg] e X.env=pure none:=by rfl)
  (h1:(assignEach [tg] X.env).map (·.2)=[assign tg X.env]:=by rfl):QS (md:=md) X (.Assign [tg] e pos) (DN f a):=gL (CW he hg hs hw h1) fun Dd σ H HP=>by
 obtain⟨G,env,fp,rel,k⟩:=HP;unfold DN at k;match q:f env,k with
 | .ok (r,Hy),k=>
  have k:OutOk X.K G H fp Dd ((a r.2 Hy).bind fun e=>.ok (.nx e)):=k;match q2:a r.2 Hy,k with
  | .ok HN,k=>
   refine⟨G,env,fp,r,Hy,rel,q,fun v H1 G1 HZ HU HA=>?_⟩;obtain⟨G2,b,rv,Hz,HJ⟩:=HA.freeze;exact⟨G2,Hy,b,r.2,HN,Hz,rv,q2,fun σ' G' HI st Ij=>k σ' H1 G' HI (HU.trans (HJ.trans st)) Ij⟩
theorem GX{l:PySem.W.OpenLaw}{q:Program}{loose:List Str}{XP:(Str->Option Value)->Heap->Prop}{YP:World->Heap->Prop}{d:DefRec}{K:Params->W.Frag}{k:Nat}{x:Str}(hn:l.most=some 63)(Qe:d.params.defaults=[])(hr:Room k PySem.callerA)
  (hY:∀(w:World) (h:Heap),YP w h->(K w.params).In h)
  (F:∀(w:World) (mg:Str->Option Value) (fa:Addr) (h:Heap),(K w.params).In h->h.Ns mainGlobals mg->mg d.name=some (.ref fa)->
   ∃fd:FuncData,(∀(s:Shared) (u:Value),BindsTo s fd ⟨[u],[]⟩ [(x,u)])/\∀base:Heap,(K w.params).In base->base.Ns mainGlobals mg->FnOk l.prog w (K w.params) mg base Mn k fa fd [x] (yU (K w.params))):
  PySem.W.WalkO q loose XP YP l.row.toRowW d [] (fun f vs=>PySem.call f vs):=
 L2.AQ (n:=63) (k:=k) (x:=x) (CX:=fun _=>Mn) (sp:=fun w=>yU (K w.params)) hn (by decide) Qe hr hY F (fun _ _ a ns hl _ hS=>⟨a,ns,rfl,hS,hl,fun _=>rfl⟩) fun _ _ _ _ _ z=>z
theorem p9:bootBuiltins "max" = some (.builtin "max"):=by decide +kernel
theorem w5:bootBuiltins "min" = some (.builtin "min"):=by decide +kernel
theorem tH:bootBuiltins "sum" = some (.builtin "sum"):=by decide +kernel
theorem jO:bootBuiltins "sorted" = some (.builtin "sorted"):=by decide +kernel
theorem bI{K:W.Frag}{h:Heap}{mg:Str->Option Value}{x:Str}{st:Stmt}{f:Addr}{oc:Value}{od an:Option Addr}{NB:Array (Option Value)}{kV doc pm HX ct:Value}(X:K.In h)(G:h.Ns mainGlobals mg)
  (a:PySem.W.nsIn K mainGlobals x=some (some (.ref f))) (l:K.lookup f=some ⟨oc,od,.func (PySem.W.fnOf x x (eM st) (cM st) (defScope st) .none kV doc pm an HX ct),NB⟩)
  (c:PySem.W.codeIn K HX x=true) (k:PySem.W.keepIn K (.ref f)=true):Def K mg x st:=⟨f,_,zX l c k,PySem.W.mg_of X G a⟩
inductive tQL(K:W.Frag)(f:FI)(σ:L2.St)(H:Hp)(R:It->Hp->Prop):Prop
 |mk:∀G env fp ds env',Rel K G H env σ fp->f env=.ok (ds,env')->(∀J H' G' HI,Step G H fp G' H' HI->Rel K G' H' env' σ HI->(∀G2,Same G' G2->(∀(i:Nat) (r:PV.R) (v:V),env'[i]?=some (some r)->σ[i]?=some (some v)->Rep K G2 r.2 v)->Walk K G2 J ds)->R J H')->tQL K f σ H R
def OZ(X:Cx)(tg e:Expr)(f:FI):Prop:=PI X tg e (tQL X.K f)
theorem Walk.mono{K:W.Frag}{G G2:Hp}{J:It}{ds:List D}(w:Walk K G J ds)(gg:Same G G2):Walk K G2 J ds:=fun G' H' es vs fp g rel=>w G' H' es vs fp (gg.trans g) rel
theorem Ai{K:W.Frag}{fi:FI}{ix:List (Option Nat)}{a:FG}{c:FT}{f:FX}{σ:L2.St}{H:Hp}{Q:VK}(h:tQ K (di fi ix a c f) σ H Q):yv (tQL K fi) ix (tQG K a) (tQT K c) (tQ K f) σ H Q:=by
 obtain⟨G,env,fp,r,env',rel,e,k⟩:=h;obtain⟨⟨ds,Hy⟩,e1,e⟩:=au e;obtain⟨rs,e2,e⟩:=au e;refine⟨G,env,fp,ds,Hy,rel,e1,fun J H1 G1 HZ HU HA wk D hD=>?_⟩;dsimp only at e e2;split at e
 ·rename_i hz;have er:r=(.l .f,.lst rs):=by cases e;rfl
  have ee:env'=if flatDs rs then Hy else Hy.map frz:=by cases e;rfl
  subst er;obtain⟨G2,ML,NU,JV,hrE,JW⟩:=HA.lend;have wk2:=wk G2 ML JV;have Hz:Rel K G2 H1 (cN ix Hy) (jx ix σ) []:=⟨fO JV (fun i r er=>let⟨v,ev,_⟩:=HA.view er;⟨v,ev⟩) ix,Uw,(fun _ h=>nomatch h),NU⟩
  obtain⟨Ia,Ip⟩:=Hz.newL (ds:=[]) (xs:=[]) hD .nil;refine⟨fun i m σ1 H2=>m=ds.length-i/\i<=ds.length/\∃G' es HI acc dS,Step G2 H1 [] G' H2 HI/\Rel K G' H2 (some (.l .f,.lst acc)::es) (some (.ref D)::σ1) HI/\dm a c f (ds.drop i) es=.ok dS/\acc++dS=rs,
   ⟨_,rfl,Uj _,G2,cN ix Hy,_,[],rs,Ip,Ia,e2,rfl⟩,?_⟩
  rintro i m σ1 H2 ⟨rfl,hi,G3,es,Ji,acc,dS,JE,IB,e4,Ko⟩;obtain⟨w1,w2⟩:=wk2 G3 H2 _ _ _ JE.gg IB i;by_cases Iy:i<ds.length
  ·have hd:ds[i]?=some ds[i]:=List.getElem?_eq_getElem Iy;obtain⟨go,yl⟩:=w1 _ hd;rw[VT Iy]at e4;unfold dm at e4;obtain⟨Qz,h1,e4⟩:=au e4;obtain⟨⟨b,M8⟩,h2,e4⟩:=au e4;dsimp only at e4;refine .inr ⟨go,fun x H3 y=>?_⟩;obtain⟨G4,rx,Jm,Kd⟩:=yl x H3 y;obtain⟨fa,fb,NW,ra,LK,bk⟩:=Jm.frame;refine⟨G4,es,fb,ds[i],Qz,LK,rx,h1,fun σ2 G5 NH R3 O0=>?_⟩;refine⟨G5,Qz,NH,b,M8,O0,h2,fun H6 G6 QA R4 M9=>?_⟩;have Na:=R3.trans R4;cases b with
   |false=>
    refine iteF ⟨ds.length-(i+1),by lia,rfl,Iy,?_⟩;obtain⟨JB,Lj⟩:=bk G6 H6 M8 σ2 QA Na M9;rw[<-NW]at Lj;exact⟨G6,M8,_,acc,dS,JE.trans (Kd.trans Lj),JB,e4,Ko⟩
   |true=>
    have e4:((f M8).bind fun q=>(dm a c f (ds.drop (i+1)) q.2).bind fun rs=>.ok (q.1.2::rs))=.ok dS:=e4;obtain⟨⟨r,O1⟩,h3,e4⟩:=au e4;obtain⟨Nb,h4,e4⟩:=au e4;cases e4;refine Cy ⟨G6,M8,QA,r,O1,M9,h3,fun v H7 G7 fp7 R5 O2=>?_⟩;obtain⟨G8,R6,rv,O3,R7⟩:=O2.freeze;obtain⟨JB,Lj⟩:=bk G8 H7 O1 σ2 R6 (Na.trans (R5.trans R7)) O3;rw[<-NW]at Lj;obtain⟨p,xs,ep,hp,OC,cg⟩:=JB.chg (i:=0) (ds:=acc) (ds':=acc++[r.2]) rfl;have ep:some (some (V.ref D))=some (some (V.ref p)):=ep;cases ep;obtain⟨fq,O4,R8⟩:=cg (xs++[v]) (OC.app (.one rv));refine⟨xs,hp,?_,ds.length-(i+1),by lia,rfl,Iy,G8,O1,fq,acc++[r.2],Nb,JE.trans (Kd.trans (Lj.trans R8)),O4,h4,?_⟩
    ·rw[OC.length];have:=UN List.length Ko;rw[Ud,TJ]at this;lia
    ·rw[<-Ko,Ut];rfl
  ·have ei:i=ds.length:=by lia
   subst ei;rw[WX]at e4;cases e4;rw[T9]at Ko;subst Ko;refine .inl ⟨w2 rfl,?_⟩;obtain⟨fa,Nc,QB⟩:=IB.only;obtain⟨k1,k2⟩:=JW H2 G3 fa _ _ (JE.trans QB) Nc;rw[ee]at k;by_cases hc:flatDs acc=true
   ·rw[Tt hc]at k;obtain⟨G5,NH,Kd,Jm⟩:=k1 (by rw[aT,jF];exact hc);exact k _ H2 G5 NH (HU.trans Kd) Jm
   ·rw[TB hc]at k;obtain⟨G5,NH,Kd,Jm⟩:=k2;exact k _ H2 G5 NH (HU.trans Kd) Jm
 ·cases e
section
variable{md:Mode}{X:Cx}{scope:Scope}{N:List Str}{tg iter elt:Expr}{ifs:List Expr}{pos:Pos}{fi:FI}{a:FG}{c:FT}{f:FX}
variable{l e:Expr}{g fj:FI}
theorem bV(h:QI X tg e fi):OZ X tg e fi:=jE h fun σ H R ⟨G,env,fp,ds,env',rel,e,k⟩=>⟨G,env,fp,ds,env',rel,e,fun J H' G' HI st Ij wk=>k J H' G' HI st Ij fun _ gg _=>wk.mono gg⟩
theorem iS(h:OZ X tg e fi)(h2:OZ X tg e fj):OZ X tg e (JI fi fj):=fun pi s σ H R I HP=>by
 obtain⟨G,env,fp,ds,env',rel,ee,k⟩:=HP;rcases Ag ee with z|z
 ·exact h pi s σ H R I ⟨G,env,fp,ds,env',rel,z,k⟩
 ·exact h2 pi s σ H R I ⟨G,env,fp,ds,env',rel,z,k⟩
def mn(i:Nat):FI:=fun env=>match env[i]? with
 |some (some (_,.lst ds))=>.ok (ds,env)
 |_=>.bad
theorem mq{i:Nat}(h:PE X l (yd i)):OZ X tg l (mn i):=jE (vE h) fun σ H R HP=>by
 obtain⟨G,env,fp,ds,env',rel,e,k⟩:=HP;unfold mn at e;split at e
 ·rename_i o ds hr;cases e;obtain⟨v,ev,rv⟩:=rel.view hr;obtain⟨p,xs,SN,sq,rs⟩:=bM rv;refine⟨v,ev,p,SN,⟨xs,sq⟩,k _ H G fp .refl rel fun G2 gg JV=>?_⟩;obtain⟨p',IJ,QC,JA,JH⟩:=bM (JV i _ v hr ev);rw[SN]at QC;cases QC;exact p3 JA JH
 ·cases e
theorem bN(ix:List (Option Nat))(N:List Str)(hc:X.calm=true)(hi:OZ X tg iter fi)(hg:∀C s H fp pn,QG (bK X scope N C s H fp pn) tg a)(ht:∀C s H fp pn,PZ (bK X scope N C s H fp pn) ifs c)(he:∀C s H fp pn,QE (bK X scope N C s H fp pn) elt f)
  (hf:gX scope X.env=true:=by rfl) (hk:scope.kind=.function:=by rfl) (Ik:∀y∈scope.names,y.2≠.cell:=by decide +kernel) (IA:∀y∈scope.names,y.2=.local->scope.names.lookup y.1=some .local:=by decide +kernel) (J2:x4 X scope N ix=true:=by rfl)
  (hs:∀x,foldedSetIterable iter X.env x=pure x:=by intro _;rfl):QE X (.ListComp elt [⟨tg,iter,ifs,0⟩] scope pos) (di fi ix a c f):=
 bx (wc (g:=tQG X.K a) (tc:=tQT X.K c) (te:=tQ X.K f) ix N hc hi hg ht he hf hk Ik IA J2 hs) fun _ _ _=>Ai
theorem jP{i:Nat}{y:Str}{py Le:Pos}(ix:List (Option Nat))(N:List Str)(hN:X.N.Nodup)(Qk:X.N[i]?=some y)(hy:Loc X.env.scope y)(hc:X.calm=true)(hi:OZ X tg iter fi)(hg:∀C s H fp pn,QG (bK X scope N C s H fp pn) tg a)(ht:∀C s H fp pn,PZ (bK X scope N C s H fp pn) ifs c)
  (he:∀C s H fp pn,QE (bK X scope N C s H fp pn) elt f) (Ql:swapsWith (.ListComp elt [⟨tg,iter,ifs,0⟩] scope pos) (some (.Name y py)) Le.line X.env=pure true:=by rfl)
  (hf:gX scope X.env=true:=by rfl) (hk:scope.kind=.function:=by rfl) (Ik:∀y∈scope.names,y.2≠.cell:=by decide +kernel) (IA:∀y∈scope.names,y.2=.local->scope.names.lookup y.1=some .local:=by decide +kernel) (J2:x4 X scope N ix=true:=by rfl)
  (hs:∀x,foldedSetIterable iter X.env x=pure x:=by intro _;rfl) (MP:X.fn y=true\/X.env.scope.names.lookup y=some .local:=by first|exact .inl rfl|exact .inr rfl):
  QS (md:=md) X (.Assign [.Name y py] (.ListComp elt [⟨tg,iter,ifs,0⟩] scope pos) Le) (bP i (di fi ix a c f)):=
 gL (wd (i:=i) (g:=tQG X.K a) (tc:=tQT X.K c) (te:=tQ X.K f) ix N hN Qk hy hc hi hg ht he Ql hf hk Ik IA J2 hs MP) fun D σ H ⟨G,env,fp,rel,k⟩=>Ai (ri rel k)
end
section
variable{X:Cx}{a:Expr}{pos:Pos}{fa:FO}
def Hv(fa:FO):FX:=fun env=>(fa env).bind fun p=>(Jj p.2 p.1).bind fun d=>match d with
 | .int i=>.ok ((.f,.int (-i)),p.2)
 |_=>.bad
theorem w6{i:Int}(h:i.natAbs<2 ^ 1000):Builtin.Int.intBits i<=2 ^ 20:=by
 unfold Builtin.Int.intBits;split
 ·exact Uj _
 ·rename_i h0;have h1:i.natAbs≠0:=by
   intro e;rw[Int.natAbs_eq_zero]at e;exact h0 (by rw[e];rfl)
  have:=(Nat.log2_lt h1).mpr h;have e:(2:Nat) ^ 20=1048576:=by decide
  lia
theorem Bu:Ir X (binaryOp .Mult) (rI (fun i j=>i.natAbs<2 ^ 1000/\j.natAbs<2 ^ 1000) fun i j=>.int (i*j)):=P9 fun _ _ _ _ _ _ _ hc q=>mul_int q (.of_bits (w6 hc.1) (w6 hc.2))
theorem qa{α:Type}:∀(ls:List (Array α)) (acc:Array α),(ls.foldl (·++·) acc).toList=acc.toList++(ls.map Array.toList).flatten
 |[],acc=>by simp
 |a::ls,acc=>by
  rw[Uc,qa ls,Array.toList_append,TZ,U1,Ut]
theorem FA(l:List Nat)(n:Nat):(⟨(List.replicate n (S l).cps).foldl (·++·) #[]⟩:Str)=S (List.replicate n l).flatten:=by
 have h:((List.replicate n (S l).cps).foldl (·++·) #[]).toList=(List.replicate n l).flatten:=by
  rw[qa,List.map_replicate];simp only[dP,Vl]
 show Str.mk _=Str.mk _;rw[<-h]
theorem Bv(a b:Int):Ft (.int a) (.int b)=if dq a||dq b then .ok (.f,.int (a*b)) else .bad:=rfl
noncomputable def Bw:D->D->Res R
 | .int i,.int j=>if dq i||dq j then .ok (.f,.int (i*j)) else if i.natAbs<2 ^ 1000/\j.natAbs<2 ^ 1000 then .ok (.f,.int (i*j)) else .bad
 | .str l,.int k=>if 2<=k/\k<=1000/\1<=l.length/\l.length<=1000 then .ok (.f,.str (List.replicate k.toNat l).flatten) else .bad
 |_,_=>.bad
theorem Bx:Ir X (binaryOp .Mult) (rG X.K Bw):=by
 rintro pi s σ H x y v u Q I rx ry ⟨G,fp,es,vs,a,b,r,⟨rel,k⟩,va,vb,e⟩;unfold Bw at e;split at e
 ·rename_i i j;split at e
  ·rename_i hc;exact DB pi s σ H x y v u Q I rx ry ⟨G,fp,es,vs,.int i,.int j,r,⟨rel,k⟩,va,vb,by rw[Bv,Tt hc];exact e⟩
  ·split at e
   ·rename_i hc;cases e;cases bH va;cases bH vb;exact Bu pi s σ H _ _ v u Q I rx ry ⟨i,j,rfl,rfl,hc,k _ H G fp .refl (rel.push (bB _))⟩
   ·cases e
 ·rename_i l j;split at e
  ·rename_i hc;cases e;obtain⟨ev,hl⟩:=gM va;subst ev;cases bH vb;obtain⟨t,rfl⟩:=rx;obtain⟨t',rfl⟩:=ry;have hlen:(S l).length=l.length:=pP l;have hz:(List.replicate j.toNat l).flatten.length<=1000000:=by
    rw[oj];exact XC (by lia:j.toNat<=1000) hc.2.2.2
   have Li:(List.replicate j.toNat l).flatten.length<=sizeLine:=Uq hz (by decide);refine PySem.P.mul_str ?_ ?_ ?_ ?_
   ·rw[Ui (by lia),Ui (by lia)];rfl
   ·intro _ _;rw[hlen];have h1:1000<=(2 ^ 63-1) / j:=(Int.le_ediv_iff_mul_le (by lia)).mpr (by lia);lia
   ·intro _ _;unfold Builtin.Str.tooLong;rw[UL,hlen,Yk,<-oj];lia
   ·rw[TB (by lia),TB (by rw[hlen,Xf,T6,T6];lia),FA];refine⟨?_,?_⟩
    ·rw[pP];exact Li
    ·exact⟨.str (S (List.replicate j.toNat l).flatten),H,I.tok _,⟨_,rfl⟩,k _ H G fp .refl (rel.push (jd Li))⟩
  ·cases e
 ·cases e
end
end PV
namespace HT
open PySem PySem.Spec PyProof.Rows L2
variable{prog:Program}{w:World}{A:Around}{E:Value->Shared->Prop}{s:Shared}
theorem jQ{t sl:Addr}{items:Array Value}{vl vu:Value}{lo hi:Option Int}{Q:Value->Shared->Prop}(ht:IsTup s.heap t items)(hs:s.heap.IsSliceOf sl vl vu .none)(pl:IsPart vl lo)(pu:IsPart vu hi)
  (hw:sIx items.size 0 lo=0/\sIx items.size items.size hi=items.size) (h:Q (.ref t) s):wpAny (model prog w) A (getItem (.ref t) (.ref sl)) Q E s:=by
 obtain⟨os,NL,Ri,NM⟩:=id hs;have RH:s.TypeIs (.ref sl) "slice":=⟨os,NL,Ri⟩
 unfold getItem;try with_reducible refine U2 ?_
 first|refine Tj (Tr ?_)|skip
 refine Tj (wpAny_sequenceKey ht.typeIs (by decide) ?_);refine Tj (wpAny_callSpecial?_slot (name:=Str.ofString "__getitem__") ht.typeIs U0
  (UJ U0 ht.typeIs entry_tuple_getitem ?_ (args_tuple_getitem _ _)))
 show wpAny _ _ (Builtin.Tuple.tupleItemsOf (.ref t) >>= _) _ _ s;refine Tj (tupleItemsOf_ ht ?_);refine Tj (VZ RH ?_);rw[Tt (by decide)];refine Tj (gK hs pl pu ?_);have hyes:(((sIx items.size 0 lo:Nat):Int)==0&&(1:Int)==1&&(sIx items.size items.size hi-sIx items.size 0 lo)==items.size)=true:=by
  rw[hw.1,hw.2];simp
 show wpAny _ _ (if(((sIx items.size 0 lo:Nat):Int)==0&&(1:Int)==1&&(sIx items.size items.size hi-sIx items.size 0 lo)==items.size)=true then _ else _) _ _ s;rw[Tt hyes];refine Tj (m:=Builtin.Tuple.tupleIsExact _) ?_;unfold Builtin.Tuple.tupleIsExact;refine Tj (VZ ht.typeIs (Tr ?_));rw[Tt (by decide)];exact Tj (WG (Tr ⟨_,rfl,Tr h⟩))
end HT
namespace PV
open PySem PySem.Spec PyProof.Rows L2 NX
section
variable{X:Cx}{pos:Pos}{fa:FO}
theorem By:OO X (fun x lo hi H Q=>∃a xs,x=.ref a/\SqT X.K H a xs/\(HT.sIx xs.length 0 lo=0/\HT.sIx xs.length xs.length hi=xs.length)/\Q x H):=by
 intro pi s σ H x v vl vu lo hi sl Q I rx hs pl pu h;obtain⟨a,xs,rfl,hx,hw,q⟩:=h;cases rx;obtain⟨HB,r,ht,hz⟩:=I.tuple hx;have hlen:HB.toArray.size=xs.length:=by rw[Tv];exact r.length.symm
 refine⟨"tuple",_,PyProof.Rows.slot_tuple_getitem.lookup,ht.typeIs,?_⟩;exact HT.jQ ht hs pl pu (by rw[hlen];exact hw) ⟨.ref a,H,I,rfl,q⟩
def QD(k:D)(lo hi:Option Int):Res R:=match k with
 | .tup ds=>if HT.sIx ds.length 0 lo=0/\HT.sIx ds.length ds.length hi=ds.length then .ok (.f,.tup ds) else Qw k lo hi
 |_=>Qw k lo hi
def uI(fa:FO)(lo hi:FP):FX:=fun env=>(fa env).bind fun p=>(lo p.2).bind fun q=>(hi q.2).bind fun t=>(Jj t.2 p.1).bind fun d=>(QD d q.1 t.1).bind fun r=>.ok (r,t.2)
inductive rSlW(K:W.Frag)(x:V)(lo:Option Int)(hi:Option Int)(H:Hp)(Q:VK):Prop
 |mk:∀G fp es vs d r,Goes K H G fp es vs r Q->Vw K G H d x->QD d lo hi=.ok r->rSlW K x lo hi H Q
theorem DP:OO X (rSlW X.K):=by
 rintro pi s σ H x v vl vu lo hi sl Q I rx hs pl pu ⟨G,fp,es,vs,d,r,⟨rel,k⟩,vd,e⟩;unfold QD at e;split at e
 ·rename_i ds;split at e
  ·rename_i hw;cases e;obtain⟨p,xs,ev,sq,rs⟩:=iQ vd;subst ev;refine By pi s σ H _ v vl vu lo hi sl Q I rx hs pl pu ⟨p,xs,rfl,bY rel.gh sq,by rw[rs.length];exact hw,?_⟩;exact k _ H G fp .refl (rel.push vd)
  ·exact DE pi s σ H x v vl vu lo hi sl Q I rx hs pl pu ⟨G,fp,es,vs,_,r,⟨rel,k⟩,vd,e⟩
 ·exact DE pi s σ H x v vl vu lo hi sl Q I rx hs pl pu ⟨G,fp,es,vs,_,r,⟨rel,k⟩,vd,e⟩
theorem kQ{e:Expr}{lo hi:Option Expr}{p2:Pos}{fl fh:FP}(he:QO X e fa)(hl:QP X lo fl)(hh:QP X hi fh):QE X (.Subscript e (.Slice lo hi none p2) pos) (uI fa fl fh):=
 bx (yo DP he hl hh) fun σ H Q HP=>by
  obtain⟨G,env,fp,r,env',rel,e,k⟩:=HP;obtain⟨⟨o,Hy⟩,e1,e⟩:=au e;obtain⟨⟨i,HN⟩,e2,e⟩:=au e;obtain⟨⟨j,Jo⟩,e3,e⟩:=au e;obtain⟨d,e4,e⟩:=au e;obtain⟨r',e5,e⟩:=au e;cases e;exact⟨G,env,fp,o,Hy,rel,e1,fun v H1 G1 HZ HU HA Jz=>⟨G1,Hy,HZ,i,HN,HA,e2,fun H2 G2 Ig HJ Hz=>⟨G2,HN,Ig,j,Jo,Hz,e3,fun H3 G3 Ji Ip Ia=>
   ⟨G3,Ji,Jo,σ,d,r,⟨Ia,fun v H' G' HI st Ij=>k v H' G' HI (HU.trans (HJ.trans (Ip.trans st))) Ij⟩,Ia.vw ((Jz.mono HJ.gg).mono Ip.gg) e4,e5⟩⟩⟩⟩
end
end PV
namespace L2
open PySem PySem.Spec PyProof.Rows
section
variable{X:Cx}{tg:Expr}
def w9(i j c:Int):Prop:=(-1048576<=i/\i<=1048576)/\(-1048576<=j/\j<=1048576)/\(c = -1\/1<=c)/\c<=1048576
instance (i j c:Int):Decidable (w9 i j c):=by unfold w9;infer_instance
end
end L2
namespace PV
open PySem PySem.Spec PyProof.Rows L2 NX
section
variable{X:Cx}{tg:Expr}
def Bz:List D->Res R
 |[d]=>match(m9 d).bind cC with
  |some (n::ns)=>.ok (.f,.int (ni (n::ns)))
  |_=>.bad
 |[.int i,.int j]=>.ok (.f,.int (if j<i then j else i))
 |_=>.bad
theorem xa(hc:X.calm=true):dD X (.builtin "min") (rC X.K Bz):=by
 rintro pi s σ H xs us Q I rx ⟨G,fp,es,vs,ds,r,⟨rel,k⟩,vd,e⟩;unfold Bz at e;split at e
 ·rename_i d;split at e
  ·rename_i n ns hb;cases e;obtain⟨v,ev,vt⟩:=pq vd;obtain⟨p,ep,sq⟩:=gZ rel.gh hb vt;subst ev;subst ep;exact wg hc pi s σ H _ us Q I rx ⟨p,n::ns,rfl,sq,by simp,k _ H G fp .refl (rel.push (bB _))⟩
  ·cases e
 ·rename_i i j;cases e;obtain⟨v,w',ev,v1,v2⟩:=Ga vd;subst ev;cases bH v1;cases bH v2;exact vN hc pi s σ H _ us Q I rx ⟨i,j,rfl,k _ H G fp .refl (rel.push (bB _))⟩
 ·cases e
def Hw:List D->Res R
 |[.int i]=>.ok (.f,.int (if i<0 then -i else i))
 |_=>.bad
noncomputable def FC(fs:FOs):FI:=fun env=>(fs env).bind fun p=>(qM p.2 p.1).bind fun d=>match d with
 |[.int i,.int j,.int c]=>if w9 i j c then .ok ((List.range (Builtin.Range.rangeSize i j c).toNat).map fun(k:Nat)=>D.int (i+(k:Int)*c),p.2) else .bad
 |_=>.bad
end
end PV
namespace NX
open PySem PySem.Spec PyProof.Rows L2
section
open PySem.SeqAt
open PySem.AutoSeq1 (wpAny_loadPart')
theorem mr{M:Model}{A:Around}{E:Value->Shared->Prop}{s:Shared}{β:Type}(f:Nat->β->Sem (ForInStep β))(n:Nat)(I:Nat->β->Shared->Prop)(Q:β->Shared->Prop)
  (turn:∀(i:Nat) (b:β) (s:Shared),i<n->I i b s->wpAny M A (f i b) (fun r s'=>match r with | .yield b'=>I (i+1) b' s' | .done b'=>Q b' s') E s)
  (fin:∀(b:β) (s:Shared),I n b s->Q b s) (b:β) (h:I 0 b s):wpAny M A (forIn [0:n] b f) Q E s:=by
 rw[Std.Legacy.Range.forIn_eq_forIn_range'];refine wpAny_forIn_list f (fun dS b s=>∃i,i<=n/\dS=List.range' i (n-i)/\I i b s) Q ?_ ?_ _ b ?_
 ·rintro x dS b s ⟨i,hi,hr,h⟩;by_cases OD:i<n
  ·have e:n-i=(n-(i+1))+1:=by lia
   rw[e,List.range'_succ]at hr;injection hr with h1 h2;subst h1;refine HW (turn x b s OD h) fun r s' SO=>?_
   cases r with
   |yield b'=>exact⟨x+1,by lia,h2,SO⟩
   |done b'=>exact SO
  ·have e:n-i=0:=by lia
   rw[e]at hr;cases hr
 ·rintro b s ⟨i,hi,hr,h⟩;by_cases OD:i<n
  ·have e:n-i=(n-(i+1))+1:=by lia
   rw[e,List.range'_succ]at hr;cases hr
  ·have e:i=n:=by lia
   subst e;exact fin b s h
 ·refine⟨0,Uj _,?_,h⟩;simp[Std.Legacy.Range.size]
theorem lA(l:Addr)(items:Array Value)(n:Nat)(dd:Option Addr)(sl:Array (Option Value))(ns:List Str)(c:Str)(t:Tok)(hi:Vals (ns.map V.str) items.toList)(i:Nat)(hx:ns[i]?=some c)(h0:∀j,j<i->ns[j]?≠some c):
  Meets (Builtin.«tuple.index» ⟨[.ref l,.str c t],[]⟩)
   (fun _ R s=>s.heap.get? l=some {cls:=.type "tuple",dict:=dd,data:=.seq items n,slots:=sl}/\R (.ok (.ret (.int (i:Int) s.toks))) {s with toks:=s.toks+1}):=
 .of_wp fun prog w A R s h=>by
  obtain⟨hp,g,d,tk,os⟩:=s;obtain⟨hl,h⟩:=h;have z1:items.size=ns.length:=by have:=hi.length;simp at this;lia
  have OD:i<ns.length:=(List.getElem?_eq_some_iff.mp hx).1;have key:∀(j:Nat),j<ns.length->∃(b:Str) (u:Tok),items[j]?=some (.str b u)/\ns[j]?=some b:=by
   intro j hj;obtain⟨v,hv,hr⟩:=hi.get (i:=j) (x:=V.str ns[j]) (by simp[hj]);obtain⟨u,rfl⟩:=hr;exact⟨ns[j],u,by rw[<-Array.getElem?_toList];exact hv,by simp[hj]⟩
  wp_walk using wpAny_loadPart' hl,mr _ _ (fun j b s'=>b.1=none/\s'=⟨hp,g,d,tk,os⟩/\j<=i) _
  case turn=>
   rintro j ⟨b1,b2⟩ s' hj ⟨hb,rfl,SQ⟩;simp only at hb;subst hb;obtain⟨b,u,e1,e2⟩:=key j (by lia);have he:EqAt A.in1 ⟨hp,g,d,tk,os⟩ (.str b u) (.str c t) (b==c):=EqAt.str_str b u c t;by_cases hbc:b=c
   ·have hji2:j=i:=by
     rcases Nat.lt_or_ge j i with Iy|R9
     ·exact absurd (by rw[e2,hbc]) (h0 j Iy)
     ·lia
    subst hji2 hbc;rw[e1];refine Tj (he prog w _ _ ?_);rw[show(b==b)=true from T1 b]
    wp_walk
    exact⟨_,rfl,h⟩
   ·rw[e1];refine Tj (he prog w _ _ ?_);rw[show(b==c)=false from UC.mpr hbc]
    wp_walk
    refine⟨rfl,rfl,?_⟩;rcases Nat.lt_or_ge j i with Iy|R9
    ·exact Iy
    ·have:j=i:=by lia
     subst this;rw[e2]at hx;cases hx;exact absurd rfl hbc
  case fin=>
   rintro⟨b1,b2⟩ s' ⟨hb,rfl,SQ⟩;rw[Yl]at SQ;lia
  case h=>exact⟨rfl,rfl,Uj _⟩
end
end NX
namespace L2
open PySem PySem.Spec PyProof.Rows
section
variable{X:Cx}{o e:Expr}{es:List Expr}{to:TE}{t:TA}{name:Str}{apos HV:Pos}{id:String}{r:V->List V->Hp->VK->Prop}
def GY(K:W.Frag)(r:V->List V->Hp->VK->Prop)(to:TE)(t:TA):TE:=fun σ H Q=>to σ H fun x H1=>(∃p ys,x=.ref p/\SqT K H1 p ys)/\t σ H1 fun xs H2=>r x xs H2 Q
theorem DQ(slot:Slot "tuple" name id)(MT:typeOf (.builtin id)=pure (.type "method_descriptor"))(hm:OA X id r)(ho:PE X o to)(ha:PA X (e::es) t)
  (Iv:attributeBase o name X.env (eval o X.env)=eval o X.env:=by rfl)
  (KP:((backTo HV (starEach (e::es) X.env)).all (fun x=>!x.1)&&(backToKw HV (keywordEach [] X.env)).all (fun x=>x.1.isSome)
   && decide ((e::es).length+([]:List Keyword).length+(if([]:List Keyword).isEmpty then 0 else 1)<30))=true:=by rfl)
  (Iw:(apos.endLine==HV.line)=true:=by rfl) (hs:starEach (e::es) X.env=(false,eval e X.env)::starEach es X.env:=by rfl) (IY:(backTo HV (starEach es X.env)).any (·.1)=false:=by rfl):
  PE X (.Call (.Attribute o name apos) (e::es) [] HV) (GY X.K r to t):=by
 intro pi s σ H Q I h;refine wpAny_Call_method_late Iv KP Iw rfl (HW (ho pi s σ H _ I h) fun v s1 HY=>?_);obtain⟨x,H1,I1,r1,⟨p,ys,ex,sq⟩,q1⟩:=HY;subst ex;cases r1;obtain⟨HB,_,⟨ob,ho,hc,⟨n,hd⟩,hn⟩,_⟩:=I1.tupleN sq;refine⟨"tuple",id,PySem.F.plainAttrs_tuple,slot,MT,⟨ob,ho,hc⟩,fun a e2=>?_,?_⟩
 ·cases e2;exact⟨ob,ho,hn⟩
 have hA:=ha HV pi s1 σ H1 _ I1 q1;rw[hs]at hA ⊢;refine VJ (by show(false||(backTo HV (starEach es X.env)).any (·.1))=false;rw[IY] <;> rfl) (Calls.evalArgs_plain ?_);exact HW hA fun us s2 ⟨vs,H2,I2,r2,q2⟩=>hm pi s2 σ H2 (.ref p) vs _ us Q I2 rfl r2 q2
end
end L2
namespace PV
open PySem PySem.Spec PyProof.Rows L2 NX
section
variable{X:Cx}
noncomputable def rB(g:List D->List D->Res R)(fa:FO)(fs:FOs):FX:=fun env=>(fa env).bind fun p=>(Jj p.2 p.1).bind fun a=>match a with
 | .tup _=>(fs p.2).bind fun q=>(Jj q.2 p.1).bind fun a2=>match a2 with
  | .tup l=>(qM q.2 q.1).bind fun ds=>(g l ds).bind fun r=>.ok (r,q.2)
  |_=>.bad
 |_=>.bad
inductive rMtT(K:W.Frag)(g:List D->List D->Res R)(x:V)(xs:List V)(H:Hp)(Q:VK):Prop
 |mk:∀G fp es vs l ds r,Goes K H G fp es vs r Q->Vw K G H (.tup l) x->OY K G H ds xs->g l ds=.ok r->rMtT K g x xs H Q
theorem kR{g:List D->List D->Res R}{id:String}{name:Str}{o e:Expr}{es:List Expr}{fa:FO}{fs:FOs}{apos HV:Pos}(slot:Slot "tuple" name id)(MT:typeOf (.builtin id)=pure (.type "method_descriptor"))(hm:OA X id (rMtT X.K g))(ho:QO X o fa)(ha:Md X (e::es) fs)
  (Iv:attributeBase o name X.env (eval o X.env)=eval o X.env:=by rfl)
  (KP:((backTo HV (starEach (e::es) X.env)).all (fun x=>!x.1)&&(backToKw HV (keywordEach [] X.env)).all (fun x=>x.1.isSome)&&decide ((e::es).length+([]:List Keyword).length+(if([]:List Keyword).isEmpty then 0 else 1)<30))=true:=by rfl)
  (Iw:(apos.endLine==HV.line)=true:=by rfl) (hs:starEach (e::es) X.env=(false,eval e X.env)::starEach es X.env:=by rfl) (IY:(backTo HV (starEach es X.env)).any (·.1)=false:=by rfl):
  QE X (.Call (.Attribute o name apos) (e::es) [] HV) (rB g fa fs):=by
 refine bx (DQ slot MT hm ho ha Iv KP Iw hs IY) fun σ H Q HY=>?_
 obtain⟨G,env,fp,r,env',rel,e,k⟩:=HY;obtain⟨⟨oa,Hy⟩,e1,e⟩:=au e;obtain⟨da,M1,e⟩:=au e;dsimp only at e;split at e
 ·obtain⟨⟨os,HN⟩,e2,e⟩:=au e;obtain⟨d2,hd2,e⟩:=au e;dsimp only at e;split at e
  ·obtain⟨ds,e3,e⟩:=au e;obtain⟨r',e4,e⟩:=au e;cases e;refine⟨G,env,fp,oa,Hy,rel,e1,fun v H1 G1 HZ HU HA Jz=>?_⟩;obtain⟨p,xs,ev,sq,_⟩:=bz (Vw.rep HA.gh (HA.vw Jz M1));exact⟨⟨p,xs,ev,sq⟩,G1,Hy,HZ,os,_,HA,e2,fun vs H2 G2 Ig HJ Hz Lw=>⟨G2,Ig,_,σ,_,ds,r,⟨Hz,fun v H' G' HI st Ij=>k v H' G' HI (HU.trans (HJ.trans st)) Ij⟩,Hz.vw (Jz.mono HJ.gg) hd2,Hz.vws Lw e3,e4⟩⟩
  ·cases e
 ·cases e
def iM(l:List D):List D->Res R
 |[.str c]=>match iR l with
  |some bs=>if c∈bs then .ok (.f,.int (bs.idxOf c:Nat)) else .bad
  |none=>.bad
 |_=>.bad
def CA(l:List D):List D->Res R
 |[.str c]=>match iR l with
  |some bs=>.ok (.f,.int (bs.count c:Nat))
  |none=>.bad
 |_=>.bad
theorem Aj{a b:List Nat}(h:S a=S b):a=b:=by
 have:=UN (fun s:Str=>s.cps.toList) h;simpa only[dP] using this
theorem tI:∀(bs:List (List Nat)) (c:List Nat) (j:Nat),bs[j]?=some c->bs.idxOf c<=j
 |[],c,j,h=>by simp at h
 |b::bs,c,0,h=>by
  simp at h;subst h;simp[Xl]
 |b::bs,c,j+1,h=>by
  rw[List.getElem?_cons_succ]at h;have:=tI bs c j h;rw[Xl];cases b==c with
  |true=>exact Uj _
  |false=>exact Nat.succ_le_succ this
def SR(c:Str):Value->Bool
 | .str b _=>b==c
 |_=>false
theorem nR(c:List Nat):∀(bs:List (List Nat)) (HB:List Value),Vals (bs.map fun l=>V.str (S l)) HB->HB.countP (SR (S c))=bs.count c
 |[],HB,h=>by cases h;rfl
 |b::bs,HB,h=>by
  cases h with
  |cons r rr=>
   obtain⟨t,rfl⟩:=r;rw[List.countP_cons,List.count_cons,nR c bs _ rr];congr 1
   show(if(S b==S c)=true then 1 else 0)=_;by_cases hbc:b=c
   ·rw[hbc,Tt (T1 _),Tt (T1 _)]
   ·rw[TB (by rw[T6];exact fun e=>hbc (Aj e)),TB (by rw[T6];exact hbc)]
theorem rD:OA X "tuple.count" (rMtT X.K CA):=by
 rintro pi s σ H x xs v us Q I rx rv ⟨G,fp,es,vs,l,ds,r,⟨rel,k⟩,vx,vd,e⟩;unfold CA at e;split at e
 ·rename_i c;split at e
  ·rename_i bs hb;cases e;obtain⟨p,ys,ev,sq,rs⟩:=bz (Vw.rep rel.gh vx);obtain⟨hy,_⟩:=gk hb rs;subst ev;cases rx;obtain⟨w',ew,vc⟩:=pq vd;obtain⟨ev,_⟩:=gM vc;subst ew;subst ev;obtain⟨u,rfl,t',rfl⟩:=fK rv;obtain⟨HB,vl,⟨ob,h1,h2,⟨n,h3⟩,h4⟩,_⟩:=I.tupleN sq;subst hy;obtain⟨cls,dict,data,slots⟩:=ob;dsimp only at h2 h3 h4;subst h2 h3 h4;refine WY WI ⟨_,h1,rfl⟩ PySem.F.entry_tuple_count (PySem.F.args_tuple_count_2 _ _) (PySem.SeqAt.tuple_countAt p HB.toArray n _ _ (.str (S c) t') (SR (S c))) ⟨h1,fun y hy=>?_,⟨.int (bs.count c:Nat),H,I.tok _,⟨s.toks,?_⟩,k _ H G fp .refl (rel.push (bB _))⟩⟩
   ·have hy:y∈HB:=by simpa using hy
    obtain⟨i,hi,rfl⟩:=List.getElem_of_mem hy;have hl:=vl.length;rw[To]at hl;obtain⟨v,hv,hr⟩:=vl.get (i:=i) (x:=V.str (S bs[i])) (by rw[List.getElem?_map,List.getElem?_eq_getElem (by lia)];rfl);rw[List.getElem?_eq_getElem hi]at hv;cases hv;obtain⟨t,e⟩:=hr;rw[e];exact PySem.SeqAt.EqAt.str_str _ _ _ _
   ·rw[VU,nR c bs HB vl]
  ·cases e
 ·cases e
theorem cW:OA X "tuple.index" (rMtT X.K iM):=by
 rintro pi s σ H x xs v us Q I rx rv ⟨G,fp,es,vs,l,ds,r,⟨rel,k⟩,vx,vd,e⟩;unfold iM at e;split at e
 ·rename_i c;split at e
  ·rename_i bs hb;split at e
   ·rename_i hc;cases e;obtain⟨p,ys,ev,sq,rs⟩:=bz (Vw.rep rel.gh vx);obtain⟨hy,_⟩:=gk hb rs;subst ev;cases rx;obtain⟨w',ew,vc⟩:=pq vd;obtain⟨ev,_⟩:=gM vc;subst ew;subst ev;obtain⟨u,rfl,t',rfl⟩:=fK rv;obtain⟨HB,vl,⟨ob,h1,h2,⟨n,h3⟩,h4⟩,_⟩:=I.tupleN sq;subst hy;obtain⟨cls,dict,data,slots⟩:=ob;dsimp only at h2 h3 h4;subst h2 h3 h4;have Iy:=UH hc;refine WY Uv ⟨_,h1,rfl⟩ PySem.F.entry_tuple_index (PySem.F.args_tuple_index_2 _ _) (lA p HB.toArray n _ _ (bs.map S) (S c) t' (by rw[TN];exact vl) (bs.idxOf c) ?_ ?_) ⟨h1,⟨.int (bs.idxOf c:Nat),H,I.tok _,⟨_,rfl⟩,k _ H G fp .refl (rel.push (bB _))⟩⟩
    ·rw[List.getElem?_map,List.getElem?_eq_getElem Iy,List.getElem_idxOf Iy];rfl
    ·intro j hj he;rw[List.getElem?_map,List.getElem?_eq_getElem (by lia)]at he;have he:=Aj (Ua he);have:=tI bs c j (by rw[List.getElem?_eq_getElem (by lia),he]);lia
   ·cases e
  ·cases e
 ·cases e
def cB(a b:D):Res R:=match a,b with
 | .tup [],.tup l=>.ok (.f,.tup l)
 |a,b=>addD a b
theorem aQ:Ir X (binaryOp .Add) (rG X.K cB):=by
 rintro pi s σ H x y v u Q I rx ry ⟨G,fp,es,vs,a,b,r,⟨rel,k⟩,va,vb,e⟩;unfold cB at e;split at e
 ·rename_i l;cases e;obtain⟨p,xs,e1,h1,r1⟩:=iQ va;obtain⟨p2,PY,e2,h2,r2⟩:=iQ vb;subst e1;subst e2;cases rx;cases ry;have hx:xs=[]:=Ue (by rw[r1.length];rfl);subst hx;obtain⟨HB,v1,⟨⟨cls,dd,data,sl⟩,ho,hc,n,hd⟩,_⟩:=I.tuple (bY rel.gh h1);obtain⟨Ml,v2,⟨⟨ON,NC,data2,ND⟩,JU,Kt,n2,hd2⟩,_⟩:=I.tuple (bY rel.gh h2);dsimp only at hc hd Kt hd2;subst hc hd Kt hd2;cases v1;exact Xc ⟨_,ho,rfl⟩ ⟨_,JU,rfl⟩ WU XT V6 V2 (VY _ _) (tuple_addW0 p p2 _ _ n n2 dd NC sl ND rfl) ⟨ho,JU,⟨.ref p2,H,I,rfl,k _ H G fp .refl (rel.push vb)⟩⟩
 ·exact DA pi s σ H _ _ v u Q I rx ry ⟨G,fp,es,vs,a,b,r,⟨rel,k⟩,va,vb,e⟩
def nu(fs:FOs):FI:=JI (uF true true fs) (JI (uF true false fs) (JI (uF false true fs) (uF false false fs)))
theorem gq{Mr:List Expr}{kt:Nat}{pt:Pos}{e1 e2:Expr}{fs:FOs}{p pos:Pos}(hg:Gl X "zip")(hm:X.mg "zip" = none)(ha:Md X [e1,e2] fs)(he:starEach [e1,e2] X.env=(false,eval e1 X.env)::starEach [e2] X.env:=by rfl)(JC:(backTo pos (starEach [e2] X.env)).any (·.1)=false:=by rfl):
  QI X (.Tuple Mr kt pt) (.Call (.Name "zip" p) [e1,e2] [] pos) (nu fs):=wQ (tm true true hg hm ha he JC) (wQ (tm true false hg hm ha he JC) (wQ (tm false true hg hm ha he JC) (tm false false hg hm ha he JC)))
end
end PV
namespace NX
open PySem PySem.Spec PyProof.Rows L2
section
open PySem.AutoSeq1 (wpAny_loadPart')
theorem qb(l:Addr)(items:Array Value)(n:Nat)(dd:Option Addr)(sl:Array (Option Value))(x:Int)(u:Tok)(h1:¬ (!Builtin.List.listFitsIndex x)=true)(h2:¬ items.size*x.toNat>(2 ^ 63-1) / 8)(h3:¬ Builtin.List.listTooLong (items.size*x.toNat)=true)(h4:(List.foldl (fun x1 x2=>x1++x2) #[] (List.replicate (if items.isEmpty=true then 0 else x.toNat) items)).size<=sizeLine):
  Meets (Builtin.«list.__mul__» ⟨[.ref l,.int x u],[]⟩)
   (fun _ R s=>s.heap.get? l=some {cls:=.type "list",dict:=dd,data:=.seq items n,slots:=sl}/\R (.ok (.ret (.ref s.heap.objs.size))) {s with heap:=s.heap.push {cls:=.type "list",data:=.seq (List.foldl (fun x1 x2=>x1++x2) #[] (List.replicate (if items.isEmpty=true then 0 else x.toNat) items))}}):=
 .of_wp fun prog w A R s h=>by
  obtain⟨hp,g,d,tk,os⟩:=s;obtain⟨hl,h⟩:=h
  wp_walk using wpAny_loadPart' hl
  rw[TB (by lia)]
  wp_walk
  exact⟨_,rfl,h⟩
theorem qc(a:Int)(t:Tok)(l:Addr)(T:String)(items:Array Value)(n:Nat)(dd:Option Addr)(sl:Array (Option Value)):
  Meets (Builtin.«int.__rmul__» ⟨[.int a t,.ref l],[]⟩)
   (fun _ R s=>s.heap.get? l=some {cls:=.type "list",dict:=dd,data:=.seq items n,slots:=sl}/\R (.ok (.ret .notImplemented)) s):=
 .of_wp fun prog w A R s h=>by
  obtain⟨hp,g,d,tk,os⟩:=s;obtain⟨hl,h⟩:=h
  wp_walk using wpAny_loadPart' hl
  exact⟨_,rfl,h⟩
end
end NX
namespace PV
open PySem PySem.Spec PyProof.Rows L2 NX
section
variable{md:Mode}{X:Cx}
inductive rRepS(K:W.Frag)(x:V)(y:V)(H:Hp)(Q:VK):Prop
 |mk:∀l k xs,x=.ref l->y=.int k->SqL K H l xs->-(2 ^ 62)<=k->k<2 ^ 62->xs.length*k.toNat<=sizeLine->(∀p,H p=none->Q (.ref p) (upd H p (.lst (List.replicate k.toNat xs).flatten)))->rRepS K x y H Q
theorem BA:Ir X (binaryOp .Mult) (rRepS X.K):=by
 intro pi s σ H x y v u Q I rx ry h;obtain⟨l,k,xs,rfl,rfl,hH,h1,h2,hz,q⟩:=h;cases rx;obtain⟨t,rfl⟩:=ry;obtain⟨HB,r,p1,_⟩:=I.list hH;have hl:=r.length;obtain⟨⟨cls,dd,data,sl⟩,ho,hc,n,hd⟩:=id p1.isList;simp only at hc hd;subst hc hd;have hlen:HB.toArray.size*k.toNat<=sizeLine:=by rw[Tv,<-hl];exact hz
 have hcap:¬ HB.toArray.size*k.toNat>(2 ^ 63-1) / 8:=by
  have:(sizeLine:Nat)<=(2 ^ 63-1) / 8:=by decide
  lia
 have Jk:¬ (!Builtin.List.listFitsIndex k)=true:=by
  rw[fitsIndex_both (by lia) (by lia)];exact Tw
 have QF:¬ Builtin.List.listTooLong (HB.toArray.size*k.toNat)=true:=by
  rw[yq hlen];exact Tw
 have Ms:List.foldl (fun x1 x2=>x1++x2) #[] (List.replicate (if HB.toArray.isEmpty=true then 0 else k.toNat) HB.toArray)=(List.replicate k.toNat HB).flatten.toArray:=by
  have f0:∀m:Nat,List.foldl (fun x1 x2=>x1++x2) #[] (List.replicate m HB.toArray)=(List.replicate m HB).flatten.toArray:=fun m=>by
   have:=pL HB m [];rw[Vl]at this;exact this
  rw[f0];cases HB with
  |nil=>simp
  |cons a r'=>rw[TB (by simp)]
 have hsz:(List.foldl (fun x1 x2=>x1++x2) #[] (List.replicate (if HB.toArray.isEmpty=true then 0 else k.toNat) HB.toArray)).size<=sizeLine:=by
  rw[Ms,Tv,oj,Yk];rw[Tv]at hlen;exact hlen
 refine wpAny_binaryOp_repeat_ref (T:="list") (U:="int") (by decide) ⟨_,ho,rfl⟩ (fun s'=>Xr s' k t) noFill_list_mul F.fills_int_mul F.slot_int_rmul repeat_list F.slot_int_index.lookup
  (X7 F.slot_int_rmul (Xr s k t) F.entry_int_rmul (F.args_int_rmul_2 _ _) (qc k t l "" HB.toArray n dd sl)
   ⟨ho,rfl,⟨_,ho,rfl⟩,X7 F.slot_list_mul ⟨_,ho,rfl⟩ F.entry_list_mul (F.args_list_mul_2 _ _) (qb l HB.toArray n dd sl k t Jk hcap QF hsz) ⟨ho,?_⟩⟩)
 rw[Ms];exact⟨.ref _,_,I.lnew (t':=s.toks) (r.rep k.toNat) (by rw[oj,Yk];exact hz),rfl,q _ I.fresh⟩
theorem tJ{K:W.Frag}{G:Hp}{ds:List D}{xs:List V}(r:Reps K G ds xs):∀n:Nat,Reps K G (List.replicate n ds).flatten (List.replicate n xs).flatten
 | 0=>.nil
 |n+1=>by
  rw[UE,UE,U1,U1];exact r.app (tJ r n)
def iN(a b:D):Res R:=match a,b with
 | .lst ds,.int k=>if 0<=k/\k<1000000/\ds.length*k.toNat<=sizeLine then .ok (.l .f,.lst (List.replicate k.toNat ds).flatten) else .bad
 |a,b=>Bw a b
theorem dZ:Ir X (binaryOp .Mult) (rG X.K iN):=by
 rintro pi s σ H x y v u Q I rx ry ⟨G,fp,es,vs,a,b,r,⟨rel,k⟩,va,vb,e⟩;unfold iN at e;split at e
 ·rename_i ds j;split at e
  ·rename_i hj;cases e;obtain⟨p,xs,e1,h1,r1⟩:=va;subst e1;cases bH vb;refine BA pi s σ H _ _ v u Q I rx ry ⟨p,j,xs,rfl,rfl,h1,by lia,by lia,by rw[r1.length];exact hj.2.2,fun q hq=>?_⟩;obtain⟨Hz,HJ⟩:=rel.newL hq (tJ r1 j.toNat);exact k _ _ G _ HJ Hz
  ·cases e
 ·exact Bx pi s σ H _ _ v u Q I rx ry ⟨G,fp,es,vs,a,b,r,⟨rel,k⟩,va,vb,e⟩
noncomputable def GZ(i:Nat)(fk fv:FX):FS:=fun env=>(fv env).bind fun p=>(fk p.2).bind fun q=>match p.2[i]?,q.2[i]? with
 |some (some _),some (some (.l .f,.lst ds))=>(match q.1.2 with
  | .int k=>(match ixN ds.length k with
   |some j=>.ok (.nx (q.2.set i (some (.l .f,.lst (ds.set j p.1.2)))))
   |none=>.bad)
  |_=>.bad)
 |_,_=>.bad
end
section
variable{X:Cx}
theorem Rel.own{K:W.Frag}{G H:Hp}{es:PV.Env}{vs:L2.St}{fp:List Addr}{p:Addr}{u:HO}{tk:Bool}{ks ws:List D}{xs:List V}(q:Rel K G H es vs fp)(np:p∉fp)(gp:G p=none)(h:DictO u tk ks xs)(rs:Reps K G ws xs):
  Rel K G (upd H p u) (some (.d,.dct tk ks ws)::es) (some (.ref p)::vs) (p::fp):=by
 refine⟨⟨some (.ref p),vs,rfl,.ref p,[p],fp,rfl,rfl,?_,q.rep.step (.refl _) fun z hz=>aJ fun e=>np (e▸hz)⟩,TY.mpr ⟨np,q.nd⟩,fun z hz=>?_,fun b o e=>?_⟩
 ·rw[RepO];exact⟨p,xs,u,rfl,aY,h,rfl,rs⟩
 ·rcases Tz.mp hz with rfl|hz
  ·exact gp
  ·exact q.gn z hz
 ·rw[aJ fun z=>by subst z;rw[gp]at e;cases e];exact q.gh b o e
theorem Rel.aside{K:W.Frag}{G H:Hp}{es:PV.Env}{vs:L2.St}{fp:List Addr}{p:Addr}{u:HO}(q:Rel K G H es vs fp)(hp:H p=none):Rel K G (upd H p u) es vs fp:=by
 have np:p∉fp:=fun z=>by
  obtain⟨u,e⟩:=q.rep.live p z;rw[hp]at e;cases e
 exact⟨q.rep.step (.refl _) fun z hz=>aJ fun e=>np (e▸hz),q.nd,q.gn,fun b o e=>by rw[aJ (aU (q.gh b o e) hp)];exact q.gh b o e⟩
theorem Step.aside{K:W.Frag}{G H G2 H2:Hp}{es:PV.Env}{vs:L2.St}{fp Ig:List Addr}{p:Addr}{u u2:HO}(q:Rel K G H es vs fp)(hp:H p=none)(hu:isT u=false)(st:Step G (upd H p u) fp G2 H2 Ig):
  Step G H fp G2 (upd H2 p u2) (p::Ig)/\p∉Ig/\G2 p=none/\H2 p=some u:=by
 have np:p∉fp:=fun z=>by
  obtain⟨u,e⟩:=q.rep.live p z;rw[hp]at e;cases e
 have ne:∀{b o},H b=some o->b≠p:=fun e=>aU e hp
 refine⟨⟨st.gg,fun b o e nb=>?_,fun b hb=>?_,fun b o e=>?_,fun b o e=>?_⟩,fun z=>?_,?_,st.keep p u aY np⟩
 ·rw[aJ (ne e)];exact st.keep b o (by rw[aJ (ne e)];exact e) nb
 ·rcases Tz.mp hb with rfl|hb
  ·exact .inr hp
  ·rcases st.fpn b hb with h|h
   ·exact .inl h
   ·by_cases e:b=p
    ·subst e;exact .inr hp
    ·rw[aJ e]at h;exact .inr h
 ·rcases st.gnew b o e with h|h|h|⟨h1,h2⟩
  ·exact .inl h
  ·exact .inr (.inl h)
  ·by_cases e:b=p
   ·subst e;exact .inr (.inr (.inl hp))
   ·rw[aJ e]at h;exact .inr (.inr (.inl h))
  ·by_cases e:b=p
   ·subst e;exact .inr (.inr (.inl hp))
   ·rw[aJ e]at h2;exact .inr (.inr (.inr ⟨h1,h2⟩))
 ·obtain⟨o',h⟩:=st.there b o (by rw[aJ (ne e)];exact e);exact⟨o',by rw[aJ (ne e)];exact h⟩
 ·rcases st.fpn p z with h|h
  ·exact np h
  ·rw[aY]at h;cases h
 ·cases e:G2 p with
  |none=>rfl
  |some o=>
   rcases st.gnew p o e with h|h|h|⟨h1,h2⟩
   ·have:=q.gh p o h;rw[hp]at this;cases this
   ·exact absurd h np
   ·rw[aY]at h;cases h
   ·rw[aY]at h2;cases h2;rw[hu]at h1;cases h1
def qe(fk fv:FX):FX:=fun env=>(fk env).bind fun p=>(fv p.2).bind fun q=>if dY false p.1.2 then .ok ((.d,.dct false [p.1.2] [q.1.2]),q.2) else .bad
theorem oM{k v:Expr}{fk fv:FX}{pos:Pos}(hk:QE X k fk)(hv:QE X v fv):QE X (.Dict [some k] [v] pos) (qe fk fv):=
 bx (Be (yE hk hv Bd) rfl rfl (WZ _ _) (show 1<=15 by decide)) fun σ H Q HP p hp=>by
  obtain⟨G,env,fp,r,env',rel,e,kk⟩:=HP;obtain⟨⟨r1,Hy⟩,e1,e⟩:=au e;obtain⟨⟨r2,HN⟩,e2,e⟩:=au e;dsimp only at e;split at e
  ·rename_i JJ;cases e;refine⟨G,env,fp,r1,Hy,rel.aside hp,e1,fun x H1 G1 HZ HU HA=>?_⟩;obtain⟨G2,b,rx,Hz,HJ⟩:=HA.freeze;refine⟨G2,Hy,b,r2,_,Hz,e2,fun y H3 G3 Ji Ip Ia=>?_⟩;obtain⟨G4,b4,ry,IB,JE⟩:=Ia.freeze;have SS:Rep X.K G4 r1.2 x:=Rep.mono (Ip.gg.trans JE.gg) rx;unfold dY at JJ;rw[TB Tw,UR]at JJ;obtain⟨kd,Qh⟩:=JJ;obtain⟨ex,dx⟩:=iG Qh SS;obtain⟨st,np,gp,MY⟩:=Step.aside (u2:=.dK [(kd,y)]) rel hp rfl (HU.trans (HJ.trans (Ip.trans JE)));refine⟨MY,[(kd,y)],by rw[ex];rfl,(show 1<=15 by decide),?_⟩;exact kk _ _ G4 _ st (IB.own np gp ⟨[(kd,y)],rfl,by rw[dx];rfl,rfl,fun kv Kh=>by rw[TU.mp Kh];exact wZ Qh SS⟩ (.one ry))
  ·cases e
def getD(ks vs:List D)(k:D):Option D:=((ks.zip vs).find? fun p=>HE k p.1).map (·.2)
theorem mv{κ:Type}[DecidableEq κ]{K:W.Frag}{G:Hp}(f:κ->D)(hf:∀a b,HE (f a) (f b)=decide (a=b)){k:κ}:∀{kvs:List (κ×V)}{vs:List D},Reps K G vs (kvs.map (·.2))->((getD (kvs.map fun kv=>f kv.1) vs (f k)).isSome=(pW kvs k).isSome)/\∀d,getD (kvs.map fun kv=>f kv.1) vs (f k)=some d->∃v,pW kvs k=some v/\Rep K G d v
 |[],vs,r=>⟨rfl,fun d h=>nomatch h⟩
 |kv::kvs,vs,r=>by
  cases vs with
  |nil=>have:=r.length;simp at this
  |cons d0 vs=>
   rw[TZ,Reps.cons_iff]at r;obtain⟨h1,h2⟩:=mv f hf (k:=k) r.2;unfold getD pW at h1 h2 ⊢;rw[TZ,Uh];have e:HE (f k) (f kv.1)=decide (kv.1=k):=by
    rw[hf,T7,TF,TF];exact⟨fun z=>z.symm,fun z=>z.symm⟩
   by_cases hk:kv.1=k
   ·rw[List.find?_cons_of_pos (by show HE (f k) (f kv.1)=true;rw[e];exact TV hk),List.find?_cons_of_pos (by exact TV hk)];refine⟨rfl,fun d h=>?_⟩;cases h;exact⟨_,rfl,r.1⟩
   ·rw[List.find?_cons_of_neg (by show ¬ HE (f k) (f kv.1)=true;rw[e];simpa using hk),List.find?_cons_of_neg (by simpa using hk)];exact⟨h1,h2⟩
theorem rF{K:W.Frag}{G H:Hp}(gh:Same G H){tk:Bool}{ks vs:List D}{xs:List V}{o:HO}{p:Addr}{b:D}{y:V}(rd:Rd H p o)(dd:DictO o tk ks xs)(rs:Reps K G vs xs)(hk:dY tk b=true)(ry:Rep K G b y):
  ∃ov,DGet H p y ov/\(getD ks vs b).isSome=ov.isSome/\∀d,getD ks vs b=some d->∃v,ov=some v/\Rep K G d v:=by
 unfold dY at hk;cases tk with
 |true=>
  rw[Tt rfl,UR]at hk;obtain⟨kk,hk⟩:=hk;obtain⟨pz,ez,gz,dz⟩:=eO hk ry;obtain⟨kvs,eo,ek,ex,_⟩:=dd;subst eo ex ez dz;have ek:ks=kvs.map fun kv=>kT kv.1:=ek
  obtain⟨h1,h2⟩:=mv (K:=K) (G:=G) kT Ah (k:=kk) rs;rw[<-ek]at h1 h2;exact⟨pW kvs kk,.inr ⟨kvs,kk,pz,rd,rfl,gh _ _ gz,rfl⟩,h1,h2⟩
 |false=>
  rw[TB Tw,UR]at hk;obtain⟨kk,hk⟩:=hk;obtain⟨ez,dz⟩:=iG hk ry;obtain⟨kvs,eo,ek,ex,_⟩:=dd;subst eo ex ez dz;obtain⟨h1,h2⟩:=mv (K:=K) (G:=G) kD wX (k:=kk) rs;rw[<-ek]at h1 h2;exact⟨pW kvs kk,.inl ⟨kvs,kk,rd,rfl,rfl⟩,h1,h2⟩
def LM(a b:D):Res R:=match a with
 | .dct tk ks vs=>if dY tk b then(match getD ks vs b with
  |some d=>.ok (.f,d)
  |none=>.bad) else .bad
 |_=>.bad
theorem yV{a b:Expr}{fa fb:FO}{pos:Pos}(hu:X.A.units+1<cLine)(ha:QO X a fa)(hb:QO X b fb)(hs:NoSl b:=by exact fun _ _=>rfl):QE X (.Subscript a b pos) (av LM fa fb):=
 bx (Bb hu ha hb hs) fun σ H Q h=>by
  obtain⟨G,env,fp,r,env',rel,e,k⟩:=h;obtain⟨⟨oa,e1⟩,ha,e⟩:=au e;obtain⟨⟨ob,e2⟩,hb,e⟩:=au e;obtain⟨da,M1,e⟩:=au e;obtain⟨db,JT,e⟩:=au e;obtain⟨r',hr,e⟩:=au e;cases e;refine⟨G,env,fp,oa,e1,rel,ha,fun x H1 G1 HZ HU HA Jz=>⟨G1,e1,HZ,ob,e2,HA,hb,fun y H2 G2 Ig HJ Hz Lw=>?_⟩⟩;have va:=Hz.vw (Jz.mono HJ.gg) M1;have vb:=Hz.vw Lw JT;unfold LM at hr;split at hr
  ·rename_i tk ks vs;split at hr
   ·rename_i JJ;split at hr
    ·rename_i d hd;cases hr;obtain⟨p,xs,o,ev,rd,dd,rs⟩:=va;subst ev;have vb':Rep X.K G2 db y:=by
      cases db with
      |lst l=>cases tk <;> simp[dY,gj,ma]at JJ
      |dct _ _ _=>cases tk <;> simp[dY,gj,ma]at JJ
      |_=>exact vb
     obtain⟨ov,g,_,h2⟩:=rF Hz.gh rd dd rs JJ vb';obtain⟨v,ho,rv⟩:=h2 d hd;subst ho;exact⟨p,v,rfl,g,k _ H2 G2 Ig (HU.trans HJ) (Hz.push rv)⟩
    ·cases hr
   ·cases hr
  ·cases hr
def O5(a b:D):Res R:=match b with
 | .dct tk ks vs=>if dY tk a then .ok (.f,.bl (getD ks vs a).isSome) else .bad
 |_=>M7 a b
def rH(a b:D):Res R:=match b with
 | .dct tk ks vs=>if dY tk a then .ok (.f,.bl (!(getD ks vs a).isSome)) else .bad
 |_=>Ae a b
theorem Ak(hu:X.A.units+65<cLine):Ir X (compareOp .In) (rGA X.K O5):=by
 rintro pi s σ H x y v u Q I rx ry ⟨G,fp,es,vs,a,b,r,⟨rel,k⟩,va,vb,e⟩;unfold O5 at e;split at e
 ·rename_i tk ks ws;split at e
  ·rename_i JJ;cases e;obtain⟨p,xs,o,ev,rd,dd,rs⟩:=vb;subst ev;cases ry;obtain⟨ov,g,h1,_⟩:=rF (K:=X.K) (G:=H) (fun _ _ z=>z) rd dd rs JJ va;exact GV (by lia) I g rx fun s' I'=>⟨.bl ov.isSome,H,I',rfl,by rw[<-h1];exact k _ H G fp .refl (rel.push (cO _))⟩
  ·cases e
 ·exact Fz hu pi s σ H x y v u Q I rx ry ⟨G,fp,es,vs,a,b,r,⟨rel,k⟩,va,vb,e⟩
theorem oN(hu:X.A.units+65<cLine):Ir X (compareOp .NotIn) (rGA X.K rH):=by
 rintro pi s σ H x y v u Q I rx ry ⟨G,fp,es,vs,a,b,r,⟨rel,k⟩,va,vb,e⟩;unfold rH at e;split at e
 ·rename_i tk ks ws;split at e
  ·rename_i JJ;cases e;obtain⟨p,xs,o,ev,rd,dd,rs⟩:=vb;subst ev;cases ry;obtain⟨ov,g,h1,_⟩:=rF (K:=X.K) (G:=H) (fun _ _ z=>z) rd dd rs JJ va;exact A9 (by lia) I g rx fun s' I'=>⟨.bl (!ov.isSome),H,I',rfl,by rw[<-h1];exact k _ H G fp .refl (rel.push (cO _))⟩
  ·cases e
 ·exact DI hu pi s σ H x y v u Q I rx ry ⟨G,fp,es,vs,a,b,r,⟨rel,k⟩,va,vb,e⟩
end
def isLf:O->Bool
 | .l .f=>true
 | .pin _ (.l .f)=>true
 |_=>false
section
variable{K:W.Frag}{G G' H H':Hp}{es:PV.Env}{vs:L2.St}{fp:List Addr}
theorem Al{ow:O}{ds:List D}{v:V}{a:List Addr}(ho:isLf ow=true)(r:RepO K G H ow (.lst ds) v a):∃p xs,v=.ref p/\H p=some (.lst xs)/\a=[p]/\Reps K G ds xs/\∀(H':Hp) (ds':List D) (IJ:List V),H' p=some (.lst IJ)->Reps K G ds' IJ->RepO K G H' ow (.lst ds') (.ref p) [p]:=by
 unfold isLf at ho;split at ho
 ·obtain⟨p,xs,e,hp,ea,rs⟩:=dE.mp r;exact⟨p,xs,e,hp,ea,rs,fun H' ds' IJ h JH=>dE.mpr ⟨p,IJ,rfl,h,rfl,JH⟩⟩
 ·rename_i q;rw[RepO]at r;obtain⟨e0,r⟩:=r;obtain⟨p,xs,e,hp,ea,rs⟩:=dE.mp r;rw[e]at e0;cases e0;exact⟨_,xs,e,hp,ea,rs,fun H' ds' IJ h JH=>by rw[RepO];exact⟨rfl,dE.mpr ⟨_,IJ,rfl,h,rfl,JH⟩⟩⟩
 ·cases ho
theorem Rel.chgO{i:Nat}{ow:O}{ds ds':List D}(ho:isLf ow=true)(q:Rel K G H es vs fp)(e:es[i]?=some (some (ow,.lst ds))):∃p xs,vs[i]?=some (some (.ref p))/\H p=some (.lst xs)/\Reps K G ds xs/\
  ∀IJ,Reps K G ds' IJ->∃fq,Rel K G (upd H p (.lst IJ)) (es.set i (some (ow,.lst ds'))) vs fq/\Step G H fp G (upd H p (.lst IJ)) fq:=by
 obtain⟨v,fq,ev,g,st,JZ⟩:=q.out e;obtain⟨y,ys,e0,v',a,b,e1,e2,r1,r2⟩:=g.rep;cases e0;cases e1;obtain⟨p,xs,e3,hp,e4,rs,mk⟩:=Al ho r1;subst e3;subst e4;subst e2;have nd:=TY.mp (show(p::b).Nodup from g.nd);refine⟨p,xs,ev,hp,rs,fun IJ JH=>?_⟩;have g2:Rel K G (upd H p (.lst IJ)) (some (ow,.lst ds')::es.set i none) (some (.ref p)::vs) (p::b):=by
  refine⟨⟨some (.ref p),vs,rfl,.ref p,[p],b,rfl,rfl,mk _ _ _ aY JH,r2.step (.refl _) fun z hz=>aJ fun e=>nd.1 (e▸hz)⟩,g.nd,g.gn,fun z o ez=>?_⟩;have:z≠p:=fun w=>by
   subst w;rw[g.gn z Tp]at ez;cases ez
  rw[aJ this];exact g.gh z o ez
 have Qr:Step G H (p::b) G (upd H p (.lst IJ)) (p::b):=by
  refine⟨.refl _,fun z o ez nz=>?_,fun z hz=>.inl hz,fun z o ez=>.inl ez,fun z o ez=>?_⟩
  ·have:z≠p:=fun w=>nz (by rw[w];exact Tp)
   rw[aJ this];exact ez
  ·by_cases w:z=p
   ·subst w;exact⟨_,aY⟩
   ·exact⟨o,by rw[aJ w];exact ez⟩
 obtain⟨fz,g3,Ip⟩:=g2.back (i:=i) (by rw[U6];exact(List.getElem?_eq_some_iff.mp e).1) ev;rw[Wc]at g3;exact⟨fz,g3,st.trans (Qr.trans Ip)⟩
theorem RepE.append:∀{es L8:PV.Env}{vs IX:L2.St}{a b:List Addr},RepE K G H es vs a->RepE K G H L8 IX b->RepE K G H (es++L8) (vs++IX) (a++b)
 |[],L8,vs,IX,a,b,r,q=>by
  rw[r.1,r.2];exact q
 |none::es,L8,vs,IX,a,b,r,q=>by
  obtain⟨y,ys,e,r⟩:=r;subst e;exact⟨y,ys++IX,rfl,RepE.append r q⟩
 |some x::es,L8,vs,IX,a,b,r,q=>by
  obtain⟨y,ys,e,v,a1,b1,e1,e2,r1,r2⟩:=r;subst e e2;exact⟨y,ys++IX,rfl,v,a1,b1++b,e1,Ut _ _ _,r1,RepE.append r2 q⟩
theorem RepE.clean{G2 G3:Hp}(h:∀p u,isT u=true->G2 p=some u->G3 p=some u):∀{es:PV.Env}{vs:L2.St}{a:List Addr},(∀r,some r∈es->aT r.1 r.2=true)->RepE K G2 H es vs a->RepE K G3 H es vs a
 |[],_,_,_,r=>r
 |none::es,vs,a,hc,r=>by
  obtain⟨y,ys,e,r⟩:=r;exact⟨y,ys,e,RepE.clean h (fun r hr=>hc r (Tx _ hr)) r⟩
 |some x::es,vs,a,hc,r=>by
  obtain⟨y,ys,e,v,a1,b1,e1,e2,r1,r2⟩:=r;exact⟨y,ys,e,v,a1,b1,e1,e2,r1.clean h (hc x Tp),RepE.clean h (fun r hr=>hc r (Tx _ hr)) r2⟩
theorem Rel.lendM(q:Rel K G H es vs fp)(a:List Addr)(ha:∀z∈a,z∉fp)(Rr:∀z∈a,G z=none):∃G1,Same G G1/\Same G1 H/\(∀z∈a,G1 z=none)/\(∀(i:Nat) (r:R) (v:V),es[i]?=some (some r)->vs[i]?=some (some v)->Rep K G1 r.2 v)/\
  ∀(H2 G2:Hp) (Ig:List Addr) (rs:PV.Env) (ws:L2.St),Step G1 H a G2 H2 Ig->Rel K G2 H2 rs ws Ig->(∀r,some r∈rs->aT r.1 r.2=true)->∃G3 Ji,Step G H (a++fp) G3 H2 Ji/\Rel K G3 H2 (rs++es) (ws++vs) Ji:=by
 have hg:Same G (fun p=>if p∈fp then H p else G p):=fun p u e=>by
  show(if p∈fp then H p else G p)=some u;by_cases hp:p∈fp
  ·rw[Tt hp];exact q.gh p u e
  ·rw[TB hp];exact e
 have hh:Same (fun p=>if p∈fp then H p else G p) H:=fun p u e=>by
  have e:(if p∈fp then H p else G p)=some u:=e;by_cases hp:p∈fp
  ·rw[Tt hp]at e;exact e
  ·rw[TB hp]at e;exact q.gh p u e
 have hk:∀p∈fp,∀u,H p=some u->(fun p=>if p∈fp then H p else G p) p=some u:=fun p hp u e=>by
  show(if p∈fp then H p else G p)=some u;rw[Tt hp];exact e
 refine⟨fun p=>if p∈fp then H p else G p,hg,hh,fun z hz=>?_,fun i r v e ev=>q.rep.rep hg hk e ev,fun H2 G2 Ig rs ws st k cl=>?_⟩
 ·show(if z∈fp then H z else G z)=none;rw[TB (ha z hz)];exact Rr z hz
 have kept:∀p∈fp,H2 p=H p:=fun p hp=>by
  obtain⟨u,hu⟩:=q.rep.live p hp;rw[hu];exact st.keep p u hu fun z=>ha p z hp
 have apart:∀p∈Ig,p∉fp:=fun p hp hf=>by
  rcases st.fpn p hp with z|z
  ·exact ha p z hf
  ·obtain⟨u,hu⟩:=q.rep.live p hf;rw[z]at hu;cases hu
 have g3:Same G (fun p=>if p∈fp then none else G2 p):=fun p u e=>by
  show(if p∈fp then none else G2 p)=some u;rw[TB (fun z=>by rw[q.gn p z]at e;cases e)];exact st.gg p u (hg p u e)
 refine⟨fun p=>if p∈fp then none else G2 p,Ig++fp,⟨g3,fun p u e n=>?_,fun p hp=>?_,fun p u e=>?_,st.there⟩,⟨RepE.append (RepE.clean (fun p u t e=>?_) cl k.rep) (q.rep.step g3 kept),?_,fun p hp=>?_,fun p u e=>?_⟩⟩
 ·exact st.keep p u e fun z=>n (Tq _ z)
 ·rcases TX.mp hp with hp|hp
  ·exact(st.fpn p hp).imp_left (Tq _)
  ·exact .inl (Tn _ hp)
 ·have e:(if p∈fp then none else G2 p)=some u:=e;by_cases hp:p∈fp
  ·rw[Tt hp]at e;cases e
  ·rw[TB hp]at e;rcases st.gnew p u e with z|z|z
   ·have z:(if p∈fp then H p else G p)=some u:=z;rw[TB hp]at z;exact .inl z
   ·exact .inr (.inl (Tq _ z))
   ·exact .inr (.inr z)
 ·show(if p∈fp then none else G2 p)=some u;by_cases hp:p∈fp
  ·exfalso;obtain⟨u',hu,hm⟩:=q.rep.mut p hp;have:=st.gg p u' (hk p hp u' hu);rw[e]at this;cases this;cases u with
   |lst _=>cases t
   |dK _=>cases t
   |dT _=>cases t
   |_=>cases hm
  ·rw[TB hp];exact e
 ·rw[TM];exact⟨k.nd,q.nd,fun p hp z hz e=>apart p hp (e▸hz)⟩
 ·show(if p∈fp then none else G2 p)=none;by_cases hf:p∈fp
  ·rw[Tt hf]
  ·rw[TB hf];rcases TX.mp hp with hp|hp
   ·exact k.gn p hp
   ·exact absurd hp hf
 ·have e:(if p∈fp then none else G2 p)=some u:=e;by_cases hp:p∈fp
  ·rw[Tt hp]at e;cases e
  ·rw[TB hp]at e;exact k.gh p u e
end
section
variable{X:Cx}
def d7(i:Nat):FX:=fun env=>match env[i]? with
 |some (some (ow,.lst ds))=>if isLf ow then(match ds.getLast? with
  |some d=>.ok ((.f,d),env.set i (some (ow,.lst ds.dropLast)))
  |none=>.bad) else .bad
 |_=>.bad
theorem Reps.dropLast{K:W.Frag}{G:Hp}:∀{ds:List D}{xs:List V},Reps K G ds xs->Reps K G ds.dropLast xs.dropLast
 |[],xs,r=>by rw[Reps]at r;subst r;exact .nil
 |[d],xs,r=>by
  rw[Reps]at r;obtain⟨y,ys,e,r1,r2⟩:=r;rw[Reps]at r2;subst e r2;exact .nil
 |d::d2::ds,xs,r=>by
  rw[Reps]at r;obtain⟨y,ys,e,r1,r2⟩:=r;subst e;have h:=Reps.dropLast r2;cases ys with
  |nil=>have:=r2.length;simp at this
  |cons z zs=>
   rw[Wn (WZ _ _),Wn (WZ _ _)];exact .cons r1 h
theorem b7{i:Nat}{o:Expr}{apos HV:Pos}(ho:PE X o (yd i))(Iv:attributeBase o "pop" X.env (eval o X.env)=eval o X.env:=by rfl)(Iw:(apos.endLine==HV.line)=true:=by rfl):
  QE X (.Call (.Attribute o "pop" apos) [] [] HV) (d7 i):=by
 refine bx (Dh V5 PySem.F.slot_list_pop PySem.F.type_list_pop Dj ho Iv Iw) fun σ H Q HY=>?_
 obtain⟨G,env,fp,r,env',rel,e,k⟩:=HY;unfold d7 at e;split at e
 ·rename_i ow ds NM;split at e
  ·rename_i hlf;split at e
   ·rename_i d hd;cases e;obtain⟨p,xs,ev,hp,rs,cg⟩:=rel.chgO (ds':=ds.dropLast) hlf NM;rw[List.getLast?_eq_getElem?]at hd;obtain⟨y,hy,ry⟩:=rs.get hd;obtain⟨fq,Hz,HJ⟩:=cg xs.dropLast rs.dropLast;exact⟨.ref p,ev,.inl ⟨rfl,xs,SqL.of hp⟩,p,xs,y,rfl,rfl,hp,by rw[rs.length];exact hy,k y _ G fq HJ (Hz.push ry)⟩
   ·cases e
  ·cases e
 ·cases e
def jh(i:Nat)(f:FX):FS:=fun env=>(f env).bind fun p=>match p.2[i]? with
 |some (some (.pin q c,d0))=>.ok (.rt (.t [p.1.1,.pin q c],.tup [p.1.2,d0]))
 |_=>.bad
theorem gr{i:Nat}{e:Expr}{f:FX}{pos:Pos}(he:QE X e f):QS (md:=.mut) X (.Return (some e) pos) (jh i f):=gL (zS he) fun Dd σ H HP=>by
 obtain⟨G,env,fp,rel,k⟩:=HP;unfold jh at k;match q:f env,k with
 | .ok (r,Hy),k=>
  have k:OutOk (md:=.mut) X.K G H fp Dd (match Hy[i]? with
   |some (some (.pin q c,d0))=>.ok (.rt (.t [r.1,.pin q c],.tup [r.2,d0]))
   |_=>.bad):=k
  split at k
  ·rename_i z c d0 hz;refine⟨G,env,fp,r,Hy,rel,q,fun v H1 G1 HZ HU HA=>?_⟩;obtain⟨y,ys,ey,v',a,b,e1,e2,r1,r2⟩:=HA.rep;cases ey;cases e1;subst e2;obtain⟨v0,a0,b0,R1,ro,_,pm⟩:=r2.take hz;have hv0:v0=.ref z:=by
    have:=ro;rw[RepO]at this;exact this.1
   subst hv0;have sub:∀w∈a++a0,w∈a++b:=fun w hw=>by
    rcases TX.mp hw with hw|hw
    ·exact Tq _ hw
    ·exact Tn _ (pm.mem_iff.mpr (Tq _ hw))
   have nd:=TM.mp HA.nd;have NY:=TM.mp (pm.nodup_iff.mp nd.2.1);refine k v H1 G1 (a++a0) (HU.trans (Step.cut sub)) ⟨r.1,r.2,z,c,d0,rfl,⟨⟨some v,[some (.ref z)],rfl,v,a,a0,rfl,rfl,r1,some (.ref z),[],rfl,.ref z,a0,[],rfl,(T9 _).symm,ro,rfl,rfl⟩,?_,fun p hp=>HA.gn p (sub p hp),HA.gh⟩⟩;rw[TM];exact⟨nd.1,NY.1,fun p hp w hw e=>nd.2.2 p hp w (pm.mem_iff.mpr (Tq _ hw)) e⟩
  ·exact k.elim
def kS(np nn:Nat)(c:O)(g:FS)(p:Addr):List D->Res R
 |d0::ds=>if ds.length+1=np then(g (some (.pin p c,d0)::(ds.map (fun d=>some (O.f,d))++List.replicate nn none))).bind fun o=>match o with
  | .rt r=>.ok r
  |_=>.bad
  else .bad
 |[]=>.bad
inductive spM(K:W.Frag)(c:O)(F:Addr->List D->Res R)(vs:List V)(H:Hp)(Q:VK)(zz:XK):Prop
 |mk:∀G p IX d0 ds r Mf,Same G H->vs=.ref p::IX->RepO K G H c d0 (.ref p) Mf->Mf.Nodup->(∀z∈Mf,G z=none)->Reps K G ds IX->F p (d0::ds)=.ok r->(∀v H' G' HI,Step G H Mf G' H' HI->F9 .mut K G' H' r v HI->Q v H')->spM K c F vs H Q zz
theorem xb{P:Program}{w:World}{K:W.Frag}{mg:Str->Option Value}{base:Heap}{x:Str}{st:Stmt}{N ps:List Str}{k:Nat}{c:O}{g:FS}(Df:Def K mg x st)(sc:FnScope N ps (defScope st))
  (hb:∀(kV doc pm:Value) (an:Option Addr) (HX ct:Value) (us:List Value),us.length=ps.length->bindArgs (PySem.W.fnOf x x (eM st) (cM st) (defScope st) .none kV doc pm an HX ct) ⟨us,[]⟩=pure (ps.zip us))
  (body:∀(f:Addr) (HX:Value) (A:Around) (outer:List PySem.Env) (s:Shared) (H:Hp) (E:XK),Room k (A.deeper (envOfC x (defScope st) s.heap.objs.size f HX))->MK (md:=.mut) (x3 Mn P w K mg base N x (defScope st) f HX A outer s H E).nox (cM st) g):
  Ct P w K mg base x (k+1) (spM K c (kS ps.length (N.length-ps.length) c g)):=by
 obtain⟨f,fd,F,m⟩:=Df;refine⟨f,fd,ps,F.ok sc (fun vs H Q E h=>?_) (fun HX A outer s H vs Q E hr h=>?_),m,F.kp,F.binds hb⟩
 ·obtain⟨G,p,IX,d0,ds,r,Mf,_,ev,_,_,_,rs,e,_⟩:=h;unfold kS at e;split at e
  ·rename_i Rt ds' heq;cases heq;split at e
   ·rename_i hl;rw[ev,TJ,rs.length,hl]
   ·cases e
  ·cases e
 ·obtain⟨G,p,IX,d0,ds,r,Mf,gh,ev,r0,nd,gn,rs,e,q⟩:=h;unfold kS at e;split at e
  ·rename_i Rt ds' heq;cases heq;split at e
   ·rename_i hl;refine⟨_,body f HX A outer s H E hr,G,some (.pin p c,d0)::(ds.map (fun d=>some (O.f,d))++List.replicate (N.length-ps.length) none),Mf,⟨?_,nd,gn,gh⟩,?_⟩
    ·have:=gY (K:=K) (G:=G) (H:=H) (N.length-ps.length) rs;unfold L2.start;rw[ev,TJ,rs.length,hl];exact⟨some (.ref p),_,rfl,.ref p,Mf,[],rfl,(T9 _).symm,by rw[RepO];exact⟨rfl,r0⟩,this⟩
    ·obtain⟨o,eo,e⟩:=au e;rw[eo];cases o with
     |rt r'=>
      cases e;exact fun v H' G' HI st rel=>q v H' G' HI st rel
     |nx env'=>cases e
     |bk env'=>cases e
     |ct env'=>cases e
   ·cases e
  ·cases e
def mw:O->O->Bool
 | .l .f,.l .f=>true
 | .l .f,.pin _ (.l .f)=>true
 | .d,.d=>true
 | .d,.pin _ .d=>true
 |_,_=>false
theorem xc{K:W.Frag}{G H:Hp}{c ow:O}{d:D}{v:V}{a:List Addr}(h:mw c ow=true)(r:RepO K G H ow d v a):(∃p,v=.ref p)/\RepO K G H c d v a/\∀(G' H':Hp) (d':D) (a':List Addr),RepO K G' H' c d' v a'->RepO K G' H' ow d' v a':=by
 have O6:∀{d:D},RepO K G H (.l .f) d v a->∃p,v=.ref p:=fun{d} r=>by
  cases d with
  |lst ds=>obtain⟨p,_,e,_⟩:=dE.mp r;exact⟨p,e⟩
  |_=>simp only[RepO]at r
 have O7:∀{d:D},RepO K G H .d d v a->∃p,v=.ref p:=fun{d} r=>by
  cases d with
  |dct tk ks ws=>rw[RepO]at r;obtain⟨p,_,_,e,_⟩:=r;exact⟨p,e⟩
  |_=>simp only[RepO]at r
 unfold mw at h;split at h
 ·exact⟨O6 r,r,fun _ _ _ _ z=>z⟩
 ·rw[RepO]at r;exact⟨⟨_,r.1⟩,r.2,fun _ _ _ _ z=>by rw[RepO];exact⟨r.1,z⟩⟩
 ·exact⟨O7 r,r,fun _ _ _ _ z=>z⟩
 ·rw[RepO]at r;exact⟨⟨_,r.1⟩,r.2,fun _ _ _ _ z=>by rw[RepO];exact⟨r.1,z⟩⟩
 ·cases h
open Classical in
def kq(F:Addr->List D->Res R)(c:O)(d0:D)(ds:List D):Res (R×D):=
 if h:∃x:R×D,∀p,F p (d0::ds)=.ok (.t [x.1.1,.pin p c],.tup [x.1.2,x.2]) then .ok (Classical.choose h) else .bad
theorem gu{F:Addr->List D->Res R}{c:O}{d0:D}{ds:List D}{r:R}{d':D}(h:∀p,F p (d0::ds)=.ok (.t [r.1,.pin p c],.tup [r.2,d'])):kq F c d0 ds=.ok (r,d'):=by
 have h':∃x:R×D,∀p,F p (d0::ds)=.ok (.t [x.1.1,.pin p c],.tup [x.1.2,x.2]):=⟨(r,d'),h⟩
 unfold kq;rw[dif_pos h'];have e:=(Xm h' 0).symm.trans (h 0);generalize Classical.choose h'=x at e;obtain⟨⟨o,d⟩,d2⟩:=x;cases e;rfl
theorem oO{F:Addr->List D->Res R}{c:O}{d0:D}{ds:List D}{x:R×D}(h:kq F c d0 ds=.ok x)(p:Addr):F p (d0::ds)=.ok (.t [x.1.1,.pin p c],.tup [x.1.2,x.2]):=by
 unfold kq at h;split at h
 ·rename_i h';cases h;exact Xm h' p
 ·cases h
end
section
variable{X:Cx}{x:Str}{p pos:Pos}{e:Expr}{es:List Expr}{fs:FOs}
end
section
variable{K:W.Frag}{G G' H H':Hp}
end
section
variable{X:Cx}{md:Mode}
end
end PV
namespace NX
open PySem PySem.Spec PyProof.Rows L2
theorem DR{P:Program}{w:World}{k:Key}{u:Value}(h:(mixKind P w).is k u=true):RelV (kV k) u:=by
 rw[uh]at h;cases k with
 |inl i=>
  have h:Value.isInt i u=true:=h;cases u with
  |int j t=>
   have e:(j==i)=true:=h;rw[T6]at e;exact⟨t,by rw[e]⟩
  |_=>cases h
 |inr x=>
  obtain⟨t,e⟩:=Value.isStrOf_shape h;exact⟨t,e⟩
noncomputable def Itm(o:Obj)(n:Nat)(a:Addr):It:=
 ⟨fun i H=>∃kvs k v,H a=some (.frz o (.dK kvs))/\kvs.length=n/\kvs[i]?=some (k,v),
  fun i H x H'=>∃T,H T=none/\x=.ref T/\∀kvs k v,H a=some (.frz o (.dK kvs))->kvs[i]?=some (k,v)->H'=upd H T (.tup [kV k,v]),
  fun i H=>∃kvs,H a=some (.frz o (.dK kvs))/\kvs.length=n/\kvs.length<=i⟩
theorem DS{κ:Type}{kvs:List (κ×V)}{vs:List (κ×Value)}(r:KV kvs vs):∀{i:Nat}{k:κ}{v:V},kvs[i]?=some (k,v)->∃u,vs[i]?=some (k,u)/\RelV v u:=by
 induction r with
 |nil=>intro i k v e;simp at e
 | @cons p q ps qs hq _ ih=>
  intro i k v e;cases i with
  |zero=>
   simp at e;subst e;obtain⟨qk,qv⟩:=q;obtain⟨e1,e2⟩:=hq;cases e1;exact⟨qv,rfl,e2⟩
  |succ i=>exact ih (by simpa using e)
theorem tL{X:Cx}{pi:List (Addr×Obj)}{σ:L2.St}{H:Hp}{s:Shared}{a:Addr}{o:Obj}{ep:Nat}{es:Array DictEntry}{kvs:List (Key×V)}(I:Inv X pi σ H s)(hd:o.data=.dict es ep)(ha:H a=some (.frz o (.dK kvs))):
  s.heap.get? a=some o/\∃vs,KV kvs vs/\s.heap.DictAt (mixKind X.prog X.w) a vs ep:=by
 obtain⟨ho,z,nm,vs,r,o',L8,Rf,g1,ex,dat,dS⟩:=(show ObjOk X.prog X.w H s.heap a (.frz o (.dK kvs)) from I.hok a _ ha)
 have e:=g1.symm.trans ho;cases e;have e2:=dat.symm.trans hd;cases e2;exact⟨ho,vs,r,o,es,ho,ex,hd,dS⟩
theorem uJ{P:Program}{w:World}{K:W.Frag}{elts:List Expr}{kk:Nat}{pos:Pos}(o:Obj)(es:Array DictEntry)(ep n:Nat)(a it:Addr)(hd:o.data=.dict es ep):
  Turn P w K (.Tuple elts kk pos) (Itm o n a) [it] it (fun i h=>∃ok ov,IsItemIter h it a i n ep ok ov) where
 mem:=by simp
 obj:=fun i h HP b hb=>by
  obtain⟨ok,ov,st⟩:=HP;have e:b=it:=by simpa using hb
  subst e;exact⟨_,st,fun v z=>by cases z⟩
 keep:=fun i h h' ⟨ok,ov,st⟩ k=>⟨ok,ov,k it (by simp) _ st⟩
 item:=by
  intro X hP hw hK hc i pi s σ H E I hf st hg;subst hP hw hK;obtain⟨kvs,k,v,ha,hn,hx⟩:=hg;obtain⟨ok,ov,st⟩:=st;obtain⟨ho,vs,r,hm⟩:=tL I hd ha;have hl:vs.length=n:=by rw[<-hn];exact r.length.symm
  subst hl;obtain⟨u,hu,ru⟩:=DS r hx;have fz:=hf it (by simp);refine wpAny_pyNext_items_item st hm hu fun key h' JJ out tp sz kk'=>⟨_,rfl,?_⟩
  refine wpAny_letOwnedTupleGo_items out fun h2 it2 sb=>?_
  have nT:H s.heap.objs.size=none:=I.hok.fresh (Ts _);have tT:s.heap.objs.size≠it:=Xa (TC st);have all:∀c q,c≠it->s.heap.get? c=some q->h2.get? c=some q:=fun c q c1 e=>(sb.2 c c1).trans (kk' c q c1 e)
  have LG:∀c ob,H c=some ob->c≠it:=fun c ob e q=>by rw[q,fz.1]at e;cases e
  refine⟨.ref s.heap.objs.size,upd H s.heap.objs.size (.tup [kV k,v]),?_,rfl,⟨_,nT,rfl,fun kvs' k' v' a1 a2=>?_⟩,⟨key,u,it2⟩,fun c hc=>?_⟩
  ·have OS:h2.get? s.heap.objs.size=some {cls:=.type "tuple",data:=.seq #[key,u]}:=(sb.2 _ tT).trans tp;have S0:Inv X pi σ (upd H s.heap.objs.size (.tup [kV k,v])) {s with heap:=h2,gens:=s.gens,drawn:=s.drawn,toks:=s.toks}:=by
    refine I.step (ch:=[it]) (fun c hc=>?_) (fun c q _ _ nc e _=>all c q (fun z=>nc (by simp[z])) e)
     (fun c q _ _ nc e _=>⟨q.slots,all c q (fun z=>nc (by simp[z])) e⟩) (fun c q _ e n=>by rw[aJ (TR (TC e))];exact n)
     (fun c q nc e=>⟨q,all c q (fun z=>nc (by simp[z])) e⟩) (fun c l e=>by rw[aJ (aU e nT)];exact e) (fun c q u' e=>by rw[aJ (aU e nT)];exact e)
     (fun c ps e=>⟨#[],by rw[aJ (aU e nT),e];simp⟩) (fun m hm=>?_) (fun c ob e=>?_) I.bare
    ·simp only[Tz,Ub,Xs]at hc;subst hc;exact⟨fz.2.2.2.1,fz.2.1,fz.2.2.2.2.1,fz.2.2.2.2.2⟩
    ·obtain⟨q,es,ep,hq,r⟩:=hm;exact⟨q,es,ep,all _ q (UY fz.2.1) hq,r⟩
    ·by_cases ec:c=s.heap.objs.size
     ·subst ec;rw[aY]at e;cases e;exact⟨by simp only[TJ,Um];rw[UD];decide,[key,u],.cons (DR JJ) (.cons ru .nil),⟨_,OS,rfl,⟨0,rfl⟩,rfl⟩⟩
     ·rw[aJ ec]at e;refine(I.hok c ob e).stay (fun d w' hd q=>?_) (fun d q=>by rw[aJ (aU q nT)];exact q) fun d l q=>by rw[aJ (aU q nT)];exact q
      have MO:∃oo,H d=some oo:=by
       rcases hd with rfl|hd
       ·exact⟨_,e⟩
       ·exact⟨_,hd⟩
      obtain⟨oo,OT⟩:=MO;exact all d w' (LG d oo OT) q
   exact S0
  ·rw[ha]at a1;cases a1;rw[hx]at a2;cases a2;rfl
  ·have e:c=it:=by simpa using hc
   subst e;rw[aJ (UY tT)];exact fz.1
 done:=by
  intro X hP hw hK hc i pi s σ H E I hf st hg;subst hP hw hK;obtain⟨kvs,ha,hn,hi⟩:=hg;obtain⟨ok,ov,st⟩:=st;obtain⟨ho,vs,r,hm⟩:=tL I hd ha;have hl:vs.length=n:=by rw[<-hn];exact r.length.symm
  subst hl;have fz:=hf it (by simp);have LG:∀c ob,H c=some ob->c≠it:=fun c ob e q=>by rw[q,fz.1]at e;cases e
  refine wpAny_pyNext_items_end (I.ok.hd hc) st hm (List.getElem?_eq_none (by lia)) fun h' kk=>⟨rfl,?_⟩
  have S0:Inv X pi σ H {s with heap:=h',gens:=s.gens,drawn:=s.drawn,toks:=s.toks}:=by
   refine I.step (ch:=[it]) (fun c hc=>?_) (fun c q _ _ nc e _=>kk c q (fun z=>nc (by simp[z])) e)
    (fun c q _ _ nc e _=>⟨q.slots,kk c q (fun z=>nc (by simp[z])) e⟩) (fun c q _ e n=>n)
    (fun c q nc e=>⟨q,kk c q (fun z=>nc (by simp[z])) e⟩) (fun c l e=>e) (fun c q u' e=>e)
    (fun c ps e=>⟨#[],by rw[e];simp⟩) (fun m hm=>?_) (fun c ob e=>?_) I.bare
   ·simp only[Tz,Ub,Xs]at hc;subst hc;exact⟨fz.2.2.2.1,fz.2.1,fz.2.2.2.2.1,fz.2.2.2.2.2⟩
   ·obtain⟨q,es,ep,hq,r⟩:=hm;exact⟨q,es,ep,kk _ q (UY fz.2.1) hq,r⟩
   ·refine(I.hok c ob e).stay (fun d w' hd q=>?_) (fun d q=>q) fun d l q=>q
    have MO:∃oo,H d=some oo:=by
     rcases hd with rfl|hd
     ·exact⟨_,e⟩
     ·exact⟨_,hd⟩
    obtain⟨oo,OT⟩:=MO;exact kk d w' (LG d oo OT) q
  exact S0
 self:=fun _ _ _ _ _ ⟨ok,ov,st⟩ h=>PySem.W.kcp_self st h
theorem yW{X:Cx}{pi:List (Addr×Obj)}{σ:L2.St}{H:Hp}{s:Shared}{a:Addr}{o:Obj}{kvs:List (Key×V)}(I:Inv X pi σ H s)(ha:H a=some (.dK kvs))(ho:s.heap.get? a=some o):Inv X pi σ (upd H a (.frz o (.dK kvs))) s:=by
 have ok:=(show ObjOk X.prog X.w H s.heap a (.dK kvs) from I.hok a _ ha)
 have nt:∀c xs,H c=some (.tup xs)->c≠a:=fun c xs e z=>by rw[z,ha]at e;cases e
 have nf:∀c q u,H c=some (.frz q u)->c≠a:=fun c q u e z=>by rw[z,ha]at e;cases e
 have nb:∀c ps,H c=some (.tbl ps)->c≠a:=fun c ps e z=>by rw[z,ha]at e;cases e
 have no:∀c b,H c=some (.own b)->c≠a:=fun c b e z=>by rw[z,ha]at e;cases e
 have S0:Inv X pi σ (upd H a (.frz o (.dK kvs))) {s with heap:=s.heap,gens:=s.gens,drawn:=s.drawn,toks:=s.toks}:=by
  refine I.step (ch:=[]) (fun c hc=>nomatch hc) (fun c q _ _ _ e _=>e) (fun c q _ _ _ e _=>⟨q.slots,e⟩) (fun c q _ e n=>?_) (fun c q _ e=>⟨q,e⟩)
   (fun c l e=>by rw[aJ (nt c l e)];exact e) (fun c q u e=>by rw[aJ (nf c q u e)];exact e) (fun c ps e=>⟨#[],by rw[aJ (nb c ps e),e];simp⟩) (fun m hm=>hm) (fun c ob e=>?_) I.bare
  ·have:c≠a:=fun z=>by rw[z,ha]at n;cases n
   rw[aJ this];exact n
  ·by_cases ec:c=a
   ·subst ec;rw[aY]at e;cases e;exact⟨ho,ok.stay (fun _ _ _ q=>q) (fun d q=>by rw[aJ (no d _ q)];exact q) fun d l q=>by rw[aJ (nt d l q)];exact q⟩
   ·rw[aJ ec]at e;exact(I.hok c ob e).stay (fun _ _ _ q=>q) (fun d q=>by rw[aJ (no d _ q)];exact q) fun d l q=>by rw[aJ (nt d l q)];exact q
 exact S0
def G0(td:TE):TI:=fun σ H R=>td σ H fun v H1=>∃a kvs,v=.ref a/\H1 a=some (.dK kvs)/\∀o,R (Itm o kvs.length a) (upd H1 a (.frz o (.dK kvs)))
theorem yX{X:Cx}{e:Expr}{elts:List Expr}{kk:Nat}{pos apos HV:Pos}{td:TE}(ho:PE X e td)(Iv:attributeBase e "items" X.env (eval e X.env)=eval e X.env:=by rfl)(Iw:(apos.endLine==HV.line)=true:=by rfl):
  PI X (.Tuple elts kk pos) (.Call (.Attribute e "items" apos) [] [] HV) (G0 td):=by
 intro pi s σ H R I h;refine wpAny_Call_method0_late Iv Iw (HW (ho pi s σ H _ I h) fun v s1 HY=>?_);obtain⟨x,H1,I1,r1,a,kvs,ex,ha,q⟩:=HY;subst ex;have ty:Qd X.K "dict" (.ref a) H1:=.inr (.inr (.inl ⟨rfl,.inl ⟨kvs,ha⟩⟩));obtain⟨h1,h2⟩:=vW I1 r1 ty;cases r1;obtain⟨z,nm,vs,r,hD⟩:=(show ObjOk X.prog X.w H1 s1.heap a (.dK kvs) from I1.hok a _ ha)
 obtain⟨o,es,ep,g1,ex,dat,dS⟩:=id hD;refine⟨"dict","dict.items",F.plainAttrs_dict,F.slot_dict_items,F.type_dict_items,h1,h2,VJ rfl (XG ?_)⟩;refine call_meetsIn F.slot_dict_items h1 F.entry_dict_items (F.args_dict_items_1 _) (meets_dict_items (mixKind X.prog X.w) a nm) ⟨⟨vs,hD⟩,?_⟩;have MM:s1.heap.DictAt (mixKind X.prog X.w) a vs ep:=⟨o,es,g1,ex,dat,dS⟩
 refine wpAny_pyIter_items ⟨_,Heap.get?_push_size _ rfl,rfl,rfl⟩ (MM.push _) ?_;have kp:∀b u,s1.heap.get? b=some u->((s1.heap.push {cls:=.type "dict_items",data:=.fields #[.ref a]}).push {cls:=.type "dict_itemiterator",data:=.fields #[.none,.bool false,.ref a,.int 0 0,.int vs.length 0,.int ep 0,.none,.none]}).get? b=some u:=fun b u e=>Heap.get?_push_of_some _ (Heap.get?_push_of_some _ e)
 have I2:=yW I1 ha g1;have sz:s1.heap.objs.size<=(s1.heap.push {cls:=.type "dict_items",data:=.fields #[.ref a]}).objs.size:=by rw[Vz];exact Vy _
 refine⟨_,[(s1.heap.push {cls:=.type "dict_items",data:=.fields #[.ref a]}).objs.size],_,Itm o kvs.length a,upd H1 a (.frz o (.dK kvs)),rfl,I2.kept (t':=s1.toks) kp,uJ o es ep kvs.length a _ dat,⟨.none,.none,?_⟩,fun c hc=>?_,q o⟩
 ·rw[r.length];exact Heap.get?_push_size _ rfl
 ·rw[TU]at hc;subst hc;exact I2.fpOk sz (I2.hok.fresh sz)
end NX
namespace PV
open PySem PySem.Spec PyProof.Rows L2 NX
def xf(f:FX):FI:=fun env=>(f env).bind fun p=>match p.1 with
 |(.d,.dct false ks vs)=>.ok ((ks.zip vs).map fun z=>D.tup [z.1,z.2],p.2)
 |_=>.bad
section
variable{X:Cx}
theorem uK{K:W.Frag}{G:Hp}{a:Addr}{o:Obj}{kvs:List (Key×V)}{vs:List D}(h:G a=some (.frz o (.dK kvs)))(hf:∀kv∈kvs,vz kv.1)(rs:Reps K G vs (kvs.map (·.2))):
  Walk K G (Itm o kvs.length a) (((kvs.map fun kv=>kD kv.1).zip vs).map fun z=>D.tup [z.1,z.2]):=by
 intro G' H' es ws fp gg rel i;have h':H' a=some (.frz o (.dK kvs)):=rel.gh _ _ (gg _ _ h);have hl:vs.length=kvs.length:=by have:=rs.length;rw[To]at this;exact this.symm
 refine⟨fun d hd=>?_,fun e=>⟨kvs,h',rfl,?_⟩⟩
 ·rw[List.getElem?_map]at hd;cases hz:((kvs.map fun kv=>kD kv.1).zip vs)[i]? with
  |none=>rw[hz]at hd;cases hd
  |some z=>
   rw[hz]at hd;cases hd;obtain⟨h1,h2⟩:=List.getElem?_zip_eq_some.mp hz;rw[List.getElem?_map]at h1;cases hk:kvs[i]? with
   |none=>rw[hk]at h1;cases h1
   |some kv=>
    rw[hk]at h1;have e1:kD kv.1=z.1:=Ua h1;obtain⟨x,hx,rx⟩:=rs.get h2;rw[List.getElem?_map,hk]at hx;have e2:kv.2=x:=Ua hx;obtain⟨k,v⟩:=kv;subst e2;refine⟨⟨kvs,k,v,h',rfl,hk⟩,fun y H2 ⟨T,hT,ev,hh⟩=>?_⟩;have e3:=hh kvs k v h' hk;subst e3;obtain⟨Hz,HJ⟩:=rel.newF (u:=.tup [kV k,v]) hT;refine⟨_,?_,Hz,HJ⟩;rw[Rep,<-e1];exact⟨T,[kV k,v],ev,aY,.cons (wU (hf _ (T3 hk))) (.one (Rep.mono (gg.trans HJ.gg) rx))⟩
 ·rw[To,UO,To]at e;lia
theorem Rel.frzD{K:W.Frag}{G H:Hp}{es:PV.Env}{vs:L2.St}{fp:List Addr}{ks ds:List D}{v:V}(q:Rel K G H (some (.d,.dct false ks ds)::es) (some v::vs) fp):
  ∃p kvs,v=.ref p/\H p=some (.dK kvs)/\ks=kvs.map (fun kv=>kD kv.1)/\(∀kv∈kvs,vz kv.1)/\Reps K G ds (kvs.map (·.2))/\
   ∀o,∃b,Rel K (upd G p (.frz o (.dK kvs))) (upd H p (.frz o (.dK kvs))) es vs b/\Step G H fp (upd G p (.frz o (.dK kvs))) (upd H p (.frz o (.dK kvs))) b:=by
 obtain⟨y,ys,e,v',a,b,e1,e2,r1,r2⟩:=q.rep;cases e;cases e1;have r1:RepO K G H .d (.dct false ks ds) v a:=r1;rw[RepO]at r1;obtain⟨p,xs,o0,ev,hp,dd,ea,rs⟩:=r1;subst ea e2;obtain⟨kvs,eo,ek,ex,hf⟩:=(show ∃kvs:List (Key×V),o0=.dK kvs/\ks=kvs.map (fun kv=>kD kv.1)/\xs=kvs.map (·.2)/\∀kv∈kvs,vz kv.1 from dd)
 subst eo ex;have nd:=TY.mp (show(p::b).Nodup from q.nd);have gp:G p=none:=q.gn p Tp;refine⟨p,kvs,ev,hp,ek,hf,rs,fun o=>⟨b,⟨?_,nd.2,fun z hz=>?_,fun z u e=>?_⟩,⟨?_,fun z u e n=>?_,fun z hz=>.inl (Tx _ hz),fun z u e=>?_,fun z u e=>?_⟩⟩⟩
 ·exact r2.step (fun z u e=>by rw[aJ (aU e gp)];exact e) fun z hz=>aJ fun e=>nd.1 (e▸hz)
 ·have:z≠p:=fun e=>nd.1 (e▸hz)
  rw[aJ this];exact q.gn z (Tx _ hz)
 ·by_cases hz:z=p
  ·subst hz;rw[aY]at e ⊢;exact e
  ·rw[aJ hz]at e ⊢;exact q.gh z u e
 ·intro z u e;rw[aJ (aU e gp)];exact e
 ·have:z≠p:=fun w=>n (by rw[w];exact Tp)
  rw[aJ this];exact e
 ·by_cases hz:z=p
  ·subst hz;exact .inr (.inl Tp)
  ·rw[aJ hz]at e;exact .inl e
 ·by_cases hz:z=p
  ·subst hz;exact⟨_,aY⟩
  ·exact⟨u,by rw[aJ hz];exact e⟩
theorem yY{e:Expr}{elts:List Expr}{kk:Nat}{pos apos HV:Pos}{f:FX}(h:QE X e f)(Iv:attributeBase e "items" X.env (eval e X.env)=eval e X.env:=by rfl)(Iw:(apos.endLine==HV.line)=true:=by rfl):
  QI X (.Tuple elts kk pos) (.Call (.Attribute e "items" apos) [] [] HV) (xf f):=
 jE (yX h Iv Iw) fun σ H R HP=>by
  obtain⟨G,env,fp,ds,env',rel,e,k⟩:=HP;obtain⟨⟨⟨o,d⟩,Hy⟩,e1,e⟩:=au e;dsimp only at e;split at e
  ·rename_i ks vs heq;cases heq;cases e;refine⟨G,env,fp,_,_,rel,e1,fun v H1 G1 HZ HU HA=>?_⟩;obtain⟨p,kvs,ev,hp,ek,hf,rs,mk⟩:=HA.frzD;refine⟨p,kvs,ev,hp,fun o=>?_⟩;obtain⟨b,Hz,HJ⟩:=mk o;refine k _ _ _ b (HU.trans HJ) Hz ?_;rw[ek];exact uK aY hf (Reps.mono HJ.gg rs)
  ·cases e
def Gb(i:Nat):FX:=fun env=>match env[i]? with
 |some (some (.t [.f,.l .f],.tup [a,.lst _]))=>.ok ((.f,.non),env.set i (some (.t [.f,.l .f],.tup [a,.lst []])))
 |_=>.bad
def yZ:List D->Res R
 |[.dct false ks _]=>.ok (.l .f,.lst ks)
 |ds=>wM ds
theorem xg:∀{xs:List V}{us:List Value},xs.length=us.length->(∀(i:Nat) (a:V) (b:Value),xs[i]?=some a->us[i]?=some b->RelV a b)->Vals xs us
 |[],[],_,_=>.nil
 |x::xs,u::us,hl,h=>.cons (h 0 x u rfl rfl) (xg (by simpa using hl) fun i a b ha hb=>h (i+1) a b (by simpa using ha) (by simpa using hb))
 |[],_::_,hl,_=>by simp at hl
 |_::_,[],hl,_=>by simp at hl
theorem qf(hc:X.calm=true):dD X (.type "list") (fun vs H Q=>∃p kvs,vs=[.ref p]/\Rd H p (.dK kvs)/\∀l,H l=none->Q (.ref l) (upd H l (.lst (kvs.map fun kv=>kV kv.1)))):=by
 intro pi s σ H xs us Q I r h;obtain⟨p,kvs,rfl,hp,q⟩:=h;obtain⟨u,rfl,rx⟩:=fK r;cases rx;obtain⟨z,nm,vs,rr,hD⟩:=uC I.hok hp;obtain⟨ep,MM⟩:=hD.dictAt;have hl:=rr.length;refine PySem.W.kdl_call (PySem.W.kdl_dict (knd:=mixKind X.prog X.w) (kvs:=vs) (ep:=ep) nm) (I.ok.hd hc) MM (by rw[<-hl];exact z) fun h' tk QH c' hk hS LD=>?_
 refine⟨.ref s.heap.objs.size,_,I.laid (o:=.lst (kvs.map fun kv=>kV kv.1)) (t':=tk) hk (Ts _) ⟨by rw[To];exact z,QH.toList,c',?_,by rw[Array.toArray_toList];exact hS⟩,rfl,q _ (I.hok.fresh (Ts _))⟩;refine xg (by rw[To,hl];exact(LD.1.symm.trans (UQ (xs:=QH)).symm)) fun i a b ha hb=>?_
 rw[Array.getElem?_toList]at hb;obtain⟨k,x,e1,e2⟩:=LD.2 i b hb;rw[List.getElem?_map]at ha;cases Kh:kvs[i]? with
 |none=>rw[Kh]at ha;cases ha
 |some kv=>
  rw[Kh]at ha;obtain⟨k',v'⟩:=kv;obtain⟨u,hu,_⟩:=DS rr Kh;rw[e1]at hu;cases hu;cases ha;exact DR e2
theorem y7(hc:X.calm=true):dD X (.type "list") (rC X.K yZ):=by
 rintro pi s σ H xs us Q I rx ⟨G,fp,es,vs,ds,r,⟨rel,k⟩,vd,e⟩;unfold yZ at e;split at e
 ·rename_i ks ws;cases e;obtain⟨v,ev,vt⟩:=pq vd;have rp:=vt.rep rel.gh;rw[Rep]at rp;obtain⟨p,ys,o,ep,rd,dd,rs⟩:=rp;obtain⟨kvs,eo,ek,ex,hf⟩:=(show ∃kvs:List (Key×V),o=.dK kvs/\ks=kvs.map (fun kv=>kD kv.1)/\ys=kvs.map (·.2)/\∀kv∈kvs,vz kv.1 from dd)
  subst ev ep eo;refine qf hc pi s σ H _ us Q I rx ⟨p,kvs,rfl,rd,fun q hq=>?_⟩;have rk:Reps X.K G ks (kvs.map fun kv=>kV kv.1):=by
   rw[ek];refine Reps.ofAll (by rw[To,To]) fun i d v hd hv=>?_
   rw[List.getElem?_map]at hd hv;cases Kh:kvs[i]? with
   |none=>rw[Kh]at hd;cases hd
   |some kv=>
    rw[Kh]at hd hv;cases hd;cases hv;exact wU (hf _ (T3 Kh))
  obtain⟨Hz,HJ⟩:=rel.newL hq rk;exact k _ _ G _ HJ Hz
 ·exact wN pi s σ H xs us Q I rx ⟨G,fp,es,vs,ds,r,⟨rel,k⟩,vd,e⟩
end
end PV
namespace NX
open PySem PySem.Spec PyProof.Rows L2
section
variable{prog:Program}{w:World}{A:Around}{E:Value->Shared->Prop}{s:Shared}
end
section
variable{prog:Program}{w:World}{A:Around}{E:Value->Shared->Prop}{s:Shared}
end
section
variable{X:Cx}{e:Expr}{ta:TA}{p p2 pos pos2:Pos}
end
end NX
namespace PV
open PySem PySem.Spec PyProof.Rows L2 NX
def Hx:List D->Res R
 |[.lst ds]=>.ok (.l .f,.lst ds.reverse)
 |_=>.bad
section
variable{X:Cx}{e:Expr}{fs:FOs}{p p2 pos pos2:Pos}
end
noncomputable def compLE(a:FG)(c:FT)(f:FX):List D->PV.Env->Res (List D×PV.Env)
 |[],env=>.ok ([],env)
 |d::ds,env=>(a d env).bind fun e=>(c e).bind fun p=>if p.1 then(f p.2).bind fun q=>(compLE a c f ds q.2).bind fun rs=>.ok (q.1.2::rs.1,rs.2) else compLE a c f ds p.2
def BB(a:FG)(c:FT)(f:FX)(ds:List D)(E:Addr->PV.Env)(k0:Nat)(x:List D×List D):Prop:=∀q,∃HN,compLE a c f ds (E q)=.ok (x.1,HN)/\HN[k0]?=some (some (.pin q (.l .f),.lst x.2))
open Classical in
def uL(a:FG)(c:FT)(f:FX)(ds:List D)(E:Addr->PV.Env)(k0:Nat):Res (List D×List D):=if h:∃x,BB a c f ds E k0 x then .ok h.choose else .bad
theorem oP{a:FG}{c:FT}{f:FX}{ds:List D}{E:Addr->PV.Env}{k0:Nat}{x:List D×List D}(h:BB a c f ds E k0 x):uL a c f ds E k0=.ok x:=by
 have ex:∃x,BB a c f ds E k0 x:=⟨x,h⟩
 unfold uL;rw[dif_pos ex];obtain⟨e1,h1,h2⟩:=ex.choose_spec 0;obtain⟨e2,h3,h4⟩:=h 0;rw[h1]at h3;have h5:=Res.ok.inj h3;have h6:=UN Prod.fst h5;have h7:=UN Prod.snd h5;dsimp only at h6 h7;subst h7;rw[h2]at h4;injection h4 with h4;injection h4 with h4;injection h4 with _ h4;injection h4 with h4;have:ex.choose=x:=Prod.ext h6 h4;rw[this]
theorem y8{a:FG}{c:FT}{f:FX}{ds:List D}{E:Addr->PV.Env}{k0:Nat}{x:List D×List D}(h:uL a c f ds E k0=.ok x):BB a c f ds E k0 x:=by
 unfold uL at h;split at h
 ·rename_i ex;cases h;exact ex.choose_spec
 ·cases h
noncomputable def jR(fi:FI)(ix:List (Option Nat))(j k0:Nat)(a:FG)(c:FT)(f:FX):FX:=fun env=>(fi env).bind fun p=>match p.2[j]? with
 |some (some (ow,.lst d0))=>if isLf ow then(uL a c f p.1 (fun q=>(cN ix (p.2.set j none)).set k0 (some (.pin q (.l .f),.lst d0))) k0).bind fun x=>if x.1.length<=sizeLine/\flatDs x.1=true/\flatDs x.2=true then .ok ((.l .f,.lst x.1),p.2.set j (some (ow,.lst x.2))) else .bad else .bad
 |_=>.bad
theorem Am{K:W.Frag}{fi:FI}{ix:List (Option Nat)}{j k0:Nat}{a:FG}{c:FT}{f:FX}{σ:L2.St}{H:Hp}{Q:VK}(hk:ix[k0]?=some (some j))(h:tQ K (jR fi ix j k0 a c f) σ H Q):yv (tQI K fi) ix (tQG K a) (tQT K c) (tQ K f) σ H Q:=by
 obtain⟨G,env,fp,r,env',rel,e,k⟩:=h;obtain⟨⟨ds,Hy⟩,e1,e⟩:=au e;refine⟨G,env,fp,ds,Hy,rel,e1,fun J H1 G1 HZ HU HA wk D hD=>?_⟩;dsimp only at e;split at e
 ·rename_i ow d0 hj;split at e
  ·rename_i hlf;obtain⟨⟨rs,d'⟩,e2,e⟩:=au e;dsimp only at e;split at e
   ·rename_i hz;cases e;obtain⟨v0,aa,b,ev,r0,r2,pm⟩:=HA.rep.take hj;obtain⟨q,xs0,eq,hq,ea,rs0,mk⟩:=Al hlf r0;subst eq ea;have nd:=TM.mp (pm.nodup_iff.mp HA.nd);have Lk:Rel K G1 H1 (Hy.set j none) σ b:=⟨r2,nd.2.1,fun w hw=>HA.gn w (pm.mem_iff.mpr (Tn _ hw)),HA.gh⟩
    obtain⟨G2,ML,NU,QJ,JV,JW⟩:=Lk.lendM [q] (fun w hw hb=>nd.2.2 w hw w hb rfl) (fun w hw=>HA.gn w (pm.mem_iff.mpr (Tq _ hw)));have rE:=fO (H:=H1) JV (fun i r er=>let⟨v,ev,_⟩:=Lk.view er;⟨v,ev⟩) ix;have MJ:(cN ix (Hy.set j none))[k0]?=some none:=by
     unfold cN;rw[List.getElem?_map,hk];show some (match(Hy.set j none)[j]? with|some (some r)=>some (O.f,r.2)|_=>none)=_;rw[List.getElem?_set_self (List.getElem?_eq_some_iff.mp hj).1]
    have Mc:(jx ix σ)[k0]?=some (some (.ref q)):=by
     unfold jx;rw[List.getElem?_map,hk];show some ((σ[j]?).bind id)=_;rw[ev];rfl
    have rP:RepO K G2 H1 (.pin q (.l .f)) (.lst d0) (.ref q) [q]:=by
     rw[RepO];exact⟨rfl,dE.mpr ⟨q,xs0,rfl,hq,rfl,rs0.mono ML⟩⟩
    obtain⟨SU,SV,Sa⟩:=rE.put (i:=k0) (r:=(.pin q (.l .f),.lst d0)) (v:=.ref q) MJ rP;rw[lG Mc]at SV;have Hz:Rel K G2 H1 ((cN ix (Hy.set j none)).set k0 (some (.pin q (.l .f),.lst d0))) (jx ix σ) SU:=⟨SV,Sa.symm.nodup_iff.mp (TY.mpr ⟨Ub,Uw⟩),(fun w hw=>QJ w (by have:=Sa.mem_iff.mp hw;simpa using this)),NU⟩
    have st0:Step G2 H1 [q] G2 H1 SU:=Step.cut fun w hw=>by have:=Sa.mem_iff.mp hw;simpa using this
    obtain⟨Ia,Ip⟩:=Hz.newL (ds:=[]) (xs:=[]) hD .nil;obtain⟨QK,eL,eK⟩:=y8 e2 q;dsimp only at eL eK;refine⟨fun i m σ1 H2=>m=ds.length-i/\i<=ds.length/\∃G' es HI acc dS,Step G2 H1 [q] G' H2 HI/\Rel K G' H2 (some (.l .f,.lst acc)::es) (some (.ref D)::σ1) HI/\compLE a c f (ds.drop i) es=.ok (dS,QK)/\acc++dS=rs,
     ⟨_,rfl,Uj _,G2,_,_,[],rs,st0.trans Ip,Ia,eL,rfl⟩,?_⟩
    rintro i m σ1 H2 ⟨rfl,hi,G3,es,Ji,acc,dS,JE,IB,e4,Ko⟩;obtain⟨w1,w2⟩:=wk G3 H2 _ _ _ (ML.trans JE.gg) IB i;by_cases Iy:i<ds.length
    ·have hd:ds[i]?=some ds[i]:=List.getElem?_eq_getElem Iy;obtain⟨go,yl⟩:=w1 _ hd;rw[VT Iy]at e4;unfold compLE at e4;obtain⟨Qz,h1,e4⟩:=au e4;obtain⟨⟨b',M8⟩,h2,e4⟩:=au e4;dsimp only at e4;refine .inr ⟨go,fun x H3 y=>?_⟩;obtain⟨G4,rx,Jm,Kd⟩:=yl x H3 y;obtain⟨fa,fb,NW,ra,LK,bk⟩:=Jm.frame;refine⟨G4,es,fb,ds[i],Qz,LK,rx,h1,fun σ2 G5 NH R3 O0=>?_⟩;refine⟨G5,Qz,NH,b',M8,O0,h2,fun H6 G6 QA R4 M9=>?_⟩;have Na:=R3.trans R4;cases b' with
     |false=>
      refine iteF ⟨ds.length-(i+1),by lia,rfl,Iy,?_⟩;obtain⟨JB,Lj⟩:=bk G6 H6 M8 σ2 QA Na M9;rw[<-NW]at Lj;exact⟨G6,M8,_,acc,dS,JE.trans (Kd.trans Lj),JB,e4,Ko⟩
     |true=>
      have e4:((f M8).bind fun q=>(compLE a c f (ds.drop (i+1)) q.2).bind fun rs=>.ok (q.1.2::rs.1,rs.2))=.ok (dS,QK):=e4;obtain⟨⟨r,O1⟩,h3,e4⟩:=au e4;obtain⟨⟨Nb,envE'⟩,h4,e4⟩:=au e4;cases e4;refine Cy ⟨G6,M8,QA,r,O1,M9,h3,fun v H7 G7 fp7 R5 O2=>?_⟩;obtain⟨G8,R6,rv,O3,R7⟩:=O2.freeze;obtain⟨JB,Lj⟩:=bk G8 H7 O1 σ2 R6 (Na.trans (R5.trans R7)) O3;rw[<-NW]at Lj;obtain⟨p,xs,ep,hp,OC,cg⟩:=JB.chg (i:=0) (ds:=acc) (ds':=acc++[r.2]) rfl;have ep:some (some (V.ref D))=some (some (V.ref p)):=ep;cases ep;obtain⟨fq,O4,R8⟩:=cg (xs++[v]) (OC.app (.one rv));refine⟨xs,hp,?_,ds.length-(i+1),by lia,rfl,Iy,G8,O1,fq,acc++[r.2],Nb,JE.trans (Kd.trans (Lj.trans R8)),O4,h4,?_⟩
      ·rw[OC.length];have:=UN List.length Ko;rw[Ud,TJ]at this;have:=hz.1;lia
      ·rw[<-Ko,Ut];rfl
    ·have ei:i=ds.length:=by lia
     subst ei;rw[WX]at e4;cases e4;rw[T9]at Ko;subst Ko;refine .inl ⟨w2 rfl,?_⟩;obtain⟨fa,fb,NW,ra,LK,bk⟩:=IB.frame;obtain⟨v1,fq1,ev1,Nc,QB,_⟩:=LK.out eK;obtain⟨fx,QL,stx⟩:=Nc.only;have Qt:v1=.ref q:=by
      obtain⟨y,ys,ey,v2,a2,b2,O8,P1,LN,P2⟩:=QL.rep;cases ey;cases O8;have LN:RepO K G3 H2 (.pin q (.l .f)) (.lst d') v1 a2:=LN;rw[RepO]at LN;exact LN.1
     subst Qt;obtain⟨JB,Lj⟩:=bk G3 H2 _ _ fx (QB.trans stx) QL;rw[<-NW]at Lj;obtain⟨G5,NH,Kd,Jm⟩:=JW H2 G3 _ _ _ (JE.trans Lj) JB (fun w hw=>by
      rcases Tz.mp hw with hw|hw
      ·cases hw;rw[aT,jF];exact hz.2.1
      ·rw[TU]at hw;cases hw;rw[aT,aT,jF];exact hz.2.2)
     obtain⟨a1,b1,ef,ro,H0,comb⟩:=Rel.frame Jm;have Nf:Rel K G5 H2 (some (ow,.lst d')::Hy.set j none) (some (.ref q)::σ) b1:=by
      obtain⟨y2,Ru,QM,v2,a2,b2,O8,P1,LN,P2⟩:=H0.rep;cases QM;cases O8;have LN:RepO K G5 H2 (.pin q (.l .f)) (.lst d') (.ref q) a2:=LN;rw[RepO]at LN;obtain⟨q',zs,eq',SW,ea',rz⟩:=dE.mp LN.2;cases eq';subst ea';have r3:RepO K G1 H1 ow (.lst d0) (.ref q) [q]:=r0;refine⟨⟨_,_,rfl,_,[q],b2,rfl,P1,?_,P2⟩,H0.nd,H0.gn,H0.gh⟩;show RepO K G5 H2 ow (.lst d') (.ref q) [q];unfold isLf at hlf;split at hlf
      ·exact dE.mpr ⟨q,zs,rfl,SW,rfl,rz⟩
      ·rw[RepO]at r3 ⊢;exact⟨r3.1,dE.mpr ⟨q,zs,rfl,SW,rfl,rz⟩⟩
      ·cases hlf
     obtain⟨fq,Mt,QN⟩:=Nf.back (i:=j) (by rw[U6];exact(List.getElem?_eq_some_iff.mp hj).1) ev;rw[Wc]at Mt;obtain⟨LO,Ng⟩:=comb G5 H2 _ _ fq QN Mt;rw[<-ef]at Ng;exact k _ H2 G5 _ (HU.trans ((Kd.perm (fun w=>pm.mem_iff.symm) (fun w hw=>hw)).trans Ng)) LO
   ·cases e
  ·cases e
 ·cases e
end PV
namespace NX
open PySem PySem.Spec PyProof.Rows L2
section
open PySem.AutoSeq1 (wpAny_loadPart')
end
end NX
namespace PV
open PySem PySem.Spec PyProof.Rows L2 NX
section
variable{X:Cx}
end
section
variable{md:Mode}{X:Cx}{scope:Scope}{N:List Str}{tg iter elt:Expr}{ifs:List Expr}{pos:Pos}{fi:FI}{a:FG}{c:FT}{f:FX}{j k0:Nat}
theorem tM(ix:List (Option Nat))(N:List Str)(hc:X.calm=true)(hi:QI X tg iter fi)(hg:∀C s H fp pn,QG (bK X scope N C s H fp pn) tg a)(ht:∀C s H fp pn,PZ (bK X scope N C s H fp pn) ifs c)(he:∀C s H fp pn,QE (bK X scope N C s H fp pn) elt f)
  (Sb:ix[k0]?=some (some j):=by rfl)
  (hf:gX scope X.env=true:=by rfl) (hk:scope.kind=.function:=by rfl) (Ik:∀y∈scope.names,y.2≠.cell:=by decide +kernel) (IA:∀y∈scope.names,y.2=.local->scope.names.lookup y.1=some .local:=by decide +kernel) (J2:x4 X scope N ix=true:=by rfl)
  (hs:∀x,foldedSetIterable iter X.env x=pure x:=by intro _;rfl):QE X (.ListComp elt [⟨tg,iter,ifs,0⟩] scope pos) (jR fi ix j k0 a c f):=
 bx (wc (g:=tQG X.K a) (tc:=tQT X.K c) (te:=tQ X.K f) ix N hc hi hg ht he hf hk Ik IA J2 hs) fun _ _ _=>Am Sb
theorem y9{i:Nat}{y:Str}{py Le:Pos}(ix:List (Option Nat))(N:List Str)(hN:X.N.Nodup)(Qk:X.N[i]?=some y)(hy:Loc X.env.scope y)(hc:X.calm=true)(hi:QI X tg iter fi)(hg:∀C s H fp pn,QG (bK X scope N C s H fp pn) tg a)(ht:∀C s H fp pn,PZ (bK X scope N C s H fp pn) ifs c)
  (he:∀C s H fp pn,QE (bK X scope N C s H fp pn) elt f) (Sb:ix[k0]?=some (some j):=by rfl) (Ql:swapsWith (.ListComp elt [⟨tg,iter,ifs,0⟩] scope pos) (some (.Name y py)) Le.line X.env=pure true:=by rfl)
  (hf:gX scope X.env=true:=by rfl) (hk:scope.kind=.function:=by rfl) (Ik:∀y∈scope.names,y.2≠.cell:=by decide +kernel) (IA:∀y∈scope.names,y.2=.local->scope.names.lookup y.1=some .local:=by decide +kernel) (J2:x4 X scope N ix=true:=by rfl)
  (hs:∀x,foldedSetIterable iter X.env x=pure x:=by intro _;rfl) (MP:X.fn y=true\/X.env.scope.names.lookup y=some .local:=by first|exact .inl rfl|exact .inr rfl):
  QS (md:=md) X (.Assign [.Name y py] (.ListComp elt [⟨tg,iter,ifs,0⟩] scope pos) Le) (bP i (jR fi ix j k0 a c f)):=
 gL (wd (i:=i) (g:=tQG X.K a) (tc:=tQT X.K c) (te:=tQ X.K f) ix N hN Qk hy hc hi hg ht he Ql hf hk Ik IA J2 hs MP) fun D σ H ⟨G,env,fp,rel,k⟩=>Am Sb (ri rel k)
end
section
variable{X:Cx}{x:Str}{p pos:Pos}{e:Expr}{es:List Expr}{f0:FX}{fs:FOs}
end
section
variable{X:Cx}
end
end PV
namespace NX
open PySem PySem.Spec PyProof.Rows L2
section
variable{prog:Program}{w:World}{A:Around}{R:Result->Shared->Prop}{it:Addr}{fp wr:List Addr}{n:Nat}{Pv:Nat->Value->Prop}{Sx:Nat->Heap->Prop}{kw:List (Str×Value)}
theorem oQ:(toString "min"++toString ".loop" : String) = "min.loop":=by decide
theorem FD(Wk:Walks prog w A.in1 it fp wr n Pv Sx)(bt:Nat->Nat->Bool)(cm:CmpOf prog w A.in1 .Lt Pv bt)(T:Addr)(nT:T∉fp):∀(k j:Nat) (s:Shared) (vb:Value) (c:Nat),n-(j+1)=k->j+1<=n->Sx (j+1) s.heap->Pv (argBest bt j) vb->
   s.heap.get? T=some {cls:=.type "list",dict:=none,data:=.seq #[vb,vb] c,slots:=#[]}->
   (∀v h' tk,Pv (argBest bt (n-1)) v->(∀b o,b∉wr->b≠T->s.heap.get? b=some o->h'.get? b=some o)->R (.ok (.ret v)) {s with heap:=h',toks:=tk})->codeAny (model prog w) A (.builtin "min.loop" ⟨[.ref it,.none,.ref T],kw⟩) R s:=by
 have NR:T∉wr:=fun z=>nT (Wk.sub _ z)
 intro k;induction k with
 |zero=>
  intro j s vb c hk hj st hp hT fin;have ej:j+1=n:=by lia
  refine VL W0 ?_;rw[Va Vr _];show wpAny _ A.in1 (seqItems? (.ref T) >>= _) _ _ s;refine Tj (UA hT rfl ?_);show wpAny _ A.in1 (tryCatch (pyNext (.ref it)) _ >>= _) _ _ s;refine Tj (U3 (Wk.done s _ _ (ej▸st) fun h' tk kk=>?_));have Lf:=kk T _ NR hT;show wpAny _ A.in1 (updateSeq T (fun _=>#[]) >>= _) _ _ _;refine Tj (VM Lf rfl (Tj (Vi (Tr ?_))));exact fin vb _ tk (by rw[<-ej];exact hp) fun b o bw bT e=>(Heap.get?_update_other _ _ (UY bT)).trans (kk b o bw e)
 |succ k ih=>
  intro j s vb c hk hj st hp hT fin;have jn:j+1<n:=by lia
  refine VL W0 ?_;rw[Va Vr _];show wpAny _ A.in1 (seqItems? (.ref T) >>= _) _ _ s;refine Tj (UA hT rfl ?_);show wpAny _ A.in1 (tryCatch (pyNext (.ref it)) _ >>= _) _ _ s;refine Tj (U3 (Wk.item (j+1) s _ _ jn st fun v h' tk pv JZ kk=>?_));have Lf:=kk T _ NR hT;show wpAny _ A.in1 (tryCatch (holding [v,v] (richCompare .Lt v vb >>= _)) _ >>= _) _ _ _;refine Tj (U3 (U2 (Tj (cm (j+1) (argBest bt j) v vb _ _ _ pv hp (Tj (U2 (UZ (Tj (Vi (Tr ?_))))))))));cases eb:bt (j+1) (argBest bt j) with
  |true=>
   rw[Tt rfl];refine Tj (VM Lf rfl (Tj (Vi ?_)));rw[oQ];refine Tr ⟨VD Vr _,ih (j+1) _ v _ (by lia) jn (Wk.frame _ _ _ JZ fun b bf o e=>?_) (by simp only[argBest,eb,VQ];exact pv) (Heap.get?_update_self _ Lf rfl) fun v2 h2 t2 p2 k2=>?_⟩
   ·exact(Heap.get?_update_other _ _ (fun z:T=b=>nT (by rw[z];exact bf))).trans e
   ·exact fin v2 h2 t2 p2 fun b o bw bT e=>k2 b o bw bT ((Heap.get?_update_other _ _ (UY bT)).trans (kk b o bw e))
  |false=>
   rw[TB Tw];refine Tj (Vi ?_);rw[oQ];refine Tr ⟨VD Vr _,ih (j+1) _ vb c (by lia) jn JZ (by simp only[argBest,eb,UT,Wi];exact hp) Lf fun v2 h2 t2 p2 k2=>?_⟩;exact fin v2 h2 t2 p2 fun b o bw bT e=>k2 b o bw bT (kk b o bw e)
theorem za(Wk:Walks prog w A.in1 it fp wr n Pv Sx)(bt:Nat->Nat->Bool)(cm:CmpOf prog w A.in1 .Lt Pv bt)(T:Addr)(nT:T∉fp){s:Shared}{c:Nat}{d:Value}(RP:kw=[(Str.ofString "default",d)])(st:Sx 0 s.heap)
  (hT:s.heap.get? T=some {cls:=.type "list",dict:=none,data:=.seq #[] c,slots:=#[]}) (fin:∀v h' tk,(if n=0 then v=d else Pv (argBest bt (n-1)) v)->(∀b o,b∉wr->b≠T->s.heap.get? b=some o->h'.get? b=some o)->R (.ok (.ret v)) {s with heap:=h',toks:=tk}):
  codeAny (model prog w) A (.builtin "min.loop" ⟨[.ref it,.none,.ref T],kw⟩) R s:=by
 have NR:T∉wr:=fun z=>nT (Wk.sub _ z)
 refine VL W0 ?_;rw[Va Vr _];show wpAny _ A.in1 (seqItems? (.ref T) >>= _) _ _ s;refine Tj (UA hT rfl ?_);show wpAny _ A.in1 (tryCatch (pyNext (.ref it)) _ >>= _) _ _ s;by_cases hn:n=0
 ·refine Tj (U3 (Wk.done s _ _ (by rw[hn];exact st) fun h' tk kk=>?_));subst RP;refine Tj (WG (Tr ?_));exact fin d _ tk (by rw[Tt hn]) fun b o bw bT e=>kk b o bw e
 ·refine Tj (U3 (Wk.item 0 s _ _ (by lia) st fun v h' tk pv JZ kk=>?_));have Lf:=kk T _ NR hT;show wpAny _ A.in1 (updateSeq T (fun _=>#[v,v]) >>= _) _ _ _;refine Tj (VM Lf rfl ?_);rw[oQ];refine Tr ⟨VD Vr _,FD Wk bt cm T nT _ 0 _ v _ rfl (by lia) (Wk.frame _ _ _ JZ fun b bf o e=>?_) pv (Heap.get?_update_self _ Lf rfl) fun v2 h2 t2 p2 k2=>?_⟩
  ·exact(Heap.get?_update_other _ _ (fun z:T=b=>nT (by rw[z];exact bf))).trans e
  ·exact fin v2 h2 t2 (by rw[TB hn];exact p2) fun b o bw bT e=>k2 b o bw bT ((Heap.get?_update_other _ _ (UY bT)).trans (kk b o bw e))
end
theorem args_mind(a d:Value):argsOk "min" ⟨[a],[(Str.ofString "default",d)]⟩:=by unfold argsOk;kernel_rfl
section
variable{X:Cx}{e k:Expr}{te tk:TE}{p pos KO:Pos}
def minD(ns:List Int)(d:Int):Int:=if ns=[] then d else ni ns
def FE(K:W.Frag)(te tk:TE):TE:=fun σ H Q=>uq te Cw σ H fun vs H1=>uq tk Cw σ H1 fun ks H2=>∃(a:Addr) (ns:List Int) (d:Int),vs=[.ref a]/\ks=[.int d]/\(SqL K H2 a (ns.map V.int)\/SqT K H2 a (ns.map V.int))/\Q (.int (minD ns d)) H2
theorem BC(hc:X.calm=true)(hg:Gl X "min")(hm:X.mg "min" = none)(he:PE X e te)(hk:PE X k tk)(hs:starEach [e] X.env=[(false,eval e X.env)]:=by rfl):
  PE X (.Call (.Name "min" p) [e] [⟨some "default",k,KO⟩] pos) (FE X.K te tk):=by
 intro pi s σ H Q I h;refine Vu (kG I hg hm (by decide +kernel:bootBuiltins "min" = some (.builtin "min")) ?_ (by decide) (by decide));refine callWith_kw (HW (i9 he pE (hs:=hs) pos pi s σ H _ I h) fun us s1 ⟨vs,H1,I1,r1,q1⟩=>?_) (by rw[hs];rfl) (by rw[hs];rfl);refine HW (vP hk zU pos pi s1 σ H1 _ I1 q1) fun ws s2 HY=>?_
 obtain⟨ks,H2,I2,r2,a,ns,d,e1,e2,hp,q⟩:=HY;subst e1 e2;obtain⟨u,rfl,ru⟩:=fK r1;obtain⟨w',rfl,t,rfl⟩:=fK r2;cases ru;show wpAny _ _ (call (.builtin "min") [.ref a] [(Str.ofString "default",.int d t)]) _ _ s2;refine tree_kw F.kind_min F.plain_min F.entry_min (args_mind _ _) ?_;show wpAny _ X.A.in1 (Builtin.Builtins.bindParams "min" ["key","default"] 0 ⟨[],[(Str.ofString "default",.int d t)]⟩ >>= _) _ _ s2;refine Tj (XH (show Builtin.Builtins.bindParams "min" ["key","default"] 0 ⟨[],[(Str.ofString "default",.int d t)]⟩=pure [none,some (.int d t)] from rfl) ?_);refine Tj (Tr ?_);refine Tj (jy hc I2 hp fun it fp o ws Sx rv Wk st hf hit=>?_);have hl:=rv.length;rw[To]at hl;refine Tj (Us ?_);have nT:(s2.heap.push o).objs.size∉fp:=fun z=>Vs _ (hf _ z)
 rw[oQ];refine Tr ⟨VD Vr _,za Wk _ (pS rv _) (s2.heap.push o).objs.size nT rfl (Wk.frame _ _ _ st fun b _ ob e=>Heap.get?_push_of_some _ e) (Heap.get?_push_size _ rfl) fun v h' RQ hv kk=>?_⟩;subst hit;have I3:Inv X pi σ H2 {s2 with heap:=h',toks:=RQ}:=fL (s:=s2) (o:=o) I2 fun b ob nb e=>kk b ob nb (TR (TC e)) (Heap.get?_push_of_some _ e)
 refine⟨.int (minD ns d),H2,I3,?_,q⟩;unfold minD;by_cases hn:ns=[]
 ·rw[Tt (by rw[<-hl,hn];rfl)]at hv;rw[Tt hn,hv];exact⟨t,rfl⟩
 ·have h0:0<ns.length:=UG.mpr hn;rw[TB (by lia)]at hv;rw[TB hn];obtain⟨b1,b2⟩:=ou ns (ns.length-1) (by lia);rw[<-hl]at hv;obtain⟨t2,rfl⟩:=dU rv hv;refine⟨t2,?_⟩;rw[b2,show ns.length-1+1=ns.length by lia,Ux];rfl
end
end NX
namespace PV
open PySem PySem.Spec PyProof.Rows L2 NX
def BD(f g:FX):FX:=fun env=>(f env).bind fun p=>(g p.2).bind fun q=>match(m9 p.1.2).bind cC,q.1.2 with
 |some ns,.int d=>.ok ((.f,.int (NX.minD ns d)),q.2)
 |_,_=>.bad
section
variable{X:Cx}
theorem xh{e k:Expr}{f g:FX}{p pos KO:Pos}(hc:X.calm=true)(hg:Gl X "min")(hm:X.mg "min" = none)(he:QE X e f)(hk:QE X k g)(hs:starEach [e] X.env=[(false,eval e X.env)]:=by rfl):
  QE X (.Call (.Name "min" p) [e] [⟨some "default",k,KO⟩] pos) (BD f g):=bx (BC hc hg hm he hk hs) fun σ H Q HP=>by
 obtain⟨G,env,fp,r,env',rel,e,k⟩:=HP;obtain⟨⟨r1,Hy⟩,e1,e⟩:=au e;obtain⟨⟨r2,HN⟩,e2,e⟩:=au e;dsimp only at e;split at e
 ·rename_i ns d OB hd;cases e;refine⟨G,env,fp,r1,Hy,rel,e1,fun v H1 G1 HZ HU HA=>?_⟩;obtain⟨G2,b,rv,Hz,HJ⟩:=HA.freeze;refine⟨G2,Hy,b,r2,_,Hz,e2,fun w' H3 G3 Ji Ip Ia=>?_⟩;have hw:=Ia.top;obtain⟨b3,IB,JE⟩:=Ia.drop;rw[hd]at hw;obtain⟨p',ep,sq⟩:=gZ IB.gh OB (Vw.of IB.gh (Rep.mono Ip.gg rv));subst ep;exact⟨p',ns,d,rfl,by rw[bO hw],sq,k _ H3 G3 b3 (HU.trans (HJ.trans (Ip.trans JE))) (IB.push (bB _))⟩
 ·cases e
end
section
variable{X:Cx}
noncomputable def FH(g:List D->List D->Res R)(fa:FO)(fs:FOs):FX:=fun env=>(fa env).bind fun p=>(Jj p.2 p.1).bind fun a=>match a with
 | .lst _=>(fs p.2).bind fun q=>(Jj q.2 p.1).bind fun a2=>match a2 with
  | .lst l=>(qM q.2 q.1).bind fun ds=>(g l ds).bind fun r=>.ok (r,q.2)
  |_=>.bad
 |_=>.bad
inductive rMtL(K:W.Frag)(g:List D->List D->Res R)(x:V)(xs:List V)(H:Hp)(Q:VK):Prop
 |mk:∀G fp es vs l ds r,Goes K H G fp es vs r Q->Vw K G H (.lst l) x->OY K G H ds xs->g l ds=.ok r->rMtL K g x xs H Q
theorem DT{g:List D->List D->Res R}{id:String}{name:Str}{o e:Expr}{es:List Expr}{fa:FO}{fs:FOs}{apos HV:Pos}(slot:Slot "list" name id)(MT:typeOf (.builtin id)=pure (.type "method_descriptor"))(hm:OA X id (rMtL X.K g))(ho:QO X o fa)(ha:Md X (e::es) fs)
  (Iv:attributeBase o name X.env (eval o X.env)=eval o X.env:=by rfl)
  (KP:((backTo HV (starEach (e::es) X.env)).all (fun x=>!x.1)&&(backToKw HV (keywordEach [] X.env)).all (fun x=>x.1.isSome)&&decide ((e::es).length+([]:List Keyword).length+(if([]:List Keyword).isEmpty then 0 else 1)<30))=true:=by rfl)
  (Iw:(apos.endLine==HV.line)=true:=by rfl) (hs:starEach (e::es) X.env=(false,eval e X.env)::starEach es X.env:=by rfl) (IY:(backTo HV (starEach es X.env)).any (·.1)=false:=by rfl):
  QE X (.Call (.Attribute o name apos) (e::es) [] HV) (FH g fa fs):=by
 refine bx (Di V5 slot MT hm ho ha Iv KP Iw hs IY) fun σ H Q HY=>?_
 obtain⟨G,env,fp,r,env',rel,e,k⟩:=HY;obtain⟨⟨oa,Hy⟩,e1,e⟩:=au e;obtain⟨da,M1,e⟩:=au e;dsimp only at e;split at e
 ·obtain⟨⟨os,HN⟩,e2,e⟩:=au e;obtain⟨d2,hd2,e⟩:=au e;dsimp only at e;split at e
  ·obtain⟨ds,e3,e⟩:=au e;obtain⟨r',e4,e⟩:=au e;cases e;refine⟨G,env,fp,oa,Hy,rel,e1,fun v H1 G1 HZ HU HA Jz=>?_⟩;obtain⟨p,xs,ev,sq,_⟩:=HA.vw Jz M1;subst ev;exact⟨.inl ⟨rfl,xs,sq⟩,G1,Hy,HZ,os,_,HA,e2,fun vs H2 G2 Ig HJ Hz Lw=>⟨G2,Ig,_,σ,_,ds,r,⟨Hz,fun v H' G' HI st Ij=>k v H' G' HI (HU.trans (HJ.trans st)) Ij⟩,Hz.vw (Jz.mono HJ.gg) hd2,Hz.vws Lw e3,e4⟩⟩
  ·cases e
 ·cases e
open PySem.SeqAt in
theorem BE{pi:List (Addr×Obj)}{σ:L2.St}{H:Hp}{s:Shared}(I:Inv X pi σ H s){a:D}{x:V}{v:Value}{A:Around}(h:plainD 40 a=true)(hu:A.units+64<cLine)(r:Rep X.K H a x)(rx:RelV x v):
  ∀(ds:List D) (xs:List V) (us:List Value),plainDs 40 ds=true->Reps X.K H ds xs->Vals xs us->∃e:Value->Bool,(∀(j:Nat) (d:D) (u:Value),ds[j]?=some d->us[j]?=some u->e u=HE d a)/\∀u∈us,EqAt A s u v (e u):=by
 classical
 intro ds xs us hp rs vl;have key:∀(j:Nat) (d:D) (u:Value),ds[j]?=some d->us[j]?=some u->decide (∃(j:Nat) (d:D),ds[j]?=some d/\us[j]?=some u/\HE d a=true)=HE d a:=by
  intro j d u hd hj;obtain⟨w1,LH,LI⟩:=rs.get hd;obtain⟨u1,Kl,LJ⟩:=vl.get LH;rw[hj]at Kl;cases Kl;rw[T7,TF];constructor
  ·rintro⟨j2,d2,k1,k2,k3⟩;obtain⟨w2,M4,M5⟩:=rs.get k1;obtain⟨u2,Lh,M6⟩:=vl.get M4;rw[k2]at Lh;cases Lh;have:=LJ.inj M6;subst this;rw[l6 I _ _ _ 40 (plainDs_mem hp hd) LI M5];exact k3
  ·intro k3;exact⟨j,_,hd,hj,k3⟩
 refine⟨fun u=>decide (∃(j:Nat) (d:D),ds[j]?=some d/\us[j]?=some u/\HE d a=true),key,fun u RZ=>?_⟩;obtain⟨j,hj⟩:=Ug.mp RZ;have l1:=vl.length;have l2:=rs.length;have Qy:=(List.getElem?_eq_some_iff.mp hj).1;have g1:ds[j]?=some (ds[j]'(by lia)):=List.getElem?_eq_getElem _;obtain⟨w1,LH,LI⟩:=rs.get g1;obtain⟨u1,Kl,LJ⟩:=vl.get LH;rw[hj]at Kl;cases Kl;have z:=Bq I _ _ w1 x u v A 40 (plainDs_mem hp g1) h (by lia) LI r LJ rx;show EqAt A s u v (decide (∃(j:Nat) (d:D),ds[j]?=some d/\us[j]?=some u/\HE d a=true));rw[key j _ u g1 hj];exact z
def rJ(l:List D):List D->Res R
 |[a]=>if plainD 40 a&&plainDs 40 l&&l.any (fun d=>HE d a) then .ok (.f,.int (l.findIdx (fun d=>HE d a):Nat)) else .bad
 |_=>.bad
theorem rK(hu:X.A.units+65<cLine):OA X "list.index" (rMtL X.K rJ):=by
 rintro pi s σ H x xs v us Q I rx rv ⟨G,fp,es,vs,l,ds,r,⟨rel,k⟩,vx,vd,e⟩;unfold rJ at e;split at e
 ·rename_i a;split at e
  ·rename_i hp;rw[TL,TL]at hp;cases e;obtain⟨p,ys,ev,sq,rs⟩:=vx;subst ev;cases rx;obtain⟨w',ew,va⟩:=pq vd;subst ew;obtain⟨u,rfl,ru⟩:=fK rv;obtain⟨HB,vl,pl,hz⟩:=I.list sq;obtain⟨⟨cls,dd,data,sl⟩,ho,hc,n,hd⟩:=id pl.isList;simp only at hc hd;subst hc hd;obtain⟨ef,SX,Rv⟩:=BE (A:=X.A.in1) I hp.1.1 (by first|lia|(simp only[Around.in1_units];lia)) (va.rep rel.gh) ru l ys HB hp.1.2 (Reps.mono rel.gh rs) vl;have Iy:l.findIdx (fun d=>HE d a)<l.length:=List.findIdx_lt_length.mpr (by rw[<-Uy];exact hp.2);have l1:=vl.length;have l2:=rs.length;have hlt2:l.findIdx (fun d=>HE d a)<HB.toArray.size:=by rw[Tv];lia
   have hb:(l.findIdx (fun d=>HE d a):Int)<2 ^ 63-1:=by
    rw[UD]at hz;lia
   refine WY WS ⟨_,ho,rfl⟩ PySem.F.entry_list_index (PySem.F.args_list_index_2 _ _) (PySem.SeqAt.list_indexAt p HB.toArray n _ _ u ef (l.findIdx fun d=>HE d a) hlt2 hb ?_ ?_) ⟨ho,fun y hy=>?_,⟨.int (l.findIdx (fun d=>HE d a):Nat),H,I.tok _,⟨_,rfl⟩,k _ H G fp .refl (rel.push (bB _))⟩⟩
   ·rw[SX _ _ _ (List.getElem?_eq_getElem Iy) (by rw[Xw];exact List.getElem?_eq_getElem _)];exact Xx (w:=Iy)
   ·intro m hm hlt3;rw[SX m (l[m]'(by lia)) _ (List.getElem?_eq_getElem _) (by rw[Xw];exact List.getElem?_eq_getElem _)];exact List.not_of_lt_findIdx hlt3
   ·exact Rv y (by simpa using hy)
  ·cases e
 ·cases e
end
section
variable{K:W.Frag}{G G' H H':Hp}{es:PV.Env}{vs:L2.St}{fp:List Addr}
theorem Rel.lendM2(q:Rel K G H es vs fp)(a:List Addr)(ha:∀z∈a,z∉fp)(Rr:∀z∈a,G z=none):∃G1,Same G G1/\Same G1 H/\(∀z∈a,G1 z=none)/\(∀(i:Nat) (r:R) (v:V),es[i]?=some (some r)->vs[i]?=some (some v)->Rep K G1 r.2 v)/\
  ∀(H2 G2:Hp) (Ig:List Addr) (rs:PV.Env) (ws:L2.St),Step G1 H a G2 H2 Ig->Rel K G2 H2 rs ws Ig->((∀r,some r∈rs->aT r.1 r.2=true)->∃G3 Ji,Step G H (a++fp) G3 H2 Ji/\Rel K G3 H2 (rs++es) (ws++vs) Ji)/\∃G3 Ji,Step G H (a++fp) G3 H2 Ji/\Rel K G3 H2 (rs++es.map PV.frz) (ws++vs) Ji:=by
 have hg:Same G (fun p=>if p∈fp then H p else G p):=fun p u e=>by
  show(if p∈fp then H p else G p)=some u;by_cases hp:p∈fp
  ·rw[Tt hp];exact q.gh p u e
  ·rw[TB hp];exact e
 have hh:Same (fun p=>if p∈fp then H p else G p) H:=fun p u e=>by
  have e:(if p∈fp then H p else G p)=some u:=e;by_cases hp:p∈fp
  ·rw[Tt hp]at e;exact e
  ·rw[TB hp]at e;exact q.gh p u e
 have hk:∀p∈fp,∀u,H p=some u->(fun p=>if p∈fp then H p else G p) p=some u:=fun p hp u e=>by
  show(if p∈fp then H p else G p)=some u;rw[Tt hp];exact e
 refine⟨fun p=>if p∈fp then H p else G p,hg,hh,fun z hz=>?_,fun i r v e ev=>q.rep.rep hg hk e ev,fun H2 G2 Ig rs ws st k=>⟨fun cl=>?_,?_⟩⟩
 ·show(if z∈fp then H z else G z)=none;rw[TB (ha z hz)];exact Rr z hz
 ·have kept:∀p∈fp,H2 p=H p:=fun p hp=>by
   obtain⟨u,hu⟩:=q.rep.live p hp;rw[hu];exact st.keep p u hu fun z=>ha p z hp
  have apart:∀p∈Ig,p∉fp:=fun p hp hf=>by
   rcases st.fpn p hp with z|z
   ·exact ha p z hf
   ·obtain⟨u,hu⟩:=q.rep.live p hf;rw[z]at hu;cases hu
  have g3:Same G (fun p=>if p∈fp then none else G2 p):=fun p u e=>by
   show(if p∈fp then none else G2 p)=some u;rw[TB (fun z=>by rw[q.gn p z]at e;cases e)];exact st.gg p u (hg p u e)
  refine⟨fun p=>if p∈fp then none else G2 p,Ig++fp,⟨g3,fun p u e n=>?_,fun p hp=>?_,fun p u e=>?_,st.there⟩,⟨RepE.append (RepE.clean (fun p u t e=>?_) cl k.rep) (q.rep.step g3 kept),?_,fun p hp=>?_,fun p u e=>?_⟩⟩
  ·exact st.keep p u e fun z=>n (Tq _ z)
  ·rcases TX.mp hp with hp|hp
   ·exact(st.fpn p hp).imp_left (Tq _)
   ·exact .inl (Tn _ hp)
  ·have e:(if p∈fp then none else G2 p)=some u:=e;by_cases hp:p∈fp
   ·rw[Tt hp]at e;cases e
   ·rw[TB hp]at e;rcases st.gnew p u e with z|z|z
    ·have z:(if p∈fp then H p else G p)=some u:=z;rw[TB hp]at z;exact .inl z
    ·exact .inr (.inl (Tq _ z))
    ·exact .inr (.inr z)
  ·show(if p∈fp then none else G2 p)=some u;by_cases hp:p∈fp
   ·exfalso;obtain⟨u',hu,hm⟩:=q.rep.mut p hp;have:=st.gg p u' (hk p hp u' hu);rw[e]at this;cases this;cases u with
    |lst _=>cases t
    |dK _=>cases t
    |dT _=>cases t
    |_=>cases hm
   ·rw[TB hp];exact e
  ·rw[TM];exact⟨k.nd,q.nd,fun p hp z hz e=>apart p hp (e▸hz)⟩
  ·show(if p∈fp then none else G2 p)=none;by_cases hf:p∈fp
   ·rw[Tt hf]
   ·rw[TB hf];rcases TX.mp hp with hp|hp
    ·exact k.gn p hp
    ·exact absurd hp hf
  ·have e:(if p∈fp then none else G2 p)=some u:=e;by_cases hp:p∈fp
   ·rw[Tt hp]at e;cases e
   ·rw[TB hp]at e;exact k.gh p u e
 ·have O9:=hg.trans st.gg;have rf:RepE K G2 H2 (es.map PV.frz) vs []:=q.rep.frz O9 fun p hp u e=>st.gg p u (hk p hp u e)
  have ra:=RepE.append k.rep rf;rw[T9]at ra;refine⟨G2,Ig,⟨O9,fun p u e n=>st.keep p u e fun z=>n (Tq _ z),fun p hp=>(st.fpn p hp).imp_left (Tq _),fun p u e=>?_,st.there⟩,⟨ra,k.nd,k.gn,k.gh⟩⟩;rcases st.gnew p u e with z|z|z
  ·have z:(if p∈fp then H p else G p)=some u:=z;by_cases hp:p∈fp
   ·exact .inr (.inl (Tn _ hp))
   ·rw[TB hp]at z;exact .inl z
  ·exact .inr (.inl (Tq _ z))
  ·exact .inr (.inr z)
end
noncomputable def eFunW(c:O)(F:Addr->List D->Res R)(i:Nat)(fs:FOs):FX:=fun env=>(fs env).bind fun p=>match p.1 with
 | .var j::os=>if j=i then(match p.2[i]? with
  |some (some (ow,d0))=>if mw c ow then(jC (p.2.set i none) os).bind fun ds=>(kq F c d0 ds).bind fun x=>if aT x.1.1 x.1.2&&aT c x.2 then .ok (x.1,(p.2.set i none).set i (some (ow,x.2))) else .ok (x.1,((p.2.set i none).map frz).set i (some (ow,x.2))) else .bad
  |_=>.bad) else .bad
 |_=>.bad
section
variable{X:Cx}{x:Str}{p pos:Pos}{e:Expr}{es:List Expr}{f0:FX}{fs:FOs}
theorem rL{F:Addr->List D->Res R}{c:O}{i k:Nat}(C:Ct X.prog X.w X.K X.mg X.base x k (spM X.K c F))(hr:Room k X.A)(hg:Gl X x)(ha:Md X (e::es) fs)(JT:(x==("__debug__" : Str))=false:=by decide)
  (he:starEach (e::es) X.env=(false,eval e X.env)::starEach es X.env:=by rfl) (JC:(backTo pos (starEach es X.env)).any (·.1)=false:=by rfl):QE X (.Call (.Name x p) (e::es) [] pos) (eFunW c F i fs):=
 bx (yu C hr hg ha JT he JC) fun σ H Q HP=>by
  obtain⟨G,env,fp,r,env',rel,e,k⟩:=HP;obtain⟨⟨os,e1⟩,ha,e⟩:=au e;dsimp only at e;split at e
  ·rename_i j Sv;split at e
   ·rename_i hj;subst hj;split at e
    ·rename_i ow d0 hi;split at e
     ·rename_i how;obtain⟨ds,hd,e⟩:=au e;obtain⟨z,hz,e⟩:=au e;refine⟨G,env,fp,_,e1,rel,ha,fun vs H1 G1 HZ HU HA Jz=>?_⟩;show spM X.K c F (vs++[]) H1 Q _;rw[T9];obtain⟨y,ys,ey,k1,k2⟩:=Jz;obtain⟨v0,a,b,ev,r0,r2,pm⟩:=HA.rep.take hi;have k1:σ[j]?=some (some y):=k1;rw[k1]at ev;cases ev;obtain⟨⟨q,hq⟩,rc,back⟩:=xc how r0;subst hq;have nd:=TM.mp (pm.nodup_iff.mp HA.nd);have Lk:Rel X.K G1 H1 (e1.set j none) σ b:=⟨r2,nd.2.1,fun w hw=>HA.gn w (pm.mem_iff.mpr (Tn _ hw)),HA.gh⟩
      obtain⟨G2,ML,NU,QJ,JV,JW⟩:=Lk.lendM2 a (fun w hw hb=>nd.2.2 w hw w hb rfl) (fun w hw=>HA.gn w (pm.mem_iff.mpr (Tq _ hw)));refine⟨G2,q,ys,d0,ds,_,a,NU,ey,rc.step ML (fun _ _=>rfl),nd.1,QJ,jD ML JV k2 hd,oO hz q,fun v H' G' HI st rt=>?_⟩;obtain⟨o',d',p',c',Rt,er,rl⟩:=rt;cases er;have fin:∀(ee:PV.Env),ee.length=e1.length->(∃G3 Ji,Step G1 H1 (a++b) G3 H' Ji/\Rel X.K G3 H' (some z.1::some (.pin q c,z.2)::ee) (some v::some (.ref q)::σ) Ji)->(z.1,ee.set j (some (ow,z.2)))=(r,env')->Q v H':=by
       rintro ee Se ⟨G3,Ji,Ip,Ia⟩ Sf;cases Sf;obtain⟨a1,b1,ef,ro,H0,comb⟩:=Rel.frame Ia;have Nf:Rel X.K G3 H' (some (ow,z.2)::ee) (some (.ref q)::σ) b1:=by
        obtain⟨y2,Ru,QM,v2,a2,b2,O8,P1,LN,P2⟩:=H0.rep;cases QM;cases O8;rw[RepO]at LN;exact⟨⟨_,_,rfl,_,a2,b2,rfl,P1,back _ _ _ _ LN.2,P2⟩,H0.nd,H0.gn,H0.gh⟩
       obtain⟨fq,Mt,QN⟩:=Nf.back (i:=j) (by rw[Se];exact(List.getElem?_eq_some_iff.mp hi).1) k1;obtain⟨LO,Ng⟩:=comb G3 H' _ _ fq QN Mt;rw[<-ef]at Ng;exact k v H' G3 _ (HU.trans ((Ip.perm (fun w=>pm.mem_iff.symm) (fun w hw=>hw)).trans Ng)) LO
      obtain⟨b1,b2⟩:=JW H' G' HI _ _ st rl;split at e
      ·rename_i KH;rw[TL]at KH;have e:=Res.ok.inj e;refine fin (e1.set j none) (by rw[U6]) (b1 fun w hw=>?_) e;rcases Tz.mp hw with hw|hw
       ·cases hw;exact KH.1
       ·rw[TU]at hw;cases hw;simp only[aT];exact KH.2
      ·have e:=Res.ok.inj e;exact fin ((e1.set j none).map frz) (by rw[To,U6]) b2 e
     ·cases e
    ·cases e
   ·cases e
  ·cases e
end
theorem vals_pick{xs:List V}{us:List Value}(r:Vals xs us):∀ix:List Nat,Vals (ix.filterMap fun i=>xs[i]?) (ix.filterMap fun i=>us[i]?)
 |[]=>.nil
 |i::ix=>by
  have ih:=vals_pick r ix;cases e:xs[i]? with
  |none=>
   rw[WJ e,WJ (r.none_of e)];exact ih
  |some d=>
   obtain⟨v,e2,rv⟩:=r.get e;rw[WK e,WK e2];exact .cons rv ih
section
variable{X:Cx}{pos:Pos}{fa:FO}
end
section
variable{X:Cx}
end
section
variable{X:Cx}{scope:Scope}{N:List Str}{tg iter elt:Expr}{ifs:List Expr}{pos:Pos}{fi:FI}{a:FG}{c:FT}{f:FX}
end
end PV
namespace L2
open PySem PySem.Spec PyProof.Rows NX
section
variable{X:Cx}{tg:Expr}
end
end L2
namespace PV
open PySem PySem.Spec PyProof.Rows L2 NX
section
variable{X:Cx}{tg:Expr}
end
noncomputable def fBodyJ(j np nn:Nat)(c:O)(g:FS)(p:Addr):List D->Res R
 |d0::ds=>if ds.length+1=np/\j<=ds.length then(g ((ds.take j).map (fun d=>some (O.f,d))++some (.pin p c,d0)::((ds.drop j).map (fun d=>some (O.f,d))++List.replicate nn none))).bind fun o=>match o with
  | .rt r=>.ok r
  |_=>.bad
  else .bad
 |[]=>.bad
inductive spJ(j:Nat)(K:W.Frag)(c:O)(F:Addr->List D->Res R)(vs:List V)(H:Hp)(Q:VK)(zz:XK):Prop
 |mk:∀va v vb,vs=va++v::vb->va.length=j->spM K c F (v::(va++vb)) H Q zz->spJ j K c F vs H Q zz
theorem tN{K:W.Frag}{G H:Hp}{es:PV.Env}{us:L2.St}{fp:List Addr}(h:RepE K G H es us fp):∀{ds:List D}{vs:List V},Reps K G ds vs->RepE K G H (ds.map (fun d=>some (O.f,d))++es) (vs.map some++us) fp
 |[],vs,r=>by
  rw[Reps]at r;subst r;exact h
 |d::ds,vs,r=>by
  rw[Reps]at r;obtain⟨y,ys,e,r1,r2⟩:=r;subst e;exact⟨some y,_,rfl,y,[],fp,rfl,rfl,kJ.mpr ⟨r1,rfl⟩,tN h r2⟩
theorem nS{K:W.Frag}{G:Hp}:∀{j:Nat}{ds:List D}{va vb:List V},va.length=j->Reps K G ds (va++vb)->Reps K G (ds.take j) va/\Reps K G (ds.drop j) vb
 | 0,ds,[],vb,_,r=>⟨by rw[Vd];exact .nil,r⟩
 |j+1,[],v::va,vb,_,r=>by
  rw[Reps]at r;cases r
 |j+1,d::ds,v::va,vb,hl,r=>by
  rw[VH,Reps]at r;obtain⟨y,ys,e,r1,r2⟩:=r;cases e;obtain⟨q1,q2⟩:=nS (Nat.succ.inj hl) r2;exact⟨.cons r1 q1,q2⟩
theorem xi{P:Program}{w:World}{K:W.Frag}{mg:Str->Option Value}{base:Heap}{x:Str}{st:Stmt}{N ps:List Str}{j k:Nat}{c:O}{g:FS}(Df:Def K mg x st)(sc:FnScope N ps (defScope st))
  (hb:∀(kV doc pm:Value) (an:Option Addr) (HX ct:Value) (us:List Value),us.length=ps.length->bindArgs (PySem.W.fnOf x x (eM st) (cM st) (defScope st) .none kV doc pm an HX ct) ⟨us,[]⟩=pure (ps.zip us))
  (body:∀(f:Addr) (HX:Value) (A:Around) (outer:List PySem.Env) (s:Shared) (H:Hp) (E:XK),Room k (A.deeper (envOfC x (defScope st) s.heap.objs.size f HX))->MK (md:=.mut) (x3 Mn P w K mg base N x (defScope st) f HX A outer s H E).nox (cM st) g):
  Ct P w K mg base x (k+1) (spJ j K c (fBodyJ j ps.length (N.length-ps.length) c g)):=by
 obtain⟨f,fd,F,m⟩:=Df;refine⟨f,fd,ps,F.ok sc (fun vs H Q E h=>?_) (fun HX A outer s H vs Q E hr h=>?_),m,F.kp,F.binds hb⟩
 ·obtain⟨va,v,vb,QQ,QR,G,p,IX,d0,ds,r,Mf,_,ev,_,_,_,rs,e,_⟩:=h;cases ev;unfold fBodyJ at e;dsimp only at e;split at e
  ·rename_i hl;have:=rs.length;rw[Ud]at this;rw[QQ,Ud,TJ];lia
  ·cases e
 ·obtain⟨va,v,vb,QQ,QR,G,p,IX,d0,ds,r,Mf,gh,ev,r0,nd,gn,rs,e,q⟩:=h;cases ev;unfold fBodyJ at e;dsimp only at e;split at e
  ·rename_i hl;have hlen:=rs.length;rw[Ud]at hlen;obtain⟨ra,rb⟩:=nS QR rs;refine⟨_,body f HX A outer s H E hr,G,(ds.take j).map (fun d=>some (O.f,d))++some (.pin p c,d0)::((ds.drop j).map (fun d=>some (O.f,d))++List.replicate (N.length-ps.length) none),Mf,⟨?_,nd,gn,gh⟩,?_⟩
   ·have z:=gY (K:=K) (G:=G) (H:=H) (N.length-ps.length) rb;have z2:RepE K G H (some (.pin p c,d0)::((ds.drop j).map (fun d=>some (O.f,d))++List.replicate (N.length-ps.length) none)) (some (.ref p)::(vb.map some++List.replicate (N.length-ps.length) none)) Mf:=
     ⟨some (.ref p),_,rfl,.ref p,Mf,[],rfl,(T9 _).symm,by rw[RepO];exact⟨rfl,r0⟩,z⟩
    have z3:=tN z2 ra;unfold L2.start;have e1:vs.length=ps.length:=by rw[QQ,Ud,TJ];lia
    rw[e1,QQ,Tu,TZ,Ut,VH];exact z3
   ·obtain⟨o,eo,e⟩:=au e;rw[eo];cases o with
    |rt r'=>
     cases e;exact fun v H' G' HI st rel=>q v H' G' HI st rel
    |nx env'=>cases e
    |bk env'=>cases e
    |ct env'=>cases e
  ·cases e
noncomputable def kr(j:Nat)(c:O)(F:Addr->List D->Res R)(i:Nat)(fs:FOs):FX:=fun env=>(fs env).bind fun p=>match p.1[j]? with
 |some (.var j')=>if j'=i then(match p.2[i]? with
  |some (some (ow,d0))=>if mw c ow then(jC (p.2.set i none) (p.1.eraseIdx j)).bind fun ds=>(kq F c d0 ds).bind fun x=>if aT x.1.1 x.1.2&&aT c x.2 then .ok (x.1,(p.2.set i none).set i (some (ow,x.2))) else .ok (x.1,((p.2.set i none).map frz).set i (some (ow,x.2))) else .bad
  |_=>.bad) else .bad
 |_=>.bad
theorem nU{K:W.Frag}{G:Hp}{σ:L2.St}:∀{j:Nat}{os:List Opd}{vs:List V}{o:Opd},lX K G σ os vs->os[j]?=some o->∃va y vb,vs=va++y::vb/\va.length=j/\OpdOk K G σ o y/\lX K G σ (os.eraseIdx j) (va++vb)
 | 0,o'::os,_,o,⟨y,ys,e,k1,k2⟩,h=>by
  cases h;exact⟨[],y,ys,e,rfl,k1,k2⟩
 |j+1,o'::os,_,o,⟨y,ys,e,k1,k2⟩,h=>by
  obtain⟨va,z,vb,e2,hl,q1,q2⟩:=nU (j:=j) k2 (by simpa using h);exact⟨y::va,z,vb,by rw[e,e2];rfl,by rw[TJ,hl],q1,y,va++vb,rfl,k1,q2⟩
section
variable{X:Cx}{x:Str}{p pos:Pos}{e:Expr}{es:List Expr}{fs:FOs}
theorem oR{F:Addr->List D->Res R}{c:O}{i j0 k:Nat}(C:Ct X.prog X.w X.K X.mg X.base x k (spJ j0 X.K c F))(hr:Room k X.A)(hg:Gl X x)(ha:Md X (e::es) fs)(JT:(x==("__debug__" : Str))=false:=by decide)
  (he:starEach (e::es) X.env=(false,eval e X.env)::starEach es X.env:=by rfl) (JC:(backTo pos (starEach es X.env)).any (·.1)=false:=by rfl):QE X (.Call (.Name x p) (e::es) [] pos) (kr j0 c F i fs):=
 bx (yu C hr hg ha JT he JC) fun σ H Q HP=>by
  obtain⟨G,env,fp,r,env',rel,e,k⟩:=HP;obtain⟨⟨os,e1⟩,ha,e⟩:=au e;dsimp only at e;split at e
  ·rename_i j NL;split at e
   ·rename_i hj;subst hj;split at e
    ·rename_i ow d0 hi;split at e
     ·rename_i how;obtain⟨ds,hd,e⟩:=au e;obtain⟨z,hz,e⟩:=au e;refine⟨G,env,fp,_,e1,rel,ha,fun vs H1 G1 HZ HU HA Jz=>?_⟩;show spJ j0 X.K c F (vs++[]) H1 Q _;rw[T9];obtain⟨va,y,vb,ey,QR,k1,k2⟩:=nU Jz NL;refine⟨va,y,vb,ey,QR,?_⟩;obtain⟨v0,a,b,ev,r0,r2,pm⟩:=HA.rep.take hi;have k1:σ[j]?=some (some y):=k1;rw[k1]at ev;cases ev;obtain⟨⟨q,hq⟩,rc,back⟩:=xc how r0;subst hq;have nd:=TM.mp (pm.nodup_iff.mp HA.nd);have Lk:Rel X.K G1 H1 (e1.set j none) σ b:=⟨r2,nd.2.1,fun w hw=>HA.gn w (pm.mem_iff.mpr (Tn _ hw)),HA.gh⟩
      obtain⟨G2,ML,NU,QJ,JV,JW⟩:=Lk.lendM2 a (fun w hw hb=>nd.2.2 w hw w hb rfl) (fun w hw=>HA.gn w (pm.mem_iff.mpr (Tq _ hw)));refine⟨G2,q,va++vb,d0,ds,_,a,NU,rfl,rc.step ML (fun _ _=>rfl),nd.1,QJ,jD ML JV k2 hd,oO hz q,fun v H' G' HI st rt=>?_⟩;obtain⟨o',d',p',c',Rt,er,rl⟩:=rt;cases er;have fin:∀(ee:PV.Env),ee.length=e1.length->(∃G3 Ji,Step G1 H1 (a++b) G3 H' Ji/\Rel X.K G3 H' (some z.1::some (.pin q c,z.2)::ee) (some v::some (.ref q)::σ) Ji)->(z.1,ee.set j (some (ow,z.2)))=(r,env')->Q v H':=by
       rintro ee Se ⟨G3,Ji,Ip,Ia⟩ Sf;cases Sf;obtain⟨a1,b1,ef,ro,H0,comb⟩:=Rel.frame Ia;have Nf:Rel X.K G3 H' (some (ow,z.2)::ee) (some (.ref q)::σ) b1:=by
        obtain⟨y2,Ru,QM,v2,a2,b2,O8,P1,LN,P2⟩:=H0.rep;cases QM;cases O8;rw[RepO]at LN;exact⟨⟨_,_,rfl,_,a2,b2,rfl,P1,back _ _ _ _ LN.2,P2⟩,H0.nd,H0.gn,H0.gh⟩
       obtain⟨fq,Mt,QN⟩:=Nf.back (i:=j) (by rw[Se];exact(List.getElem?_eq_some_iff.mp hi).1) k1;obtain⟨LO,Ng⟩:=comb G3 H' _ _ fq QN Mt;rw[<-ef]at Ng;exact k v H' G3 _ (HU.trans ((Ip.perm (fun w=>pm.mem_iff.symm) (fun w hw=>hw)).trans Ng)) LO
      obtain⟨b1,b2⟩:=JW H' G' HI _ _ st rl;split at e
      ·rename_i KH;rw[TL]at KH;have e:=Res.ok.inj e;refine fin (e1.set j none) (by rw[U6]) (b1 fun w hw=>?_) e;rcases Tz.mp hw with hw|hw
       ·cases hw;exact KH.1
       ·rw[TU]at hw;cases hw;simp only[aT];exact KH.2
      ·have e:=Res.ok.inj e;exact fin ((e1.set j none).map frz) (by rw[To,U6]) b2 e
     ·cases e
    ·cases e
   ·cases e
  ·cases e
end
theorem ct_bad{P:Program}{w:World}{K:W.Frag}{mg:Str->Option Value}{base:Heap}{x:Str}{st:Stmt}{ps:List Str}{j k:Nat}{c:O}(Df:Def K mg x st)
  (hb:∀(kV doc pm:Value) (an:Option Addr) (HX ct:Value) (us:List Value),us.length=ps.length->bindArgs (PySem.W.fnOf x x (eM st) (cM st) (defScope st) .none kV doc pm an HX ct) ⟨us,[]⟩=pure (ps.zip us)):
  Ct P w K mg base x k (spJ j K c fun _ _=>.bad):=by
 obtain⟨f,fd,F,m⟩:=Df;have no:∀vs H Q E,¬ spJ j K c (fun _ _=>.bad) vs H Q E:=fun vs H Q E h=>by
  obtain⟨va,v,vb,QQ,QR,G,p,IX,d0,ds,r,Mf,_,ev,_,_,_,rs,e,_⟩:=h;cases e
 exact⟨f,fd,ps,⟨fun vs H Q E h=>(no vs H Q E h).elim,fun A outer s H args us vs Q E hr he hbt hv h=>(no vs H Q E h).elim⟩,m,F.kp,F.binds hb⟩
theorem Rel.frameT{K:W.Frag}{G H G' H':Hp}{es:PV.Env}{vs:L2.St}{r:R}{v:V}{a b a':List Addr}(q:Rel K G H es vs b)(dj:∀p∈a,p∉b)(st:Step G H a G' H' a')(k:Rel K G' H' [some r] [some v] a'):Rel K G' H' (some r::es) (some v::vs) (a'++b)/\Step G H (a++b) G' H' (a'++b):=by
 have nb:∀p∈b,p∉a:=fun p hp ha=>dj p ha hp
 have same:∀p∈b,H' p=H p:=fun p hp=>by
  obtain⟨u,hu⟩:=q.rep.live p hp;rw[hu];exact st.keep p u hu (nb p hp)
 obtain⟨y,ys,e,v',c,d,e1,e2,r1,r2⟩:=k.rep;cases e;cases e1;obtain⟨_,hd⟩:=r2;subst hd;rw[T9]at e2;subst e2;refine⟨⟨⟨some v,vs,rfl,v,a',b,rfl,rfl,r1,q.rep.step st.gg same⟩,?_,fun p hp=>?_,k.gh⟩,st.wide (fun p hp=>Tq _ hp) fun p hp=>?_⟩
 ·rw[TM];refine⟨k.nd,q.nd,fun p hp z hz e=>?_⟩;subst e;obtain⟨u,hu⟩:=q.rep.live p hz;rcases st.fpn p hp with w|w
  ·exact nb p hz w
  ·rw[w]at hu;cases hu
 ·rcases TX.mp hp with hp|hp
  ·exact k.gn p hp
  ·cases e:G' p with
   |none=>rfl
   |some u=>
    exfalso;obtain⟨u',hu⟩:=q.rep.live p hp;rcases st.gnew p u e with z|z|z|⟨t,z⟩
    ·rw[q.gn p hp]at z;cases z
    ·exact nb p hp z
    ·rw[z]at hu;cases hu
    ·obtain⟨u2,h2,hm⟩:=q.rep.mut p hp;rw[z]at h2;cases h2;cases u with
     |tup _=>cases hm
     |frz _ _=>cases hm
     |_=>cases t
 ·rcases TX.mp hp with hp|hp
  ·exact .inl hp
  ·exact .inr (Tn _ hp)
def xj:List Opd->Res (List D)
 |[]=>.ok []
 | .val d::os=>(xj os).bind fun ds=>.ok (d::ds)
 |_=>.bad
theorem qg{K:W.Frag}{G:Hp}{σ:L2.St}:∀{os:List Opd}{vs:List V}{ds:List D},lX K G σ os vs->xj os=.ok ds->Reps K G ds vs
 |[],_,_,k,e=>by
  cases e;have k:_=[]:=k;rw[k];exact .nil
 | .val d::os,_,_,⟨y,ys,e0,k1,k2⟩,e=>by
  obtain⟨ds,e2,e⟩:=au e;cases e;rw[e0];exact .cons k1 (qg k2 e2)
 | .var i::os,_,_,_,e=>by cases e
def BF(c:O)(F:Addr->List D->Res R)(f0:FX)(fs:FOs):FX:=fun env=>(f0 env).bind fun p=>if mw c p.1.1 then(fs p.2).bind fun q=>(xj q.1).bind fun ds=>(kq F c p.1.2 ds).bind fun z=>.ok (z.1,q.2) else .bad
section
variable{X:Cx}{x:Str}{p pos:Pos}{e:Expr}{es:List Expr}{f0:FX}{fs:FOs}
theorem BG{F:Addr->List D->Res R}{c:O}{k:Nat}(C:Ct X.prog X.w X.K X.mg X.base x k (spM X.K c F))(hr:Room k X.A)(hg:Gl X x)(h0:QE X e f0)(ha:Md X es fs)(JT:(x==("__debug__" : Str))=false:=by decide)
  (he:starEach (e::es) X.env=(false,eval e X.env)::starEach es X.env:=by rfl) (JC:(backTo pos (starEach es X.env)).any (·.1)=false:=by rfl):QE X (.Call (.Name x p) (e::es) [] pos) (BF c F f0 fs):=
 bx (yu C hr hg (i9 h0 ha he) JT he JC) fun σ H Q HP=>by
  obtain⟨G,env,fp,r,env',rel,e,k⟩:=HP;obtain⟨⟨r0,Hy⟩,e1,e⟩:=au e;dsimp only at e;split at e
  ·rename_i how;obtain⟨⟨os,HN⟩,e2,e⟩:=au e;obtain⟨ds,hd,e⟩:=au e;obtain⟨z,hz,e⟩:=au e;cases e;refine⟨G,env,fp,r0,Hy,rel,e1,fun v0 H1 G1 HZ HU HA=>?_⟩;obtain⟨a,b,NW,ro,LK,bk⟩:=HA.frame;refine⟨G1,Hy,b,os,HN,LK,e2,fun vs H2 G2 Ig HJ Hz Lw=>?_⟩;show spM X.K c F (v0::vs++[]) H2 Q _;rw[T9];obtain⟨JB,Lj⟩:=bk G2 H2 HN σ Ig HJ Hz;rw[<-NW]at Lj;obtain⟨y,ys,ey,v1,a1,b1,ey1,Rw,q1,q2⟩:=JB.rep;cases ey;cases ey1;obtain⟨⟨q,hq⟩,rc,_⟩:=xc how q1;subst hq;have nd:=TM.mp (Rw▸JB.nd);have Lk:Rel X.K G2 H2 HN σ b1:=⟨q2,nd.2.1,fun w hw=>JB.gn w (by rw[Rw];exact Tn _ hw),JB.gh⟩
   refine⟨G2,q,vs,r0.2,ds,_,a1,JB.gh,rfl,rc,nd.1,fun w hw=>JB.gn w (by rw[Rw];exact Tq _ hw),qg Lw hd,oO hz q,fun v H' G' HI st rt=>?_⟩;obtain⟨o',d',p',c',Rt,er,rl⟩:=rt;cases er;obtain⟨fa,Nc,QB⟩:=rl.only;obtain⟨LO,Ng⟩:=Rel.frameT Lk (fun w hw hb=>nd.2.2 w hw w hb rfl) (st.trans QB) Nc;rw[<-Rw]at Ng;exact k v H' G' _ (HU.trans (Lj.trans Ng)) LO
  ·cases e
end
end PV
namespace LW
open PySem L2 NX PV
abbrev lB(f:FX):FI:=JI (Dz f) (JI (kl f) (km f))
def mx:FS:=(gS (av cB (ai (aE (.int 1))) (ai (uG (di (lB (av HG (aq 0) (ai (aE (.int 1))))) [none,none,none] (fB 3 (az (ax 0) (az (ax 1) (az (ax 2) bW)))) dW (aX maxD (ah (aq 0) (ah (aq 2) aD)))) (aE (.int 0))))))
def cD:List D->Res R:=fBody 1 0 mx
def qh:FS:=(gS (di (lB (av HG (aq 0) (ai (aE (.int 1))))) [none,none,none,some 1,some 2] (fB 3 (az (ax 0) (az (ax 1) (az (ax 2) bW)))) (Bk (Ic (bC Jl (aq 0) (aq 3))) (Ic (bC Jl (aq 1) (aq 4)))) (aR 2)))
def fU:List D->Res R:=fBody 3 0 qh
def nV:FS:=(gS (av Qu (ai (aX fT (ah (ai (eE fU (ah (aq 0) (ah (aq 1) (ah (aq 2) aD))))) aD))) (ai (aE (.int 0)))))
def eF:List D->Res R:=fBody 3 0 nV
noncomputable def fe:FS:=(Jn (Bk (Ic (bC Jl (ai (av HG (aq 4) (ai (aE (.int 0))))) (ai (av HG (aq 1) (aq 3))))) (Ic (bC rH (ai (av HG (aq 4) (ai (aE (.int 2))))) (aq 1))))
  (sSeq (iL (rm 1 (av HG (aq 4) (ai (aE (.int 2))))))
  (iL (rm 2 (aR 4))))
  dy)
def my:FS:=(kM (lB (aR 0)) (ax 4)
  fe)
def kU:FS:=(bP 3 (av cB (aq 3) (ai (aE (.int 1)))))
def g6:FS:=(sSeq my
  kU)
def mz:FS:=(eN (Ic (av Kv (aq 3) (ai (aX fT (ah (aq 1) aD)))))
  g6 100000)
def kW:FS:=(gS (nr 2))
def qi:FS:=(sSeq (bP 1 (m7 (aA (aE (.int 0)) ba)))
  (sSeq (bP 2 (m7 ba))
  (sSeq (bP 3 (aE (.int 0)))
  (sSeq mz
  kW))))
def eP:List D->Res R:=fBody 1 4 qi
def qj:FS:=(gS (aX x5 (ah (ai (di (nu (ah (ai (aR 0)) (ah (ai (aR 1)) aD))) [none,none] (fB 2 (az (ax 0) (az (ax 1) bW))) dW (av iN (aq 0) (aq 1)))) aD)))
def eQ:List D->Res R:=fBody 2 0 qj
def An:FS:=(gS (aX jI (ah (ai (di (nu (ah (ai (aR 0)) (ah (ai (aR 1)) aD))) [none,none] (fB 2 (az (ax 0) (az (ax 1) bW))) dW (av jG (aq 0) (aq 1)))) aD)))
def nW:List D->Res R:=fBody 2 0 An
def g7:FS:=(wW 1 (aR 4) (av cB (ai (av LM (aq 1) (aq 2))) (ai (fP (aA (aR 3) ba)))))
def mB:FS:=(kM (lB (eE eP (ah (ai (av HG (aq 0) (ai (aE (.int 1))))) aD))) (fB 3 (az (ax 2) (az (ax 3) (az (ax 4) bW))))
  g7)
def kX:FS:=(gS (di (bZ (ai (eE cD (ah (aq 0) aD)))) [none,some 1] (ax 0) dW (av LM (aq 1) (aq 0))))
def ql:FS:=(sSeq (bP 1 (qe (aE (.int 0)) (fP ba)))
  (sSeq mB
  kX))
def eR:List D->Res R:=fBody 1 4 ql
def qm:FS:=(gS (aX jI (ah (ai (di (JI (mn 0) (JI (kl (aR 0)) (km (aR 0)))) [none,some 1] (ax 0) dW (rB CA (aq 1) (ah (aq 0) aD)))) aD)))
def eS:List D->Res R:=fBody 2 0 qm
def mC:FS:=(gS (di (lB (eE eR (ah (aq 0) aD))) [none,some 0] (ax 0) dW (eE eS (ah (ai (av HG (aq 1) (ai (aE (.int 0))))) (ah (aq 0) aD)))))
def cX:List D->Res R:=fBody 1 0 mC
noncomputable def jS:FS:=(sSeq (bP 2 (eE nW (ah (ai (av HG (aq 1) (ai (aE (.int 2))))) (ah (ai (av HG (aq 1) (ai (aE (.int 1))))) aD))))
  (gS (di (lB (eE cX (ah (aq 0) aD))) [none,some 1,some 2] (ax 0) dW (av cB (ai (av HG (aq 1) (ai (aE (.int 0))))) (ai (eE eQ (ah (aq 2) (ah (aq 0) aD))))))))
def cn:List D->Res R:=fBody 2 1 jS
def jT:FS:=(gS (Bl (P0 "int" (aq 1)) (Bl (EJ (P0 "bool" (aq 1))) (tf Rq Kv (ai (aE (.int 0))) (aq 1) (ai (eE cD (ah (aq 0) aD)))))))
def cq:List D->Res R:=fBody 2 0 jT
noncomputable def qo:FS:=(sSeq (Jn (PX (Cz (Ic (P0 "tuple" (aq 1)))) (PX (Ic (bC Me (ai (aX fT (ah (aq 1) aD))) (ai (aE (.int 3))))) (Cz (Ic (eE cq (ah (aq 0) (ah (ai (av HG (aq 1) (ai (aE (.int 1))))) aD)))))))
  (gS (aE (.bl false)))
  dy)
  (sSeq (Jn (Ic (bC Jl (ai (av HG (aq 1) (ai (aE (.int 0))))) (ai (aE (.str [112,97,105,114])))))
  (gS (Bl (eE cq (ah (aq 0) (ah (ai (av HG (aq 1) (ai (aE (.int 2))))) aD))) (av Kv (ai (av HG (aq 1) (ai (aE (.int 1))))) (ai (av HG (aq 1) (ai (aE (.int 2))))))))
  dy)
  (gS (Bl (bC Jl (ai (av HG (aq 1) (ai (aE (.int 0))))) (ai (aE (.str [103,97,112])))) (Bl (bC O5 (ai (av HG (aq 1) (ai (aE (.int 2))))) (ai (av HG (aq 0) (ai (aE (.int 0)))))) (EJ (eE eF (ah (aq 0) (ah (ai (av HG (aq 1) (ai (aE (.int 1))))) (ah (ai (av HG (aq 1) (ai (aE (.int 2))))) aD))))))))))
def fV:List D->Res R:=fBody 2 0 qo
def kY:FS:=(Jn (Cz (Ic (eE fV (ah (aq 0) (ah (aq 1) aD)))))
  Aa
  dy)
def c6:List D->Res R:=fBody 2 0 kY
noncomputable def tP:FS:=(sSeq (iL (eE c6 (ah (aq 0) (ah (aq 2) aD))))
  (sSeq (bP 3 (eE cn (ah (aq 0) (ah (aq 1) aD))))
  (sSeq (Jn (Ic (bC Jl (ai (av HG (aq 2) (ai (aE (.int 0))))) (ai (aE (.str [112,97,105,114])))))
  (gS (bC Me (ai (av HG (aq 3) (ai (av HG (aq 2) (ai (aE (.int 1))))))) (ai (av HG (aq 3) (ai (av HG (aq 2) (ai (aE (.int 2)))))))))
  dy)
  (gS (av Kv (ai (av HG (aq 3) (ai (av HG (aq 2) (ai (aE (.int 1))))))) (ai (av HG (ai (av HG (aq 1) (ai (aE (.int 1))))) (ai (rB iM (ai (av HG (aq 0) (ai (aE (.int 0))))) (ah (ai (av HG (aq 2) (ai (aE (.int 2))))) aD))))))))))
def iI:List D->Res R:=fBody 3 1 tP
def iT:FS:=(sSeq (Jn (Ic (av Kv (aq 1) (ai (aX fT (ah (aq 0) aD)))))
  (gS (av HG (aq 0) (aq 1)))
  dy)
  (gS (aE (.int 0))))
def aH:List D->Res R:=fBody 2 0 iT
noncomputable def cx:FS:=(sSeq (bP 3 (av cV (ai (av cB (ai (av cB (ai (av cB (ai (av iN (aq 3) (aq 3))) (ai (av iN (ai (aE (.int 69069))) (aq 3))))) (ai (av iN (ai (aE (.int 5))) (aq 4))))) (ai (aE (.int 1))))) (ai (aE (.int 2147483629)))))
  (iL (rm 2 (av gT (aq 3) (ai (aE (.int 16)))))))
def eU:FS:=(kM (bZ (aq 1)) (ax 4)
  cx)
def d3:FS:=(gS (nr 2))
def gv:FS:=(sSeq (bP 2 (m7 ba))
  (sSeq (bP 3 (av cB (ai (av cV (aq 0) (ai (aE (.int 2147483629))))) (ai (aE (.int 7)))))
  (sSeq eU
  d3)))
def aW:List D->Res R:=fBody 2 3 gv
noncomputable def dr:FS:=(sSeq (bP 9 (av cB (ai (av gT (aq 0) (ai (av cB (aq 8) (ai (aE (.int 64))))))) (ai (av iN (aq 8) (aq 8)))))
  (sSeq (Jn (Ic (bC Jl (aq 8) (aq 4)))
  (bP 9 (av cB (aq 9) (aq 6)))
  dy)
  (bP 7 (av cB (aq 7) (ai (av HG (aq 2) (ai (av cV (aq 9) (ai (aE (.int 26)))))))))))
def iU:FS:=(kM (bZ (aq 3)) (ax 8)
  dr)
def g8:FS:=(sSeq (Jn (Ic (bC Jl (aq 7) (ai (aE (.str [109,111,118,101,115])))))
  (bP 7 (aE (.str [109,111,118,101,115,97])))
  dy)
  (iL (rm 5 (aR 7))))
def dt:FS:=(sSeq (bP 7 (aE (.str [])))
  (sSeq iU
  g8))
def iV:FS:=(kM (bZ (aq 1)) (ax 6)
  dt)
def g9:FS:=(gS (aX dX (ah (aq 5) aD)))
noncomputable def kZ:FS:=(sSeq (bP 2 (aE (.str [97,98,99,100,101,102,103,104,105,106,107,108,109,110,111,112,113,114,115,116,117,118,119,120,121,122])))
  (sSeq (bP 3 (av cB (ai (aE (.int 1))) (ai (av cV (aq 0) (ai (aE (.int 8)))))))
  (sSeq (bP 4 (av cV (ai (av gT (aq 0) (ai (aE (.int 8))))) (aq 3)))
  (sSeq (bP 5 (m7 ba))
  (sSeq iV
  g9)))))
def c7:List D->Res R:=fBody 2 8 kZ
def cH:FS:=(Jn (Ic (bC O5 (aq 3) (aq 1)))
  (wW 1 (aR 5) (aE (.bl true)))
  dy)
def gN:FS:=(kM (lB (aR 0)) (fB 3 (az (ax 3) (az (ax 4) (az (ax 5) bW))))
  cH)
def dG:FS:=gN
def gO:FS:=(kM (bZ (ai (aX fT (ah (aq 0) aD)))) (ax 2)
  dG)
def fW:FS:=(gS (nr 1))
def iW:FS:=(sSeq (bP 1 (qe (aE (.int 0)) (aE (.bl true))))
  (sSeq gO
  fW))
def bq:List D->Res R:=fBody 1 5 iW
noncomputable def d4:FS:=(sSeq (bP 8 (av jG (ai (av cV (ai (d7 0)) (ai (av cB (ai (av iN (ai (aE (.int 2))) (aq 7))) (ai (aE (.int 1))))))) (aq 7)))
  (sSeq (bP 9 (av cB (ai (aX maxD (ah (ai (aE (.int 0))) (ah (ai (av jG (ai (aE (.int 0))) (aq 8))) aD)))) (ai (av cV (ai (d7 0)) (ai (aE (.int 2)))))))
  (sSeq (bP 10 (av jG (ai (aX Bz (ah (aq 7) (ah (ai (av jG (aq 7) (aq 8))) aD)))) (ai (av gT (ai (av cV (ai (d7 0)) (ai (aE (.int 4))))) (ai (aE (.int 3)))))))
  (iL (rm 6 (fP (aA (aR 9) (aA (aR 10) (aA (aR 8) ba)))))))))
def hJ:FS:=(kM (lB (aR 2)) (ax 7)
  d4)
def gP:FS:=(iL (rm 4 (aR 6)))
def cT:FS:=(sSeq (bP 6 (m7 ba))
  (sSeq hJ
  gP))
def hU:FS:=(kM (bZ (aq 1)) (ax 5)
  cT)
def gQ:FS:=(jh 0 (fP (aA (aR 2) (aA (aR 3) (aA (aR 4) ba)))))
noncomputable def jU:FS:=(sSeq (bP 2 (m7 (aA (av cB (ai (aE (.int 1))) (ai (av cV (ai (d7 0)) (ai (aE (.int 3)))))) (aA (av cV (ai (d7 0)) (ai (aE (.int 2)))) ba))))
  (sSeq (bP 3 (fP (aA (av cV (ai (d7 0)) (ai (av cB (ai (av HG (aq 2) (ai (aE (.int 0))))) (ai (aE (.int 1)))))) (aA (av cV (ai (d7 0)) (ai (av cB (ai (av HG (aq 2) (ai (aE (.int 1))))) (ai (aE (.int 1)))))) ba))))
  (sSeq (bP 4 (m7 ba))
  (sSeq hU
  gQ))))
def bF:Addr->List D->Res R:=kS 2 9 (.l .f) jU
def fC:FS:=(sSeq (Jn (PX (Ic (av Kv (aq 3) (ai (av HG (aq 4) (ai (aE (.int 0))))))) (Ic (av Qu (aq 3) (ai (av HG (aq 4) (ai (aE (.int 1))))))))
  (gS (aE .non))
  dy)
  (iL (rm 2 (av cB (aq 3) (ai (av HG (aq 4) (ai (aE (.int 2)))))))))
def jV:FS:=(kM (nu (ah (ai (aR 0)) (ah (ai (aR 1)) aD))) (fB 2 (az (ax 3) (az (ax 4) bW)))
  fC)
def iX:FS:=(gS (aX jI (ah (aq 2) aD)))
def mD:FS:=(sSeq (bP 2 (m7 ba))
  (sSeq jV
  iX))
def cY:List D->Res R:=fBody 2 3 mD
noncomputable def eg:FS:=(sSeq (bP 8 (eE cY (ah (ai (av HG (aq 3) (aq 5))) (ah (aq 7) aD))))
  (Jn (Ic (bC isnO (aq 8) (ai (aE .non))))
  (sSeq (Jn (Ic (bC rH (aq 8) (aq 3)))
  (iL (rm 3 (aR 8)))
  dy)
  (iL (rm 4 (fP (aA (aR 5) (aA (aR 6) (aA (FH rJ (aq 3) (ah (aq 8) aD)) ba)))))))
  dy))
def k4:FS:=(kM (nu (ah (ai (aR 0)) (ah (ai (aR 2)) aD))) (fB 2 (az (ax 6) (az (ax 7) bW)))
  eg)
def jW:FS:=(bP 5 (av cB (aq 5) (ai (aE (.int 1)))))
def gw:FS:=(sSeq k4
  jW)
def k7:FS:=(eN (Ic (av Kv (aq 5) (ai (aX fT (ah (aq 3) aD)))))
  gw 100000)
def jX:FS:=(gS (aX dX (ah (aq 4) aD)))
def nX:FS:=(sSeq (bP 3 (m7 (aA (aR 1) ba)))
  (sSeq (bP 4 (m7 ba))
  (sSeq (bP 5 (aE (.int 0)))
  (sSeq k7
  jX))))
def dH:List D->Res R:=fBody 3 6 nX
def eh:FS:=(wW 3 (fP (aA (av cV (ai (d7 0)) (aq 2)) (aA (av HG (aq 1) (ai (av cV (ai (d7 0)) (ai (aX fT (ah (aq 1) aD)))))) (aA (av cV (ai (d7 0)) (aq 2)) ba)))) (aE (.bl true)))
def k8:FS:=(kM (bZ (ai (av cV (ai (d7 0)) (ai (aE (.int 4)))))) (ax 4)
  eh)
def jY:FS:=(jh 0 (aX dX (ah (aq 3) aD)))
def eB:FS:=(wW 3 (fP (aA (av cV (ai (d7 0)) (aq 4)) (aA (av HG (aq 1) (ai (av cV (ai (d7 0)) (ai (aX fT (ah (aq 1) aD)))))) (aA (aR 4) ba)))) (aE (.bl true)))
def k9:FS:=(kM (rj (ah (ai (aE (.int 1))) (ah (aq 2) aD))) (ax 4)
  eB)
def jZ:FS:=(sSeq k8
  jY)
def nY:FS:=(sSeq (bP 2 (av cB (ai (aE (.int 1))) (ai (av cV (ai (d7 0)) (ai (aE (.int 6)))))))
  (sSeq (bP 3 (eNewD true))
  (sSeq k9
  jZ)))
def eI:Addr->List D->Res R:=kS 2 3 (.l .f) nY
noncomputable def ji:FS:=(sSeq (bP 2 (av cB (ai (aE (.int 1))) (ai (av cV (ai (d7 0)) (ai (aE (.int 7)))))))
  (sSeq (bP 3 (jR (bZ (aq 2)) [none,some 1,some 0] 0 2 (ax 0) dW (fP (aA (aR 0) (aA (av HG (aq 1) (ai (av cV (ai (d7 2)) (ai (aX fT (ah (aq 1) aD)))))) (aA (av cB (aq 0) (ai (aE (.int 1)))) ba))))))
  (sSeq (Jn (Ic (bC Jl (ai (av cV (ai (d7 0)) (ai (aE (.int 3))))) (ai (aE (.int 0)))))
  (iL (rm 3 (fP (aA (aR 2) (aA (av HG (aq 1) (ai (av cV (ai (d7 0)) (ai (aX fT (ah (aq 1) aD)))))) (aA (av cV (ai (d7 0)) (aq 2)) ba))))))
  dy)
  (jh 0 (aX dX (ah (aq 3) aD))))))
def cZ:Addr->List D->Res R:=kS 2 2 (.l .f) ji
noncomputable def du:FS:=(Jn (Ic (bC Me (aq 0) (ai (m7 ba))))
  (sSeq (bP 3 (av cV (aq 2) (ai (aX fT (ah (aq 0) aD)))))
  (sSeq (bP 4 (av cB (ai (uI (aq 0) ly (jH (aR 3)))) (ai (uI (aq 0) (jH (av cB (aq 3) (ai (aE (.int 1))))) ly))))
  (Jn (Ic (bC Jl (ai (aX fT (ah (ai (eE bq (ah (aq 4) aD))) aD))) (ai (aX fT (ah (ai (eE bq (ah (aq 0) aD))) aD)))))
  (bP 0 (aR 4))
  dy)))
  dy)
def iY:FS:=(kM (lB (aR 1)) (ax 2)
  du)
def hV:FS:=(gS (nr 0))
def lb:FS:=(sSeq iY
  hV)
def de:List D->Res R:=fBody 2 3 lb
noncomputable def lh:FS:=(sSeq (bP 1 (eE c7 (ah (ai (eE aH (ah (aq 0) (ah (ai (aE (.int 0))) aD)))) (ah (ai (av cB (ai (aE (.int 1))) (ai (av cV (ai (eE aH (ah (aq 0) (ah (ai (aE (.int 1))) aD)))) (ai (aE (.int 3))))))) aD))))
  (sSeq (bP 2 (eE aW (ah (ai (eE aH (ah (aq 0) (ah (ai (aE (.int 2))) aD)))) (ah (ai (aE (.int 40))) aD))))
  (sSeq (bP 3 (av cV (ai (eE aH (ah (aq 0) (ah (ai (aE (.int 3))) aD)))) (ai (aE (.int 4)))))
  (sSeq (Jn (Ic (bC Jl (aq 3) (ai (aE (.int 0)))))
  (bP 4 (eFunW (.l .f) eI 2 (ah (aq 2) (ah (aq 1) aD))))
  (Jn (Ic (bC Jl (aq 3) (ai (aE (.int 1)))))
  (bP 4 (eFunW (.l .f) cZ 2 (ah (aq 2) (ah (aq 1) aD))))
  (sSeq (DN (eFunW (.l .f) bF 2 (ah (aq 2) (ah (ai (aX fT (ah (aq 1) aD))) aD))) (fB 3 (az (ax 5) (az (ax 6) (az (ax 7) bW)))))
  (sSeq (bP 4 (eE dH (ah (aq 1) (ah (aq 6) (ah (aq 7) aD)))))
  (Jn (Ic (bC Jl (aq 3) (ai (aE (.int 3)))))
  (bP 4 (eE de (ah (aq 4) (ah (ai (uI (aq 0) (jH (aE (.int 4))) (jH (aE (.int 8))))) aD))))
  dy)))))
  (gS (fP (aA (aX jI (ah (aq 1) aD)) (aA (aR 4) ba))))))))
def df:List D->Res R:=fBody 1 7 lh
noncomputable def dJ:FS:=(Jn (Bk (Ic (bC Jl (ai (av HG (aq 5) (ai (aE (.int 0))))) (aq 3))) (Bk (Ic (bC Jl (ai (av HG (aq 5) (ai (aE (.int 1))))) (aq 4))) (Ic (bC rH (ai (av HG (aq 5) (ai (aE (.int 2))))) (aq 1)))))
  (wW 1 (av HG (aq 5) (ai (aE (.int 2)))) (aR 5))
  dy)
def j3:FS:=(kM (lB (av HG (aq 0) (ai (aE (.int 1))))) (ax 5)
  dJ)
def dM:FS:=j3
def gx:FS:=(kM (lB (av HG (aq 0) (ai (aE (.int 0))))) (ax 4)
  dM)
def iZ:FS:=(bP 2 (av cB (aq 2) (ai (aE (.int 1)))))
def fD:FS:=(sSeq (bP 3 (av HG (ai (aX yZ (ah (aq 1) aD))) (aq 2)))
  (sSeq gx
  iZ))
def j4:FS:=(eN (Ic (av Kv (aq 2) (ai (aX fT (ah (aq 1) aD)))))
  fD 100000)
def i0:FS:=(gS (nr 1))
def mE:FS:=(sSeq (bP 1 (qe (aE (.int 0)) (aE .non)))
  (sSeq (bP 2 (aE (.int 0)))
  (sSeq j4
  i0)))
def c5:List D->Res R:=fBody 1 5 mE
def dN:FS:=(sSeq (wW 1 (aR 2) (fP ba))
  (Jn (Ic (bC isnO (aq 3) (ai (aE .non))))
  (wW 1 (aR 2) (av cB (ai (av LM (aq 1) (ai (av HG (aq 3) (ai (aE (.int 0))))))) (ai (fP (aA (av HG (aq 3) (ai (aE (.int 1)))) ba)))))
  dy))
def j5:FS:=(kM (xf (eE c5 (ah (aq 0) aD))) (fB 2 (az (ax 2) (az (ax 3) bW)))
  dN)
def i4:FS:=(gS (di (bZ (ai (aX fT (ah (aq 1) aD)))) [none,some 1] (ax 0) dW (av LM (aq 1) (aq 0))))
def mF:FS:=(sSeq (bP 1 (eNewD false))
  (sSeq j5
  i4))
def bo:List D->Res R:=fBody 1 3 mF
noncomputable def d5:FS:=(iL (rm 3 (av cB (ai (av HG (aq 1) (ai (aE (.int 0))))) (ai (aX x5 (ah (ai (di (JI (mn 4) (JI (kl (aR 4)) (km (aR 4)))) [none,some 2,some 0] (ax 0) dW (av HG (aq 1) (ai (rB iM (ai (av HG (aq 2) (ai (aE (.int 0))))) (ah (aq 0) aD)))))) aD))))))
def hX:FS:=(kM (lB (eE bo (ah (aq 0) aD))) (ax 4)
  d5)
def gR:FS:=(gS (nr 3))
def j6:FS:=(sSeq (bP 2 (di (nu (ah (ai (av HG (aq 1) (ai (aE (.int 1))))) (ah (ai (av HG (aq 1) (ai (aE (.int 2))))) aD))) [none,none] (fB 2 (az (ax 0) (az (ax 1) bW))) dW (av jG (aq 1) (aq 0))))
  (sSeq (bP 3 (m7 ba))
  (sSeq hX
  gR)))
def cu:List D->Res R:=fBody 2 3 j6
noncomputable def j7:FS:=(sSeq (bP 3 (eE cu (ah (aq 0) (ah (aq 1) aD))))
  (sSeq (Jn (Ic (bC Jl (ai (av HG (aq 2) (ai (aE (.int 0))))) (ai (aE (.str [112,97,105,114])))))
  (gS (bC Me (ai (av HG (aq 3) (ai (av HG (aq 2) (ai (aE (.int 1))))))) (ai (av HG (aq 3) (ai (av HG (aq 2) (ai (aE (.int 2)))))))))
  dy)
  (gS (av Kv (ai (av HG (aq 3) (ai (av HG (aq 2) (ai (aE (.int 1))))))) (ai (av HG (ai (av HG (aq 1) (ai (aE (.int 1))))) (ai (rB iM (ai (av HG (aq 0) (ai (aE (.int 0))))) (ah (ai (av HG (aq 2) (ai (aE (.int 2))))) aD)))))))))
def cI:List D->Res R:=fBody 3 1 j7
def eV:FS:=(bP 6 (av cB (aq 6) (ai (di (lB (av HG (aq 0) (ai (aE (.int 0))))) [none,some 7,some 2] (ax 0) (Ic (bC rH (ai (fP (aA (aR 1) (aA (aR 0) ba)))) (aq 2))) (fP (aA (aE (.str [103,97,112])) (aA (aR 1) (aA (aR 0) ba))))))))
def i5:FS:=(kM (bZ (aq 1)) (ax 7)
  eV)
def hZ:FS:=(gS (nr 6))
def eW:FS:=(wW 2 (fP (aA (aR 3) (aA (aR 4) ba))) (aE (.bl true)))
def fE:FS:=(kM (lB (av HG (aq 0) (ai (aE (.int 1))))) (fB 3 (az (ax 3) (az (ax 4) (az (ax 5) bW))))
  eW)
noncomputable def h9:FS:=(sSeq (bP 6 (di (bZ (ai (av iN (aq 1) (aq 1)))) [none,some 1] (ax 0) (Ic (av Kv (ai (av gT (aq 0) (aq 1))) (ai (av cV (aq 0) (aq 1))))) (fP (aA (aE (.str [112,97,105,114])) (aA (av gT (aq 0) (aq 1)) (aA (av cV (aq 0) (aq 1)) ba))))))
  (sSeq i5
  hZ))
noncomputable def lj:FS:=(sSeq (bP 1 (av cB (ai (aE (.int 1))) (ai (uG (di (lB (av HG (aq 0) (ai (aE (.int 1))))) [none,none,none] (fB 3 (az (ax 0) (az (ax 1) (az (ax 2) bW)))) dW (aX maxD (ah (aq 0) (ah (aq 2) aD)))) (aE (.int 0))))))
  (sSeq (bP 2 (eNewD true))
  (sSeq fE
  h9)))
def dg:List D->Res R:=fBody 1 7 lj
noncomputable def ku:FS:=(sSeq (bP 3 (jR (bZ (ai (aE (.int 5)))) [none,some 2] 2 1 (ax 0) dW (av jG (ai (av cB (ai (av iN (ai (d7 1)) (ai (av qN (ai (aE (.int 10))) (ai (aE (.int 20))))))) (ai (av cV (ai (d7 1)) (ai (aE (.int 7))))))) (ai (av qN (ai (aE (.int 10))) (ai (aE (.int 28))))))))
  (sSeq (Jn (Ic (bC Jl (ai (av cV (ai (d7 2)) (ai (aE (.int 2))))) (ai (aE (.int 0)))))
  (bP 3 (jR (bZ (ai (aE (.int 5)))) [none,some 2] 2 1 (ax 0) dW (av jG (ai (av cV (ai (d7 1)) (ai (aE (.int 7))))) (ai (aE (.int 3))))))
  dy)
  (sSeq (Jn (Ic (av Kv (ai (av cV (ai (eE aH (ah (aq 0) (ah (ai (aE (.int 3))) aD)))) (ai (aE (.int 4))))) (ai (aE (.int 2)))))
  (jh 2 (uI (aq 3) ly (jH (aX fT (ah (aq 1) aD)))))
  dy)
  (sSeq (bP 4 (av HG (ai (BF (.l .f) bF (eE aW (ah (ai (eE aH (ah (aq 0) (ah (ai (aE (.int 2))) aD)))) (ah (ai (aE (.int 40))) aD))) (ah (ai (aX fT (ah (aq 1) aD))) aD))) (ai (aE (.int 2)))))
  (jh 2 (di (JI (mn 4) (JI (kl (aR 4)) (km (aR 4)))) [none,some 3] (ax 0) dW (av cB (ai (av iN (ai (av HG (aq 1) (ai (aE (.int 3))))) (ai (av HG (ai (av HG (aq 0) (ai (aE (.int 0))))) (ai (aE (.int 2))))))) (ai (av iN (ai (av HG (aq 1) (ai (aE (.int 4))))) (ai (av HG (ai (av HG (aq 0) (ai (aE (.int 1))))) (ai (aE (.int 2))))))))))))))
def b8:Addr->List D->Res R:=fBodyJ 2 3 2 (.l .f) ku
noncomputable def eX:FS:=(sSeq (bP 10 (di (lB (av HG (aq 0) (ai (aE (.int 1))))) [none,none,none,some 3,some 7,some 5] (fB 3 (az (ax 0) (az (ax 1) (az (ax 2) bW)))) (Ic (bC Jl (aq 1) (aq 5))) (av jG (ai (av HG (aq 3) (aq 0))) (aq 4))))
  (sSeq (bP 11 (aX maxD (ah (ai (aE (.int 0))) (ah (ai (av jG (ai (aE (.int 0))) (aq 9))) aD))))
  (iL (rm 8 (av cB (aq 11) (ai (av cV (ai (d7 2)) (ai (av cB (ai (av jG (ai (BD (aR 10) (av cB (aq 11) (ai (aE (.int 4)))))) (aq 11))) (ai (aE (.int 1))))))))))))
def fF:FS:=(kM (nu (ah (ai (av HG (aq 0) (ai (aE (.int 0))))) (ah (ai (aR 1)) aD))) (fB 2 (az (ax 5) (az (ax 9) bW)))
  eX)
noncomputable def ia:FS:=(sSeq (bP 12 (di (nu (ah (ai (aR 8)) (ah (ai (aR 1)) aD))) [none,none] (fB 2 (az (ax 0) (az (ax 1) bW))) dW (av cB (aq 0) (aq 1))))
  (jh 2 (fP (aA (av jG (ai (av HG (aq 3) (ai (aE (.int 0))))) (aq 7)) (aA (aX jI (ah (aq 8) aD)) (aA (aX jI (ah (aq 12) aD)) ba))))))
noncomputable def b9(mm:Addr->List D->Res R):FS:=(Jn (Ic (bC Me (ai (av cB (ai (av HG (aq 3) (aq 4))) (ai (av HG (aq 1) (ai (rB iM (ai (av HG (aq 0) (ai (aE (.int 0))))) (ah (aq 5) aD))))))) (ai (av HG (aq 3) (aq 6)))))
  (jh 2 (kr 2 (.l .f) mm 2 (ah (ai (fP (aA (av HG (aq 0) (ai (aE (.int 0)))) (aA (av HG (aq 0) (ai (aE (.int 1)))) ba)))) (ah (ai (av iN (ai (m7 (aA (aE (.int 0)) ba))) (ai (aX fT (ah (aq 1) aD))))) (ah (aq 2) aD)))))
  dy)
def cz(mm:Addr->List D->Res R):FS:=(kM (lB (av HG (aq 0) (ai (aE (.int 1))))) (fB 3 (az (ax 4) (az (ax 5) (az (ax 6) bW))))
  (b9 mm))
def eY:FS:=(sSeq (bP 7 (av jG (ai (aX Bz (ah (aq 3) aD))) (ai (av cV (ai (d7 2)) (ai (aE (.int 3)))))))
  (sSeq (bP 8 (m7 ba))
  (sSeq fF
  ia)))
noncomputable def dR(mm:Addr->List D->Res R):FS:=(sSeq (bP 3 (di (lB (eE bo (ah (aq 0) aD))) [none,some 1,some 0] (ax 0) dW (aX x5 (ah (ai (di (JI (mn 0) (JI (kl (aR 0)) (km (aR 0)))) [none,some 1,some 2] (ax 0) dW (av HG (aq 1) (ai (rB iM (ai (av HG (aq 2) (ai (aE (.int 0))))) (ah (aq 0) aD)))))) aD))))
  (sSeq (cz mm)
  eY))
def fG:Addr->List D->Res R:=fun _ _=>.bad
def bJ:Addr->List D->Res R:=fBodyJ 2 3 10 (.l .f) (dR fG)
def cE:Addr->List D->Res R:=fBodyJ 2 3 10 (.l .f) (dR bJ)
def oS:FS:=(sSeq (bP 8 (eE iI (ah (aq 4) (ah (aq 3) (ah (aq 7) aD)))))
  (Jn (PX (Cz (Ic (P0 "bool" (aq 8)))) (Ic (bC Me (aq 8) (ai (eE cI (ah (aq 1) (ah (aq 3) (ah (aq 7) aD))))))))
  (gS (aE (.bl false)))
  dy))
def xk:FS:=(kM (lB (av cB (aq 5) (ai (uI (aq 5) ly (jH (aE (.int 1))))))) (ax 7)
  oS)
def tR:FS:=(gS (bC Jl (aq 4) (aq 1)))
noncomputable def DU:FS:=(sSeq (bP 1 (eE df (ah (aq 0) aD)))
  (sSeq (bP 2 (eE aW (ah (ai (eE aH (ah (aq 0) (ah (ai (aE (.int 8))) aD)))) (ah (ai (aE (.int 40))) aD))))
  (sSeq (bP 3 (kr 2 (.l .f) cE 2 (ah (aq 1) (ah (ai (kr 2 (.l .f) b8 2 (ah (aq 0) (ah (ai (av HG (aq 1) (ai (aE (.int 0))))) (ah (aq 2) aD))))) (ah (aq 2) aD)))))
  (sSeq (bP 4 (fP (aA (av HG (aq 1) (ai (aE (.int 0)))) (aA (aX wM (ah (ai (av HG (aq 1) (ai (aE (.int 1))))) aD)) ba))))
  (sSeq (bP 5 (eE dg (ah (aq 1) aD)))
  (sSeq (bP 6 (av cV (ai (eE aH (ah (aq 0) (ah (ai (aE (.int 9))) aD)))) (ai (av cB (ai (aX fT (ah (aq 5) aD))) (ai (aE (.int 1)))))))
  (sSeq (bP 5 (uI (ai (av cB (ai (uI (aq 5) (jH (aR 6)) ly)) (ai (uI (aq 5) ly (jH (aR 6)))))) ly (jH (aE (.int 20)))))
  (sSeq xk
  tR))))))))
def BH:List D->Res R:=fBody 1 8 DU
end LW
namespace LW
open PySem PySem.Spec PyProof.Rows L2 NX PV
theorem zb{α:Type}{Q:List α->Prop}(h:∀a,Q [a]):∀us,us.length=1->Q us
 |[a],_=>h a
theorem qO{α:Type}{Q:List α->Prop}(h:∀a b,Q [a,b]):∀us,us.length=2->Q us
 |[a,b],_=>h a b
theorem zc{α:Type}{Q:List α->Prop}(h:∀a b c,Q [a,b,c]):∀us,us.length=3->Q us
 |[a,b,c],_=>h a b c
theorem cK{X:Cx}{tg e:Expr}{f:FX}(h:QE X e f):QI X tg e (JI (Dz f) (JI (kl f) (km f))):=wQ (Bm h) (wQ (nM h) (nN h))
def top(i:Nat):Stmt:=PySem.Challenge.pw_netfinder_k61_solved_or_not.main.body.getD i (.Pass ⟨0,0,0,0⟩)
theorem Ge:Str.ofString "gap" = S [103,97,112]:=by decide +kernel
theorem EK:Str.ofString "pair" = S [112,97,105,114]:=by decide +kernel
theorem G9:Str.ofString "moves" = S [109,111,118,101,115]:=by decide +kernel
theorem Ha:Str.ofString "movesa" = S [109,111,118,101,115,97]:=by decide +kernel
theorem Hb:Str.ofString "" = S []:=by decide +kernel
theorem Hc:Str.ofString "abcdefghijklmnopqrstuvwxyz" = S [97,98,99,100,101,102,103,104,105,106,107,108,109,110,111,112,113,114,115,116,117,118,119,120,121,122]:=by decide +kernel
section
variable{P:Program}{w:World}{K:W.Frag}{mg:Str->Option Value}{base:Heap}
abbrev jj:Stmt:=top 4
theorem qp:FnScope ["chart"] ["chart"] (defScope jj):=fs
theorem qq(Df:Def K mg "states_of" jj)(Iz:mg "max" = none):Ct P w K mg base "states_of" 1 (spF K cD):=
 dF Df qp (fun _ _ _ _ _ _=>zb fun _=>rfl) fun f HX A outer s H E hr=>
  (aw (bA (aM aQ (ae ao) (ae (wO rfl (by rfl) Iz (bN [none,none,none] ["first","move","second"] rfl (bV (cK (aO (af (pv 0)) (ae ao)))) (fun _ _ _ _ _=>(have h:=(show List.Nodup (["first","move","second"]:List Str) from by decide +kernel);(cQ rfl (aG (ay (i:=0) h rfl (lo rfl)) (aG (ay (i:=1) h rfl (lo rfl)) (aG (ay (i:=2) h rfl (lo rfl)) bR)))))) (fun _ _ _ _ _=>bS) (fun _ _ _ _ _=>(aP (p6 rfl) (by rfl) Iz p9 (ag (af (pv 0)) (ag (af (pv 2)) ar))))) ao)))))
abbrev mG:Stmt:=top 5
theorem uM:FnScope ["chart","state","move"] ["chart","state","move"] (defScope mG):=fs
theorem uN(Df:Def K mg "goes_to" mG):Ct P w K mg base "goes_to" 1 (spF K fU):=
 dF Df uM (fun _ _ _ _ _ _=>zc fun _ _ _=>rfl) fun f HX A outer s H E hr=>
  (aw (bA (bN [none,none,none,some 1,some 2] ["first","by","second","state","move"] rfl (bV (cK (aO (af (pv 0)) (ae ao)))) (fun _ _ _ _ _=>(have h:=(show List.Nodup (["first","by","second","state","move"]:List Str) from by decide +kernel);(cQ rfl (aG (ay (i:=0) h rfl (lo rfl)) (aG (ay (i:=1) h rfl (lo rfl)) (aG (ay (i:=2) h rfl (lo rfl)) bR)))))) (fun _ _ _ _ _=>(lZ (QW.qt (sY (a9 (fR hr.units) (af (pv 0)) (af (pv 3)) (a7 _)) (rg (a9 (fR hr.units) (af (pv 1)) (af (pv 4)) (a7 _))))))) (fun _ _ _ _ _=>(aI (pv 2))))))
abbrev kx:Stmt:=top 6
theorem rM:FnScope ["chart","state","move"] ["chart","state","move"] (defScope kx):=fs
theorem rN(Df:Def K mg "has_move" kx)(Mu:Ct P w K mg base "goes_to" 1 (spF K fU))(HM:mg "len" = none):Ct P w K mg base "has_move" 2 (spF K eF):=
 dF Df rM (fun _ _ _ _ _ _=>zc fun _ _ _=>rfl) fun f HX A outer s H E hr=>
  (aw (bA (sW DD (ae (aP bU (by rfl) HM bt_len (ag (ae (a8 Mu hr.m (by rfl) (ag (af (pv 0)) (ag (af (pv 1)) (ag (af (pv 2)) ar))))) ar))) (ae ao) (a7 _))))
abbrev mH:Stmt:=top 7
theorem eJ:FnScope ["arcs","met","tree","looked_at","arc"] ["arcs"] (defScope mH):=fs
theorem uO(Df:Def K mg "tree_of" mH)(HM:mg "len" = none):Ct P w K mg base "tree_of" 1 (spF K eP):=
 dF Df eJ (fun _ _ _ _ _ _=>zb fun _=>rfl) fun f HX A outer s H E hr=>
  (aj (aN (i:=1) eJ.nd rfl (lo rfl) (d6 (aF ao aV)))
  (aj (aN (i:=2) eJ.nd rfl (lo rfl) (d6 aV))
  (aj (aN (i:=3) eJ.nd rfl (lo rfl) ao)
  (aj (oE 100000 TQ (kK (g5 hr.units0) (af (pv 3)) (ae (aP bU (by rfl) HM bt_len (ag (af (pv 1)) ar))) (a7 _))
  (aj (cw TQ rfl (cK (aI (pv 0))) (ay (i:=4) eJ.nd rfl (lo rfl))
  (aw (dQ (QW.qt (sY (a9 (fR hr.units) (ae (aO (af (pv 4)) (ae ao))) (ae (aO (af (pv 1)) (af (pv 3)))) (a7 _)) (rg (a9 (oN hr.u65) (ae (aO (af (pv 4)) (ae ao))) (af (pv 1)) (by with_unfolding_all rfl)))))
  (aj (dk (b6 (pv 1) (aO (af (pv 4)) (ae ao))))
  (aw (dk (b6 (pv 2) (aI (pv 4))))))
  bE)))
  (aw (aN (i:=3) eJ.nd rfl (lo rfl) (aM aQ (af (pv 3)) (ae ao))))))
  (aw (bA (jc (pv 2))))))))
abbrev mI:Stmt:=top 9
theorem uP:FnScope ["one","other"] ["one","other"] (defScope mI):=fs
theorem uQ(Df:Def K mg "product" mI)(Jf:mg "sum" = none)(Ih:mg "zip" = none):Ct P w K mg base "product" 1 (spF K eQ):=
 dF Df uP (fun _ _ _ _ _ _=>qO fun _ _=>rfl) fun f HX A outer s H E hr=>
  (aw (bA (aP (tw rfl) (by rfl) Jf tH (ag (ae (bN [none,none] ["number","factor"] rfl (bV (gq (by rfl) Ih (ag (ae (aI (pv 0))) (ag (ae (aI (pv 1))) ar)))) (fun _ _ _ _ _=>(have h:=(show List.Nodup (["number","factor"]:List Str) from by decide +kernel);(cQ rfl (aG (ay (i:=0) h rfl (lo rfl)) (aG (ay (i:=1) h rfl (lo rfl)) bR))))) (fun _ _ _ _ _=>bS) (fun _ _ _ _ _=>(aM dZ (af (pv 0)) (af (pv 1)))))) ar))))
abbrev xl:Stmt:=top 10
theorem BI:FnScope ["row","other"] ["row","other"] (defScope xl):=fs
theorem BJ(Df:Def K mg "less" xl)(HS:mg "tuple" = none)(Ih:mg "zip" = none):Ct P w K mg base "less" 1 (spF K nW):=
 dF Df BI (fun _ _ _ _ _ _=>qO fun _ _=>rfl) fun f HX A outer s H E hr=>
  (aw (bA (cP e9 (by rfl) HS d8 (ag (ae (bN [none,none] ["number","taken"] rfl (bV (gq (by rfl) Ih (ag (ae (aI (pv 0))) (ag (ae (aI (pv 1))) ar)))) (fun _ _ _ _ _=>(have h:=(show List.Nodup (["number","taken"]:List Str) from by decide +kernel);(cQ rfl (aG (ay (i:=0) h rfl (lo rfl)) (aG (ay (i:=1) h rfl (lo rfl)) bR))))) (fun _ _ _ _ _=>bS) (fun _ _ _ _ _=>(aM dA (af (pv 0)) (af (pv 1)))))) ar))))
abbrev mJ:Stmt:=top 12
theorem fX:FnScope ["chart","ways","first","move","second"] ["chart"] (defScope mJ):=fs
theorem uR(Df:Def K mg "ways_of" mJ)(Jp:Ct P w K mg base "states_of" 1 (spF K cD))(Mv:Ct P w K mg base "tree_of" 1 (spF K eP))(HK:mg "range" = none):Ct P w K mg base "ways_of" 2 (spF K eR):=
 dF Df fX (fun _ _ _ _ _ _=>zb fun _=>rfl) fun f HX A outer s H E hr=>
  (aj (aN (i:=1) fX.nd rfl (lo rfl) (oM ao (cJ aV)))
  (aj (cw TQ rfl (cK (a8 Mv hr.m (by rfl) (ag (ae (aO (af (pv 0)) (ae ao))) ar))) (cQ rfl (aG (ay (i:=2) fX.nd rfl (lo rfl)) (aG (ay (i:=3) fX.nd rfl (lo rfl)) (aG (ay (i:=4) fX.nd rfl (lo rfl)) bR))))
  (aw (kP (hu_of hr) (pv 1) (aI (pv 4)) (aM aQ (ae (yV (hu_of hr) (af (pv 1)) (af (pv 2)))) (ae (cJ (aF (aI (pv 3)) aV)))))))
  (aw (bA (bN [none,some 1] ["state","ways"] rfl (bV (b5 (by rfl) HK (ae (a8 Jp hr.m (by rfl) (ag (af (pv 0)) ar))))) (fun _ _ _ _ _=>(ay (i:=0) (show List.Nodup (["state","ways"]:List Str) from by decide +kernel) rfl (lo rfl))) (fun _ _ _ _ _=>bS) (fun _ _ _ _ _=>(yV (hu_of hr) (af (pv 1)) (af (pv 0)))))))))
abbrev mK:Stmt:=top 13
theorem uS:FnScope ["moves","way"] ["moves","way"] (defScope mK):=fs
theorem uT(Df:Def K mg "counted" mK)(HS:mg "tuple" = none):Ct P w K mg base "counted" 1 (spF K eS):=
 dF Df uS (fun _ _ _ _ _ _=>qO fun _ _=>rfl) fun f HX A outer s H E hr=>
  (aw (bA (cP e9 (by rfl) HS d8 (ag (ae (bN [none,some 1] ["move","way"] rfl (iS (mq (pv 0)) (iS (bV (nM (aI (pv 0)))) (bV (nN (aI (pv 0)))))) (fun _ _ _ _ _=>(ay (i:=0) (show List.Nodup (["move","way"]:List Str) from by decide +kernel) rfl (lo rfl))) (fun _ _ _ _ _=>bS) (fun _ _ _ _ _=>(kR WI PySem.F.type_tuple_count rD (af (pv 1)) (ag (af (pv 0)) ar))))) ar))))
abbrev jk:Stmt:=top 14
theorem qr:FnScope ["chart"] ["chart"] (defScope jk):=fs
theorem qu(Df:Def K mg "counts_of" jk)(Mw:Ct P w K mg base "counted" 1 (spF K eS))(Mx:Ct P w K mg base "ways_of" 2 (spF K eR)):Ct P w K mg base "counts_of" 3 (spF K cX):=
 dF Df qr (fun _ _ _ _ _ _=>zb fun _=>rfl) fun f HX A outer s H E hr=>
  (aw (bA (bN [none,some 0] ["way","chart"] rfl (bV (cK (a8 Mx hr.m (by rfl) (ag (af (pv 0)) ar)))) (fun _ _ _ _ _=>(ay (i:=0) (show List.Nodup (["way","chart"]:List Str) from by decide +kernel) rfl (lo rfl))) (fun _ _ _ _ _=>bS) (fun _ _ _ _ _=>(a8 Mw hr.m (by rfl) (ag (ae (aO (af (pv 1)) (ae ao))) (ag (af (pv 0)) ar)))))))
abbrev gy:Stmt:=top 16
theorem i6:FnScope ["chart","place","added"] ["chart","place"] (defScope gy):=fs
theorem nv(Df:Def K mg "place_beads" gy)(Ll:Ct P w K mg base "counts_of" 3 (spF K cX))(Pa:Ct P w K mg base "less" 1 (spF K nW))(My:Ct P w K mg base "product" 1 (spF K eQ)):Ct P w K mg base "place_beads" 4 (spF K cn):=
 dF Df i6 (fun _ _ _ _ _ _=>qO fun _ _=>rfl) fun f HX A outer s H E hr=>
  (aj (aN (i:=2) i6.nd rfl (lo rfl) (a8 Pa hr.m (by rfl) (ag (ae (aO (af (pv 1)) (ae ao))) (ag (ae (aO (af (pv 1)) (ae ao))) ar))))
  (aw (bA (bN [none,some 1,some 2] ["counts","place","added"] rfl (bV (cK (a8 Ll hr.m (by rfl) (ag (af (pv 0)) ar)))) (fun _ _ _ _ _=>(ay (i:=0) (show List.Nodup (["counts","place","added"]:List Str) from by decide +kernel) rfl (lo rfl))) (fun _ _ _ _ _=>bS) (fun _ _ _ _ _=>(aM aQ (ae (aO (af (pv 1)) (ae ao))) (ae (a8 My hr.m (by rfl) (ag (af (pv 2)) (ag (af (pv 0)) ar))))))))))
abbrev gA:Stmt:=top 18
theorem ny:FnScope ["chart","thing"] ["chart","thing"] (defScope gA):=fs
theorem nE(Df:Def K mg "is_state_of" gA)(Jp:Ct P w K mg base "states_of" 1 (spF K cD))(JK:mg "bool" = none)(Lm:mg "int" = none)(HQ:mg "isinstance" = none):Ct P w K mg base "is_state_of" 2 (spF K cq):=
 dF Df ny (fun _ _ _ _ _ _=>qO fun _ _=>rfl) fun f HX A outer s H E hr=>
  (aw (bA (p0 (yT (T:="int") (by decide) (af (pv 1)) (by rfl) HQ (by rfl) Lm Dn) (p0 (z9 (yT (T:="bool") (by decide) (af (pv 1)) (by rfl) HQ (by rfl) JK v7)) (wG (yL Fv (g5 hr.units0) (ae ao) (af (pv 1)) (ae (a8 Jp hr.m (by rfl) (ag (af (pv 0)) ar)))))))))
abbrev mL:Stmt:=top 19
theorem uU:FnScope ["chart","thing"] ["chart","thing"] (defScope mL):=fs
theorem uV(Df:Def K mg "is_case" mL)(LP:Ct P w K mg base "has_move" 2 (spF K eF))(JF:Ct P w K mg base "is_state_of" 2 (spF K cq))(HQ:mg "isinstance" = none)(HM:mg "len" = none)(HS:mg "tuple" = none):Ct P w K mg base "is_case" 3 (spF K fV):=
 dF Df uU (fun _ _ _ _ _ _=>qO fun _ _=>rfl) fun f HX A outer s H E hr=>
  (aj (dQ (QW.qt (yJ (sZ (sX (yT (T:="tuple") (by decide) (af (pv 1)) (by rfl) HQ (by rfl) HS d8))) (yJ (a9 (rq hr.units) (ae (aP bU (by rfl) HM bt_len (ag (af (pv 1)) ar))) (ae ao) (a7 _)) (wF (sZ (sX (a8 JF hr.m (by rfl) (ag (af (pv 0)) (ag (ae (aO (af (pv 1)) (ae ao))) ar)))))))))
  (aw (bA qZ))
  bE)
  (aj (dQ (a9 (fR hr.units) (ae (aO (af (pv 1)) (ae ao))) (ae (iP EK (by decide))) (a7 _))
  (aw (bA (p0 (a8 JF hr.m (by rfl) (ag (af (pv 0)) (ag (ae (aO (af (pv 1)) (ae ao))) ar))) (wG (sW (g5 hr.units0) (ae (aO (af (pv 1)) (ae ao))) (ae (aO (af (pv 1)) (ae ao))) (a7 _))))))
  bE)
  (aw (bA (p0 (lY (fR hr.units) (ae (aO (af (pv 1)) (ae ao))) (ae (iP Ge (by decide))) (a7 _)) (p0 (lY (Ak hr.u65) (ae (aO (af (pv 1)) (ae ao))) (ae (aO (af (pv 0)) (ae ao))) (by with_unfolding_all rfl)) (wG (z9 (a8 LP hr.m (by rfl) (ag (af (pv 0)) (ag (ae (aO (af (pv 1)) (ae ao))) (ag (ae (aO (af (pv 1)) (ae ao))) ar))))))))))))
abbrev ib:Stmt:=top 20
theorem oT:FnScope ["chart","thing"] ["chart","thing"] (defScope ib):=fs
theorem oU(Df:Def K mg "check_case" ib)(Mz:Ct P w K mg base "is_case" 3 (spF K fV)):Ct P w K mg base "check_case" 4 (spF K c6):=
 dF Df oT (fun _ _ _ _ _ _=>qO fun _ _=>rfl) fun f HX A outer s H E hr=>
  (aw (dQ (sZ (sX (a8 Mz hr.m (by rfl) (ag (af (pv 0)) (ag (af (pv 1)) ar)))))
  (aw yM)
  bE))
abbrev oV:Stmt:=top 21
theorem qw:FnScope ["chart","place","case","beads"] ["chart","place","case"] (defScope oV):=fs
theorem xm(Df:Def K mg "solves" oV)(KQ:Ct P w K mg base "check_case" 4 (spF K c6))(Kw:Ct P w K mg base "place_beads" 4 (spF K cn)):Ct P w K mg base "solves" 5 (spF K iI):=
 dF Df qw (fun _ _ _ _ _ _=>zc fun _ _ _=>rfl) fun f HX A outer s H E hr=>
  (aj (dk (a8 KQ hr.m (by rfl) (ag (af (pv 0)) (ag (af (pv 2)) ar))))
  (aj (aN (i:=3) qw.nd rfl (lo rfl) (a8 Kw hr.m (by rfl) (ag (af (pv 0)) (ag (af (pv 1)) ar))))
  (aj (dQ (a9 (fR hr.units) (ae (aO (af (pv 2)) (ae ao))) (ae (iP EK (by decide))) (a7 _))
  (aw (bA (lY (rq hr.units) (ae (aO (af (pv 3)) (ae (aO (af (pv 2)) (ae ao))))) (ae (aO (af (pv 3)) (ae (aO (af (pv 2)) (ae ao))))) (a7 _))))
  bE)
  (aw (bA (sW (g5 hr.units0) (ae (aO (af (pv 3)) (ae (aO (af (pv 2)) (ae ao))))) (ae (aO (ae (aO (af (pv 1)) (ae ao))) (ae (kR Uv UB cW (ae (aO (af (pv 0)) (ae ao))) (ag (ae (aO (af (pv 2)) (ae ao))) ar))))) (a7 _)))))))
abbrev fH:Stmt:=top 23
theorem mM:FnScope ["_law_script","_law_k"] ["_law_script","_law_k"] (defScope fH):=fs
theorem mN(Df:Def K mg "_law_cell_at" fH)(HM:mg "len" = none):Ct P w K mg base "_law_cell_at" 1 (spF K aH):=
 dF Df mM (fun _ _ _ _ _ _=>qO fun _ _=>rfl) fun f HX A outer s H E hr=>
  (aj (dQ (kK (g5 hr.units0) (af (pv 1)) (ae (aP bU (by rfl) HM bt_len (ag (af (pv 0)) ar))) (a7 _))
  (aw (bA (aO (af (pv 0)) (af (pv 1)))))
  bE)
  (aw (bA ao)))
abbrev gB:Stmt:=top 24
theorem cR:FnScope ["_law_cell","_law_count","_law_found","_law_x","_law_k"] ["_law_cell","_law_count"] (defScope gB):=fs
theorem nF(Df:Def K mg "_law_stream" gB)(HK:mg "range" = none):Ct P w K mg base "_law_stream" 1 (spF K aW):=
 dF Df cR (fun _ _ _ _ _ _=>qO fun _ _=>rfl) fun f HX A outer s H E hr=>
  (aj (aN (i:=2) cR.nd rfl (lo rfl) (d6 aV))
  (aj (aN (i:=3) cR.nd rfl (lo rfl) (aM aQ (ae (aM bj (af (pv 0)) (ae ao))) (ae ao)))
  (aj (cw TQ rfl (b5 (by rfl) HK (af (pv 1))) (ay (i:=4) cR.nd rfl (lo rfl))
  (aj (aN (i:=3) cR.nd rfl (lo rfl) (aM bj (ae (aM aQ (ae (aM aQ (ae (aM aQ (ae (aM dZ (af (pv 3)) (af (pv 3)))) (ae (aM dZ (ae ao) (af (pv 3)))))) (ae (aM dZ (ae ao) (af (pv 4)))))) (ae ao))) (ae ao)))
  (aw (dk (b6 (pv 2) (aM ko (af (pv 3)) (ae ao)))))))
  (aw (bA (jc (pv 2)))))))
abbrev ic:Stmt:=top 25
theorem aZ:FnScope ["_law_cell","_law_count","_law_letters","_law_long","_law_spot","_law_listed","_law_k","_law_name","_law_j","_law_step"] ["_law_cell","_law_count"] (defScope ic):=fs
theorem oW(Df:Def K mg "_law_names" ic)(HK:mg "range" = none)(Ib:mg "sorted" = none):Ct P w K mg base "_law_names" 1 (spF K c7):=
 dF Df aZ (fun _ _ _ _ _ _=>qO fun _ _=>rfl) fun f HX A outer s H E hr=>
  (aj (aN (i:=2) aZ.nd rfl (lo rfl) (iP Hc (by decide)))
  (aj (aN (i:=3) aZ.nd rfl (lo rfl) (aM aQ (ae ao) (ae (aM bj (af (pv 0)) (ae ao)))))
  (aj (aN (i:=4) aZ.nd rfl (lo rfl) (aM bj (ae (aM ko (af (pv 0)) (ae ao))) (af (pv 3))))
  (aj (aN (i:=5) aZ.nd rfl (lo rfl) (d6 aV))
  (aj (cw TQ rfl (b5 (by rfl) HK (af (pv 1))) (ay (i:=6) aZ.nd rfl (lo rfl))
  (aj (aN (i:=7) aZ.nd rfl (lo rfl) (iP Hb (by decide)))
  (aj (cw TQ rfl (b5 (by rfl) HK (af (pv 3))) (ay (i:=8) aZ.nd rfl (lo rfl))
  (aj (aN (i:=9) aZ.nd rfl (lo rfl) (aM aQ (ae (aM ko (af (pv 0)) (ae (aM aQ (af (pv 8)) (ae ao))))) (ae (aM dZ (af (pv 8)) (af (pv 8))))))
  (aj (dQ (a9 (fR hr.units) (af (pv 8)) (af (pv 4)) (a7 _))
  (aw (aN (i:=9) aZ.nd rfl (lo rfl) (aM aQ (af (pv 9)) (af (pv 6)))))
  bE)
  (aw (aN (i:=7) aZ.nd rfl (lo rfl) (aM aQ (af (pv 7)) (ae (aO (af (pv 2)) (ae (aM bj (af (pv 9)) (ae ao)))))))))))
  (aj (dQ (a9 (fR hr.units) (af (pv 7)) (ae (iP G9 (by decide))) (a7 _))
  (aw (aN (i:=7) aZ.nd rfl (lo rfl) (iP Ha (by decide))))
  bE)
  (aw (dk (b6 (pv 5) (aI (pv 7)))))))))
  (aw (bA (aP (jN rfl) (by rfl) Ib jO (ag (af (pv 5)) ar)))))))))
abbrev fI:Stmt:=top 26
theorem cb:FnScope ["_law_arcs","_law_there","_law_k","_law_one","_law_move","_law_other"] ["_law_arcs"] (defScope fI):=fs
theorem mO(Df:Def K mg "_law_come_to" fI)(HM:mg "len" = none)(HK:mg "range" = none):Ct P w K mg base "_law_come_to" 1 (spF K bq):=
 dF Df cb (fun _ _ _ _ _ _=>zb fun _=>rfl) fun f HX A outer s H E hr=>
  (aj (aN (i:=1) cb.nd rfl (lo rfl) (oM ao qZ))
  (aj (cw TQ rfl (b5 (by rfl) HK (ae (aP bU (by rfl) HM bt_len (ag (af (pv 0)) ar)))) (ay (i:=2) cb.nd rfl (lo rfl))
  (aw (cw TQ rfl (cK (aI (pv 0))) (cQ rfl (aG (ay (i:=3) cb.nd rfl (lo rfl)) (aG (ay (i:=4) cb.nd rfl (lo rfl)) (aG (ay (i:=5) cb.nd rfl (lo rfl)) bR))))
  (aw (dQ (a9 (Ak hr.u65) (af (pv 3)) (af (pv 1)) (by with_unfolding_all rfl))
  (aw (kP (hu_of hr) (pv 1) (aI (pv 5)) qZ))
  bE)))))
  (aw (bA (jc (pv 1))))))
abbrev gC:Stmt:=top 27
theorem bc:FnScope ["_law_xs","_law_count","_law_tops","_law_start","_law_guards_here","_law_k","_law_sides","_law_most","_law_change","_law_low","_law_high"] ["_law_xs","_law_count"] (defScope gC):=fs
theorem nG(Df:Def K mg "_law_guards" gC)(Iz:mg "max" = none)(Jg:mg "min" = none)(HK:mg "range" = none):Ct P w K mg base "_law_guards" 1 (spM K (.l .f) bF):=
 xb Df bc (fun _ _ _ _ _ _=>qO fun _ _=>rfl) fun f HX A outer s H E hr=>
  (aj (aN (i:=2) bc.nd rfl (lo rfl) (d6 (aF (aM aQ (ae ao) (ae (aM bj (ae (b7 (pv 0))) (ae ao)))) (aF (aM bj (ae (b7 (pv 0))) (ae ao)) aV))))
  (aj (aN (i:=3) bc.nd rfl (lo rfl) (cJ (aF (aM bj (ae (b7 (pv 0))) (ae (aM aQ (ae (aO (af (pv 2)) (ae ao))) (ae ao)))) (aF (aM bj (ae (b7 (pv 0))) (ae (aM aQ (ae (aO (af (pv 2)) (ae ao))) (ae ao)))) aV))))
  (aj (aN (i:=4) bc.nd rfl (lo rfl) (d6 aV))
  (aj (cw TQ rfl (b5 (by rfl) HK (af (pv 1))) (ay (i:=5) bc.nd rfl (lo rfl))
  (aj (aN (i:=6) bc.nd rfl (lo rfl) (d6 aV))
  (aj (cw TQ rfl (cK (aI (pv 2))) (ay (i:=7) bc.nd rfl (lo rfl))
  (aj (aN (i:=8) bc.nd rfl (lo rfl) (aM dA (ae (aM bj (ae (b7 (pv 0))) (ae (aM aQ (ae (aM dZ (ae ao) (af (pv 7)))) (ae ao))))) (af (pv 7))))
  (aj (aN (i:=9) bc.nd rfl (lo rfl) (aM aQ (ae (aP (p6 rfl) (by rfl) Iz p9 (ag (ae ao) (ag (ae (aM dA (ae ao) (af (pv 8)))) ar)))) (ae (aM bj (ae (b7 (pv 0))) (ae ao)))))
  (aj (aN (i:=10) bc.nd rfl (lo rfl) (aM dA (ae (aP (xa rfl) (by rfl) Jg w5 (ag (af (pv 7)) (ag (ae (aM dA (af (pv 7)) (af (pv 8)))) ar)))) (ae (aM ko (ae (aM bj (ae (b7 (pv 0))) (ae ao))) (ae ao)))))
  (aw (dk (b6 (pv 6) (cJ (aF (aI (pv 9)) (aF (aI (pv 10)) (aF (aI (pv 8)) aV)))))))))))
  (aw (dk (b6 (pv 4) (aI (pv 6))))))))
  (aw (gr (i:=0) (cJ (aF (aI (pv 2)) (aF (aI (pv 3)) (aF (aI (pv 4)) aV))))))))))
abbrev jl:Stmt:=top 28
theorem fg:FnScope ["_law_spot","_law_sides","_law_there","_law_number","_law_side"] ["_law_spot","_law_sides"] (defScope jl):=fs
theorem qx(Df:Def K mg "_law_gone" jl)(HS:mg "tuple" = none)(Ih:mg "zip" = none):Ct P w K mg base "_law_gone" 1 (spF K cY):=
 dF Df fg (fun _ _ _ _ _ _=>qO fun _ _=>rfl) fun f HX A outer s H E hr=>
  (aj (aN (i:=2) fg.nd rfl (lo rfl) (d6 aV))
  (aj (cw TQ rfl (gq (by rfl) Ih (ag (ae (aI (pv 0))) (ag (ae (aI (pv 1))) ar))) (cQ rfl (aG (ay (i:=3) fg.nd rfl (lo rfl)) (aG (ay (i:=4) fg.nd rfl (lo rfl)) bR)))
  (aj (dQ (QW.qt (yJ (kK (g5 hr.units0) (af (pv 3)) (ae (aO (af (pv 4)) (ae ao))) (a7 _)) (wF (kK DD (af (pv 3)) (ae (aO (af (pv 4)) (ae ao))) (a7 _)))))
  (aw (bA sU))
  bE)
  (aw (dk (b6 (pv 2) (aM aQ (af (pv 3)) (ae (aO (af (pv 4)) (ae ao)))))))))
  (aw (bA (cP e9 (by rfl) HS d8 (ag (af (pv 2)) ar))))))
abbrev ky:Stmt:=top 29
theorem cF:FnScope ["_law_names_here","_law_start","_law_guards_here","_law_spots","_law_arcs","_law_done","_law_name","_law_sides","_law_there"] ["_law_names_here","_law_start","_law_guards_here"] (defScope ky):=fs
theorem rO(Df:Def K mg "_law_run" ky)(Ln:Ct P w K mg base "_law_gone" 1 (spF K cY))(HM:mg "len" = none)(Ib:mg "sorted" = none)(Ih:mg "zip" = none):Ct P w K mg base "_law_run" 2 (spF K dH):=
 dF Df cF (fun _ _ _ _ _ _=>zc fun _ _ _=>rfl) fun f HX A outer s H E hr=>
  (aj (aN (i:=3) cF.nd rfl (lo rfl) (d6 (aF (aI (pv 1)) aV)))
  (aj (aN (i:=4) cF.nd rfl (lo rfl) (d6 aV))
  (aj (aN (i:=5) cF.nd rfl (lo rfl) ao)
  (aj (oE 100000 TQ (kK (g5 hr.units0) (af (pv 5)) (ae (aP bU (by rfl) HM bt_len (ag (af (pv 3)) ar))) (a7 _))
  (aj (cw TQ rfl (gq (by rfl) Ih (ag (ae (aI (pv 0))) (ag (ae (aI (pv 2))) ar))) (cQ rfl (aG (ay (i:=6) cF.nd rfl (lo rfl)) (aG (ay (i:=7) cF.nd rfl (lo rfl)) bR)))
  (aj (aN (i:=8) cF.nd rfl (lo rfl) (a8 Ln hr.m (by rfl) (ag (ae (aO (af (pv 3)) (af (pv 5)))) (ag (af (pv 7)) ar))))
  (aw (dQ (a9 Af (af (pv 8)) (ae sU) (a7 _))
  (aj (dQ (a9 (oN hr.u65) (af (pv 8)) (af (pv 3)) (by with_unfolding_all rfl))
  (aw (dk (b6 (pv 3) (aI (pv 8)))))
  bE)
  (aw (dk (b6 (pv 4) (cJ (aF (aI (pv 5)) (aF (aI (pv 6)) (aF (DT WS PySem.F.type_list_index (rK hr.u65) (af (pv 3)) (ag (af (pv 8)) ar)) aV))))))))
  bE))))
  (aw (aN (i:=5) cF.nd rfl (lo rfl) (aM aQ (af (pv 5)) (ae ao))))))
  (aw (bA (aP (jN rfl) (by rfl) Ib jO (ag (af (pv 4)) ar))))))))
abbrev kz:Stmt:=top 30
theorem eZ:FnScope ["_law_xs","_law_names_here","_law_many","_law_arcs","_law_k"] ["_law_xs","_law_names_here"] (defScope kz):=fs
theorem rQ(Df:Def K mg "_law_few" kz)(HM:mg "len" = none)(HK:mg "range" = none)(Ib:mg "sorted" = none):Ct P w K mg base "_law_few" 1 (spM K (.l .f) eI):=
 xb Df eZ (fun _ _ _ _ _ _=>qO fun _ _=>rfl) fun f HX A outer s H E hr=>
  (aj (aN (i:=2) eZ.nd rfl (lo rfl) (aM aQ (ae ao) (ae (aM bj (ae (b7 (pv 0))) (ae ao)))))
  (aj (aN (i:=3) eZ.nd rfl (lo rfl) wV)
  (aj (cw TQ rfl (wK (by rfl) HK (ag (ae ao) (ag (af (pv 2)) ar))) (ay (i:=4) eZ.nd rfl (lo rfl))
  (aw (kP (hu_of hr) (pv 3) (cJ (aF (aM bj (ae (b7 (pv 0))) (af (pv 4))) (aF (aO (af (pv 1)) (ae (aM bj (ae (b7 (pv 0))) (ae (aP bU (by rfl) HM bt_len (ag (af (pv 1)) ar)))))) (aF (aI (pv 4)) aV)))) qZ)))
  (aj (cw TQ rfl (b5 (by rfl) HK (ae (aM bj (ae (b7 (pv 0))) (ae ao)))) (ay (i:=4) eZ.nd rfl (lo rfl))
  (aw (kP (hu_of hr) (pv 3) (cJ (aF (aM bj (ae (b7 (pv 0))) (af (pv 2))) (aF (aO (af (pv 1)) (ae (aM bj (ae (b7 (pv 0))) (ae (aP bU (by rfl) HM bt_len (ag (af (pv 1)) ar)))))) (aF (aM bj (ae (b7 (pv 0))) (af (pv 2))) aV)))) qZ)))
  (aw (gr (i:=0) (aP (jN rfl) (by rfl) Ib jO (ag (af (pv 3)) ar))))))))
abbrev jm:Stmt:=top 31
theorem ie:FnScope ["_law_xs","_law_names_here","_law_long","_law_arcs"] ["_law_xs","_law_names_here"] (defScope jm):=fs
theorem qy(Df:Def K mg "_law_word" jm)(HM:mg "len" = none)(HK:mg "range" = none)(Ib:mg "sorted" = none):Ct P w K mg base "_law_word" 1 (spM K (.l .f) cZ):=
 xb Df ie (fun _ _ _ _ _ _=>qO fun _ _=>rfl) fun f HX A outer s H E hr=>
  (aj (aN (i:=2) ie.nd rfl (lo rfl) (aM aQ (ae ao) (ae (aM bj (ae (b7 (pv 0))) (ae ao)))))
  (aj (y9 (i:=3) (j:=0) (k0:=2) [none,some 1,some 0] ["_law_k","_law_names_here","_law_xs"] ie.nd rfl (lo rfl) rfl (b5 (by rfl) HK (af (pv 2))) (fun _ _ _ _ _=>(ay (i:=0) (show List.Nodup (["_law_k","_law_names_here","_law_xs"]:List Str) from by decide +kernel) rfl (lo rfl))) (fun _ _ _ _ _=>bS) (fun _ _ _ _ _=>(cJ (aF (aI (pv 0)) (aF (aO (af (pv 1)) (ae (aM bj (ae (b7 (pv 2))) (ae (aP bU (by rfl) HM bt_len (ag (af (pv 1)) ar)))))) (aF (aM aQ (af (pv 0)) (ae ao)) aV))))))
  (aj (dQ (a9 (fR hr.units) (ae (aM bj (ae (b7 (pv 0))) (ae ao))) (ae ao) (a7 _))
  (aw (dk (b6 (pv 3) (cJ (aF (aI (pv 2)) (aF (aO (af (pv 1)) (ae (aM bj (ae (b7 (pv 0))) (ae (aP bU (by rfl) HM bt_len (ag (af (pv 1)) ar)))))) (aF (aM bj (ae (b7 (pv 0))) (af (pv 2))) aV)))))))
  bE)
  (aw (gr (i:=0) (aP (jN rfl) (by rfl) Ib jO (ag (af (pv 3)) ar)))))))
abbrev ig:Stmt:=top 32
theorem dv:FnScope ["_law_arcs","_law_cells","_law_cell","_law_k","_law_rest"] ["_law_arcs","_law_cells"] (defScope ig):=fs
theorem oX(Df:Def K mg "_law_fewer" ig)(Jq:Ct P w K mg base "_law_come_to" 1 (spF K bq))(HM:mg "len" = none):Ct P w K mg base "_law_fewer" 2 (spF K de):=
 dF Df dv (fun _ _ _ _ _ _=>qO fun _ _=>rfl) fun f HX A outer s H E hr=>
  (aj (cw TQ rfl (cK (aI (pv 1))) (ay (i:=2) dv.nd rfl (lo rfl))
  (aw (dQ (a9 (rq hr.units) (af (pv 0)) (ae (d6 aV)) (a7 _))
  (aj (aN (i:=3) dv.nd rfl (lo rfl) (aM bj (af (pv 2)) (ae (aP bU (by rfl) HM bt_len (ag (af (pv 0)) ar)))))
  (aj (aN (i:=4) dv.nd rfl (lo rfl) (aM aQ (ae (kQ (af (pv 0)) je (gc (aI (pv 3))))) (ae (kQ (af (pv 0)) (gc (aM aQ (af (pv 3)) (ae ao))) je))))
  (aw (dQ (a9 (fR hr.units) (ae (aP bU (by rfl) HM bt_len (ag (ae (a8 Jq hr.m (by rfl) (ag (af (pv 4)) ar))) ar))) (ae (aP bU (by rfl) HM bt_len (ag (ae (a8 Jq hr.m (by rfl) (ag (af (pv 0)) ar))) ar))) (a7 _))
  (aw (aN (i:=0) dv.nd rfl (lo rfl) (aI (pv 4))))
  bE))))
  bE)))
  (aw (bA (jc (pv 0)))))
abbrev ij:Stmt:=top 33
theorem bg:FnScope ["_law_script","_law_names_here","_law_xs","_law_kind","_law_arcs","_law_tops","_law_start","_law_guards_here"] ["_law_script"] (defScope ij):=fs
theorem oY(Df:Def K mg "_law_chart" ij)(HL:Ct P w K mg base "_law_cell_at" 1 (spF K aH))(LQ:Ct P w K mg base "_law_few" 1 (spM K (.l .f) eI))(KR:Ct P w K mg base "_law_fewer" 2 (spF K de))(IK:Ct P w K mg base "_law_guards" 1 (spM K (.l .f) bF))(KU:Ct P w K mg base "_law_names" 1 (spF K c7))(LR:Ct P w K mg base "_law_run" 2 (spF K dH))(Ie:Ct P w K mg base "_law_stream" 1 (spF K aW))(Lo:Ct P w K mg base "_law_word" 1 (spM K (.l .f) cZ))(HM:mg "len" = none)(HS:mg "tuple" = none):Ct P w K mg base "_law_chart" 3 (spF K df):=
 dF Df bg (fun _ _ _ _ _ _=>zb fun _=>rfl) fun f HX A outer s H E hr=>
  (aj (aN (i:=1) bg.nd rfl (lo rfl) (a8 KU hr.m (by rfl) (ag (ae (a8 HL hr.m (by rfl) (ag (af (pv 0)) (ag (ae ao) ar)))) (ag (ae (aM aQ (ae ao) (ae (aM bj (ae (a8 HL hr.m (by rfl) (ag (af (pv 0)) (ag (ae ao) ar)))) (ae ao))))) ar))))
  (aj (aN (i:=2) bg.nd rfl (lo rfl) (a8 Ie hr.m (by rfl) (ag (ae (a8 HL hr.m (by rfl) (ag (af (pv 0)) (ag (ae ao) ar)))) (ag (ae ao) ar))))
  (aj (aN (i:=3) bg.nd rfl (lo rfl) (aM bj (ae (a8 HL hr.m (by rfl) (ag (af (pv 0)) (ag (ae ao) ar)))) (ae ao)))
  (aj (dQ (a9 (fR hr.units) (af (pv 3)) (ae ao) (a7 _))
  (aw (aN (i:=4) bg.nd rfl (lo rfl) (rL (i:=2) LQ hr.m (by rfl) (ag (af (pv 2)) (ag (af (pv 1)) ar)))))
  (aw (dQ (a9 (fR hr.units) (af (pv 3)) (ae ao) (a7 _))
  (aw (aN (i:=4) bg.nd rfl (lo rfl) (rL (i:=2) Lo hr.m (by rfl) (ag (af (pv 2)) (ag (af (pv 1)) ar)))))
  (aj (DO (rL (i:=2) IK hr.m (by rfl) (ag (af (pv 2)) (ag (ae (aP bU (by rfl) HM bt_len (ag (af (pv 1)) ar))) ar))) (cQ rfl (aG (ay (i:=5) bg.nd rfl (lo rfl)) (aG (ay (i:=6) bg.nd rfl (lo rfl)) (aG (ay (i:=7) bg.nd rfl (lo rfl)) bR)))))
  (aj (aN (i:=4) bg.nd rfl (lo rfl) (a8 LR hr.m (by rfl) (ag (af (pv 1)) (ag (af (pv 6)) (ag (af (pv 7)) ar)))))
  (aw (dQ (a9 (fR hr.units) (af (pv 3)) (ae ao) (a7 _))
  (aw (aN (i:=4) bg.nd rfl (lo rfl) (a8 KR hr.m (by rfl) (ag (af (pv 4)) (ag (ae (kQ (af (pv 0)) (gc ao) (gc ao))) ar)))))
  bE)))))))
  (aw (bA (cJ (aF (cP e9 (by rfl) HS d8 (ag (af (pv 1)) ar)) (aF (aI (pv 4)) aV)))))))))
abbrev jo:Stmt:=top 34
theorem cG:FnScope ["_law_chart_here","_law_met_arcs","_law_done","_law_here","_law_move","_law_arc"] ["_law_chart_here"] (defScope jo):=fs
theorem qz(Df:Def K mg "_law_tree" jo)(HM:mg "len" = none)(JL:mg "list" = none):Ct P w K mg base "_law_tree" 1 (spF K c5):=
 dF Df cG (fun _ _ _ _ _ _=>zb fun _=>rfl) fun f HX A outer s H E hr=>
  (aj (aN (i:=1) cG.nd rfl (lo rfl) (oM ao sU))
  (aj (aN (i:=2) cG.nd rfl (lo rfl) ao)
  (aj (oE 100000 TQ (kK (g5 hr.units0) (af (pv 2)) (ae (aP bU (by rfl) HM bt_len (ag (af (pv 1)) ar))) (a7 _))
  (aj (aN (i:=3) cG.nd rfl (lo rfl) (aO (ae (cP (y7 rfl) (by rfl) JL v5 (ag (af (pv 1)) ar))) (af (pv 2))))
  (aj (cw TQ rfl (cK (aO (af (pv 0)) (ae ao))) (ay (i:=4) cG.nd rfl (lo rfl))
  (aw (cw TQ rfl (cK (aO (af (pv 0)) (ae ao))) (ay (i:=5) cG.nd rfl (lo rfl))
  (aw (dQ (QW.qt (sY (a9 (fR hr.units) (ae (aO (af (pv 5)) (ae ao))) (af (pv 3)) (a7 _)) (sY (a9 (fR hr.units) (ae (aO (af (pv 5)) (ae ao))) (af (pv 4)) (a7 _)) (rg (a9 (oN hr.u65) (ae (aO (af (pv 5)) (ae ao))) (af (pv 1)) (by with_unfolding_all rfl))))))
  (aw (kP (hu_of hr) (pv 1) (aO (af (pv 5)) (ae ao)) (aI (pv 5))))
  bE)))))
  (aw (aN (i:=2) cG.nd rfl (lo rfl) (aM aQ (af (pv 2)) (ae ao)))))))
  (aw (bA (jc (pv 1)))))))
abbrev jq:Stmt:=top 35
theorem fm:FnScope ["_law_chart_here","_law_known","_law_state","_law_arc"] ["_law_chart_here"] (defScope jq):=fs
theorem qA(Df:Def K mg "_law_ways" jq)(Lp:Ct P w K mg base "_law_tree" 1 (spF K c5))(HM:mg "len" = none)(HK:mg "range" = none):Ct P w K mg base "_law_ways" 2 (spF K bo):=
 dF Df fm (fun _ _ _ _ _ _=>zb fun _=>rfl) fun f HX A outer s H E hr=>
  (aj (aN (i:=1) fm.nd rfl (lo rfl) Bs)
  (aj (cw TQ rfl (yY (a8 Lp hr.m (by rfl) (ag (af (pv 0)) ar))) (cQ rfl (aG (ay (i:=2) fm.nd rfl (lo rfl)) (aG (ay (i:=3) fm.nd rfl (lo rfl)) bR)))
  (aj (kP (hu_of hr) (pv 1) (aI (pv 2)) (cJ aV))
  (aw (dQ (a9 Af (af (pv 3)) (ae sU) (a7 _))
  (aw (kP (hu_of hr) (pv 1) (aI (pv 2)) (aM aQ (ae (yV (hu_of hr) (af (pv 1)) (ae (aO (af (pv 3)) (ae ao))))) (ae (cJ (aF (aO (af (pv 3)) (ae ao)) aV))))))
  bE))))
  (aw (bA (bN [none,some 1] ["_law_state","_law_known"] rfl (bV (b5 (by rfl) HK (ae (aP bU (by rfl) HM bt_len (ag (af (pv 1)) ar))))) (fun _ _ _ _ _=>(ay (i:=0) (show List.Nodup (["_law_state","_law_known"]:List Str) from by decide +kernel) rfl (lo rfl))) (fun _ _ _ _ _=>bS) (fun _ _ _ _ _=>(yV (hu_of hr) (af (pv 1)) (af (pv 0)))))))))
abbrev gD:Stmt:=top 36
theorem dO:FnScope ["_law_chart_here","_law_place_here","_law_steps","_law_levels_here","_law_route"] ["_law_chart_here","_law_place_here"] (defScope gD):=fs
theorem nH(Df:Def K mg "_law_levels" gD)(Ii:Ct P w K mg base "_law_ways" 2 (spF K bo))(Jf:mg "sum" = none)(Ih:mg "zip" = none):Ct P w K mg base "_law_levels" 3 (spF K cu):=
 dF Df dO (fun _ _ _ _ _ _=>qO fun _ _=>rfl) fun f HX A outer s H E hr=>
  (aj (aN (i:=2) dO.nd rfl (lo rfl) (bN [none,none] ["_law_takes","_law_gives"] rfl (bV (gq (by rfl) Ih (ag (ae (aO (af (pv 1)) (ae ao))) (ag (ae (aO (af (pv 1)) (ae ao))) ar)))) (fun _ _ _ _ _=>(have h:=(show List.Nodup (["_law_takes","_law_gives"]:List Str) from by decide +kernel);(cQ rfl (aG (ay (i:=0) h rfl (lo rfl)) (aG (ay (i:=1) h rfl (lo rfl)) bR))))) (fun _ _ _ _ _=>bS) (fun _ _ _ _ _=>(aM dA (af (pv 1)) (af (pv 0))))))
  (aj (aN (i:=3) dO.nd rfl (lo rfl) (d6 aV))
  (aj (cw TQ rfl (cK (a8 Ii hr.m (by rfl) (ag (af (pv 0)) ar))) (ay (i:=4) dO.nd rfl (lo rfl))
  (aw (dk (b6 (pv 3) (aM aQ (ae (aO (af (pv 1)) (ae ao))) (ae (aP (tw rfl) (by rfl) Jf tH (ag (ae (bN [none,some 2,some 0] ["_law_move","_law_steps","_law_chart_here"] rfl (iS (mq (pv 4)) (iS (bV (nM (aI (pv 4)))) (bV (nN (aI (pv 4)))))) (fun _ _ _ _ _=>(ay (i:=0) (show List.Nodup (["_law_move","_law_steps","_law_chart_here"]:List Str) from by decide +kernel) rfl (lo rfl))) (fun _ _ _ _ _=>bS) (fun _ _ _ _ _=>(aO (af (pv 1)) (ae (kR Uv UB cW (ae (aO (af (pv 2)) (ae ao))) (ag (af (pv 0)) ar))))))) ar))))))))
  (aw (bA (jc (pv 3)))))))
abbrev gE:Stmt:=top 37
theorem i7:FnScope ["_law_chart_here","_law_place_here","_law_case","_law_levels_here"] ["_law_chart_here","_law_place_here","_law_case"] (defScope gE):=fs
theorem nI(Df:Def K mg "_law_solved" gE)(Kx:Ct P w K mg base "_law_levels" 3 (spF K cu)):Ct P w K mg base "_law_solved" 4 (spF K cI):=
 dF Df i7 (fun _ _ _ _ _ _=>zc fun _ _ _=>rfl) fun f HX A outer s H E hr=>
  (aj (aN (i:=3) i7.nd rfl (lo rfl) (a8 Kx hr.m (by rfl) (ag (af (pv 0)) (ag (af (pv 1)) ar))))
  (aj (dQ (a9 (fR hr.units) (ae (aO (af (pv 2)) (ae ao))) (ae (iP EK (by decide))) (a7 _))
  (aw (bA (lY (rq hr.units) (ae (aO (af (pv 3)) (ae (aO (af (pv 2)) (ae ao))))) (ae (aO (af (pv 3)) (ae (aO (af (pv 2)) (ae ao))))) (a7 _))))
  bE)
  (aw (bA (sW (g5 hr.units0) (ae (aO (af (pv 3)) (ae (aO (af (pv 2)) (ae ao))))) (ae (aO (ae (aO (af (pv 1)) (ae ao))) (ae (kR Uv UB cW (ae (aO (af (pv 0)) (ae ao))) (ag (ae (aO (af (pv 2)) (ae ao))) ar))))) (a7 _))))))
abbrev ik:Stmt:=top 38
theorem bG:FnScope ["_law_chart_here","_law_many","_law_has","_law_one","_law_move","_law_other","_law_cases_here","_law_state"] ["_law_chart_here"] (defScope ik):=fs
theorem oZ(Df:Def K mg "_law_cases" ik)(Iz:mg "max" = none)(HK:mg "range" = none):Ct P w K mg base "_law_cases" 1 (spF K dg):=
 dF Df bG (fun _ _ _ _ _ _=>zb fun _=>rfl) fun f HX A outer s H E hr=>
  (aj (aN (i:=1) bG.nd rfl (lo rfl) (aM aQ (ae ao) (ae (wO rfl (by rfl) Iz (bN [none,none,none] ["_law_one","_law_move","_law_other"] rfl (bV (cK (aO (af (pv 0)) (ae ao)))) (fun _ _ _ _ _=>(have h:=(show List.Nodup (["_law_one","_law_move","_law_other"]:List Str) from by decide +kernel);(cQ rfl (aG (ay (i:=0) h rfl (lo rfl)) (aG (ay (i:=1) h rfl (lo rfl)) (aG (ay (i:=2) h rfl (lo rfl)) bR)))))) (fun _ _ _ _ _=>bS) (fun _ _ _ _ _=>(aP (p6 rfl) (by rfl) Iz p9 (ag (af (pv 0)) (ag (af (pv 2)) ar))))) ao))))
  (aj (aN (i:=2) bG.nd rfl (lo rfl) wV)
  (aj (cw TQ rfl (cK (aO (af (pv 0)) (ae ao))) (cQ rfl (aG (ay (i:=3) bG.nd rfl (lo rfl)) (aG (ay (i:=4) bG.nd rfl (lo rfl)) (aG (ay (i:=5) bG.nd rfl (lo rfl)) bR))))
  (aw (kP (hu_of hr) (pv 2) (cJ (aF (aI (pv 3)) (aF (aI (pv 4)) aV))) qZ)))
  (aj (jP (i:=6) [none,some 1] ["_law_k","_law_many"] bG.nd rfl (lo rfl) rfl (bV (b5 (by rfl) HK (ae (aM dZ (af (pv 1)) (af (pv 1)))))) (fun _ _ _ _ _=>(ay (i:=0) (show List.Nodup (["_law_k","_law_many"]:List Str) from by decide +kernel) rfl (lo rfl))) (fun _ _ _ _ _=>(lZ (kK (g5 hr.units0) (ae (aM ko (af (pv 0)) (af (pv 1)))) (ae (aM bj (af (pv 0)) (af (pv 1)))) (a7 _)))) (fun _ _ _ _ _=>(cJ (aF (iP EK (by decide)) (aF (aM ko (af (pv 0)) (af (pv 1))) (aF (aM bj (af (pv 0)) (af (pv 1))) aV))))))
  (aj (cw TQ rfl (b5 (by rfl) HK (af (pv 1))) (ay (i:=7) bG.nd rfl (lo rfl))
  (aw (aN (i:=6) bG.nd rfl (lo rfl) (aM aQ (af (pv 6)) (ae (bN [none,some 7,some 2] ["_law_move","_law_state","_law_has"] rfl (bV (cK (aO (af (pv 0)) (ae ao)))) (fun _ _ _ _ _=>(ay (i:=0) (show List.Nodup (["_law_move","_law_state","_law_has"]:List Str) from by decide +kernel) rfl (lo rfl))) (fun _ _ _ _ _=>(lZ (a9 (oN hr.u65) (ae (cJ (aF (aI (pv 1)) (aF (aI (pv 0)) aV)))) (af (pv 2)) (by with_unfolding_all rfl)))) (fun _ _ _ _ _=>(cJ (aF (iP Ge (by decide)) (aF (aI (pv 1)) (aF (aI (pv 0)) aV)))))))))))
  (aw (bA (jc (pv 6)))))))))
abbrev kA:Stmt:=top 39
theorem gF:FnScope ["_law_script","_law_names_here","_law_xs","_law_far","_law_guards_here"] ["_law_script","_law_names_here","_law_xs"] (defScope kA):=fs
theorem rR(Df:Def K mg "_law_row" kA)(HL:Ct P w K mg base "_law_cell_at" 1 (spF K aH))(IK:Ct P w K mg base "_law_guards" 1 (spM K (.l .f) bF))(Ie:Ct P w K mg base "_law_stream" 1 (spF K aW))(HM:mg "len" = none)(HK:mg "range" = none):Ct P w K mg base "_law_row" 2 (spJ 2 K (.l .f) b8):=
 xi Df gF (fun _ _ _ _ _ _=>zc fun _ _ _=>rfl) fun f HX A outer s H E hr=>
  (aj (aN (i:=3) gF.nd rfl (lo rfl) (tM (j:=2) (k0:=1) [none,some 2] ["_law_k","_law_xs"] rfl (b5 (by rfl) HK (ae ao)) (fun _ _ _ _ _=>(ay (i:=0) (show List.Nodup (["_law_k","_law_xs"]:List Str) from by decide +kernel) rfl (lo rfl))) (fun _ _ _ _ _=>bS) (fun _ _ _ _ _=>(aM dA (ae (aM aQ (ae (aM dZ (ae (b7 (pv 1))) (ae (aM Ac (ae ao) (ae ao))))) (ae (aM bj (ae (b7 (pv 1))) (ae ao))))) (ae (aM Ac (ae ao) (ae ao)))))))
  (aj (dQ (a9 (fR hr.units) (ae (aM bj (ae (b7 (pv 2))) (ae ao))) (ae ao) (a7 _))
  (aw (aN (i:=3) gF.nd rfl (lo rfl) (tM (j:=2) (k0:=1) [none,some 2] ["_law_k","_law_xs"] rfl (b5 (by rfl) HK (ae ao)) (fun _ _ _ _ _=>(ay (i:=0) (show List.Nodup (["_law_k","_law_xs"]:List Str) from by decide +kernel) rfl (lo rfl))) (fun _ _ _ _ _=>bS) (fun _ _ _ _ _=>(aM dA (ae (aM bj (ae (b7 (pv 1))) (ae ao))) (ae ao))))))
  bE)
  (aj (dQ (kK (g5 hr.units0) (ae (aM bj (ae (a8 HL hr.m (by rfl) (ag (af (pv 0)) (ag (ae ao) ar)))) (ae ao))) (ae ao) (a7 _))
  (aw (gr (i:=2) (kQ (af (pv 3)) je (gc (aP bU (by rfl) HM bt_len (ag (af (pv 1)) ar))))))
  bE)
  (aj (aN (i:=4) gF.nd rfl (lo rfl) (aO (ae (BG IK hr.m (by rfl) (a8 Ie hr.m (by rfl) (ag (ae (a8 HL hr.m (by rfl) (ag (af (pv 0)) (ag (ae ao) ar)))) (ag (ae ao) ar))) (ag (ae (aP bU (by rfl) HM bt_len (ag (af (pv 1)) ar))) ar))) (ae ao)))
  (aw (gr (i:=2) (bN [none,some 3] ["_law_sides","_law_far"] rfl (iS (mq (pv 4)) (iS (bV (nM (aI (pv 4)))) (bV (nN (aI (pv 4)))))) (fun _ _ _ _ _=>(ay (i:=0) (show List.Nodup (["_law_sides","_law_far"]:List Str) from by decide +kernel) rfl (lo rfl))) (fun _ _ _ _ _=>bS) (fun _ _ _ _ _=>(aM aQ (ae (aM dZ (ae (aO (af (pv 1)) (ae ao))) (ae (aO (ae (aO (af (pv 0)) (ae ao))) (ae ao))))) (ae (aM dZ (ae (aO (af (pv 1)) (ae ao))) (ae (aO (ae (aO (af (pv 0)) (ae ao))) (ae ao))))))))))))))
abbrev ft:Stmt:=top 40
theorem aK:FnScope ["_law_chart_here","_law_numbers","_law_xs","_law_there","_law_one","_law_move","_law_other","_law_low","_law_takes","_law_number","_law_havers","_law_least","_law_gives"] ["_law_chart_here","_law_numbers","_law_xs"] (defScope ft):=fs
theorem mP(Df:Def K mg "_law_place" ft)(Ii:Ct P w K mg base "_law_ways" 2 (spF K bo))(HM:mg "len" = none)(Iz:mg "max" = none)(Jg:mg "min" = none)(Jf:mg "sum" = none)(HS:mg "tuple" = none)(Ih:mg "zip" = none):Ct P w K mg base "_law_place" 3 (spJ 2 K (.l .f) bJ):=
 have Il:Ct P w K mg base "_law_place" 2 (spJ 2 K (.l .f) fG):=ct_bad (ps:=["_law_chart_here","_law_numbers","_law_xs"]) Df (fun _ _ _ _ _ _=>zc fun _ _ _=>rfl)
 xi Df aK (fun _ _ _ _ _ _=>zc fun _ _ _=>rfl) fun f HX A outer s H E hr=>
  (aj (aN (i:=3) aK.nd rfl (lo rfl) (bN [none,some 1,some 0] ["_law_route","_law_numbers","_law_chart_here"] rfl (bV (cK (a8 Ii hr.m (by rfl) (ag (af (pv 0)) ar)))) (fun _ _ _ _ _=>(ay (i:=0) (show List.Nodup (["_law_route","_law_numbers","_law_chart_here"]:List Str) from by decide +kernel) rfl (lo rfl))) (fun _ _ _ _ _=>bS) (fun _ _ _ _ _=>(aP (tw rfl) (by rfl) Jf tH (ag (ae (bN [none,some 1,some 2] ["_law_move","_law_numbers","_law_chart_here"] rfl (iS (mq (pv 0)) (iS (bV (nM (aI (pv 0)))) (bV (nN (aI (pv 0)))))) (fun _ _ _ _ _=>(ay (i:=0) (show List.Nodup (["_law_move","_law_numbers","_law_chart_here"]:List Str) from by decide +kernel) rfl (lo rfl))) (fun _ _ _ _ _=>bS) (fun _ _ _ _ _=>(aO (af (pv 1)) (ae (kR Uv UB cW (ae (aO (af (pv 2)) (ae ao))) (ag (af (pv 0)) ar))))))) ar)))))
  (aj (cw TQ rfl (cK (aO (af (pv 0)) (ae ao))) (cQ rfl (aG (ay (i:=4) aK.nd rfl (lo rfl)) (aG (ay (i:=5) aK.nd rfl (lo rfl)) (aG (ay (i:=6) aK.nd rfl (lo rfl)) bR))))
  (aw (dQ (a9 (rq hr.units) (ae (aM aQ (ae (aO (af (pv 3)) (af (pv 4)))) (ae (aO (af (pv 1)) (ae (kR Uv UB cW (ae (aO (af (pv 0)) (ae ao))) (ag (af (pv 5)) ar))))))) (ae (aO (af (pv 3)) (af (pv 6)))) (a7 _))
  (aw (gr (i:=2) (oR (j0:=2) (i:=2) Il hr.m (by rfl) (ag (ae (cJ (aF (aO (af (pv 0)) (ae ao)) (aF (aO (af (pv 0)) (ae ao)) aV)))) (ag (ae (aM dZ (ae (d6 (aF ao aV))) (ae (aP bU (by rfl) HM bt_len (ag (af (pv 1)) ar))))) (ag (af (pv 2)) ar))))))
  bE)))
  (aj (aN (i:=7) aK.nd rfl (lo rfl) (aM dA (ae (aP (xa rfl) (by rfl) Jg w5 (ag (af (pv 3)) ar))) (ae (aM bj (ae (b7 (pv 2))) (ae ao)))))
  (aj (aN (i:=8) aK.nd rfl (lo rfl) (d6 aV))
  (aj (cw TQ rfl (gq (by rfl) Ih (ag (ae (aO (af (pv 0)) (ae ao))) (ag (ae (aI (pv 1))) ar))) (cQ rfl (aG (ay (i:=5) aK.nd rfl (lo rfl)) (aG (ay (i:=9) aK.nd rfl (lo rfl)) bR)))
  (aj (jP (i:=10) [none,none,none,some 3,some 7,some 5] ["_law_one","_law_name","_law_other","_law_there","_law_low","_law_move"] aK.nd rfl (lo rfl) rfl (bV (cK (aO (af (pv 0)) (ae ao)))) (fun _ _ _ _ _=>(have h:=(show List.Nodup (["_law_one","_law_name","_law_other","_law_there","_law_low","_law_move"]:List Str) from by decide +kernel);(cQ rfl (aG (ay (i:=0) h rfl (lo rfl)) (aG (ay (i:=1) h rfl (lo rfl)) (aG (ay (i:=2) h rfl (lo rfl)) bR)))))) (fun _ _ _ _ _=>(lZ (a9 (fR hr.units) (af (pv 1)) (af (pv 5)) (a7 _)))) (fun _ _ _ _ _=>(aM dA (ae (aO (af (pv 3)) (af (pv 0)))) (af (pv 4)))))
  (aj (aN (i:=11) aK.nd rfl (lo rfl) (aP (p6 rfl) (by rfl) Iz p9 (ag (ae ao) (ag (ae (aM dA (ae ao) (af (pv 9)))) ar))))
  (aw (dk (b6 (pv 8) (aM aQ (af (pv 11)) (ae (aM bj (ae (b7 (pv 2))) (ae (aM aQ (ae (aM dA (ae (xh rfl (by rfl) Jg (aI (pv 10)) (aM aQ (af (pv 11)) (ae ao)))) (af (pv 11)))) (ae ao))))))))))))
  (aj (jP (i:=12) [none,none] ["_law_take","_law_number"] aK.nd rfl (lo rfl) rfl (bV (gq (by rfl) Ih (ag (ae (aI (pv 8))) (ag (ae (aI (pv 1))) ar)))) (fun _ _ _ _ _=>(have h:=(show List.Nodup (["_law_take","_law_number"]:List Str) from by decide +kernel);(cQ rfl (aG (ay (i:=0) h rfl (lo rfl)) (aG (ay (i:=1) h rfl (lo rfl)) bR))))) (fun _ _ _ _ _=>bS) (fun _ _ _ _ _=>(aM aQ (af (pv 0)) (af (pv 1)))))
  (aw (gr (i:=2) (cJ (aF (aM dA (ae (aO (af (pv 3)) (ae ao))) (af (pv 7))) (aF (cP e9 (by rfl) HS d8 (ag (af (pv 8)) ar)) (aF (cP e9 (by rfl) HS d8 (ag (af (pv 12)) ar)) aV))))))))))))
theorem o3(Df:Def K mg "_law_place" ft)(Ii:Ct P w K mg base "_law_ways" 2 (spF K bo))(HM:mg "len" = none)(Iz:mg "max" = none)(Jg:mg "min" = none)(Jf:mg "sum" = none)(HS:mg "tuple" = none)(Ih:mg "zip" = none):Ct P w K mg base "_law_place" 4 (spJ 2 K (.l .f) cE):=
 have Il:Ct P w K mg base "_law_place" 3 (spJ 2 K (.l .f) bJ):=mP Df Ii HM Iz Jg Jf HS Ih
 xi Df aK (fun _ _ _ _ _ _=>zc fun _ _ _=>rfl) fun f HX A outer s H E hr=>
  (aj (aN (i:=3) aK.nd rfl (lo rfl) (bN [none,some 1,some 0] ["_law_route","_law_numbers","_law_chart_here"] rfl (bV (cK (a8 Ii hr.m (by rfl) (ag (af (pv 0)) ar)))) (fun _ _ _ _ _=>(ay (i:=0) (show List.Nodup (["_law_route","_law_numbers","_law_chart_here"]:List Str) from by decide +kernel) rfl (lo rfl))) (fun _ _ _ _ _=>bS) (fun _ _ _ _ _=>(aP (tw rfl) (by rfl) Jf tH (ag (ae (bN [none,some 1,some 2] ["_law_move","_law_numbers","_law_chart_here"] rfl (iS (mq (pv 0)) (iS (bV (nM (aI (pv 0)))) (bV (nN (aI (pv 0)))))) (fun _ _ _ _ _=>(ay (i:=0) (show List.Nodup (["_law_move","_law_numbers","_law_chart_here"]:List Str) from by decide +kernel) rfl (lo rfl))) (fun _ _ _ _ _=>bS) (fun _ _ _ _ _=>(aO (af (pv 1)) (ae (kR Uv UB cW (ae (aO (af (pv 2)) (ae ao))) (ag (af (pv 0)) ar))))))) ar)))))
  (aj (cw TQ rfl (cK (aO (af (pv 0)) (ae ao))) (cQ rfl (aG (ay (i:=4) aK.nd rfl (lo rfl)) (aG (ay (i:=5) aK.nd rfl (lo rfl)) (aG (ay (i:=6) aK.nd rfl (lo rfl)) bR))))
  (aw (dQ (a9 (rq hr.units) (ae (aM aQ (ae (aO (af (pv 3)) (af (pv 4)))) (ae (aO (af (pv 1)) (ae (kR Uv UB cW (ae (aO (af (pv 0)) (ae ao))) (ag (af (pv 5)) ar))))))) (ae (aO (af (pv 3)) (af (pv 6)))) (a7 _))
  (aw (gr (i:=2) (oR (j0:=2) (i:=2) Il hr.m (by rfl) (ag (ae (cJ (aF (aO (af (pv 0)) (ae ao)) (aF (aO (af (pv 0)) (ae ao)) aV)))) (ag (ae (aM dZ (ae (d6 (aF ao aV))) (ae (aP bU (by rfl) HM bt_len (ag (af (pv 1)) ar))))) (ag (af (pv 2)) ar))))))
  bE)))
  (aj (aN (i:=7) aK.nd rfl (lo rfl) (aM dA (ae (aP (xa rfl) (by rfl) Jg w5 (ag (af (pv 3)) ar))) (ae (aM bj (ae (b7 (pv 2))) (ae ao)))))
  (aj (aN (i:=8) aK.nd rfl (lo rfl) (d6 aV))
  (aj (cw TQ rfl (gq (by rfl) Ih (ag (ae (aO (af (pv 0)) (ae ao))) (ag (ae (aI (pv 1))) ar))) (cQ rfl (aG (ay (i:=5) aK.nd rfl (lo rfl)) (aG (ay (i:=9) aK.nd rfl (lo rfl)) bR)))
  (aj (jP (i:=10) [none,none,none,some 3,some 7,some 5] ["_law_one","_law_name","_law_other","_law_there","_law_low","_law_move"] aK.nd rfl (lo rfl) rfl (bV (cK (aO (af (pv 0)) (ae ao)))) (fun _ _ _ _ _=>(have h:=(show List.Nodup (["_law_one","_law_name","_law_other","_law_there","_law_low","_law_move"]:List Str) from by decide +kernel);(cQ rfl (aG (ay (i:=0) h rfl (lo rfl)) (aG (ay (i:=1) h rfl (lo rfl)) (aG (ay (i:=2) h rfl (lo rfl)) bR)))))) (fun _ _ _ _ _=>(lZ (a9 (fR hr.units) (af (pv 1)) (af (pv 5)) (a7 _)))) (fun _ _ _ _ _=>(aM dA (ae (aO (af (pv 3)) (af (pv 0)))) (af (pv 4)))))
  (aj (aN (i:=11) aK.nd rfl (lo rfl) (aP (p6 rfl) (by rfl) Iz p9 (ag (ae ao) (ag (ae (aM dA (ae ao) (af (pv 9)))) ar))))
  (aw (dk (b6 (pv 8) (aM aQ (af (pv 11)) (ae (aM bj (ae (b7 (pv 2))) (ae (aM aQ (ae (aM dA (ae (xh rfl (by rfl) Jg (aI (pv 10)) (aM aQ (af (pv 11)) (ae ao)))) (af (pv 11)))) (ae ao))))))))))))
  (aj (jP (i:=12) [none,none] ["_law_take","_law_number"] aK.nd rfl (lo rfl) rfl (bV (gq (by rfl) Ih (ag (ae (aI (pv 8))) (ag (ae (aI (pv 1))) ar)))) (fun _ _ _ _ _=>(have h:=(show List.Nodup (["_law_take","_law_number"]:List Str) from by decide +kernel);(cQ rfl (aG (ay (i:=0) h rfl (lo rfl)) (aG (ay (i:=1) h rfl (lo rfl)) bR))))) (fun _ _ _ _ _=>bS) (fun _ _ _ _ _=>(aM aQ (af (pv 0)) (af (pv 1)))))
  (aw (gr (i:=2) (cJ (aF (aM dA (ae (aO (af (pv 3)) (ae ao))) (af (pv 7))) (aF (cP e9 (by rfl) HS d8 (ag (af (pv 8)) ar)) (aF (cP e9 (by rfl) HS d8 (ag (af (pv 12)) ar)) aV))))))))))))
abbrev o4:Stmt:=top 41
theorem i8:FnScope ["_law_script","_law_chart_here","_law_xs","_law_place_here","_law_handed","_law_cases_here","_law_at_case","_law_case","_law_told"] ["_law_script"] (defScope o4):=fs
theorem DV{f:Addr}{fd:FuncData}(F:Fun K "law" "law" o4 f fd)(KW:Ct P w K mg base "_law_cases" 1 (spF K dg))(HL:Ct P w K mg base "_law_cell_at" 1 (spF K aH))(KY:Ct P w K mg base "_law_chart" 3 (spF K df))(Il:Ct P w K mg base "_law_place" 4 (spJ 2 K (.l .f) cE))(LS:Ct P w K mg base "_law_row" 2 (spJ 2 K (.l .f) b8))(Ky:Ct P w K mg base "_law_solved" 4 (spF K cI))(Ie:Ct P w K mg base "_law_stream" 1 (spF K aW))(Nh:Ct P w K mg base "solves" 5 (spF K iI))(JK:mg "bool" = none)(HQ:mg "isinstance" = none)(HM:mg "len" = none)(JL:mg "list" = none):FnOk P w K mg base Mn 6 f fd ["_law_script"] (spF K BH):=
 fnok_of F i8 fun HX A outer s H E hr=>
  (aj (aN (i:=1) i8.nd rfl (lo rfl) (a8 KY hr.m (by rfl) (ag (af (pv 0)) ar)))
  (aj (aN (i:=2) i8.nd rfl (lo rfl) (a8 Ie hr.m (by rfl) (ag (ae (a8 HL hr.m (by rfl) (ag (af (pv 0)) (ag (ae ao) ar)))) (ag (ae ao) ar))))
  (aj (aN (i:=3) i8.nd rfl (lo rfl) (oR (j0:=2) (i:=2) Il hr.m (by rfl) (ag (af (pv 1)) (ag (ae (oR (j0:=2) (i:=2) LS hr.m (by rfl) (ag (af (pv 0)) (ag (ae (aO (af (pv 1)) (ae ao))) (ag (af (pv 2)) ar))))) (ag (af (pv 2)) ar)))))
  (aj (aN (i:=4) i8.nd rfl (lo rfl) (cJ (aF (aO (af (pv 1)) (ae ao)) (aF (cP wN (by rfl) JL v5 (ag (ae (aO (af (pv 1)) (ae ao))) ar)) aV))))
  (aj (aN (i:=5) i8.nd rfl (lo rfl) (a8 KW hr.m (by rfl) (ag (af (pv 1)) ar)))
  (aj (aN (i:=6) i8.nd rfl (lo rfl) (aM bj (ae (a8 HL hr.m (by rfl) (ag (af (pv 0)) (ag (ae ao) ar)))) (ae (aM aQ (ae (aP bU (by rfl) HM bt_len (ag (af (pv 5)) ar))) (ae ao)))))
  (aj (aN (i:=5) i8.nd rfl (lo rfl) (kQ (ae (aM aQ (ae (kQ (af (pv 5)) (gc (aI (pv 6))) je)) (ae (kQ (af (pv 5)) je (gc (aI (pv 6))))))) je (gc ao)))
  (aj (cw TQ rfl (cK (aM aQ (af (pv 5)) (ae (kQ (af (pv 5)) je (gc ao))))) (ay (i:=7) i8.nd rfl (lo rfl))
  (aj (aN (i:=8) i8.nd rfl (lo rfl) (a8 Nh hr.m (by rfl) (ag (af (pv 4)) (ag (af (pv 3)) (ag (af (pv 7)) ar)))))
  (aw (dQ (QW.qt (yJ (sZ (sX (yT (T:="bool") (by decide) (af (pv 8)) (by rfl) HQ (by rfl) JK v7))) (wF (a9 (rq hr.units) (af (pv 8)) (ae (a8 Ky hr.m (by rfl) (ag (af (pv 1)) (ag (af (pv 3)) (ag (af (pv 7)) ar))))) (a7 _)))))
  (aw (bA qZ))
  bE))))
  (aw (bA (lY (fR hr.units) (af (pv 4)) (af (pv 1)) (a7 _))))))))))))
end
end LW
namespace PV
open PySem L2 NX
class Cont (α β:Type) where
 run:α->Res β
def Res.bnd{α β:Type}[f:Cont α β](x:Res α):Res β:=x.bind f.run
theorem IG{α β:Type}(a:α)(f:α->Res β):Res.bnd (Res.ok a) (f:=⟨f⟩)=f a:=id rfl
section
variable(env:PV.Env)(i n:Nat)(d:D)(f g:FX)(c c':FT)(fo P4 QU:FO)(fs:FOs)(fd:FDs)(s t:FS)(op NA:D->D->Res R)(F:List D->Res R)(a:FG)(as:NV)(fi fj:FI)(fp HI:FP)(T:String)
theorem Pb:aE d env=.ok ((.f,d),env):=id rfl
theorem Mg:aR i env=match env[i]? with|some (some r)=>.ok ((.f,r.2),env.set i (some (fz r.1,r.2)))|_=>.bad:=id rfl
theorem QV:fz .f=.f:=id rfl
theorem QX(c:O):fz (.l c)=.f:=id rfl
theorem Ni(p:Addr):z7 (.pin p .d)=true:=id rfl
theorem NZ:nr i env=match env[i]? with|some (some r)=>.ok (r,env.set i none)|_=>.bad:=id rfl
theorem Pd:ai f env=Res.bnd (f env) (f:=⟨fun p=>.ok (.val p.1.2,p.2)⟩):=id rfl
theorem Pe:aq i env=match env[i]? with|some (some _)=>.ok (.var i,env)|_=>.bad:=id rfl
theorem N0:aD env=.ok ([],env):=id rfl
theorem Nj:ah fo fs env=Res.bnd (fo env) (f:=⟨fun p=>Res.bnd (fs p.2) (f:=⟨fun q=>.ok (p.1::q.1,q.2)⟩)⟩):=id rfl
theorem N1:ba env=.ok ([],env):=id rfl
theorem Nk:aA f fd env=Res.bnd (f env) (f:=⟨fun p=>Res.bnd (fd p.2) (f:=⟨fun q=>.ok (p.1.2::q.1,q.2)⟩)⟩):=id rfl
theorem Pf:Jj env (.val d)=.ok d:=id rfl
theorem Pg:Jj env (.var i)=match env[i]? with|some (some r)=>if z7 r.1 then .ok r.2 else .bad|_=>.bad:=id rfl
theorem N2:uE env (.val d)=.ok d:=id rfl
theorem N3:uE env (.var i)=match env[i]? with|some (some r)=>.ok r.2|_=>.bad:=id rfl
theorem N4:qM env []=.ok []:=id rfl
theorem N5(o:Opd)(os:List Opd):qM env (o::os)=Res.bnd (Jj env o) (f:=⟨fun d=>Res.bnd (qM env os) (f:=⟨fun ds=>.ok (d::ds)⟩)⟩):=id rfl
theorem Nl:jC env []=.ok []:=id rfl
theorem Nm(o:Opd)(os:List Opd):jC env (o::os)=Res.bnd (uE env o) (f:=⟨fun d=>Res.bnd (jC env os) (f:=⟨fun ds=>.ok (d::ds)⟩)⟩):=id rfl
theorem N6:z7 .f=true:=id rfl
theorem N7:z7 (.l .f)=true:=id rfl
theorem N8:z7 .d=true:=id rfl
theorem Ph:av op fo P4 env=Res.bnd (fo env) (f:=⟨fun p=>Res.bnd (P4 p.2) (f:=⟨fun q=>Res.bnd (Jj q.2 p.1) (f:=⟨fun a=>Res.bnd (Jj q.2 q.1) (f:=⟨fun b=>Res.bnd (op a b) (f:=⟨fun r=>.ok (r,q.2)⟩)⟩)⟩)⟩)⟩):=id rfl
theorem N9:bC op fo P4 env=Res.bnd (fo env) (f:=⟨fun p=>Res.bnd (P4 p.2) (f:=⟨fun q=>Res.bnd (uE q.2 p.1) (f:=⟨fun a=>Res.bnd (uE q.2 q.1) (f:=⟨fun b=>Res.bnd (op a b) (f:=⟨fun r=>.ok (r,q.2)⟩)⟩)⟩)⟩)⟩):=id rfl
theorem QY:Ic f env=Res.bnd (f env) (f:=⟨fun p=>match p.1.2 with | .bl k=>.ok (k,p.2)|_=>.bad⟩):=id rfl
theorem Pj:Bk c c' env=Res.bnd (c env) (f:=⟨fun p=>if p.1 then c' p.2 else .ok (false,p.2)⟩):=id rfl
theorem QZ:PX c c' env=Res.bnd (c env) (f:=⟨fun p=>if p.1 then .ok (true,p.2) else c' p.2⟩):=id rfl
theorem Pk:Cz c env=Res.bnd (c env) (f:=⟨fun p=>.ok (!p.1,p.2)⟩):=id rfl
theorem Pl:Bl f g env=Res.bnd (f env) (f:=⟨fun p=>match p.1.2 with | .bl true=>g p.2 | .bl false=>.ok ((.f,.bl false),p.2)|_=>.bad⟩):=id rfl
theorem Pm:EJ f env=Res.bnd (f env) (f:=⟨fun p=>match p.1.2 with | .bl k=>.ok ((.f,.bl (!k)),p.2)|_=>.bad⟩):=id rfl
theorem Nn:tf op NA fo P4 QU env=Res.bnd (fo env) (f:=⟨fun p=>Res.bnd (P4 p.2) (f:=⟨fun q=>Res.bnd (Jj q.2 p.1) (f:=⟨fun a=>Res.bnd (Jj q.2 q.1) (f:=⟨fun b=>Res.bnd (op a b) (f:=⟨fun r=>match r with
 |(.f,.bl true)=>Res.bnd (QU q.2) (f:=⟨fun t=>Res.bnd (Jj t.2 q.1) (f:=⟨fun b=>Res.bnd (Jj t.2 t.1) (f:=⟨fun c=>Res.bnd (NA b c) (f:=⟨fun r=>.ok (r,t.2)⟩)⟩)⟩)⟩)
 |(.f,.bl false)=>.ok ((.f,.bl false),q.2)
 |_=>.bad⟩)⟩)⟩)⟩)⟩):=id rfl
theorem Oa:aX F fs env=Res.bnd (fs env) (f:=⟨fun p=>Res.bnd (qM p.2 p.1) (f:=⟨fun ds=>Res.bnd (F ds) (f:=⟨fun r=>.ok (r,p.2)⟩)⟩)⟩):=id rfl
theorem Pn:eE F fs env=Res.bnd (fs env) (f:=⟨fun p=>Res.bnd (jC p.2 p.1) (f:=⟨fun ds=>Res.bnd (F ds) (f:=⟨fun r=>.ok (r,if aT r.1 r.2 then p.2 else p.2.map frz)⟩)⟩)⟩):=id rfl
theorem Po:fP fd env=Res.bnd (fd env) (f:=⟨fun p=>if p.1.length<=1000 then .ok ((.f,.tup p.1),p.2) else .bad⟩):=id rfl
theorem Pp:m7 fd env=Res.bnd (fd env) (f:=⟨fun p=>if p.1.length<=1000 then .ok ((.l .f,.lst p.1),p.2) else .bad⟩):=id rfl
theorem Ob:ly env=.ok (none,env):=id rfl
theorem Oc:jH f env=Res.bnd (f env) (f:=⟨fun p=>match p.1.2 with | .int i=>.ok (some i,p.2)|_=>.bad⟩):=id rfl
theorem Pq:rm i f env=if wL env i then(Res.bnd (f env) (f:=⟨fun(p:R×PV.Env)=>match p.2[i]? with
 |some (some (.l .f,.lst ds))=>if ds.length<sizeLine then .ok ((.f,.non),p.2.set i (some (.l .f,.lst (ds++[p.1.2])))) else .bad
 |_=>.bad⟩)) else .bad:=id rfl
theorem Od:wL env i=match env[i]? with|some (some (_,.lst _))=>true|_=>false:=id rfl
theorem Q0:P0 T fo env=Res.bnd (fo env) (f:=⟨fun p=>Res.bnd (uE p.2 p.1) (f:=⟨fun d=>.ok ((.f,.bl (x9 T d)),p.2)⟩)⟩):=id rfl
theorem Oe:uG f g env=Res.bnd (f env) (f:=⟨fun p=>Res.bnd (g p.2) (f:=⟨fun q=>match(m9 p.1.2).bind cC,q.1.2 with|some ns,.int d=>.ok ((.f,.int (NX.maxD ns d)),q.2)|_,_=>.bad⟩)⟩):=id rfl
theorem Of(tk:Bool):eNewD tk env=.ok ((.d,.dct tk [] []),env):=id rfl
theorem Og(ix:List (Option Nat)):di fi ix a c f env=Res.bnd (fi env) (f:=⟨fun p=>Res.bnd (dm a c f p.1 (cN ix p.2)) (f:=⟨fun ds=>if ds.length<=sizeLine then .ok ((.l .f,.lst ds),if flatDs ds then p.2 else p.2.map frz) else .bad⟩)⟩):=id rfl
theorem LU:cN [] env=[]:=id rfl
theorem LV(ix:List (Option Nat)):cN (none::ix) env=none::cN ix env:=id rfl
theorem LX(ix:List (Option Nat)):cN (some i::ix) env=(match env[i]? with|some (some r)=>some (O.f,r.2)|_=>none)::cN ix env:=id rfl
theorem DW:dW env=.ok (true,env):=id rfl
theorem tS(ds:List D):dm a c f (d::ds) env=Res.bnd (a d env) (f:=⟨fun e=>Res.bnd (c e) (f:=⟨fun p=>if p.1 then(Res.bnd (f p.2) (f:=⟨fun q=>Res.bnd (dm a c f ds q.2) (f:=⟨fun rs=>.ok (q.1.2::rs)⟩)⟩)) else dm a c f ds p.2⟩)⟩):=id rfl
theorem DX:Dz f env=Res.bnd (f env) (f:=⟨fun p=>match p.1.2 with | .lst ds=>.ok (ds,p.2)|_=>.bad⟩):=id rfl
theorem xn:kl f env=Res.bnd (f env) (f:=⟨fun p=>match p.1.2 with | .tup ds=>.ok (ds,p.2)|_=>.bad⟩):=id rfl
theorem xo:km f env=Res.bnd (f env) (f:=⟨fun p=>match p.1.2 with | .str l=>.ok (l.map fun c=>.str [c],p.2)|_=>.bad⟩):=id rfl
theorem rS:JI fi fj env=match fi env with | .ok a=>.ok a|_=>fj env:=by
 unfold JI;cases fi env <;> rfl
theorem Pr:JI (Dz f) (JI (kl f) (km f)) env=Res.bnd (f env) (f:=⟨fun p=>match p.1.2 with
 | .lst ds=>.ok (ds,p.2)
 | .tup ds=>.ok (ds,p.2)
 | .str l=>.ok (l.map fun c=>.str [c],p.2)
 |_=>.bad⟩):=by
 rw[rS,rS,DX,xn,xo];cases f env with
 |ok p=>
  obtain⟨⟨o,d⟩,e⟩:=p;cases d <;> rfl
 |exc c=>rfl
 |bad=>rfl
theorem Oh:JI (mn i) (JI (kl (aR i)) (km (aR i))) env=match env[i]? with
 |some (some (_,.lst ds))=>.ok (ds,env)
 |some (some (o,.tup ds))=>.ok (ds,env.set i (some (fz o,.tup ds)))
 |some (some (o,.str l))=>.ok (l.map fun c=>.str [c],env.set i (some (fz o,.str l)))
 |_=>.bad:=by
 rw[rS,rS,xn,xo,Mg];unfold mn;cases env[i]? with
 |none=>rfl
 |some r=>
  cases r with
  |none=>rfl
  |some r=>
   obtain⟨o,d⟩:=r;cases d <;> rfl
theorem KJ:bZ fo env=Res.bnd (fo env) (f:=⟨fun p=>Res.bnd (Jj p.2 p.1) (f:=⟨fun d=>match d with
 | .int j=>if -4611686018427387904<=j/\j<4611686018427387904 then .ok ((List.range j.toNat).map fun(k:Nat)=>D.int (k:Int),p.2) else .bad
 |_=>.bad⟩)⟩):=id rfl
theorem MA:rj fs env=Res.bnd (fs env) (f:=⟨fun p=>Res.bnd (qM p.2 p.1) (f:=⟨fun d=>match d with
 |[.int i,.int j]=>if(-4611686018427387904<=i/\i<4611686018427387904)/\-4611686018427387904<=j/\j<4611686018427387904 then .ok ((List.range (j-i).toNat).map fun(k:Nat)=>D.int (i+(k:Int)),p.2) else .bad
 |_=>.bad⟩)⟩):=id rfl
theorem o5(k1 k2:Bool):uF k1 k2 fs env=Res.bnd (fs env) (f:=⟨fun p=>match p.1 with
 |[.val d1,.val d2]=>Res.bnd (kn k1 d1) (f:=⟨fun a=>Res.bnd (kn k2 d2) (f:=⟨fun b=>.ok ((a.zip b).map fun z=>D.tup [z.1,z.2],p.2)⟩)⟩)
 |_=>.bad⟩):=id rfl
theorem Jx:ax i d env=if i<env.length then .ok (env.set i (some (.f,d))) else .bad:=id rfl
theorem Oi:bW [] env=.ok env:=id rfl
theorem IV(ds:List D):az a as (d::ds) env=Res.bnd (a d env) (f:=⟨fun e=>as ds e⟩):=id rfl
theorem LY(ds:List D):fB n as (.tup ds) env=if ds.length=n then as ds env else .bad:=id rfl
theorem J5:sSeq s t env=Res.bnd (s env) (f:=⟨fun o=>match o with | .nx e=>t e|o=>.ok o⟩):=id rfl
theorem Oj:dy env=.ok (.nx env):=id rfl
theorem J6:bP i f env=Res.bnd (f env) (f:=⟨fun p=>if i<p.2.length then .ok (.nx (p.2.set i (some p.1))) else .bad⟩):=id rfl
theorem Ol:iL f env=Res.bnd (f env) (f:=⟨fun p=>.ok (.nx p.2)⟩):=id rfl
theorem Pt:gS f env=Res.bnd (f env) (f:=⟨fun p=>.ok (.rt p.1)⟩):=id rfl
theorem Np:Jn c s t env=Res.bnd (c env) (f:=⟨fun p=>if p.1 then s p.2 else t p.2⟩):=id rfl
theorem Kp:kM fi a s env=Res.bnd (fi env) (f:=⟨fun p=>lH a s p.1 p.2⟩):=id rfl
theorem Om:lH a s [] env=.ok (.nx env):=id rfl
theorem JX(ds:List D):lH a s (d::ds) env=Res.bnd (a d env) (f:=⟨fun e=>Res.bnd (s e) (f:=⟨fun o=>match o with
 | .nx e=>lH a s ds e
 | .ct e=>lH a s ds e
 | .bk e=>.ok (.nx e)
 | .rt r=>.ok (.rt r)⟩)⟩):=id rfl
theorem tU:eN c s (n+1) env=Res.bnd (c env) (f:=⟨fun p=>if p.1 then(Res.bnd (s p.2) (f:=⟨fun o=>match o with
  | .nx e=>eN c s n e
  | .ct e=>eN c s n e
  | .bk e=>.ok (.nx e)
  | .rt r=>.ok (.rt r)⟩)) else .ok (.nx p.2)⟩):=id rfl
theorem Pu:wW i f g env=Res.bnd (g env) (f:=⟨fun(p:R×PV.Env)=>Res.bnd (f p.2) (f:=⟨fun(q:R×PV.Env)=>match p.2[i]?,q.2[i]? with
 |some (some _),some (some (.d,.dct tk ks vs))=>if dY tk q.1.2&&decide (ks.length<sizeLine) then .ok (.nx (q.2.set i (some (.d,.dct tk (lJ ks vs q.1.2 p.1.2).1 (lJ ks vs q.1.2 p.1.2).2)))) else .bad
 |_,_=>.bad⟩)⟩):=id rfl
theorem Pw:DN f a env=Res.bnd (f env) (f:=⟨fun p=>Res.bnd (a p.1.2 p.2) (f:=⟨fun e=>.ok (.nx e)⟩)⟩):=id rfl
theorem bh(ds:List D)(nn:Nat)(h:ds.length=n):fBody n nn s ds=Res.bnd (s (ds.map (fun d=>some (O.f,d))++List.replicate nn none)) (f:=⟨fun o=>match o with
 | .rt r=>.ok r
 | .nx _=>.ok (.f,.non)
 |_=>.bad⟩):=by
 unfold fBody;rw[Tt h];all_goals cases s (ds.map (fun d=>some (O.f,d))++List.replicate nn none) with
 |ok o=>cases o <;> rfl
 |exc c=>rfl
 |bad=>rfl
end
theorem line_le{n:Nat}(h:n<=16777216):n<=sizeLine:=by rw[line_eq];exact h
section
variable(a b:Int)(x y:List Nat)(p q:Bool)(ds es:List D)
theorem FJ:Jl (.int a) (.int b)=.ok (.f,.bl (a==b)):=by simp only[Jl,plainD,HE,UM,VQ]
theorem FK:Jl (.str x) (.str y)=.ok (.f,.bl (x==y)):=by simp only[Jl,plainD,HE,UM,VQ]
theorem FL:Me (.int a) (.int b)=.ok (.f,.bl (!(a==b))):=by simp only[Me,plainD,HE,UM,VQ]
theorem DY:jG (.int a) (.int b)=.ok (.f,.int (a-b)):=id rfl
theorem BK:gT (.int a) (.int b)=if 0<b/\b<1073741824 then .ok (.f,.int (a / b)) else .bad:=id rfl
theorem DZ:cV (.int a) (.int b)=if 0<b then .ok (.f,.int (a%b)) else .bad:=id rfl
theorem D0:qN (.int a) (.int b)=if 0<=b/\b<=1000000/\a.natAbs<2 ^ 64 then .ok (.f,.int (a ^ b.toNat)) else .bad:=id rfl
theorem FN:Kv (.int a) (.int b)=.ok (.f,.bl (decide (a<b))):=id rfl
theorem FQ:Rq (.int a) (.int b)=.ok (.f,.bl (decide (a<=b))):=id rfl
theorem FR:Qu (.int a) (.int b)=.ok (.f,.bl (decide (b<a))):=id rfl
theorem D1:fT [.lst ds]=.ok (.f,.int ds.length):=id rfl
theorem D2:fT [.tup ds]=.ok (.f,.int ds.length):=id rfl
theorem D3(tk:Bool):fT [.dct tk ds es]=.ok (.f,.int ds.length):=id rfl
theorem BL:wM [.lst ds]=.ok (.l .f,.lst ds):=id rfl
theorem zd:jI [.lst ds]=.ok (.f,.tup ds):=id rfl
theorem D4:HG (.lst ds) (.int a)=match IH ds a with|some d=>.ok (.f,d)|none=>.bad:=id rfl
theorem FU:HG (.tup ds) (.int a)=match IH ds a with|some d=>.ok (.f,d)|none=>.bad:=id rfl
theorem FV:HG (.str x) (.int a)=match IH x a with|some c=>.ok (.f,.str [c])|none=>.bad:=id rfl
theorem D5:maxD [.int a,.int b]=.ok (.f,.int (if a<b then b else a)):=id rfl
theorem KZ{α:Type}(d:α)(l:List α):IH (d::l) 0=some d:=by
 have:=gW (xs:=d::l) (j:=0) (v:=d) rfl;simpa using this
theorem Lc{α:Type}(c d:α)(l:List α):IH (c::d::l) 1=some d:=by
 have:=gW (xs:=c::d::l) (j:=1) (v:=d) rfl;simpa using this
end
theorem HF(l:List Int):flatDs (l.map D.int)=true:=by
 rw[cy,U7,T8];intro b _;rfl
theorem flat_strs(l:List (List Nat)):flatDs (l.map D.str)=true:=by
 rw[cy,U7,T8];intro b _;rfl
theorem dw(d:D):aT .f d=dh d:=by rw[aT]
theorem fu(ds:List D):aT (.l .f) (.lst ds)=flatDs ds:=by rw[aT,jF]
theorem iJ(i:Int):dh (.int i)=true:=by rw[dh];all_goals simp
theorem il(i:Bool):dh (.bl i)=true:=by rw[dh];all_goals simp
theorem eD(ds:List D):dh (.tup ds)=flatDs ds:=by rw[dh]
theorem uW(n:Nat)(l:List Int):plainDs n (l.map D.int)=true:=by
 induction l with
 |nil=>rfl
 |cons a l ih=>rw[TZ,plainDs,ih,plainD];all_goals simp
theorem n0(n:Nat)(l:List (List Nat)):plainDs n (l.map D.str)=true:=by
 induction l with
 |nil=>rfl
 |cons a l ih=>rw[TZ,plainDs,ih,plainD];all_goals simp
theorem ze(a:Int)(l:List Int):x6 (.int a) (l.map D.int)=decide (a∈l):=by
 unfold x6;rw[Ve,T7,Uy,TF];constructor
 ·rintro⟨x,hx,e⟩;have e:HE (.int x) (.int a)=true:=e;rw[HE,T6]at e;rw[<-e];exact hx
 ·intro h;refine⟨a,h,?_⟩;show HE (.int a) (.int a)=true;rw[HE,T1]
theorem zf(a:List Nat)(l:List (List Nat)):x6 (.str a) (l.map D.str)=decide (a∈l):=by
 unfold x6;rw[Ve,T7,Uy,TF];constructor
 ·rintro⟨x,hx,e⟩;have e:HE (.str x) (.str a)=true:=e;rw[HE,T6]at e;rw[<-e];exact hx
 ·intro h;refine⟨a,h,?_⟩;show HE (.str a) (.str a)=true;rw[HE,T1]
theorem D6(a:Int)(l:List Int):M7 (.int a) (.lst (l.map D.int))=.ok (.f,.bl (decide (a∈l))):=by
 unfold M7;dsimp only;rw[uW,ze,plainD];all_goals simp
theorem BM(a:Int)(l:List Int):Ae (.int a) (.lst (l.map D.int))=.ok (.f,.bl (!decide (a∈l))):=by
 unfold Ae;rw[D6];rfl
theorem D7(a:List Nat)(l:List (List Nat)):M7 (.str a) (.tup (l.map D.str))=.ok (.f,.bl (decide (a∈l))):=by
 unfold M7;dsimp only;rw[n0,zf,plainD];all_goals simp
theorem lK{α:Type}{a:FG}{c:FT}{f:FX}{e:α->D}{p:α->Bool}{r:α->D}(I:PV.Env->Prop)(l:List α)
  (h:∀x∈l,∀env,I env->∃Hy,a (e x) env=.ok Hy/\∃HN,c Hy=.ok (p x,HN)/\if p x then ∃o Jo,f HN=.ok ((o,r x),Jo)/\I Jo else I HN):∀env,I env->dm a c f (l.map e) env=.ok ((l.filter p).map r):=by
 induction l with
 |nil=>intro env _;rfl
 |cons x l ih=>
  intro env hI;obtain⟨Hy,h1,HN,h2,h3⟩:=h x Tp env hI;have ih:=ih fun y hy=>h y (Tx _ hy)
  rw[TZ,tS,h1,IG,h2,IG];cases hp:p x with
  |true=>
   rw[hp]at h3;obtain⟨o,Jo,h4,h5⟩:=h3;rw[Tt rfl,h4,IG,ih Jo h5,IG,UW hp];rfl
  |false=>
   rw[hp]at h3;rw[TB Tw,ih HN h3,UX (by rw[hp];exact Tw)]
theorem cv{α:Type}{a:FG}{f:FX}{e:α->D}{r:α->D}(I:PV.Env->Prop)(l:List α)
  (h:∀x∈l,∀env,I env->∃Hy,a (e x) env=.ok Hy/\∃o Jo,f Hy=.ok ((o,r x),Jo)/\I Jo):∀env,I env->dm a dW f (l.map e) env=.ok (l.map r):=by
 induction l with
 |nil=>intro env _;rfl
 |cons x l ih=>
  intro env hI;obtain⟨Hy,h1,o,Jo,h4,h5⟩:=h x Tp env hI;have ih:=ih fun y hy=>h y (Tx _ hy)
  rw[TZ,tS,h1,IG,DW,IG,Tt rfl,h4,IG,ih Jo h5];rfl
theorem BN{a:FG}{g:FS}(P:Nat->PV.Env->Prop)(ds:List D)(h:∀i d env,ds[i]?=some d->P i env->∃Hy,a d env=.ok Hy/\∃HN,(g Hy=.ok (.nx HN)\/g Hy=.ok (.ct HN))/\P (i+1) HN):
  ∀env,P 0 env->∃env',lH a g ds env=.ok (.nx env')/\P ds.length env':=by
 have key:∀(l:List D) (k:Nat) (env:PV.Env),(∀i d,l[i]?=some d->ds[k+i]?=some d)->P k env->∃env',lH a g l env=.ok (.nx env')/\P (k+l.length) env':=by
  intro l;induction l with
  |nil=>exact fun k env _ hp=>⟨env,rfl,hp⟩
  |cons d l ih=>
   intro k env hd hp;obtain⟨Hy,h1,HN,h2,h3⟩:=h k d env (hd 0 d rfl) hp;obtain⟨env',h4,h5⟩:=ih (k+1) HN (fun i d e=>by have:=hd (i+1) d (by simpa using e);rw[show k+1+i=k+(i+1) by lia];exact this) h3;refine⟨env',?_,by rw[TJ,show k+(l.length+1)=k+1+l.length by lia];exact h5⟩;rw[JX,h1,IG];rcases h2 with h2|h2
   ·rw[h2,IG];exact h4
   ·rw[h2,IG];exact h4
 intro env hp;obtain⟨env',h1,h2⟩:=key ds 0 env (fun i d e=>by rw[V0];exact e) hp;exact⟨env',h1,by rw[V0]at h2;exact h2⟩
section
variable(env:PV.Env)(fo:FO)(fp HI:FP)(a b:Int)(ds:List D)(x:List Nat)
theorem Px:uI fo fp HI env=Res.bnd (fo env) (f:=⟨fun p=>Res.bnd (fp p.2) (f:=⟨fun q=>Res.bnd (HI q.2) (f:=⟨fun t=>Res.bnd (Jj t.2 p.1) (f:=⟨fun d=>Res.bnd (QD d q.1 t.1) (f:=⟨fun r=>.ok (r,t.2)⟩)⟩)⟩)⟩)⟩):=id rfl
theorem D8(lo hi:Option Int):QD (.lst ds) lo hi=.ok (.l .f,.lst (lz ds lo hi)):=id rfl
theorem D9(lo hi:Option Int)(h:HT.sIx ds.length 0 lo=0/\HT.sIx ds.length ds.length hi=ds.length):lz ds lo hi=ds:=by
 unfold lz;rw[h.1,h.2,XA,Nat.sub_zero,Vn (Ts _)]
theorem o6:Bw (.int a) (.int b)=if dq a||dq b then .ok (.f,.int (a*b)) else if a.natAbs<2 ^ 1000/\b.natAbs<2 ^ 1000 then .ok (.f,.int (a*b)) else .bad:=id rfl
end
section
variable(env:PV.Env)(fo:FO)(fs:FOs)(f g:FX)(a b c:Int)(ds es:List D)(x y:List Nat)
theorem Py(gg:List D->List D->Res R):rB gg fo fs env=Res.bnd (fo env) (f:=⟨fun p=>Res.bnd (Jj p.2 p.1) (f:=⟨fun d=>match d with
 | .tup _=>Res.bnd (fs p.2) (f:=⟨fun q=>Res.bnd (Jj q.2 p.1) (f:=⟨fun d2=>match d2 with
  | .tup l=>Res.bnd (qM q.2 q.1) (f:=⟨fun ds=>Res.bnd (gg l ds) (f:=⟨fun r=>.ok (r,q.2)⟩)⟩)
  |_=>.bad⟩)⟩)
 |_=>.bad⟩)⟩):=id rfl
theorem Gf(d:D):(∃l,kn true d=.ok l/\kn false d=.bad/\m9 d=some l)\/(∃l,kn true d=.bad/\kn false d=.ok l/\m9 d=some l)\/(kn true d=.bad/\kn false d=.bad/\m9 d=none):=by
 cases d with
 |lst l=>exact .inl ⟨l,rfl,rfl,rfl⟩
 |tup l=>exact .inr (.inl ⟨l,rfl,rfl,rfl⟩)
 |_=>exact .inr (.inr ⟨rfl,rfl,rfl⟩)
def zg(k1 k2:Bool)(e:PV.Env)(d1 d2:D):Res (List D×PV.Env):=(kn k1 d1).bind fun a=>(kn k2 d2).bind fun b=>.ok ((a.zip b).map fun z=>D.tup [z.1,z.2],e)
def FW(e:PV.Env)(d1 d2:D):Res (List D×PV.Env):=match m9 d1,m9 d2 with|some a,some b=>.ok ((a.zip b).map fun z=>D.tup [z.1,z.2],e)|_,_=>.bad
def OE(a b:Res (List D×PV.Env)):Res (List D×PV.Env):=match a with | .ok a=>.ok a|_=>b
def ya(g:D->D->Res (List D×PV.Env))(os:List Opd):Res (List D×PV.Env):=match os with|[.val d1,.val d2]=>g d1 d2|_=>.bad
theorem rT(g h:D->D->Res (List D×PV.Env))(os:List Opd):OE (ya g os) (ya h os)=ya (fun a b=>OE (g a b) (h a b)) os:=by
 unfold ya;split <;> rfl
theorem BO(e:PV.Env)(a b:D):OE (zg true true e a b) (OE (zg true false e a b) (OE (zg false true e a b) (zg false false e a b)))=FW e a b:=by
 unfold zg FW;rcases Gf a with⟨l,h1,h2,h3⟩|⟨l,h1,h2,h3⟩|⟨h1,h2,h3⟩ <;> rcases Gf b with⟨m,i1,i2,i3⟩|⟨m,i1,i2,i3⟩|⟨i1,i2,i3⟩ <;> rw[h1,h2,h3,i1,i2,i3] <;> rfl
theorem Oo:nu fs env=Res.bnd (fs env) (f:=⟨fun p=>match p.1 with
 |[.val d1,.val d2]=>(match m9 d1,m9 d2 with|some a,some b=>.ok ((a.zip b).map fun z=>D.tup [z.1,z.2],p.2)|_,_=>.bad)
 |_=>.bad⟩):=by
 unfold nu;rw[rS,rS,rS,o5,o5,o5,o5];cases fs env with
 |ok p=>
  show OE (ya (zg true true p.2) p.1) (OE (ya (zg true false p.2) p.1) (OE (ya (zg false true p.2) p.1) (ya (zg false false p.2) p.1)))=ya (FW p.2) p.1;rw[rT,rT,rT];exact UN (fun g=>ya g p.1) (funext fun a=>funext fun b=>BO p.2 a b)
 |_=>rfl
theorem Oq:m9 (.lst ds)=some ds:=id rfl
theorem Ot:m9 (.tup ds)=some ds:=id rfl
theorem mQ:iN (.int a) (.int b)=Bw (.int a) (.int b):=id rfl
theorem BP:iN (.lst ds) (.int b)=if 0<=b/\b<1000000/\ds.length*b.toNat<=sizeLine then .ok (.l .f,.lst (List.replicate b.toNat ds).flatten) else .bad:=id rfl
theorem Nq:qe f g env=Res.bnd (f env) (f:=⟨fun p=>Res.bnd (g p.2) (f:=⟨fun q=>if dY false p.1.2 then .ok ((.d,.dct false [p.1.2] [q.1.2]),q.2) else .bad⟩)⟩):=id rfl
theorem Ea(d:D):O5 d (.tup ds)=M7 d (.tup ds):=id rfl
theorem BQ(d:D):rH d (.lst ds)=Ae d (.lst ds):=id rfl
theorem Eb:dY false (.int a)=true:=id rfl
theorem Ec:dY false (.str x)=true:=id rfl
theorem Ed:Bz [.int a,.int b]=.ok (.f,.int (if b<a then b else a)):=id rfl
theorem BR:cB (.int a) (.int b)=.ok (.f,.int (a+b)):=id rfl
theorem BS:cB (.str x) (.str y)=if x.length+y.length<=sizeLine then .ok (.f,.str (x++y)) else .bad:=id rfl
theorem BU:cB (.lst ds) (.lst es)=if ds.length+es.length<=sizeLine then .ok (.l .f,.lst (ds++es)) else .bad:=id rfl
theorem BV:cB (.tup ds) (.tup es)=if ds.length+es.length<=sizeLine\/ds=[] then .ok (.f,.tup (ds++es)) else .bad:=by
 unfold cB;cases ds with
 |nil=>rw[Tt (.inr rfl)];rfl
 |cons d ds=>
  dsimp only;unfold addD;dsimp only;by_cases h:(d::ds).length+es.length<=sizeLine
  ·rw[Tt ⟨nofun,h⟩,Tt (.inl h)]
  ·rw[TB (fun z=>h z.2),TB (fun z=>z.elim h nofun)]
end
section
variable(env:PV.Env)(f g:FX)(ds ks:List D)(i:Nat)
theorem zh:xf f env=Res.bnd (f env) (f:=⟨fun p=>match p.1 with
 |(.d,.dct false ks vs)=>.ok ((ks.zip vs).map fun z=>D.tup [z.1,z.2],p.2)
 |_=>.bad⟩):=id rfl
theorem zi(vs:List D):yZ [.dct false ks vs]=.ok (.l .f,.lst ks):=id rfl
end
section
variable(env:PV.Env)(f:FX)(fs:FOs)(ds:List D)(i:Nat)
theorem Ao:d7 i env=match env[i]? with
 |some (some (ow,.lst ds))=>if isLf ow then(match ds.getLast? with
  |some d=>.ok ((.f,d),env.set i (some (ow,.lst ds.dropLast)))
  |none=>.bad) else .bad
 |_=>.bad:=id rfl
theorem jr(p:Addr):isLf (.pin p (.l .f))=true:=id rfl
theorem tV:mw (.l .f) (.l .f)=true:=id rfl
theorem iq:jh i f env=Res.bnd (f env) (f:=⟨fun(p:R×PV.Env)=>match p.2[i]? with
 |some (some (.pin q c,d))=>.ok (.rt (.t [p.1.1,.pin q c],.tup [p.1.2,d]))
 |_=>.bad⟩):=by
 first
  |exact id rfl
  |(unfold jh;rfl)
theorem lM(fi:FI)(ix:List (Option Nat))(j k0:Nat)(a:FG)(c:FT):jR fi ix j k0 a c f env=Res.bnd (fi env) (f:=⟨fun(p:List D×PV.Env)=>match p.2[j]? with
 |some (some (ow,.lst d0))=>if isLf ow then Res.bnd (uL a c f p.1 (fun q=>(cN ix (p.2.set j none)).set k0 (some (.pin q (.l .f),.lst d0))) k0) (f:=⟨fun x=>if x.1.length<=sizeLine/\flatDs x.1=true/\flatDs x.2=true then .ok ((.l .f,.lst x.1),p.2.set j (some (ow,.lst x.2))) else .bad⟩) else .bad
 |_=>.bad⟩):=id rfl
theorem lN(np nn:Nat)(c:O)(g:FS)(p:Addr)(d0:D)(h:ds.length+1=np):kS np nn c g p (d0::ds)=Res.bnd (g (some (.pin p c,d0)::(ds.map (fun d=>some (O.f,d))++List.replicate nn none))) (f:=⟨fun o=>match o with
  | .rt r=>.ok r
  |_=>.bad⟩):=by
 unfold kS;dsimp only;rw[Tt h];rfl
end
noncomputable def pv:=(Zz @IG (Zz @Pb (Zz @Mg (Zz @NZ (Zz @Pd (Zz @Pe (Zz @N0 (Zz @Nj (Zz @N1 (Zz @Nk (Zz @Pf (Zz @Pg (Zz @N2 (Zz @N3 (Zz @N4 (Zz @N5 (Zz @Nl (Zz @Nm (Zz @N6 (Zz @N7 (Zz @N8 (Zz @Ph (Zz @N9 (Zz @QY (Zz @Pj (Zz @QZ (Zz @Pk (Zz @Pl (Zz @Pm (Zz @Nn (Zz @Oa (Zz @Pn (Zz @Po (Zz @Pp (Zz @Px (Zz @Ob (Zz @Oc (Zz @Pq (Zz @Od (Zz @Q0 (Zz @Oe (Zz @Of (Zz @Og (Zz @LU (Zz @LV (Zz @LX (Zz @Pr (Zz @Oh (Zz @KJ (Zz @MA (Zz @Jx (Zz @Oi (Zz @IV (Zz @LY (Zz @J5 (Zz @Oj (Zz @J6 (Zz @Ol (Zz @Pt (Zz @Np (Zz @Kp (Zz @Om (Zz @JX (Zz @Pu (Zz @Pw (Zz @List.getElem?_cons_zero.{0} (Zz @List.getElem?_cons_succ.{0} (Zz @List.set_cons_zero.{0} (Zz @List.set_cons_succ.{0} (Zz @List.length_cons.{0} (Zz @List.length_nil.{0} (Zz @List.map_cons.{0,0} (Zz @List.map_nil.{0,0} (Zz @List.replicate_succ.{0} (Zz @List.replicate_zero.{0} (Zz @List.cons_append.{0} (Zz @List.nil_append.{0} (Zz @Nat.zero_add (Zz @Py (Zz @Oo (Zz @Oq (Zz @Ot (Zz @Nq (Zz @QV (Zz @QX @Ni)))))))))))))))))))))))))))))))))))))))))))))))))))))))))))))))))))))))))))))))))))))
noncomputable def op:=(Zz @FJ (Zz @FK (Zz @FL (Zz @DY (Zz @FN (Zz @FQ (Zz @FR (Zz @D1 (Zz @D2 (Zz @D3 (Zz @BL (Zz @zd (Zz @D4 (Zz @FU (Zz @FV (Zz @D8 (Zz @D5 (Zz @KZ (Zz @Lc (Zz @BM (Zz @dw (Zz @fu (Zz @iJ (Zz @il (Zz @HF (Zz @PV.flat_strs (Zz @eD (Zz @Ed (Zz @BR (Zz @mQ (Zz @Ea (Zz @BQ (Zz @Eb @Ec)))))))))))))))))))))))))))))))))
theorem dV(n:Nat)(w:PV.Env):(∃d,Jj w (.var n)=.ok d)\/Jj w (.var n)=.bad:=by
 unfold Jj;dsimp only;split
 ·split
  ·exact .inl ⟨_,rfl⟩
  ·exact .inr rfl
 ·exact .inr rfl
section
variable(w:PV.Env)(op:D->D->Res R)(F:List D->Res R)(f g h:FX)(n n' n'':Nat)(x y:D)
end
section
variable(a b c d e g h i j k l m s t v u:Option R)(z:PV.Env)(r:R)(o:O)(x:D){ρ:Type}
end
end PV
namespace LW
open PySem L2 NX PV
theorem for_list{α:Type}{a:FG}{g:FS}{e:α->D}(l:List α)(P:Nat->PV.Env->Prop)
  (h:∀k x env,l[k]?=some x->P k env->∃Hy,a (e x) env=.ok Hy/\∃HN,g Hy=.ok (.nx HN)/\P (k+1) HN):∀env,P 0 env->∃env',lH a g (l.map e) env=.ok (.nx env')/\P l.length env':=by
 intro env h0;have:=BN (a:=a) (g:=g) P (l.map e) (fun i d env hi hp=>by
  rw[List.getElem?_map,Uk]at hi;obtain⟨x,hx,rfl⟩:=hi;obtain⟨Hy,h1,HN,h2,h3⟩:=h i x env hx hp;exact⟨Hy,h1,HN,.inl h2,h3⟩) env h0
 rwa [To]at this
theorem kB{a:FG}{g:FS}{e:Nat->D}(n:Nat)(P:Nat->PV.Env->Prop)
  (h:∀k env,k<n->P k env->∃Hy,a (e k) env=.ok Hy/\∃HN,g Hy=.ok (.nx HN)/\P (k+1) HN):∀env,P 0 env->∃env',lH a g ((List.range n).map e) env=.ok (.nx env')/\P n env':=by
 intro env h0;have:=for_list (a:=a) (g:=g) (e:=e) (List.range n) P (fun k x env hk hp=>by
  obtain⟨h1,h2⟩:=List.getElem?_eq_some_iff.mp hk;rw[TH]at h1;rw[U8]at h2;subst h2;exact h k env h1 hp) env h0
 rwa [TH]at this
abbrev HR:=List (List Nat)
theorem bp{α β:Type}{l:List α}(f:α->β):(l.map f).length=l.length:=To f
theorem jv:(false=true)=False:=UT
theorem nh{α:Type}{l:List α}{i:Nat}{a:α}(h:l[i]?=some a):∃h:i<l.length,l[i]=a:=List.getElem?_eq_some_iff.mp h
theorem xp{α:Type}{l:List α}{i:Nat}(h:i<l.length):l[i]?=some l[i]:=List.getElem?_eq_getElem h
theorem gU{α β:Type}{f:α->β}{a:α}{l:List α}:(a::l).map f=f a::l.map f:=TZ
theorem ll{α:Type}{a b:α}(h:a∈[b]):a=b:=TU.mp h
theorem qB{α β:Type}{f:α->β}{l:List α}{b:β}(h:b∈l.map f):∃a,a∈l/\f a=b:=Ur.mp h
theorem mR{α:Type}{a:α}{s t:List α}(h:a∈s++t):a∈s\/a∈t:=TX.mp h
theorem j8{α:Type}{s t:List α}:(s++t).length=s.length+t.length:=Ud
theorem aB{s t:FS}{env env':PV.Env}(h:s env=.ok (.nx env')):sSeq s t env=t env':=by rw[J5,h,IG]
theorem cf{ds:List D}(h:ds.length<=16777216):ds.length<=sizeLine:=line_le h
theorem dB{l:List Int}{k:Nat}(h:k<l.length):IH (l.map D.int) (k:Int)=some (.int (l.getD k 0)):=gW (by rw[List.getElem?_map,List.getD_eq_getElem?_getD,xp h];rfl)
theorem at2{α:Type}(a b c:α):IH [a,b,c] (2:Int)=some c:=rfl
theorem fY:∀l:HR,iR (l.map D.str)=some l
 |[]=>rfl
 |a::l=>by
  rw[gU,iR,fY l];rfl
theorem mS(x y:D)(t1 t2:Option R)(dS:PV.Env):fB 2 (az (ax 0) (az (ax 1) bW)) (.tup [x,y]) (t1::t2::dS)=.ok (some (.f,x)::some (.f,y)::dS):=by
 rw[LY,Tt (by simp),IV,Jx,Tt (by simp),IG,IV,Jx,Tt (by simp),IG];rfl
theorem qC{α:Type}(lt:α->α->Bool)(l:List α):(bX lt l).length=l.length:=(fS lt l).length_eq
theorem BW(l:HR)(h:l.length<64):dX [.lst (l.map D.str)]=.ok (.l .f,.lst ((bX KI l).map D.str)):=by
 unfold dX;dsimp only;rw[Tt (by rw[bp];exact h)];unfold mf;cases l with
 |nil=>rfl
 |cons a l=>
  have e:cC ((a::l).map D.str)=none:=rfl;rw[e,fY]
def qD:List Nat:=[109,111,118,101,115]
def K3:List Nat:=[97,98,99,100,101,102,103,104,105,106,107,108,109,110,111,112,113,114,115,116,117,118,119,120,121,122]
theorem Ee(j:Nat)(h:j<26):K3[j]?=some (97+j):=by
 have:∀j:_root_.Fin 26,K3[j.1]?=some (97+j.1):=by decide
 exact this ⟨j,h⟩
theorem Ef(j:Int)(h0:0<=j)(h:j<26):IH K3 j=some (97+j.toNat):=by
 obtain⟨n,rfl⟩:=T5 h0;exact gW (Ee n (by lia))
theorem dI(x b:Int)(h:0<b):0<=x%b/\x%b<b:=⟨Int.emod_nonneg _ (by lia),X0 _ h⟩
theorem Gg(n:Nat)(h:n<=200):qN (.int 10) (.int (n:Int))=.ok (.f,.int (10 ^ n)):=by
 rw[D0,Tt (by lia),T4]
theorem fZ(x b:Int)(h:0<b):cV (.int x) (.int b)=.ok (.f,.int (x%b)):=by rw[DZ,Tt h]
theorem uX(x b:Int)(h:0<b)(h2:b<1073741824):gT (.int x) (.int b)=.ok (.f,.int (x / b)):=by rw[BK,Tt ⟨h,h2⟩]
theorem Hd(x y:Int)(h:dq y=true):iN (.int x) (.int y)=.ok (.f,.int (x*y)):=by rw[mQ,o6,h,Bool.or_true,Tt rfl]
theorem qE(k:Nat)(h:k<=1000000):dq (k:Int)=true:=by
 unfold dq;rw[TF];lia
theorem He(x y:List Nat)(h:x.length+y.length<=1000):cB (.str x) (.str y)=.ok (.f,.str (x++y)):=by rw[BS,Tt (line_le (by lia))]
def fix(t:List Nat):List Nat:=if t==qD then[109,111,118,101,115,97] else t
theorem j9{α:Type}(l:List α)(k:Nat):lz l none (some (k:Int))=l.take k:=by
 unfold lz;rw[HT.sy,HT.vS,XA,Nat.sub_zero];by_cases h:k<=l.length
 ·rw[Nat.min_eq_left h]
 ·rw[Nat.min_eq_right (by lia),Vn (Ts _),Vn (by lia)]
theorem tW{α:Type}(l:List α)(k:Nat):lz l (some (k:Int)) none=l.drop k:=by
 unfold lz;rw[HT.sy,HT.vS];by_cases h:k<=l.length
 ·rw[Nat.min_eq_left h,Vn (by rw[VF];exact Ts _)]
 ·rw[Nat.min_eq_right (by lia),W6 (Ts _),W6 (by lia),List.take_nil]
theorem BX{s t:List Nat}(h:s.length=t.length)(e:fix s=fix t):s=t:=by
 unfold fix at e;cases h1:s==qD with
 |true=>
  cases h2:t==qD with
  |true=>rw[T6.mp h1,T6.mp h2]
  |false=>
   rw[h1,h2,Tt rfl,TB Tw]at e;rw[<-e,T6.mp h1]at h;cases h
 |false=>
  cases h2:t==qD with
  |true=>
   rw[h1,h2,Tt rfl,TB Tw]at e;rw[e,T6.mp h2]at h;cases h
  |false=>
   rw[h1,h2,TB Tw,TB Tw]at e;exact e
theorem e7{α:Type}(f:Nat->α)(n:Nat)(h:∀i j,i<n->j<n->f i=f j->i=j):((List.range n).map f).Nodup:=by
 rw[VP,Wa];refine List.pairwise_lt_range.imp_of_mem fun{a b} ha hb hl e=>?_
 have:=h a b (Uz.mp ha) (Uz.mp hb) e;lia
theorem Hf(j:Int)(h0:0<=j)(h:j<=1000)(fo:FO)(env env':PV.Env)(o:Opd)(e1:fo env=.ok (o,env'))(e2:Jj env' o=.ok (.int j)):bZ fo env=.ok ((List.range j.toNat).map fun(k:Nat)=>D.int (k:Int),env'):=by
 rw[KJ,e1,IG];dsimp only;rw[e2,IG];dsimp only;rw[Tt (by lia)]
theorem Hg(x y:Int)(h:dq x=true):iN (.int x) (.int y)=.ok (.f,.int (x*y)):=by rw[mQ,o6,h,Yi,Tt rfl]
theorem qF(x:Int)(h:-1000000<=x)(h2:x<=1000000):dq x=true:=by
 unfold dq;rw[TF];lia
theorem xq(d:D)(h:plainD 40 d=true):Jl d d=.ok (.f,.bl true):=by
 unfold Jl;rw[h,lI d 40 h];rfl
theorem EL{c:FT}{s t:FS}{env env':PV.Env}(h:c env=.ok (false,env')):Jn c s t env=t env':=by rw[Np,h,IG];rfl
theorem Gh{c:FT}{s t:FS}{env env':PV.Env}(h:c env=.ok (true,env')):Jn c s t env=s env':=by rw[Np,h,IG];rfl
theorem xr(l:List Int):x5 [.lst (l.map D.int)]=.ok (.f,.int l.sum):=by
 unfold x5;dsimp only;have:(m9 (D.lst (l.map D.int))).bind cC=some l:=nP l;rw[this]
theorem isB(b:Bool):x9 "bool" (.bl b)=true:=rfl
theorem Hh(b:Int):x9 "bool" (.int b)=false:=rfl
theorem Hi(b:Int):x9 "int" (.int b)=true:=rfl
theorem isT(ds:List D):x9 "tuple" (.tup ds)=true:=rfl
theorem ka{c:FT}{g:FS}(P:Nat->PV.Env->Prop)(fin:PV.Env->Prop)(h:∀k env,P k env->(∃Hy,c env=.ok (false,Hy)/\fin Hy)\/(∃Hy,c env=.ok (true,Hy)/\∃HN k',g Hy=.ok (.nx HN)/\k'<k/\P k' HN)):
  ∀n k env,k<n->P k env->∃env',eN c g n env=.ok (.nx env')/\fin env'
 | 0,k,env,hk,_=>absurd hk (Xn _)
 |n+1,k,env,hk,hp=>by
  rcases h k env hp with⟨Hy,h1,h2⟩|⟨Hy,h1,HN,k',h2,h3,h4⟩
  ·exact⟨Hy,by rw[tU,h1,IG];rfl,h2⟩
  ·obtain⟨env',e,hf⟩:=ka P fin h n k' HN (by lia) h4;refine⟨env',?_,hf⟩;rw[tU,h1,IG];dsimp only;rw[Tt rfl,h2,IG];exact e
theorem BY{α β:Type}(f:α->β)(l:List α)(lo hi:Option Int):lz (l.map f) lo hi=(lz l lo hi).map f:=by
 unfold lz;rw[bp,<-X1,<-Vc]
theorem e8{α:Type}{l:List α}(h:l.length<=100000):l.length<sizeLine:=TK (VG _) (line_le (by lia))
section
variable(env:PV.Env)(f:FX)(fs:FOs)(fo:FO)
theorem rU(i:Nat)(c:O)(F:Addr->List D->Res R):eFunW c F i fs env=Res.bnd (fs env) (f:=⟨fun p=>match p.1 with
 | .var j::os=>if j=i then(match p.2[i]? with
  |some (some (ow,d0))=>if mw c ow then Res.bnd (jC (p.2.set i none) os) (f:=⟨fun ds=>Res.bnd (kq F c d0 ds) (f:=⟨fun x=>if aT x.1.1 x.1.2&&aT c x.2 then .ok (x.1,(p.2.set i none).set i (some (ow,x.2))) else .ok (x.1,((p.2.set i none).map frz).set i (some (ow,x.2)))⟩)⟩) else .bad
  |_=>.bad) else .bad
 |_=>.bad⟩):=id rfl
theorem Gi(r:R):frz (some r)=some (.f,r.2):=id rfl
theorem Gj:frz none=none:=id rfl
theorem Ap(gg:List D->List D->Res R):FH gg fo fs env=Res.bnd (fo env) (f:=⟨fun p=>Res.bnd (Jj p.2 p.1) (f:=⟨fun d=>match d with
 | .lst _=>Res.bnd (fs p.2) (f:=⟨fun q=>Res.bnd (Jj q.2 p.1) (f:=⟨fun d2=>match d2 with
  | .lst l=>Res.bnd (qM q.2 q.1) (f:=⟨fun ds=>Res.bnd (gg l ds) (f:=⟨fun r=>.ok (r,q.2)⟩)⟩)
  |_=>.bad⟩)⟩)
 |_=>.bad⟩)⟩):=id rfl
theorem BZ(g:FX):BD f g env=Res.bnd (f env) (f:=⟨fun p=>Res.bnd (g p.2) (f:=⟨fun q=>match(m9 p.1.2).bind cC,q.1.2 with|some ns,.int d=>.ok ((.f,.int (NX.minD ns d)),q.2)|_,_=>.bad⟩)⟩):=id rfl
end
theorem o_isnN:isnO .non .non=.ok (.f,.bl false):=id rfl
theorem Hj(o:O)(h:isLf o=true)(ys:List Int)(x:Int)(env:PV.Env):d7 0 (some (o,.lst ((ys++[x]).map D.int))::env)=.ok ((.f,.int x),some (o,.lst (ys.map D.int))::env):=by
 rw[Ao];simp only[List.getElem?_cons_zero,Tu,gU,Ul,List.getLast?_concat,Xy,h,VQ,X3]
theorem uY(p:Addr)(ys:List Int)(x:Int)(env:PV.Env):d7 0 (some (.pin p (.l .f),.lst ((ys++[x]).map D.int))::env)=.ok ((.f,.int x),some (.pin p (.l .f),.lst (ys.map D.int))::env):=Hj _ rfl ys x env
theorem xt(p:Addr)(ys:List Int)(x:Int)(a b:Option R)(env:PV.Env):d7 2 (a::b::some (.pin p (.l .f),.lst ((ys++[x]).map D.int))::env)=.ok ((.f,.int x),a::b::some (.pin p (.l .f),.lst (ys.map D.int))::env):=by
 rw[Ao];simp only[List.getElem?_cons_zero,List.getElem?_cons_succ,Tu,gU,Ul,List.getLast?_concat,Xy,jr,VQ,X3,List.set_cons_succ]
theorem J0{xs:List Int}(h:0<xs.length):∃ys x,xs=ys++[x]/\ys.length+1=xs.length:=by
 have hn:xs≠[]:=UG.mp h;refine⟨xs.dropLast,xs.getLast hn,(Wo hn).symm,?_⟩;rw[Xv];lia
theorem qG{α:Type}{a:FG}{g:FS}{e:α->D}(l:List α)(P:Nat->(Addr->PV.Env)->Prop)
  (h:∀k x E,l[k]?=some x->P k E->∃E1:Addr->PV.Env,(∀p,a (e x) (E p)=.ok (E1 p))/\∃E2:Addr->PV.Env,(∀p,g (E1 p)=.ok (.nx (E2 p)))/\P (k+1) E2):∀E,P 0 E->∃E',(∀p,lH a g (l.map e) (E p)=.ok (.nx (E' p)))/\P l.length E':=by
 have key:∀(l':List α) (k:Nat) (E:Addr->PV.Env),(∀i x,l'[i]?=some x->l[k+i]?=some x)->P k E->∃E',(∀p,lH a g (l'.map e) (E p)=.ok (.nx (E' p)))/\P (k+l'.length) E':=by
  intro l';induction l' with
  |nil=>exact fun k E _ hp=>⟨E,fun p=>rfl,hp⟩
  |cons d l' ih=>
   intro k E hd hp;obtain⟨E1,h1,E2,h2,h3⟩:=h k d E (hd 0 d rfl) hp;obtain⟨E',h4,h5⟩:=ih (k+1) E2 (fun i x e=>by have:=hd (i+1) x (by simpa using e);rw[show k+1+i=k+(i+1) by lia];exact this) h3;refine⟨E',fun p=>?_,by rw[TJ,show k+(l'.length+1)=k+1+l'.length by lia];exact h5⟩;rw[gU,JX,h1,IG,h2,IG];exact h4 p
 intro E hp;have:=key l 0 E (fun i x e=>by rw[V0];exact e) hp
 rwa [V0]at this
theorem o7{a:FG}{g:FS}{e:Nat->D}(n:Nat)(P:Nat->(Addr->PV.Env)->Prop)
  (h:∀k E,k<n->P k E->∃E1:Addr->PV.Env,(∀p,a (e k) (E p)=.ok (E1 p))/\∃E2:Addr->PV.Env,(∀p,g (E1 p)=.ok (.nx (E2 p)))/\P (k+1) E2):∀E,P 0 E->∃E',(∀p,lH a g ((List.range n).map e) (E p)=.ok (.nx (E' p)))/\P n E':=by
 intro E h0;have:=qG (a:=a) (g:=g) (e:=e) (List.range n) P (fun k x E hk hp=>by
  obtain⟨h1,h2⟩:=nh hk;rw[TH]at h1;rw[U8]at h2;subst h2;exact h k E h1 hp) E h0
 rwa [TH]at this
theorem gG{α:Type}{a:FG}{f:FX}{e:α->D}(I:Nat->(Addr->PV.Env)->List D->Prop):∀(l:List α) (n:Nat) (E:Addr->PV.Env) (acc:List D),I n E acc->
  (∀k x E acc,l[k]?=some x->I (n+k) E acc->∃E1:Addr->PV.Env,(∀p,a (e x) (E p)=.ok (E1 p))/\∃(o:O) (r:D) (E3:Addr->PV.Env),(∀p,f (E1 p)=.ok ((o,r),E3 p))/\I (n+k+1) E3 (acc++[r]))->∃(rs:List D) (E2:Addr->PV.Env),(∀p,compLE a dW f (l.map e) (E p)=.ok (rs,E2 p))/\I (n+l.length) E2 (acc++rs)
 |[],n,E,acc,h,_=>⟨[],E,fun _=>rfl,by rw[T9];exact h⟩
 |x::l,n,E,acc,h,hs=>by
  obtain⟨E1,h1,o,r,E3,h2,h3⟩:=hs 0 x E acc rfl h;obtain⟨rs,E2,h4,h5⟩:=gG I l (n+1) E3 (acc++[r]) h3 fun k y E acc hk hI=>by
   have:=hs (k+1) y E acc (by simpa using hk) (by rw[show n+(k+1)=n+1+k by lia];exact hI);rw[show n+(k+1)+1=n+1+k+1 by lia]at this;exact this
  refine⟨r::rs,E2,fun p=>?_,?_⟩
  ·rw[gU];show((a (e x) (E p)).bind fun e=>(dW e).bind fun p=>if p.1 then(f p.2).bind fun q=>(compLE a dW f (l.map _) q.2).bind fun rs=>.ok (q.1.2::rs.1,rs.2) else compLE a dW f (l.map _) p.2)=_;rw[h1 p];show((f (E1 p)).bind fun q=>(compLE a dW f (l.map _) q.2).bind fun rs=>.ok (q.1.2::rs.1,rs.2))=_;rw[h2 p];show((compLE a dW f (l.map _) (E3 p)).bind fun rs=>.ok (r::rs.1,rs.2))=_;rw[h4 p];rfl
  ·rw[TJ,show n+(l.length+1)=n+1+l.length by lia];rw[Ut]at h5;exact h5
abbrev HC:=Int×List Nat×Int
def eA(a:HC):D:=.tup [.int a.1,.str a.2.1,.int a.2.2]
abbrev Nd:=Int×HR
def met(T:List HC):List Int:=0::T.map (·.2.2)
def jt(c:Int)(T:List HC)(a:HC):List HC:=if a.1=c/\a.2.2∉met T then T++[a] else T
inductive Run(ap:List HC):Nat->List HC->Prop where
 |z:Run ap 0 []
 |s {i:Nat}{T:List HC}{c:Int}:Run ap i T->(met T)[i]?=some c->Run ap (i+1) (ap.foldl (jt c) T)
theorem Run.inj{ap:List HC}:∀{i:Nat}{T T':List HC},Run ap i T->Run ap i T'->T=T'
 | 0,_,_,.z,.z=>rfl
 |i+1,_,_,.s r h,.s r' h'=>by
  have e:=Run.inj r r';subst e;rw[h]at h';cases h';rfl
theorem Run.before{ap:List HC}:∀{j:Nat}{T:List HC},Run ap j T->∀i,i<j->∃T',Run ap i T'/\i<(met T').length
 | 0,_,_,i,h=>absurd h (Xn _)
 |j+1,_,.s r h,i,hi=>by
  by_cases e:i=j
  ·subst e;exact⟨_,r,(nh h).1⟩
  ·exact Run.before r i (by lia)
theorem Run.end{ap:List HC}{i j:Nat}{T T':List HC}(r:Run ap i T)(h:i=(met T).length)(r':Run ap j T')(h':j=(met T').length):T=T':=by
 rcases Nat.lt_trichotomy i j with l|l|l
 ·obtain⟨T2,r2,l2⟩:=r'.before i l;have e:=r.inj r2;subst e;lia
 ·subst l;exact r.inj r'
 ·obtain⟨T2,r2,l2⟩:=r.before j l;have e:=r'.inj r2;subst e;lia
structure Bfs(ap:List HC)(i:Nat)(pre:List HC)(N:List Nd)(T:List HC):Prop where
 z:N[0]?=some (0,[])
 len:N.length=T.length+1
 nd:(N.map (·.1)).Nodup
 bd:∀n∈N,0<=n.1/\n.1<12
 tr:∀(j:Nat) (a:HC),T[j]?=some a->a∈ap/\∃(k:Nat) (n:Nd),k<=j/\N[k]?=some n/\a.1=n.1/\N[j+1]?=some (a.2.2,n.2++[a.2.1])
 mono:∀(j k:Nat) (n m:Nd),j<=k->N[j]?=some n->N[k]?=some m->n.2.length<=m.2.length
 top:∀n∈N,∀c:Nd,N[i]?=some c->n.2.length<=c.2.length+1
 clo:∀k,k<i->∀n:Nd,N[k]?=some n->∀a∈ap,a.1=n.1->∃m∈N,m.1=a.2.2/\m.2.length<=n.2.length+1
 cur:∀a∈pre,∀c:Nd,N[i]?=some c->a.1=c.1->∃m∈N,m.1=a.2.2/\m.2.length<=c.2.length+1
 nm:N.map (·.1)=met T
theorem Bfs.start(ap:List HC):Bfs ap 0 [] [(0,[])] []:=by
 refine⟨rfl,rfl,TY.mpr ⟨Ub,Uw⟩,fun n hn=>?_,fun j a h=>by simp at h,fun j k n m _ h1 h2=>?_,fun n hn c hc=>?_,fun k hk=>absurd hk (Xn _),(fun a ha=>nomatch ha),rfl⟩
 ·rw[ll hn];exact⟨XN _,by decide⟩
 ·rw[ll (T3 h1)];exact Uj _
 ·rw[ll hn];exact Uj _
theorem ir{α:Type}{l:List α}{x:α}{j:Nat}{y:α}(h:l[j]?=some y):(l++[x])[j]?=some y:=by
 rw[List.getElem?_append_left (nh h).1];exact h
theorem f6{α:Type}{l:List α}{x:α}{j:Nat}{y:α}(h:(l++[x])[j]?=some y):l[j]?=some y\/(j=l.length/\y=x):=by
 by_cases hj:j<l.length
 ·rw[List.getElem?_append_left hj]at h;exact .inl h
 ·rw[List.getElem?_append_right (by lia)]at h;by_cases e:j-l.length=0
  ·rw[e]at h;exact .inr ⟨by lia,by simpa using h.symm⟩
  ·rw[List.getElem?_eq_none (by simp;lia)]at h;cases h
theorem Bfs.skip{ap:List HC}{i:Nat}{pre:List HC}{N:List Nd}{T:List HC}(b:Bfs ap i pre N T){a:HC}{c:Nd}(hc:N[i]?=some c)(h:a.1≠c.1\/a.2.2∈N.map (·.1)):Bfs ap i (pre++[a]) N T:=by
 refine⟨b.z,b.len,b.nd,b.bd,b.tr,b.mono,b.top,b.clo,fun x hx c' Ks e=>?_,b.nm⟩;rcases mR hx with hx|hx
 ·exact b.cur x hx c' Ks e
 ·rw[ll hx]at e ⊢;rw[hc]at Ks;cases Ks;rcases h with h|h
  ·exact absurd e h
  ·obtain⟨m,hm,em⟩:=qB h;exact⟨m,hm,em,b.top m hm c hc⟩
theorem Bfs.take{ap:List HC}{i:Nat}{pre:List HC}{N:List Nd}{T:List HC}(b:Bfs ap i pre N T){a:HC}{c:Nd}(hc:N[i]?=some c)(ha:a∈ap)(Qm:0<=a.2.2/\a.2.2<12)(h1:a.1=c.1)(h2:a.2.2∉N.map (·.1)):Bfs ap i (pre++[a]) (N++[(a.2.2,c.2++[a.2.1])]) (T++[a]):=by
 have hi:=(nh hc).1;have KH:(c.2++[a.2.1]).length=c.2.length+1:=by rw[j8];rfl
 have up:∀{x:Int}{B:Nat},(∃m∈N,m.1=x/\m.2.length<=B)->∃m∈N++[(a.2.2,c.2++[a.2.1])],m.1=x/\m.2.length<=B:=fun⟨m,hm,q⟩=>⟨m,Tq _ hm,q⟩
 refine⟨ir b.z,by rw[j8,j8,b.len];rfl,?_,fun n hn=>?_,fun j x hx=>?_,fun j k n m hjk hn hm=>?_,fun n hn c' Ks=>?_,fun k hk n hn x hx e=>?_,fun x hx c' Ks e=>?_,by unfold met;rw[Tu,Tu,b.nm];rfl⟩
 ·rw[Tu,TM];refine⟨b.nd,TY.mpr ⟨Ub,Uw⟩,fun x hx y hy=>?_⟩;have:y=a.2.2:=by simpa using hy
  rw[this];rintro rfl;exact h2 hx
 ·rcases mR hn with hn|hn
  ·exact b.bd n hn
  ·rw[ll hn];exact Qm
 ·rcases f6 hx with hx|⟨rfl,rfl⟩
  ·obtain⟨q,k,n,hk,hn,e,Ld⟩:=b.tr j x hx;exact⟨q,k,n,hk,ir hn,e,ir Ld⟩
  ·refine⟨ha,i,c,?_,ir hc,h1,?_⟩
   ·have:=b.len;lia
   ·rw[<-b.len,List.getElem?_append_right (Ts _),Nat.sub_self];rfl
 ·rcases f6 hn with hn|⟨rfl,rfl⟩
  ·rcases f6 hm with hm|⟨rfl,rfl⟩
   ·exact b.mono j k n m hjk hn hm
   ·show n.2.length<=(c.2++[a.2.1]).length;rw[KH];exact b.top n (T3 hn) c hc
  ·rcases f6 hm with hm|⟨rfl,rfl⟩
   ·have:=(nh hm).1;lia
   ·exact Ts _
 ·have:c'=c:=by
   rw[ir hc]at Ks;exact(Ua Ks).symm
  subst this;rcases mR hn with hn|hn
  ·exact b.top n hn c' hc
  ·rw[ll hn];exact Xd KH
 ·rcases f6 hn with hn|⟨rfl,rfl⟩
  ·exact up (b.clo k hk n hn x hx e)
  ·lia
 ·have:c'=c:=by
   rw[ir hc]at Ks;exact(Ua Ks).symm
  subst this;rcases mR hx with hx|hx
  ·exact up (b.cur x hx c' hc e)
  ·rw[ll hx];exact⟨_,Tn _ Tp,rfl,Xd KH⟩
theorem Bfs.next{ap:List HC}{i:Nat}{N:List Nd}{T:List HC}(b:Bfs ap i ap N T){c:Nd}(hc:N[i]?=some c):Bfs ap (i+1) [] N T:=by
 refine⟨b.z,b.len,b.nd,b.bd,b.tr,b.mono,fun n hn c' Ks=>?_,fun k hk n hn a ha e=>?_,(fun a ha=>nomatch ha),b.nm⟩
 ·have h1:=b.top n hn c hc;have h2:=b.mono i (i+1) c c' (Vy _) hc Ks;lia
 ·by_cases hki:k=i
  ·subst hki;rw[hc]at hn;cases hn;exact b.cur a ha c hc e
  ·exact b.clo k (by lia) n hn a ha e
theorem fA:∀(n:Nat) {l:List Int},l.Nodup->(∀x∈l,0<=x/\x<(n:Int))->l.length<=n
 | 0,l,_,hb=>by
  cases l with
  |nil=>exact Ts _
  |cons a l=>have:=hb a Tp;lia
 |n+1,l,nd,hb=>by
  have h1:=fA n (l:=l.erase (n:Int)) (nd.erase _) fun x hx=>by
   have h2:=(nd.mem_erase_iff.mp hx)
   have h3:=hb x h2.2;have h4:=h2.1;lia
  have:=List.length_erase_le (a:=(n:Int)) (l:=l);have h5:l.length<=(l.erase (n:Int)).length+1:=by
   by_cases hm:(n:Int)∈l
   ·rw[WL hm];have:=W7 hm;lia
   ·rw[List.erase_of_not_mem hm];lia
  lia
theorem Bfs.le12{ap:List HC}{i:Nat}{pre:List HC}{N:List Nd}{T:List HC}(b:Bfs ap i pre N T):N.length<=12:=by
 have:=fA 12 b.nd fun x hx=>by
  obtain⟨n,hn,rfl⟩:=qB hx;exact b.bd n hn
 rw[bp]at this;exact this
theorem xu(ap:List HC)(i:Nat)(pre:List HC)(N:List Nd)(T:List HC)(b:Bfs ap i pre N T)(c:Nd)(hc:N[i]?=some c)(a:HC)(ha:a∈ap)(Qm:0<=a.2.2/\a.2.2<12):
  ∃N' T',T'=jt c.1 T a/\Bfs ap i (pre++[a]) N' T'/\N'[i]?=some c/\fe [some (.f,.lst (ap.map eA)),some (.l .f,.lst ((N.map (·.1)).map D.int)),some (.l .f,.lst (T.map eA)),some (.f,.int (i:Int)),some (.f,eA a)]=.ok (.nx [some (.f,.lst (ap.map eA)),some (.l .f,.lst ((N'.map (·.1)).map D.int)),some (.l .f,.lst (T'.map eA)),some (.f,.int (i:Int)),some (.f,eA a)]):=by
 have NI:=b.le12;have Iy:=(nh hc).1;have MM:IH ((N.map (·.1)).map D.int) (i:Int)=some (.int c.1):=gW (by rw[List.getElem?_map,List.getElem?_map,hc];rfl);have z1:((N.map (·.1)).map D.int).length<sizeLine:=e8 (by rw[bp,bp];lia);have z2:(T.map eA).length<sizeLine:=e8 (by rw[bp];have:=b.len;lia);unfold fe eA;by_cases h1:a.1=c.1
 ·by_cases h2:a.2.2∈N.map (·.1)
  ·refine⟨N,T,by unfold jt;rw[TB (by rw[<-b.nm];exact fun z=>z.2 h2)],b.skip hc (.inr h2),hc,?_⟩;have e1:(a.1==c.1)=true:=T6.mpr h1;simp only[pv,seval,op,MM,e1,at2,h2,Vm,Vx,jv]
  ·refine⟨_,_,by unfold jt;rw[Tt (by rw[<-b.nm];exact⟨h1,h2⟩)],b.take hc ha Qm h1 h2,ir hc,?_⟩;have e1:(a.1==c.1)=true:=T6.mpr h1;have e:(fun a:HC=>D.tup [D.int a.1,D.str a.2.1,D.int a.2.2])=eA:=rfl;rw[e] at *;simp only[pv,seval,op,MM,e1,at2,h2,Vf,VI,z1,z2,Tu];rfl
 ·refine⟨N,T,by unfold jt;rw[TB (fun z=>h1 z.1)],b.skip hc (.inl h1),hc,?_⟩;have e1:(a.1==c.1)=false:=UC.mpr h1;simp only[pv,seval,op,MM,e1,jv]
theorem xv(ap:List HC)(hl:ap.length<=1000)(hb:∀a∈ap,0<=a.2.2/\a.2.2<12):∃N T,Bfs ap N.length [] N T/\Run ap N.length T/\eP [.lst (ap.map eA)]=.ok (.l .f,.lst (T.map eA)):=by
 unfold eP qi;rw[bh (h:=by rfl)];rw[aB (env':=[some (.f,.lst (ap.map eA)),some (.l .f,.lst [.int 0]),none,none,none]) (by simp only[pv,↓reduceIte,Nat.reduceAdd,Nat.reduceLT,Nat.reduceLeDiff,Nat.reduceEqDiff,op])];rw[aB (env':=[some (.f,.lst (ap.map eA)),some (.l .f,.lst [.int 0]),some (.l .f,.lst []),none,none]) (by simp only[pv,↓reduceIte,Nat.reduceAdd,Nat.reduceLT,Nat.reduceLeDiff,Nat.reduceEqDiff,op])];rw[aB (env':=[some (.f,.lst (ap.map eA)),some (.l .f,.lst [.int 0]),some (.l .f,.lst []),some (.f,.int 0),none]) (by simp only[pv,↓reduceIte,Nat.reduceAdd,Nat.reduceLT,Nat.reduceLeDiff,Nat.reduceEqDiff,op])];obtain⟨env',ew,N,T,i,t4,b,hi,JM,rfl⟩:=ka (c:=(Ic (av Kv (aq 3) (ai (aX fT (ah (aq 1) aD)))))) (g:=g6)
  (fun k env=>∃N T i t4,Bfs ap i [] N T/\i<=N.length/\Run ap i T/\k=13-i/\env=[some (.f,.lst (ap.map eA)),some (.l .f,.lst ((N.map (·.1)).map D.int)),some (.l .f,.lst (T.map eA)),some (.f,.int ((i:Nat):Int)),t4]) (fun env=>∃N T i t4,Bfs ap i [] N T/\i=N.length/\Run ap i T/\env=[some (.f,.lst (ap.map eA)),some (.l .f,.lst ((N.map (·.1)).map D.int)),some (.l .f,.lst (T.map eA)),some (.f,.int ((i:Nat):Int)),t4]) (by
  rintro k env ⟨N,T,i,t4,b,hi,JM,rfl,rfl⟩;have NI:=b.le12;by_cases Iy:i<N.length
  ·refine .inr ⟨[some (.f,.lst (ap.map eA)),some (.l .f,.lst ((N.map (·.1)).map D.int)),some (.l .f,.lst (T.map eA)),some (.f,.int ((i:Nat):Int)),t4],?_,?_⟩
   ·have:(i:Int)<(N.length:Int):=by lia
    simp only[pv,↓reduceIte,Nat.reduceAdd,Nat.reduceLT,Nat.reduceLeDiff,Nat.reduceEqDiff,op,bp,this,Vm]
   ·obtain⟨c,hc⟩:∃c,N[i]?=some c:=⟨N[i],xp Iy⟩
    have Nr:=Run.s JM (c:=c.1) (by rw[<-b.nm,List.getElem?_map,hc];rfl);obtain⟨env',ef,N',T',Q1,b',Ks,eT,rfl⟩:=for_list (a:=ax 4) (g:=fe) (e:=eA) ap (fun j env=>∃N T2 t4,Bfs ap i (ap.take j) N T2/\N[i]?=some c/\T2=(ap.take j).foldl (jt c.1) T/\env=[some (.f,.lst (ap.map eA)),some (.l .f,.lst ((N.map (·.1)).map D.int)),some (.l .f,.lst (T2.map eA)),some (.f,.int ((i:Nat):Int)),t4]) (by
     rintro j a env hj ⟨N,T2,t4,b,hc,eT,rfl⟩;have Rx:=T3 hj;obtain⟨N',T',eT',b',Ks,e⟩:=xu ap i _ N T2 b c hc a Rx (hb a Rx);have ht:ap.take (j+1)=ap.take j++[a]:=by rw[Uu,hj];rfl
     exact⟨_,rfl,_,e,N',T',some (.f,eA a),by rw[ht];exact b',Ks,by rw[eT',eT,ht,UK];rfl,rfl⟩) _ ⟨N,T,t4,by rw[Vd];exact b,hc,by rw[Vd];rfl,rfl⟩
    rw[Ux]at b' eT;have hlt':=(nh Ks).1;refine⟨_,13-(i+1),?_,by lia,N',T',i+1,Q1,b'.next Ks,by lia,by rw[eT];exact Nr,rfl,rfl⟩;unfold g6;rw[aB (env':=_) (by
     unfold my;simp only[pv,↓reduceIte,Nat.reduceAdd,Nat.reduceLT,Nat.reduceLeDiff,Nat.reduceEqDiff,op];exact ef)]
    unfold kU;simp only[pv,↓reduceIte,Nat.reduceAdd,Nat.reduceLT,Nat.reduceLeDiff,Nat.reduceEqDiff,op,Xo,Wy]
  ·refine .inl ⟨_,?_,N,T,i,t4,b,by lia,JM,rfl⟩;have:¬ (i:Int)<(N.length:Int):=by lia
   simp only[pv,↓reduceIte,Nat.reduceAdd,Nat.reduceLT,Nat.reduceLeDiff,Nat.reduceEqDiff,op,bp,this,Vf]) 100000 13 _ (by decide) ⟨[(0,[])],[],0,none,Bfs.start ap,Uj _,.z,rfl,rfl⟩
 subst hi;rw[aB (env':=_) (by
  unfold mz;exact ew)]
 unfold kW;exact⟨N,T,b,JM,by simp only[pv,↓reduceIte,Nat.reduceAdd,Nat.reduceLT,Nat.reduceLeDiff,Nat.reduceEqDiff,op]⟩
def HD(nZ:HR)(ap:List HC):D:=.tup [.tup (nZ.map D.str),.lst (ap.map eA)]
theorem gH(a:HC)(t1 t2 t3:Option R)(dS:PV.Env):fB 3 (az (ax 0) (az (ax 1) (az (ax 2) bW))) (eA a) (t1::t2::t3::dS)=.ok (some (.f,.int a.1)::some (.f,.str a.2.1)::some (.f,.int a.2.2)::dS):=by
 unfold eA;rw[LY,Tt (by simp),IV,Jx,Tt (by simp),IG,IV,Jx,Tt (by simp),IG,IV,Jx,Tt (by simp),IG];rfl
theorem tX(l:List Int):(m9 (.lst (l.map D.int))).bind cC=some l:=nP l
def pw(a:HC):Int:=if a.1<a.2.2 then a.2.2 else a.1
def aS(ap:List HC):Int:=1+NX.maxD (ap.map pw) 0
theorem kc{α:Type}{f:α->D}{l:List α}(h:∀a,dh (f a)=true):flatDs (l.map f)=true:=by
 rw[cy,U7,T8];intro a _;exact h a
theorem mT(nZ:HR)(ap:List HC)(hl:ap.length<=16777216):cD [HD nZ ap]=.ok (.f,.int (aS ap)):=by
 unfold cD mx;rw[bh (h:=by rfl)];simp only[pv,seval,op,HD];rw[cv (r:=fun a:HC=>D.int (pw a)) (fun env=>∃t1 t2 t3,env=[t1,t2,t3]) ap ?_ _ ⟨_,_,_,rfl⟩]
 ·rw[IG,Tt (cf (by rw[bp];exact hl)),IG,kc fun a=>iJ _];simp only[pv,seval,op];have e:(some (ap.map fun a=>D.int (pw a))).bind cC=some (ap.map pw):=by
   have:=tX (ap.map pw);rw[TN]at this;exact this
  rw[e];rfl
 ·rintro a _ env ⟨t1,t2,t3,rfl⟩;refine⟨_,gH a t1 t2 t3 _,?_⟩;simp only[pv,seval,op];exact⟨_,_,rfl,_,_,_,rfl⟩
def gI(n:Nd):D:=.tup (n.2.map D.str)
theorem o8:∀(N:List Nd) (k:Nat) (n:Nd),(N.map (·.1)).Nodup->N[k]?=some n->getD (N.map fun n=>D.int n.1) (N.map gI) (.int n.1)=some (gI n)
 |[],_,_,_,h=>by simp at h
 |m::N,0,n,_,h=>by
  simp at h;subst h;unfold getD;rw[gU,gU,Uh,List.find?_cons_of_pos (by show HE (.int m.1) (.int m.1)=true;rw[HE];exact T1 _)];rfl
 |m::N,k+1,n,nd,h=>by
  rw[List.getElem?_cons_succ]at h;rw[gU,TY]at nd;have ih:=o8 N k n nd.2 h;unfold getD at ih ⊢;have JD:n.1≠m.1:=fun e=>nd.1 (by rw[<-e];exact Ur.mpr ⟨n,T3 h,rfl⟩)
  rw[gU,gU,Uh,List.find?_cons_of_neg (by show ¬ HE (.int n.1) (.int m.1)=true;rw[HE,T6];exact JD)];exact ih
theorem xw(N:List Nd)(n:Nd)(h:n.1∉N.map (·.1)):lJ (N.map fun n=>D.int n.1) (N.map gI) (.int n.1) (gI n)=((N++[n]).map (fun n=>D.int n.1),(N++[n]).map gI):=by
 have e:(N.map fun n=>D.int n.1).any (HE (.int n.1))=false:=by
  rw[Ve,List.any_eq_false];intro m hm;show ¬ HE (.int n.1) (.int m.1)=true;rw[HE,T6];intro e;exact h (by rw[e];exact Ur.mpr ⟨m,hm,rfl⟩)
 unfold lJ;rw[e,TB Tw,Tu,Tu];rfl
theorem B0(a:HC):dh (eA a)=true:=rfl
theorem kC(as:List HC):flatDs (as.map eA)=true:=by
 rw[cy,U7,T8];exact fun p _=>B0 p
theorem Gk(w:HR)(m:List Nat)(h:w.length<=1000):cB (.tup (w.map D.str)) (.tup [.str m])=.ok (.f,.tup ((w++[m]).map D.str)):=by
 rw[BV,Tt (.inl (line_le (by rw[bp,TJ,Um];lia))),Tu];rfl
structure Found(ap:List HC)(N:List Nd):Prop where
 z:N[0]?=some (0,[])
 nd:(N.map (·.1)).Nodup
 le:N.length<=12
 bd:∀n∈N,0<=n.1/\n.1<12
 wl:∀n∈N,n.2.length<=12
 par:∀n∈N,n=(0,[])\/∃a∈ap,∃m∈N,a.1=m.1/\n=(a.2.2,m.2++[a.2.1])
 clo:∀n∈N,∀a∈ap,a.1=n.1->∃m∈N,m.1=a.2.2/\m.2.length<=n.2.length+1
theorem Bfs.wlen{ap:List HC}{i:Nat}{pre:List HC}{N:List Nd}{T:List HC}(b:Bfs ap i pre N T):∀(j:Nat) (n:Nd),N[j]?=some n->n.2.length<=j:=by
 intro j;induction j using Nat.strongRecOn with
 |_ j ih=>
  intro n hn;cases j with
  |zero=>
   rw[b.z]at hn;cases hn;exact Ts _
  |succ j=>
   have Iy:=(nh hn).1;have hl:=b.len;obtain⟨_,k,m,hk,hm,_,Ld⟩:=b.tr j T[j] (xp (by lia));rw[hn]at Ld;cases Ld;have:=ih k (by lia) m hm;show(m.2++[_]).length<=_;rw[j8,TJ,Um];lia
theorem Bfs.found{ap:List HC}{N:List Nd}{T:List HC}(b:Bfs ap N.length [] N T):Found ap N:=by
 refine⟨b.z,b.nd,b.le12,b.bd,fun n hn=>?_,fun n hn=>?_,fun n hn a ha e=>?_⟩
 ·obtain⟨j,hj⟩:=Ug.mp hn;have:=b.wlen j n hj;have:=(nh hj).1;have:=b.le12;lia
 ·obtain⟨j,hj⟩:=Ug.mp hn;cases j with
  |zero=>
   rw[b.z]at hj;cases hj;exact .inl rfl
  |succ j=>
   have Iy:=(nh hj).1;have hl:=b.len;obtain⟨ha,k,m,hk,hm,e,Ld⟩:=b.tr j T[j] (xp (by lia));rw[hj]at Ld;cases Ld;exact .inr ⟨_,ha,m,T3 hm,e,rfl⟩
 ·obtain⟨j,hj⟩:=Ug.mp hn;exact b.clo j (nh hj).1 n hj a ha e
def br(N:List Nd)(s:Int):HR:=((N.find? fun n=>n.1==s).map (·.2)).getD []
theorem tY{N:List Nd}(nd:(N.map (·.1)).Nodup){n:Nd}(h:n∈N):br N n.1=n.2:=by
 unfold br;induction N with
 |nil=>cases h
 |cons m N ih=>
  rw[gU,TY]at nd;rcases Tz.mp h with rfl|h
  ·rw[List.find?_cons_of_pos (by exact T1 _)];rfl
  ·have JD:m.1≠n.1:=fun e=>nd.1 (by rw[e];exact Ur.mpr ⟨n,h,rfl⟩)
   rw[List.find?_cons_of_neg (by simpa using JD)];exact ih nd.2 h
theorem xx(nZ:HR)(ap:List HC)(hl:ap.length<=1000)(hb:∀a∈ap,0<=a.2.2/\a.2.2<12)(all:∀N,Found ap N->∀s:Int,0<=s->s<aS ap->s∈N.map (·.1))(hs:0<=aS ap/\aS ap<=100):
  ∃N T,Bfs ap N.length [] N T/\Run ap N.length T/\eP [.lst (ap.map eA)]=.ok (.l .f,.lst (T.map eA))/\eR [HD nZ ap]=.ok (.l .f,.lst ((List.range (aS ap).toNat).map fun(s:Nat)=>.tup ((br N (s:Int)).map D.str))):=by
 obtain⟨N,T,b,JM,et⟩:=xv ap hl hb;refine⟨N,T,b,JM,et,?_⟩;have F:=b.found;unfold eR ql;rw[bh (h:=by rfl)];rw[aB (env':=[some (.f,HD nZ ap),some (.d,.dct false [.int 0] [.tup []]),none,none,none]) (by simp only[pv,↓reduceIte,Nat.reduceAdd,Nat.reduceLT,Nat.reduceLeDiff,Nat.reduceEqDiff,op])];have hlen:=b.len;have NI:=F.le;obtain⟨env',ef,t2,t3,t4,rfl⟩:=for_list (a:=fB 3 (az (ax 2) (az (ax 3) (az (ax 4) bW)))) (g:=g7) (e:=eA) T (fun j env=>∃t2 t3 t4,env=[some (.f,HD nZ ap),some (.d,.dct false ((N.take (j+1)).map fun n=>D.int n.1) ((N.take (j+1)).map gI)),t2,t3,t4]) (by
  rintro j a env hj ⟨t2,t3,t4,rfl⟩;refine⟨[some (.f,HD nZ ap),some (.d,.dct false ((N.take (j+1)).map fun n=>D.int n.1) ((N.take (j+1)).map gI)),some (.f,.int a.1),some (.f,.str a.2.1),some (.f,.int a.2.2)],rfl,_,?_,some (.f,.int a.1),some (.f,.str a.2.1),some (.f,.int a.2.2),rfl⟩;obtain⟨_,k,n,hk,hn,e,Ld⟩:=b.tr j a hj;have ht:N.take (j+1+1)=N.take (j+1)++[(a.2.2,n.2++[a.2.1])]:=by rw[Uu,Ld];rfl
  have Sg:((N.take (j+1)).map (·.1)).Nodup:=by rw[Vc];exact F.nd.take
  have Mc:(N.take (j+1))[k]?=some n:=by rw[List.getElem?_take_of_lt (by lia)];exact hn
  have hg:=o8 (N.take (j+1)) k n Sg Mc;have Ms:a.2.2∉(N.take (j+1)).map (·.1):=by
   have NY:((N.take (j+1+1)).map (·.1)).Nodup:=by rw[Vc];exact F.nd.take
   rw[ht,Tu,TM]at NY;intro hm;exact NY.2.2 _ hm a.2.2 (by simp) rfl
  have hp:=xw (N.take (j+1)) (a.2.2,n.2++[a.2.1]) Ms;have hw:=F.wl n (T3 hn);have ha:=Gk n.2 a.2.1 (by lia);have hd:LM (.dct false ((N.take (j+1)).map fun n=>D.int n.1) ((N.take (j+1)).map gI)) (.int a.1)=.ok (.f,.tup (n.2.map D.str)):=by
   unfold LM;dsimp only;rw[Tt (show dY false (.int a.1)=true from rfl),e,hg];rfl
  have hz:(decide (((N.take (j+1)).map fun n=>D.int n.1).length<sizeLine))=true:=TV (e8 (by rw[bp,UI];lia));unfold gI at hp;dsimp only at hp;have ew:(fun n:Nd=>D.tup (n.2.map D.str))=gI:=rfl;rw[ew]at hp;rw[ht];unfold g7;simp only[pv,↓reduceIte,Nat.reduceAdd,Nat.reduceLT,Nat.reduceLeDiff,Nat.reduceEqDiff,op,hd,ha,hz,UM,hp]) _ ⟨none,none,none,rfl⟩
 rw[show N.take (T.length+1)=N by rw[<-hlen];exact Ux]at ef;have h0:N.take (0+1)=[(0,[])]:=by rw[Uu,F.z];rfl
 rw[h0]at ef;rw[aB (env':=_) (by
  unfold mB;unfold HD at ef ⊢;simp only[pv,↓reduceIte,Nat.reduceAdd,Nat.reduceLT,Nat.reduceLeDiff,Nat.reduceEqDiff,op,et,kC];exact ef)]
 clear ef;unfold kX;have L9:=mT nZ ap (by lia);have hc:dm (ax 0) dW (av LM (aq 1) (aq 0)) ((List.range (aS ap).toNat).map fun(k:Nat)=>D.int (k:Int)) [none,some (.f,.dct false (N.map fun n=>D.int n.1) (N.map gI))]=.ok ((List.range (aS ap).toNat).map fun(s:Nat)=>.tup ((br N (s:Int)).map D.str)):=by
  refine cv (r:=fun s:Nat=>D.tup ((br N (s:Int)).map D.str)) (fun env=>∃t1,env=[t1,some (.f,.dct false (N.map fun n=>D.int n.1) (N.map gI))]) (List.range (aS ap).toNat) ?_ _ ⟨_,rfl⟩;rintro s Mk env ⟨t1,rfl⟩;rw[Uz]at Mk;obtain⟨n,hn,en⟩:=qB (all N F (s:Int) (by lia) (by lia));obtain⟨k,hk⟩:=Ug.mp hn;have hd:LM (.dct false (N.map fun n=>D.int n.1) (N.map gI)) (.int (s:Int))=.ok (.f,.tup ((br N (s:Int)).map D.str)):=by
   unfold LM;dsimp only;rw[Tt (show dY false (.int (s:Int))=true from rfl),<-en,o8 N k n F.nd hk,tY F.nd hn];rfl
  refine⟨[some (.f,.int (s:Int)),some (.f,.dct false (N.map fun n=>D.int n.1) (N.map gI))],rfl,?_⟩;simp only[pv,↓reduceIte,Nat.reduceAdd,Nat.reduceLT,Nat.reduceLeDiff,Nat.reduceEqDiff,op,hd];exact⟨_,_,rfl,_,rfl⟩
 have hf:flatDs ((List.range (aS ap).toNat).map fun(s:Nat)=>D.tup ((br N (s:Int)).map D.str))=true:=by
  rw[cy,U7,T8];intro s _;show dh (.tup _)=true;rw[eD,PV.flat_strs]
 unfold HD at L9;simp only[pv,↓reduceIte,Nat.reduceAdd,Nat.reduceLT,Nat.reduceLeDiff,Nat.reduceEqDiff,op,L9];rw[Tt (by lia)];simp only[pv,↓reduceIte,Nat.reduceAdd,Nat.reduceLT,Nat.reduceLeDiff,Nat.reduceEqDiff,op,hc];rw[Tt (cf (by rw[bp,TH];lia)),hf];simp only[pv,↓reduceIte,Nat.reduceAdd,Nat.reduceLT,Nat.reduceLeDiff,Nat.reduceEqDiff,op]
def ak(a:HC):List Key:=[.inl a.1,.inr (S a.2.1),.inl a.2.2]
def cS(a b:HC):Bool:=d9 (ak a) (ak b)
theorem S_inj{a b:List Nat}(h:S a=S b):a=b:=by
 have:=UN (fun s:Str=>s.cps.toList) h;simpa only[dP] using this
theorem Eg{a b:HC}(h:ak a=ak b):a=b:=by
 unfold ak at h;injection h with h1 h2;injection h2 with h2 h3;injection h3 with h3 _;injection h1 with h1;injection h2 with h2;injection h3 with h3;obtain⟨x,y,z⟩:=a;obtain⟨x',y',z'⟩:=b;simp only at h1 h2 h3;rw[h1,S_inj h2,h3]
theorem FY(a:HC):kT (ak a)=eA a:=by
 unfold kT ak eA;simp only[gU,Ul,kD,dP]
theorem xy{α β:Type}(f:α->β)(lt:β->β->Bool)(x:α):∀l:List α,ins lt (f x) (l.map f)=(ins (fun a b=>lt (f a) (f b)) x l).map f
 |[]=>rfl
 |y::ys=>by
  rw[gU,ins,ins];cases lt (f y) (f x) with
  |true=>rw[Tt rfl,Tt rfl,xy f lt x ys,gU]
  |false=>rw[TB Tw,TB Tw,gU,gU]
theorem mU{α β:Type}(f:α->β)(lt:β->β->Bool):∀l:List α,bX lt (l.map f)=(bX (fun a b=>lt (f a) (f b)) l).map f
 |[]=>rfl
 |x::l=>by
  show ins lt (f x) (bX lt (l.map f))=_;rw[mU f lt l,xy];rfl
theorem o9(as:List HC):as.map eA=(as.map ak).map kT:=by
 rw[TN];exact Up fun a _=>(FY a).symm
theorem B1(as:List HC)(vs:List D)(h:as.length<64):dX [.dct true (as.map eA) vs]=.ok (.l .f,.lst ((bX cS as).map eA)):=by
 unfold dX;dsimp only;rw[Tt (by rw[bp];exact h)];cases as with
 |nil=>rfl
 |cons a as=>
  have e1:jL ((a::as).map eA)=some ((a::as).map ak):=by rw[o9,iH]
  have e2:sameKinds (ak a) (as.map ak)=true:=by
   unfold sameKinds;rw[U7,TL,T8];exact⟨rfl,fun b _=>rfl⟩
  rw[e1,gU,gU];dsimp only;rw[Tt e2,<-gU,mU ak d9,o9];rfl
theorem Eh(a b:HC):HE (eA a) (eA b)=decide (a=b):=by
 obtain⟨x,y,z⟩:=a;obtain⟨x',y',z'⟩:=b;unfold eA;simp only[HE,ng];rw[T7];simp
def xA(as:List HC)(a:HC):List HC:=if a∈as then as else as++[a]
theorem xB(as:List HC)(vs:List D)(a:HC)(v:D):∃IX,lJ (as.map eA) vs (eA a) v=((xA as a).map eA,IX):=by
 have e:(as.map eA).any (HE (eA a))=decide (a∈as):=by
  rw[Ve,T7,Uy,TF];constructor
  ·rintro⟨b,hb,h⟩;have h:HE (eA a) (eA b)=true:=h;rw[Eh,TF]at h;rw[h];exact hb
  ·intro h;refine⟨a,h,?_⟩;show HE (eA a) (eA a)=true;rw[Eh,TF]
 unfold lJ xA;rw[e];by_cases h:a∈as
 ·rw[Tt h,Tt (TV h)];exact⟨_,rfl⟩
 ·rw[TB h,TB (by simpa using h),Tu];exact⟨_,rfl⟩
theorem gJ{as:List HC}{a b:HC}:b∈xA as a<->b∈as\/b=a:=by
 unfold xA;split
 ·rename_i h;exact⟨.inl,fun g=>g.elim id fun e=>e▸h⟩
 ·rw[TX,TU]
theorem pb(as:List HC)(a:HC):(xA as a).length<=as.length+1:=by
 unfold xA;split
 ·lia
 ·rw[j8];exact Ts _
theorem pd(nZ:HR)(h0:nZ≠[])(x:Int):∃m∈nZ,HG (.lst (nZ.map D.str)) (.int (x%(nZ.length:Int)))=.ok (.f,.str m):=by
 have hp:=UG.mpr h0;have h1:0<=x%(nZ.length:Int):=Int.emod_nonneg _ (by lia);have h2:x%(nZ.length:Int)<(nZ.length:Int):=X0 _ (by lia);obtain⟨j,ej⟩:=T5 h1;have hj:j<nZ.length:=by lia
 refine⟨nZ[j],Vq hj,?_⟩;have e:IH (nZ.map D.str) (j:Int)=some (.str nZ[j]):=gW (by rw[List.getElem?_map,xp hj];rfl);rw[ej,D4,e]
theorem Ei(x z:Int)(m:List Nat):dY true (.tup [.int x,.str m,.int z])=true:=rfl
theorem iu:∀(l:List Int) (b:Int),b<=l.foldl max b/\(∀x∈l,x<=l.foldl max b)/\(l.foldl max b=b\/l.foldl max b∈l)
 |[],b=>⟨XN _,fun _ h=>(nomatch h),.inl rfl⟩
 |a::l,b=>by
  obtain⟨h1,h2,h3⟩:=iu l (max b a);rw[Uc];refine⟨by lia,fun x hx=>?_,?_⟩
  ·rcases Tz.mp hx with rfl|hx
   ·lia
   ·exact h2 x hx
  ·rcases h3 with h3|h3
   ·rw[h3];by_cases h:b<=a
    ·exact .inr (by rw[Int.max_eq_right h];exact Tp)
    ·exact .inl (Int.max_eq_left (by lia))
   ·exact .inr (Tx _ h3)
theorem zj{ns:List Int}{x:Int}(h:x∈ns):x<=uw ns:=(iu ns _).2.1 x h
theorem zk{ns:List Int}(h:ns≠[]):uw ns∈ns:=by
 cases ns with
 |nil=>exact absurd rfl h
 |cons a l=>
  rcases(iu (a::l) a).2.2 with e|e
  ·show List.foldl max a (a::l)∈a::l;rw[e];exact Tp
  ·exact e
theorem B2{ns:List Int}{d x:Int}(h:x∈ns):x<=NX.maxD ns d:=by
 unfold NX.maxD;rw[TB (List.ne_nil_of_mem h)];exact zj h
theorem xC(ns:List Int)(d:Int):(ns=[]/\NX.maxD ns d=d)\/NX.maxD ns d∈ns:=by
 unfold NX.maxD;by_cases h:ns=[]
 ·exact .inl ⟨h,Tt h⟩
 ·rw[TB h];exact .inr (zk h)
theorem rV(a:HC):a.1<=pw a/\a.2.2<=pw a/\(pw a=a.1\/pw a=a.2.2):=by
 unfold pw;split
 ·exact⟨by lia,by lia,.inr rfl⟩
 ·exact⟨by lia,by lia,.inl rfl⟩
theorem qH{ap:List HC}{a:HC}(h:a∈ap):a.1<aS ap/\a.2.2<aS ap:=by
 have h1:=B2 (d:=0) (Ur.mpr ⟨a,h,rfl⟩:pw a∈ap.map pw);obtain⟨h2,h3,_⟩:=rV a;unfold aS;lia
theorem u0{ap:List HC}(h:∀a∈ap,0<=a.1/\0<=a.2.2):1<=aS ap:=by
 unfold aS;rcases xC (ap.map pw) 0 with⟨_,e⟩|e
 ·lia
 ·obtain⟨a,ha,e2⟩:=qB e;have:=h a ha;obtain⟨h1,h2,_⟩:=rV a;lia
theorem xD{α:Type}(lt:α->α->Bool){l:List α}{a:α}:a∈bX lt l<->a∈l:=(fS lt l).mem_iff
def cell(ns:List Int)(k:Nat):Int:=ns.getD k 0
theorem lp(ns:List Int)(k:Nat):aH [.lst (ns.map D.int),.int (k:Int)]=.ok (.f,.int (cell ns k)):=by
 unfold aH iT cell;rw[bh (h:=by rfl)];simp only[pv,seval,op,bp];by_cases h:k<ns.length
 ·have h1:(k:Int)<(ns.length:Int):=by lia
  simp only[h1,Vm,pv,seval,dB h]
 ·have h1:¬ (k:Int)<(ns.length:Int):=by lia
  simp only[h1,Vf,pv,seval,jv,List.getD_eq_getElem?_getD,List.getElem?_eq_none (Nat.le_of_not_lt h),WV]
theorem zl(x y:Int)(h:dq x=true):Bw (.int x) (.int y)=.ok (.f,.int (x*y)):=by rw[o6,h,Yi,Tt rfl]
theorem lO(x:Int)(h:0<=x)(h2:x<=4294967296):dq x=true:=by
 unfold dq;rw[TF];lia
theorem tZ(c:Int)(n:Nat)(hn:n<=1000):∃xs:List Int,xs.length=n/\aW [.int c,.int (n:Int)]=.ok (.l .f,.lst (xs.map D.int)):=by
 unfold aW gv;rw[bh (h:=by rfl)];rw[aB (env':=[some (.f,.int c),some (.f,.int (n:Int)),some (.l .f,.lst []),none,none]) (by simp only[pv,↓reduceIte,Nat.reduceAdd,Nat.reduceLT,Nat.reduceLeDiff,Nat.reduceEqDiff,op])];rw[aB (env':=[some (.f,.int c),some (.f,.int (n:Int)),some (.l .f,.lst []),some (.f,.int (c%2147483629+7)),none]) (by simp only[pv,↓reduceIte,Nat.reduceAdd,Nat.reduceLT,Nat.reduceLeDiff,Nat.reduceEqDiff,op,fZ _ 2147483629 (by decide)])];have hm:=dI c 2147483629 (by decide);obtain⟨env',ef,xs,x,t4,hx,h0,h1,rfl⟩:=kB (a:=ax 4) (g:=cx) (e:=fun k=>D.int (k:Int)) n (fun i env=>∃(xs:List Int) (x:Int) (t4:Option R),xs.length=i/\0<=x/\x<=2147483640/\env=[some (.f,.int c),some (.f,.int (n:Int)),some (.l .f,.lst (xs.map D.int)),some (.f,.int x),t4]) (by
  rintro k env hk ⟨xs,x,t4,hx,h0,h1,rfl⟩;have q:=dI (x*x+69069*x+5*(k:Int)+1) 2147483629 (by decide);refine⟨_,rfl,_,?_,xs++[(x*x+69069*x+5*(k:Int)+1)%2147483629 / 16],(x*x+69069*x+5*(k:Int)+1)%2147483629,some (.f,.int (k:Int)),by rw[j8,hx];rfl,q.1,by lia,rfl⟩;have z:(xs.map D.int).length<sizeLine:=e8 (by rw[bp];lia);unfold cx;simp only[pv,↓reduceIte,Nat.reduceAdd,Nat.reduceLT,Nat.reduceLeDiff,Nat.reduceEqDiff,op,zl x x (lO x h0 (by lia)),zl 69069 x (by decide),zl 5 (k:Int) (by decide),fZ _ 2147483629 (by decide),uX _ 16 (by decide) (by decide),z,Tu]) _ ⟨[],c%2147483629+7,none,rfl,by lia,by lia,rfl⟩
 rw[Ul]at ef;rw[aB (env':=_) (by
  unfold eU;simp only[pv,↓reduceIte,Nat.reduceAdd,Nat.reduceLT,Nat.reduceLeDiff,Nat.reduceEqDiff,op];rw[Tt (by lia)];simp only[pv,↓reduceIte,Nat.reduceAdd,Nat.reduceLT,Nat.reduceLeDiff,Nat.reduceEqDiff,op,T4];exact ef)]
 unfold d3;exact⟨xs,hx,by simp only[pv,↓reduceIte,Nat.reduceAdd,Nat.reduceLT,Nat.reduceLeDiff,Nat.reduceEqDiff,op]⟩
def Lz(Io:Int)(sp:Int)(k j:Nat):Nat:=97+((Io / ((j:Int)+64)+(j:Int)*(j:Int)+(if((j:Int)==sp)=true then(k:Int) else 0))%26).toNat
def LZ(Io:Int)(lg:Nat)(sp:Int)(k:Nat):List Nat:=(List.range lg).map (Lz Io sp k)
theorem B3(Io:Int)(lg:Nat)(sp:Int)(h0:0<=sp)(h1:sp<(lg:Int))(k k':Nat)(hk:k<=5)(hk':k'<=5)(e:fix (LZ Io lg sp k)=fix (LZ Io lg sp k')):k=k':=by
 have e:=BX (by unfold LZ;rw[bp,bp]) e;obtain⟨j,rfl⟩:=T5 h0;have e2:=UN (fun l=>l[j]?) e;unfold LZ at e2;simp only[List.getElem?_map,List.getElem?_range (show j<lg by lia),Option.map_some,Option.some.injEq]at e2;unfold Lz at e2;rw[Tt (T1 _),Tt (T1 _)]at e2;have b1:=dI (Io / ((j:Int)+64)+(j:Int)*(j:Int)+(k:Int)) 26 (by decide);have b2:=dI (Io / ((j:Int)+64)+(j:Int)*(j:Int)+(k':Int)) 26 (by decide);generalize Io / ((j:Int)+64)+(j:Int)*(j:Int)=z at *;lia
theorem Ej(Io:Int)(cnt:Nat)(lg sp:Int)(LL:Option R)(k j:Nat)(hj:j<=10)(t9:Option R):∃Q2,dr [some (.f,.int Io),some (.f,.int (cnt:Int)),some (.f,.str K3),some (.f,.int lg),some (.f,.int sp),LL,some (.f,.int (k:Int)),some (.f,.str ((List.range j).map (Lz Io sp k))),some (.f,.int (j:Int)),t9]=.ok (.nx [some (.f,.int Io),some (.f,.int (cnt:Int)),some (.f,.str K3),some (.f,.int lg),some (.f,.int sp),LL,some (.f,.int (k:Int)),some (.f,.str ((List.range (j+1)).map (Lz Io sp k))),some (.f,.int (j:Int)),Q2]):=by
 have hjj:=zl (j:Int) (j:Int) (qE j (by lia));have hd:=uX Io ((j:Int)+64) (by lia) (by lia);have hlen:((List.range j).map (Lz Io sp k)).length<=10:=by rw[bp,TH];lia
 rw[Ws,Tu,gU,Ul];generalize (List.range j).map (Lz Io sp k)=w at hlen ⊢;have key:∀st:Int,(bP 7 (av cB (aq 7) (ai (av HG (aq 2) (ai (av cV (aq 9) (ai (aE (.int 26))))))))) [some (.f,.int Io),some (.f,.int (cnt:Int)),some (.f,.str K3),some (.f,.int lg),some (.f,.int sp),LL,some (.f,.int (k:Int)),some (.f,.str w),some (.f,.int (j:Int)),some (.f,.int st)]=.ok (.nx [some (.f,.int Io),some (.f,.int (cnt:Int)),some (.f,.str K3),some (.f,.int lg),some (.f,.int sp),LL,some (.f,.int (k:Int)),some (.f,.str (w++[97+(st%26).toNat])),some (.f,.int (j:Int)),some (.f,.int st)]):=by
  intro st;obtain⟨m1,m2⟩:=dI st 26 (by decide);simp only[pv,seval,op,fZ _ 26 (by decide),Ef _ m1 m2,He w [97+(st%26).toNat] (by rw[TJ,Um];lia)]
 unfold dr;rw[aB (env':=[some (.f,.int Io),some (.f,.int (cnt:Int)),some (.f,.str K3),some (.f,.int lg),some (.f,.int sp),LL,some (.f,.int (k:Int)),some (.f,.str w),some (.f,.int (j:Int)),some (.f,.int (Io / ((j:Int)+64)+(j:Int)*(j:Int)))]) (by simp only[pv,seval,op,hd,hjj])];unfold Lz;generalize Io / ((j:Int)+64)+(j:Int)*(j:Int)=st;cases he:(j:Int)==sp with
 |true=>
  refine⟨some (.f,.int (st+(k:Int))),?_⟩;rw[aB (env':=[some (.f,.int Io),some (.f,.int (cnt:Int)),some (.f,.str K3),some (.f,.int lg),some (.f,.int sp),LL,some (.f,.int (k:Int)),some (.f,.str w),some (.f,.int (j:Int)),some (.f,.int (st+(k:Int)))]) (by simp only[pv,seval,op,he])];rw[Tt rfl];exact key _
 |false=>
  refine⟨some (.f,.int st),?_⟩;rw[aB (env':=[some (.f,.int Io),some (.f,.int (cnt:Int)),some (.f,.str K3),some (.f,.int lg),some (.f,.int sp),LL,some (.f,.int (k:Int)),some (.f,.str w),some (.f,.int (j:Int)),some (.f,.int st)]) (by simp only[pv,seval,op,he,jv])];rw[TB Tw,Int.add_zero];exact key _
theorem Ek(Io:Int)(cnt:Nat)(lg sp:Int)(hlg:0<=lg/\lg<=8)(l:HR)(hl:l.length<=10)(k:Nat)(t7 t8 t9:Option R):∃u7 u8 u9,dt [some (.f,.int Io),some (.f,.int (cnt:Int)),some (.f,.str K3),some (.f,.int lg),some (.f,.int sp),some (.l .f,.lst (l.map D.str)),some (.f,.int (k:Int)),t7,t8,t9]=.ok (.nx [some (.f,.int Io),some (.f,.int (cnt:Int)),some (.f,.str K3),some (.f,.int lg),some (.f,.int sp),some (.l .f,.lst ((l++[fix (LZ Io lg.toNat sp k)]).map D.str)),some (.f,.int (k:Int)),u7,u8,u9]):=by
 unfold dt;rw[aB (env':=[some (.f,.int Io),some (.f,.int (cnt:Int)),some (.f,.str K3),some (.f,.int lg),some (.f,.int sp),some (.l .f,.lst (l.map D.str)),some (.f,.int (k:Int)),some (.f,.str []),t8,t9]) (by simp only[pv,seval,op])];obtain⟨env',ef,Ry,Q2,rfl⟩:=kB (a:=ax 8) (g:=dr) (e:=fun k=>D.int (k:Int)) lg.toNat (fun i env=>∃(t8 t9:Option R),env=[some (.f,.int Io),some (.f,.int (cnt:Int)),some (.f,.str K3),some (.f,.int lg),some (.f,.int sp),some (.l .f,.lst (l.map D.str)),some (.f,.int (k:Int)),some (.f,.str ((List.range i).map (Lz Io sp k))),t8,t9]) (by
  rintro j env hj ⟨t8,t9,rfl⟩;obtain⟨Q2,e⟩:=Ej Io cnt lg sp (some (.l .f,.lst (l.map D.str))) k j (by lia) t9;exact⟨_,rfl,_,e,_,_,rfl⟩) _ ⟨t8,t9,rfl⟩
 rw[List.range_zero,Ul]at ef;rw[aB (env':=_) (by
  unfold iU;simp only[pv,seval,op];rw[Tt (by lia)];simp only[pv,seval,op];exact ef)]
 unfold g8;have z:(l.map D.str).length<sizeLine:=e8 (by rw[bp];lia);rw[show(List.range lg.toNat).map (Lz Io sp k)=LZ Io lg.toNat sp k from rfl];generalize LZ Io lg.toNat sp k=w;unfold fix qD;cases he:w==[109,111,118,101,115] with
 |true=>exact⟨some (.f,.str [109,111,118,101,115,97]),Ry,Q2,by simp only[pv,seval,op,he,z,Tu]⟩
 |false=>exact⟨some (.f,.str w),Ry,Q2,by simp only[pv,seval,op,he,z,jv,Tu]⟩
theorem B4(Io:Int)(cnt:Nat)(h5:cnt<=5):∃l:HR,l.length=cnt/\l.Nodup/\l.Pairwise (fun a b=>KI b a=false)/\c7 [.int Io,.int (cnt:Int)]=.ok (.l .f,.lst (l.map D.str)):=by
 unfold c7 kZ;rw[bh (h:=by rfl)];rw[aB (env':=[some (.f,.int Io),some (.f,.int (cnt:Int)),some (.f,.str K3),none,none,none,none,none,none,none]) (by simp only[pv,seval,op];rfl)];have m8:=dI Io 8 (by decide);rw[aB (env':=[some (.f,.int Io),some (.f,.int (cnt:Int)),some (.f,.str K3),some (.f,.int (1+Io%8)),none,none,none,none,none,none]) (by simp only[pv,seval,op,fZ _ 8 (by decide)])];generalize hlg:1+Io%8=lg;rw[aB (env':=[some (.f,.int Io),some (.f,.int (cnt:Int)),some (.f,.str K3),some (.f,.int lg),some (.f,.int (Io / 8%lg)),none,none,none,none,none]) (by simp only[pv,seval,op,uX _ 8 (by decide) (by decide),fZ _ lg (by lia)])];have MS:=dI (Io / 8) lg (by lia);generalize Io / 8%lg=sp at MS;rw[aB (env':=[some (.f,.int Io),some (.f,.int (cnt:Int)),some (.f,.str K3),some (.f,.int lg),some (.f,.int sp),some (.l .f,.lst []),none,none,none,none]) (by simp only[pv,seval,op])];obtain⟨env',ef,t6,t7,t8,t9,rfl⟩:=kB (a:=ax 6) (g:=dt) (e:=fun k=>D.int (k:Int)) cnt (fun i env=>∃(t6 t7 t8 t9:Option R),env=[some (.f,.int Io),some (.f,.int (cnt:Int)),some (.f,.str K3),some (.f,.int lg),some (.f,.int sp),some (.l .f,.lst (((List.range i).map fun k=>fix (LZ Io lg.toNat sp k)).map D.str)),t6,t7,t8,t9]) (by
  rintro k env hk ⟨t6,t7,t8,t9,rfl⟩;obtain⟨u7,u8,u9,e⟩:=Ek Io cnt lg sp (by lia) ((List.range k).map fun k=>fix (LZ Io lg.toNat sp k)) (by rw[bp,TH];lia) k t7 t8 t9;rw[show((List.range k).map fun k=>fix (LZ Io lg.toNat sp k))++[fix (LZ Io lg.toNat sp k)]=(List.range (k+1)).map fun k=>fix (LZ Io lg.toNat sp k) by rw[Ws,Tu];rfl]at e;exact⟨_,rfl,_,e,_,_,_,_,rfl⟩) _ ⟨none,none,none,none,rfl⟩
 rw[List.range_zero,Ul,Ul]at ef;rw[aB (env':=_) (by
  unfold iV;simp only[pv,seval,op];rw[Tt (by lia)];simp only[pv,seval,op,T4];exact ef)]
 unfold g9;have hlen:((List.range cnt).map fun k=>fix (LZ Io lg.toNat sp k)).length=cnt:=by rw[bp,TH]
 have M0:((List.range cnt).map fun k=>fix (LZ Io lg.toNat sp k)).Nodup:=e7 _ cnt fun i j hi hj e=>B3 Io lg.toNat sp MS.1 (by lia) i j (by lia) (by lia) e
 generalize ((List.range cnt).map fun k=>fix (LZ Io lg.toNat sp k))=l at hlen M0;exact⟨bX KI l,by rw[qC];exact hlen,(fS KI l).nodup_iff.mpr M0,cj l8 l,by simp only[pv,seval,op,BW l (by lia)]⟩
theorem mV:Ord cS:=⟨fun a=>l9.irr (ak a),fun a b c=>l9.trans (ak a) (ak b) (ak c),fun a b h1 h2=>Eg (l9.tot _ _ h1 h2)⟩
theorem Found.zero{ap:List HC}{N:List Nd}(F:Found ap N):(0:Int)∈N.map (·.1):=Ur.mpr ⟨(0,[]),T3 F.z,rfl⟩
structure Ch(nZ:HR)(ap:List HC):Prop where
 al:ap.length<=60
 bd:∀a∈ap,(0<=a.1/\a.1<12)/\0<=a.2.2/\a.2.2<12
 nm:∀a∈ap,a.2.1∈nZ
 st:1<=aS ap/\aS ap<=12
 all:∀N,Found ap N->∀s:Int,0<=s->s<aS ap->s∈N.map (·.1)
structure Ra(nZ:HR)(as:List HC)(mZ:Nat):Prop where
 mm:1<=mZ/\mZ<=12
 len:as.length<=60
 bd:∀a∈as,(0<=a.1/\a.1<(mZ:Int))/\0<=a.2.2/\a.2.2<(mZ:Int)
 nm:∀a∈as,a.2.1∈nZ
 rc:∀j:Nat,1<=j->j<mZ->∃a∈as,a.2.2=(j:Int)/\∃b:Nat,b<j/\a.1=(b:Int)
theorem qI{ap:List HC}{mZ:Nat}(hm:1<=mZ)(h:∀a∈ap,(0<=a.1/\a.1<(mZ:Int))/\0<=a.2.2/\a.2.2<(mZ:Int)):1<=aS ap/\aS ap<=(mZ:Int):=by
 refine⟨u0 fun a ha=>?_,?_⟩
 ·have:=h a ha;lia
 ·unfold aS;rcases xC (ap.map pw) 0 with⟨_,e⟩|e
  ·lia
  ·obtain⟨a,ha,e2⟩:=qB e;have:=h a ha;obtain⟨h1,h2,h3⟩:=rV a;lia
theorem Ra.sort{nZ:HR}{as:List HC}{mZ:Nat}(r:Ra nZ as mZ):Ra nZ (bX cS as) mZ:=by
 have mem:∀{a:HC},a∈bX cS as<->a∈as:=xD cS;refine⟨r.mm,by rw[qC];exact r.len,fun a ha=>r.bd a (mem.mp ha),fun a ha=>r.nm a (mem.mp ha),fun j h1 h2=>?_⟩;obtain⟨a,ha,q⟩:=r.rc j h1 h2;exact⟨a,mem.mpr ha,q⟩
theorem Ra.ch{nZ:HR}{as:List HC}{mZ:Nat}(r:Ra nZ as mZ):Ch nZ as:=by
 have hm:=r.mm;have L9:=qI hm.1 r.bd;refine⟨r.len,fun a ha=>?_,r.nm,by lia,fun N F s h0 h1=>?_⟩
 ·have:=r.bd a ha;lia
 ·have key:∀j:Nat,j<mZ->(j:Int)∈N.map (·.1):=by
   intro j;induction j using Nat.strongRecOn with
   |_ j ih=>
    intro hj;cases j with
    |zero=>exact F.zero
    |succ j=>
     obtain⟨a,ha,e1,b,hbj,e2⟩:=r.rc (j+1) (by lia) hj;obtain⟨n,hn,en⟩:=qB (ih b hbj (by lia));obtain⟨m,hm,em,_⟩:=F.clo n hn a ha (by rw[e2,en]);exact Ur.mpr ⟨m,hm,by rw[em,e1]⟩
  obtain⟨k,rfl⟩:=T5 h0;exact key k (by lia)
theorem rW(as:List HC)(h:as.length<64):dX [.lst (as.map eA)]=.ok (.l .f,.lst ((bX cS as).map eA)):=by
 have key:mf (as.map eA)=some ((bX cS as).map eA):=by
  cases as with
  |nil=>rfl
  |cons a as=>
   have e1:jL ((a::as).map eA)=some ((a::as).map ak):=by rw[o9,iH]
   have e2:sameKinds (ak a) (as.map ak)=true:=by
    unfold sameKinds;rw[U7,TL,T8];exact⟨rfl,fun b _=>rfl⟩
   unfold mf;rw[e1,gU,gU];dsimp only[eA,cC,iR];rw[Tt e2,<-gU,mU ak d9,o9];rfl
 unfold dX;dsimp only;rw[Tt (by rw[bp];exact h),key]
theorem Hk(nZ:HR)(h0:nZ≠[])(mZ:Nat)(hm:1<=mZ/\mZ<=6)(k:Nat)(hk:k+1<mZ)(as:List HC)(hl:as.length<=100)(vs:List D)(ys:List Int)(y1 y2:Int)(t4:Option R):
  ∃(nm:List Nat) (b:Nat) (IX:List D),nm∈nZ/\b<k+1/\∀p,
   eB [some (.pin p (.l .f),.lst (((ys++[y2])++[y1]).map D.int)),some (.f,.lst (nZ.map D.str)),some (.f,.int (mZ:Int)),some (.d,.dct true (as.map eA) vs),some (.f,.int (1+(k:Int)))]=.ok (.nx [some (.pin p (.l .f),.lst (ys.map D.int)),some (.f,.lst (nZ.map D.str)),some (.f,.int (mZ:Int)),some (.d,.dct true ((xA as ((b:Int),nm,1+(k:Int))).map eA) IX),some (.f,.int (1+(k:Int)))]):=by
 have hbm:=dI y1 (1+(k:Int)) (by lia);obtain⟨b,eb⟩:=T5 hbm.1;obtain⟨nm,Nt,em⟩:=pd nZ h0 y2;obtain⟨IX,ep⟩:=xB as vs ((b:Int),nm,1+(k:Int)) (.bl true);have hp:=UG.mpr h0;have hz:(decide (as.length<sizeLine))=true:=TV (e8 (by lia));unfold eA at ep;dsimp only at ep;have ee:(fun a:HC=>D.tup [D.int a.1,D.str a.2.1,D.int a.2.2])=eA:=rfl;rw[ee]at ep;refine⟨nm,b,IX,Nt,by lia,fun p=>?_⟩;unfold eB;simp only[pv,seval,op,uY,bp,fZ _ (1+(k:Int)) (by lia),eb,fZ _ (nZ.length:Int) (by lia),em,Ei,ep,hz,UM]
theorem Hl(nZ:HR)(h0:nZ≠[])(mZ:Nat)(hm:1<=mZ/\mZ<=6)(as:List HC)(hl:as.length<=100)(vs:List D)(ys:List Int)(y1 y2 y3:Int)(t4:Option R):
  ∃(a:HC) (IX:List D),((0<=a.1/\a.1<(mZ:Int))/\0<=a.2.2/\a.2.2<(mZ:Int))/\a.2.1∈nZ/\∀p,
   eh [some (.pin p (.l .f),.lst ((((ys++[y3])++[y2])++[y1]).map D.int)),some (.f,.lst (nZ.map D.str)),some (.f,.int (mZ:Int)),some (.d,.dct true (as.map eA) vs),t4]=.ok (.nx [some (.pin p (.l .f),.lst (ys.map D.int)),some (.f,.lst (nZ.map D.str)),some (.f,.int (mZ:Int)),some (.d,.dct true ((xA as a).map eA) IX),t4]):=by
 obtain⟨nm,Nt,em⟩:=pd nZ h0 y2;obtain⟨IX,ep⟩:=xB as vs (y1%(mZ:Int),nm,y3%(mZ:Int)) (.bl true);have hp:=UG.mpr h0;have hz:(decide (as.length<sizeLine))=true:=TV (e8 (by lia));unfold eA at ep;dsimp only at ep;have ee:(fun a:HC=>D.tup [D.int a.1,D.str a.2.1,D.int a.2.2])=eA:=rfl;rw[ee]at ep;refine⟨(y1%(mZ:Int),nm,y3%(mZ:Int)),IX,⟨dI _ _ (by lia),dI _ _ (by lia)⟩,Nt,fun p=>?_⟩;unfold eh;simp only[pv,seval,op,uY,bp,fZ _ (mZ:Int) (by lia),fZ _ (nZ.length:Int) (by lia),em,Ei,ep,hz,UM]
theorem Ra.add{nZ:HR}{as:List HC}{mZ:Nat}(r:Ra nZ as mZ){a:HC}(hl:as.length<60)(hb:(0<=a.1/\a.1<(mZ:Int))/\0<=a.2.2/\a.2.2<(mZ:Int))(hn:a.2.1∈nZ):Ra nZ (xA as a) mZ:=by
 refine⟨r.mm,by have:=pb as a;lia,fun x hx=>?_,fun x hx=>?_,fun j j1 j2=>?_⟩
 ·rcases gJ.mp hx with hx|rfl
  ·exact r.bd x hx
  ·exact hb
 ·rcases gJ.mp hx with hx|rfl
  ·exact r.nm x hx
  ·exact hn
 ·obtain⟨x,hx,q⟩:=r.rc j j1 j2;exact⟨x,gJ.mpr (.inl hx),q⟩
theorem FZ(nZ:HR)(h0:nZ≠[])(xs:List Int)(OF:xs.length=40):∃(as:List HC) (mZ:Nat) (ys:List Int),Ra nZ as mZ/\∀p,eI p [.lst (xs.map D.int),.lst (nZ.map D.str)]=.ok (.t [.l .f,.pin p (.l .f)],.tup [.lst ((bX cS as).map eA),.lst (ys.map D.int)]):=by
 obtain⟨xs,x0,rfl,h1⟩:=J0 (xs:=xs) (by lia);have hm:=dI x0 6 (by decide);obtain⟨mZ,em⟩:=T5 (show 0<=1+x0%6 by lia);obtain⟨E',ef,as,vs,ys,t4,hy,hl,hb,Nt,hr,rfl⟩:=o7 (a:=ax 4) (g:=eB) (e:=fun k=>D.int (1+(k:Int))) (mZ-1) (fun i E=>∃(as:List HC) (vs:List D) (ys:List Int) (t4:Option R),ys.length+2*i=39/\as.length<=i/\(∀a∈as,(0<=a.1/\a.1<(mZ:Int))/\0<=a.2.2/\a.2.2<(mZ:Int))/\(∀a∈as,a.2.1∈nZ)/\(∀j:Nat,1<=j->j<i+1->∃a∈as,a.2.2=(j:Int)/\∃b:Nat,b<j/\a.1=(b:Int))/\E=fun p=>[some (.pin p (.l .f),.lst (ys.map D.int)),some (.f,.lst (nZ.map D.str)),some (.f,.int (mZ:Int)),some (.d,.dct true (as.map eA) vs),t4]) (by
  rintro k E hk ⟨as,vs,ys,t4,hy,hl,hb,Nt,hr,rfl⟩;obtain⟨ys,y1,rfl,q1⟩:=J0 (xs:=ys) (by lia);obtain⟨ys,y2,rfl,q2⟩:=J0 (xs:=ys) (by lia);obtain⟨nm,b,IX,n1,n2,e⟩:=Hk nZ h0 mZ (by lia) k (by lia) as (by lia) vs ys y1 y2 t4;refine⟨_,fun p=>rfl,_,e,xA as ((b:Int),nm,1+(k:Int)),IX,ys,_,by lia,by have:=pb as ((b:Int),nm,1+(k:Int));lia,fun a ha=>?_,fun a ha=>?_,fun j j1 j2=>?_,rfl⟩
  ·rcases gJ.mp ha with ha|rfl
   ·exact hb a ha
   ·dsimp only;lia
  ·rcases gJ.mp ha with ha|rfl
   ·exact Nt a ha
   ·exact n1
  ·by_cases hj:j=k+1
   ·subst hj;exact⟨_,gJ.mpr (.inr rfl),by dsimp only;lia,b,n2,rfl⟩
   ·obtain⟨a,ha,q⟩:=hr j j1 (by lia);exact⟨a,gJ.mpr (.inl ha),q⟩) _ ⟨[],[],xs,none,by lia,Ts _,(fun _ h=>nomatch h),(fun _ h=>nomatch h),(fun j j1 j2=>by lia),rfl⟩
 have r:Ra nZ as mZ:=⟨by lia,by lia,hb,Nt,fun j j1 j2=>hr j j1 (by lia)⟩
 obtain⟨ys,y1,rfl,q1⟩:=J0 (xs:=ys) (by lia);have hm4:=dI y1 4 (by decide);obtain⟨E',ef2,SY,vs2,Ru,t42,hy2,NJ,r2,rfl⟩:=o7 (a:=ax 4) (g:=eh) (e:=fun k=>D.int (k:Int)) (y1%4).toNat (fun i E=>∃(as:List HC) (vs:List D) (ys:List Int) (t4:Option R),12<=ys.length+3*i/\as.length<=6+i/\Ra nZ as mZ/\E=fun p=>[some (.pin p (.l .f),.lst (ys.map D.int)),some (.f,.lst (nZ.map D.str)),some (.f,.int (mZ:Int)),some (.d,.dct true (as.map eA) vs),t4]) (by
  rintro k E hk ⟨as,vs,ys,t4,hy,hl,r,rfl⟩;obtain⟨ys,y1,rfl,q1⟩:=J0 (xs:=ys) (by lia);obtain⟨ys,y2,rfl,q2⟩:=J0 (xs:=ys) (by lia);obtain⟨ys,y3,rfl,q3⟩:=J0 (xs:=ys) (by lia);obtain⟨a,IX,n1,n2,e⟩:=Hl nZ h0 mZ (by lia) as (by lia) vs ys y1 y2 y3 (some (.f,.int (k:Int)));exact⟨_,fun p=>rfl,_,e,xA as a,IX,ys,_,by lia,by have:=pb as a;lia,r.add (by lia) n1 n2,rfl⟩) _ ⟨as,vs,ys,t4,by lia,by lia,r,rfl⟩
 refine⟨SY,mZ,Ru,r2,fun p=>?_⟩;unfold eI nY;rw[lN (h:=by rfl)];rw[aB (env':=[some (.pin p (.l .f),.lst (xs.map D.int)),some (.f,.lst (nZ.map D.str)),some (.f,.int (mZ:Int)),none,none]) (by simp only[pv,seval,op,uY,fZ _ 6 (by decide),em])];rw[aB (env':=[some (.pin p (.l .f),.lst (xs.map D.int)),some (.f,.lst (nZ.map D.str)),some (.f,.int (mZ:Int)),some (.d,.dct true [] []),none]) (by simp only[pv,seval,op])];have ef:=ef p;rw[Ul]at ef;rw[aB (env':=_) (by
  unfold k9;simp only[pv,seval,op];rw[Tt (by lia),show((mZ:Int)-1).toNat=mZ-1 by lia];simp only[pv,seval,op];exact ef)]
 unfold jZ;rw[aB (env':=_) (by
  unfold k8;simp only[pv,seval,op,uY,fZ _ 4 (by decide)];rw[Tt (by lia)];simp only[pv,seval,op];exact ef2 p)]
 unfold jY;simp only[pv,seval,op,B1 SY vs2 (by lia),iq]
structure Wide(nZ:HR)(ap:List HC):Prop where
 al:ap.length<=60
 nl:nZ.length<=5
 bd:∀a∈ap,(0<=a.1/\a.1<12)/\0<=a.2.2/\a.2.2<12
 nm:∀a∈ap,a.2.1∈nZ
 st:1<=aS ap/\aS ap<=12
 all:∀N,Found ap N->∀s:Int,0<=s->s<aS ap->s∈N.map (·.1)
 ns:nZ.Pairwise (fun a b=>KI b a=false)
 as:ap.Pairwise (fun a b=>cS b a=false)
theorem Ch.wide{nZ:HR}{ap:List HC}(c:Ch nZ ap)(h:nZ.length<=5)(ns:nZ.Pairwise (fun a b=>KI b a=false))(as:ap.Pairwise (fun a b=>cS b a=false)):Wide nZ ap:=⟨c.al,h,c.bd,c.nm,c.st,c.all,ns,as⟩
theorem og(n:Nat)(ap:List HC):plainDs (n+3) (ap.map eA)=true:=by
 induction ap with
 |nil=>rfl
 |cons a l ih=>
  rw[gU,plainDs,ih];rfl
theorem B5(ys:List Int):flatDs (ys.map D.int)=true:=HF ys
theorem xE(nZ:HR)(h0:nZ≠[])(lg:Nat)(xs:List Int)(hx:lg<=xs.length):∃(as:List HC) (ys:List Int),ys.length+lg=xs.length/\as.length=lg/\(∀a∈as,∃k:Nat,k<lg/\a.1=(k:Int)/\a.2.2=(k:Int)+1/\a.2.1∈nZ)/\(∀k:Nat,k<lg->∃a∈as,a.1=(k:Int)/\a.2.2=(k:Int)+1)/\
  BB (ax 0) dW (fP (aA (aR 0) (aA (av HG (aq 1) (ai (av cV (ai (d7 2)) (ai (aX fT (ah (aq 1) aD)))))) (aA (av cB (aq 0) (ai (aE (.int 1)))) ba)))) ((List.range lg).map fun(k:Nat)=>D.int (k:Int)) (fun q=>[none,some (.f,.lst (nZ.map D.str)),some (.pin q (.l .f),.lst (xs.map D.int))]) 2 (as.map eA,ys.map D.int):=by
 obtain⟨rs,E2,h1,as,ys,t0,hy,hl,hb,hr,OG,rfl⟩:=gG (a:=ax 0) (f:=fP (aA (aR 0) (aA (av HG (aq 1) (ai (av cV (ai (d7 2)) (ai (aX fT (ah (aq 1) aD)))))) (aA (av cB (aq 0) (ai (aE (.int 1)))) ba)))) (e:=fun(k:Nat)=>D.int (k:Int)) (fun i E acc=>∃(as:List HC) (ys:List Int) (t0:Option R),ys.length+i=xs.length/\as.length=i/\(∀a∈as,∃k:Nat,k<i/\a.1=(k:Int)/\a.2.2=(k:Int)+1/\a.2.1∈nZ)/\(∀k:Nat,k<i->∃a∈as,a.1=(k:Int)/\a.2.2=(k:Int)+1)/\acc=as.map eA/\E=fun q=>[t0,some (.f,.lst (nZ.map D.str)),some (.pin q (.l .f),.lst (ys.map D.int))]) (List.range lg) 0 (fun q=>[none,some (.f,.lst (nZ.map D.str)),some (.pin q (.l .f),.lst (xs.map D.int))]) [] ⟨[],xs,none,by lia,rfl,(fun _ h=>nomatch h),(fun k hk=>by lia),rfl,rfl⟩ (by
  rintro k x E acc hk ⟨as,ys,t0,hy,hl,hb,hr,rfl,rfl⟩;obtain⟨MJ,Mc⟩:=nh hk;rw[TH]at MJ;rw[U8]at Mc;subst Mc;obtain⟨ys,y1,rfl,q1⟩:=J0 (xs:=ys) (by lia);obtain⟨nm,Nt,em⟩:=pd nZ h0 y1;have hp:=UG.mpr h0;refine⟨fun q=>[some (.f,.int (k:Int)),some (.f,.lst (nZ.map D.str)),some (.pin q (.l .f),.lst ((ys++[y1]).map D.int))],fun p=>rfl,.f,eA ((k:Int),nm,(k:Int)+1),fun q=>[some (.f,.int (k:Int)),some (.f,.lst (nZ.map D.str)),some (.pin q (.l .f),.lst (ys.map D.int))],fun p=>?_,as++[((k:Int),nm,(k:Int)+1)],ys,some (.f,.int (k:Int)),by lia,by rw[j8,hl];rfl,fun a ha=>?_,fun j hj=>?_,by rw[Tu];rfl,rfl⟩
  ·simp only[pv,seval,op,xt,bp,fZ _ (nZ.length:Int) (by lia),em];rfl
  ·rcases mR ha with ha|ha
   ·obtain⟨j,h1,h2⟩:=hb a ha;exact⟨j,by lia,h2⟩
   ·rw[ll ha];exact⟨k,by lia,rfl,rfl,Nt⟩
  ·by_cases e:j=k
   ·subst e;exact⟨_,Tn _ (TU.mpr rfl),rfl,rfl⟩
   ·obtain⟨a,ha,q⟩:=hr j (by lia);exact⟨a,Tq _ ha,q⟩)
 rw[TH,V0] at *;rw[Vl]at OG;exact⟨as,ys,hy,hl,hb,hr,fun q=>⟨_,by rw[h1 q,OG],rfl⟩⟩
theorem El(nZ:HR)(h0:nZ≠[])(xs:List Int)(OF:xs.length=40):∃(as:List HC) (mZ:Nat) (ys:List Int),Ra nZ as mZ/\∀p,cZ p [.lst (xs.map D.int),.lst (nZ.map D.str)]=.ok (.t [.l .f,.pin p (.l .f)],.tup [.lst ((bX cS as).map eA),.lst (ys.map D.int)]):=by
 obtain⟨xs,x0,rfl,h1⟩:=J0 (xs:=xs) (by lia);have hm:=dI x0 7 (by decide);obtain⟨lg,em⟩:=T5 (show 0<=1+x0%7 by lia);obtain⟨as,ys,hy,hl,hb,hr,hc⟩:=xE nZ h0 lg xs (by lia);have hc:=oP hc;obtain⟨ys,y0,rfl,q0⟩:=J0 (xs:=ys) (by lia);obtain⟨zs,y1,rfl,q1⟩:=J0 (xs:=ys) (by lia);obtain⟨zs,y2,rfl,q2⟩:=J0 (xs:=zs) (by lia);have hp:=UG.mpr h0;obtain⟨nm,Nt,em1⟩:=pd nZ h0 y1;have hz:(as.map eA).length<sizeLine:=e8 (by rw[bp];lia);have Rk:(as.map eA).length<=sizeLine:=Wx hz;have m3:=dI y2 (lg:Int) (by lia);have K4:=kC as;have S1:=B5 (((zs++[y2])++[y1])++[y0]);have ra:Ra nZ as (lg+1):=by
  refine⟨by lia,by lia,fun a ha=>?_,fun a ha=>?_,fun j j1 j2=>?_⟩
  ·obtain⟨k,h1,h2,h3,_⟩:=hb a ha;lia
  ·obtain⟨k,h1,h2,h3,h4⟩:=hb a ha;exact h4
  ·obtain⟨a,ha,h1,h2⟩:=hr (j-1) (by lia);exact⟨a,ha,by lia,j-1,by lia,h1⟩
 cases he:(y0%3==0) with
 |false=>
  refine⟨as,lg+1,(zs++[y2])++[y1],ra,fun p=>?_⟩;unfold cZ ji;rw[lN (h:=by rfl)];rw[aB (env':=[some (.pin p (.l .f),.lst (xs.map D.int)),some (.f,.lst (nZ.map D.str)),some (.f,.int (lg:Int)),none]) (by simp only[pv,seval,op,uY,fZ _ 7 (by decide),em])];rw[aB (env':=[some (.pin p (.l .f),.lst ((((zs++[y2])++[y1])++[y0]).map D.int)),some (.f,.lst (nZ.map D.str)),some (.f,.int (lg:Int)),some (.l .f,.lst (as.map eA))]) (by
   generalize (fP (aA (aR 0) (aA (av HG (aq 1) (ai (av cV (ai (d7 2)) (ai (aX fT (ah (aq 1) aD)))))) (aA (av cB (aq 0) (ai (aE (.int 1)))) ba))))=FF at hc ⊢;simp only[J6,lM,pv,seval,op];rw[Tt (by lia)];simp only[pv,seval,op,T4,jr,hc,Rk,K4,S1,ZP])]
  rw[aB (env':=[some (.pin p (.l .f),.lst (((zs++[y2])++[y1]).map D.int)),some (.f,.lst (nZ.map D.str)),some (.f,.int (lg:Int)),some (.l .f,.lst (as.map eA))]) (by
   simp only[pv,seval,op,uY,fZ _ 3 (by decide),he,jv])]
  simp only[pv,seval,op,rW as (by lia),iq]
 |true=>
  refine⟨as++[((lg:Int),nm,y2%(lg:Int))],lg+1,zs,?_,fun p=>?_⟩
  ·refine⟨ra.mm,by rw[j8,U5];lia,fun a ha=>?_,fun a ha=>?_,fun j j1 j2=>?_⟩
   ·rcases mR ha with ha|ha
    ·exact ra.bd a ha
    ·rw[ll ha];dsimp only;lia
   ·rcases mR ha with ha|ha
    ·exact ra.nm a ha
    ·rw[ll ha];exact Nt
   ·obtain⟨a,ha,q⟩:=ra.rc j j1 j2;exact⟨a,Tq _ ha,q⟩
  unfold cZ ji;rw[lN (h:=by rfl)];rw[aB (env':=[some (.pin p (.l .f),.lst (xs.map D.int)),some (.f,.lst (nZ.map D.str)),some (.f,.int (lg:Int)),none]) (by simp only[pv,seval,op,uY,fZ _ 7 (by decide),em])];rw[aB (env':=[some (.pin p (.l .f),.lst ((((zs++[y2])++[y1])++[y0]).map D.int)),some (.f,.lst (nZ.map D.str)),some (.f,.int (lg:Int)),some (.l .f,.lst (as.map eA))]) (by
   generalize (fP (aA (aR 0) (aA (av HG (aq 1) (ai (av cV (ai (d7 2)) (ai (aX fT (ah (aq 1) aD)))))) (aA (av cB (aq 0) (ai (aE (.int 1)))) ba))))=FF at hc ⊢;simp only[J6,lM,pv,seval,op];rw[Tt (by lia)];simp only[pv,seval,op,T4,jr,hc,Rk,K4,S1,ZP])]
  rw[aB (env':=[some (.pin p (.l .f),.lst (zs.map D.int)),some (.f,.lst (nZ.map D.str)),some (.f,.int (lg:Int)),some (.l .f,.lst ((as++[((lg:Int),nm,y2%(lg:Int))]).map eA))]) (by
   rw[show(as++[((lg:Int),nm,y2%(lg:Int))]).map eA=as.map eA++[.tup [.int (lg:Int),.str nm,.int (y2%(lg:Int))]] by rw[Tu];rfl];simp only[pv,seval,op,uY,fZ _ 3 (by decide),he,bp,fZ _ (nZ.length:Int) (by lia),fZ _ (lg:Int) (by lia),em1,(e8 (by lia):as.length<sizeLine)])]
  simp only[pv,seval,op,rW (as++[((lg:Int),nm,y2%(lg:Int))]) (by rw[j8,U5];lia),iq]
abbrev Gd:=Int×Int×Int
abbrev Sd:=Gd×Gd
abbrev Sp:=Int×Int
def eG(g:Gd):D:=.tup [.int g.1,.int g.2.1,.int g.2.2]
def II(s:Sd):D:=.lst [eG s.1,eG s.2]
def Im(s:Sp):D:=.tup [.int s.1,.int s.2]
def Nu(t:Int)(g:Gd):Prop:=(-3<=g.2.2/\g.2.2<=3)/\∀n,g.1<=n->n<=g.2.1->0<=n+g.2.2/\n+g.2.2<=t
theorem ua(sd:List D)(hsd:sd.length<=100)(t:Int)(ht:0<=t/\t<=3)(ys:List Int)(y1 y2 y3:Int):∃(g:Gd) (u8 u9 L0:Option R),Nu t g/\∀(p:Addr) (A1 A2 A3 A4 A5 t8 t9 MN:Option R),
  d4 [some (.pin p (.l .f),.lst ((((ys++[y3])++[y2])++[y1]).map D.int)),A1,A2,A3,A4,A5,some (.l .f,.lst sd),some (.f,.int t),t8,t9,MN]=.ok (.nx [some (.pin p (.l .f),.lst (ys.map D.int)),A1,A2,A3,A4,A5,some (.l .f,.lst (sd++[eG g])),some (.f,.int t),u8,u9,L0]):=by
 have hz:sd.length<sizeLine:=e8 (by lia);have b1:=dI y1 (2*t+1) (by lia);have b2:=dI y2 2 (by decide);have b3:=dI y3 4 (by decide);refine⟨((if 0<0-(y1%(2*t+1)-t) then 0-(y1%(2*t+1)-t) else 0)+y2%2,(if t-(y1%(2*t+1)-t)<t then t-(y1%(2*t+1)-t) else t)-y3%4 / 3,y1%(2*t+1)-t),some (.f,.int (y1%(2*t+1)-t)),some (.f,.int ((if 0<0-(y1%(2*t+1)-t) then 0-(y1%(2*t+1)-t) else 0)+y2%2)),some (.f,.int ((if t-(y1%(2*t+1)-t)<t then t-(y1%(2*t+1)-t) else t)-y3%4 / 3)),?_,fun p A1 A2 A3 A4 A5 t8 t9 MN=>?_⟩
 ·generalize y1%(2*t+1)=c at b1;refine⟨by dsimp only;lia,?_⟩;intro n h1 h2;dsimp only at h1 h2 ⊢;split at h1 <;> split at h2 <;> lia
 ·unfold d4 eG;rw[aB (env':=[some (.pin p (.l .f),.lst (((ys++[y3])++[y2]).map D.int)),A1,A2,A3,A4,A5,some (.l .f,.lst sd),some (.f,.int t),some (.f,.int (y1%(2*t+1)-t)),t9,MN]) (by simp only[pv,seval,op,uY,zl 2 t (by decide),fZ _ (2*t+1) (by lia)])];generalize y1%(2*t+1)-t=c;rw[aB (env':=[some (.pin p (.l .f),.lst ((ys++[y3]).map D.int)),A1,A2,A3,A4,A5,some (.l .f,.lst sd),some (.f,.int t),some (.f,.int c),some (.f,.int ((if 0<0-c then 0-c else 0)+y2%2)),MN]) (by simp only[pv,seval,op,uY,fZ _ 2 (by decide)])];rw[aB (env':=[some (.pin p (.l .f),.lst (ys.map D.int)),A1,A2,A3,A4,A5,some (.l .f,.lst sd),some (.f,.int t),some (.f,.int c),some (.f,.int ((if 0<0-c then 0-c else 0)+y2%2)),some (.f,.int ((if t-c<t then t-c else t)-y3%4 / 3))]) (by simp only[pv,seval,op,uY,fZ _ 4 (by decide),uX _ 3 (by decide) (by decide)])];simp only[pv,seval,op,hz]
theorem ve(cnt:Nat)(t0 t1:Int)(h0:0<=t0/\t0<=3)(h1:0<=t1/\t1<=3)(s:Sp)(gs:List Sd)(hg:gs.length<=100)(o2:O)(ho:fz o2=.f)(ys:List Int)(hy:6<=ys.length)(k:Int)(t6 t7 t8 t9 MN:Option R):
  ∃(g:Sd) (zs:List Int) (u7 u8 u9 L0:Option R),Nu t0 g.1/\Nu t1 g.2/\zs.length+6=ys.length/\∀p:Addr,cT [some (.pin p (.l .f),.lst (ys.map D.int)),some (.f,.int (cnt:Int)),some (o2,.lst [.int t0,.int t1]),some (.f,Im s),some (.l .f,.lst (gs.map II)),some (.f,.int k),t6,t7,t8,t9,MN]=.ok (.nx [some (.pin p (.l .f),.lst (zs.map D.int)),some (.f,.int (cnt:Int)),some (.f,.lst [.int t0,.int t1]),some (.f,Im s),some (.l .f,.lst ((gs++[g]).map II)),some (.f,.int k),some (.f,II g),u7,u8,u9,L0]):=by
 obtain⟨ys,y1,rfl,q1⟩:=J0 (xs:=ys) (by lia);obtain⟨ys,y2,rfl,q2⟩:=J0 (xs:=ys) (by lia);obtain⟨ys,y3,rfl,q3⟩:=J0 (xs:=ys) (by lia);obtain⟨ys,y4,rfl,q4⟩:=J0 (xs:=ys) (by lia);obtain⟨ys,y5,rfl,q5⟩:=J0 (xs:=ys) (by lia);obtain⟨ys,y6,rfl,q6⟩:=J0 (xs:=ys) (by lia);obtain⟨g1,u8,u9,L0,k1,e1⟩:=ua [] (by decide) t0 h0 (((ys++[y6])++[y5])++[y4]) y1 y2 y3;obtain⟨g2,v8,v9,v10,k2,e2⟩:=ua [eG g1] (by simp) t1 h1 ys y4 y5 y6;rw[Vl]at e1;rw[VH,Vl]at e2;have hz:(gs.map II).length<sizeLine:=e8 (by rw[bp];lia);refine⟨(g1,g2),ys,some (.f,.int t1),v8,v9,v10,k1,k2,by lia,fun p=>?_⟩;unfold cT;rw[aB (env':=[some (.pin p (.l .f),.lst (((((((ys++[y6])++[y5])++[y4])++[y3])++[y2])++[y1]).map D.int)),some (.f,.int (cnt:Int)),some (o2,.lst [.int t0,.int t1]),some (.f,Im s),some (.l .f,.lst (gs.map II)),some (.f,.int k),some (.l .f,.lst []),t7,t8,t9,MN]) (by simp only[pv,seval,op])];rw[aB (env':=[some (.pin p (.l .f),.lst (ys.map D.int)),some (.f,.int (cnt:Int)),some (.f,.lst [.int t0,.int t1]),some (.f,Im s),some (.l .f,.lst (gs.map II)),some (.f,.int k),some (.l .f,.lst [eG g1,eG g2]),some (.f,.int t1),v8,v9,v10]) (by
  unfold hJ;simp only[pv,seval,op,ho,e1,e2])]
 unfold gP;rw[Tu,gU,Ul,show II (g1,g2)=.lst [eG g1,eG g2] from rfl];simp only[pv,seval,op,hz]
theorem ub(cnt:Nat)(hc:cnt<=5)(xs:List Int)(OF:xs.length=40):∃(t0 t1:Int) (s:Sp) (gs:List Sd) (ys:List Int),(0<=t0/\t0<=3)/\(0<=t1/\t1<=1)/\(0<=s.1/\s.1<=t0)/\(0<=s.2/\s.2<=t1)/\gs.length=cnt/\(∀g∈gs,Nu t0 g.1/\Nu t1 g.2)/\
  ∀p:Addr,bF p [.lst (xs.map D.int),.int (cnt:Int)]=.ok (.t [.f,.pin p (.l .f)],.tup [.tup [.lst [.int t0,.int t1],Im s,.lst (gs.map II)],.lst (ys.map D.int)]):=by
 obtain⟨ys,y1,rfl,q1⟩:=J0 (xs:=xs) (by lia);obtain⟨ys,y2,rfl,q2⟩:=J0 (xs:=ys) (by lia);obtain⟨ys,y3,rfl,q3⟩:=J0 (xs:=ys) (by lia);obtain⟨ys,y4,rfl,q4⟩:=J0 (xs:=ys) (by lia);have b1:=dI y1 3 (by decide);have b2:=dI y2 2 (by decide);have b3:=dI y3 (1+y1%3+1) (by lia);have b4:=dI y4 (y2%2+1) (by lia);obtain⟨E',ef,gs,zs,o2,t5,t6,t7,t8,t9,MN,ho,hy,hl,hg,rfl⟩:=o7 (a:=ax 5) (g:=cT) (e:=fun k=>D.int (k:Int)) cnt (fun i E=>∃(gs:List Sd) (zs:List Int) (o2:O) (t5 t6 t7 t8 t9 MN:Option R),fz o2=.f/\zs.length+6*i=36/\gs.length=i/\(∀g∈gs,Nu (1+y1%3) g.1/\Nu (y2%2) g.2)/\E=fun p=>[some (.pin p (.l .f),.lst (zs.map D.int)),some (.f,.int (cnt:Int)),some (o2,.lst [.int (1+y1%3),.int (y2%2)]),some (.f,Im (y3%(1+y1%3+1),y4%(y2%2+1))),some (.l .f,.lst (gs.map II)),t5,t6,t7,t8,t9,MN]) (by
  rintro k E hk ⟨gs,zs,o2,t5,t6,t7,t8,t9,MN,ho,hy,hl,hg,rfl⟩;obtain⟨g,zs',u7,u8,u9,L0,k1,k2,Sz,e⟩:=ve cnt (1+y1%3) (y2%2) (by lia) (by lia) (y3%(1+y1%3+1),y4%(y2%2+1)) gs (by lia) o2 ho zs (by lia) (k:Int) t6 t7 t8 t9 MN;refine⟨_,fun p=>rfl,_,e,gs++[g],zs',.f,_,_,_,_,_,_,rfl,by lia,by rw[j8,hl];rfl,fun x hx=>?_,rfl⟩;rcases mR hx with hx|hx
  ·exact hg x hx
  ·rw[ll hx];exact⟨k1,k2⟩) _ ⟨[],ys,.l .f,none,none,none,none,none,none,rfl,by lia,rfl,(fun _ h=>nomatch h),rfl⟩
 refine⟨1+y1%3,y2%2,(y3%(1+y1%3+1),y4%(y2%2+1)),gs,zs,by lia,by lia,by dsimp only;lia,by dsimp only;lia,hl,hg,fun p=>?_⟩;unfold bF jU;rw[lN (h:=by rfl)];rw[aB (env':=[some (.pin p (.l .f),.lst (((ys++[y4])++[y3]).map D.int)),some (.f,.int (cnt:Int)),some (.l .f,.lst [.int (1+y1%3),.int (y2%2)]),none,none,none,none,none,none,none,none]) (by simp only[pv,seval,op,uY,fZ _ 3 (by decide),fZ _ 2 (by decide)])];rw[aB (env':=[some (.pin p (.l .f),.lst (ys.map D.int)),some (.f,.int (cnt:Int)),some (.l .f,.lst [.int (1+y1%3),.int (y2%2)]),some (.f,Im (y3%(1+y1%3+1),y4%(y2%2+1))),none,none,none,none,none,none,none]) (by
  unfold Im;simp only[pv,seval,op,uY,fZ _ (1+y1%3+1) (by lia),fZ _ (y2%2+1) (by lia)])]
 rw[aB (env':=[some (.pin p (.l .f),.lst (ys.map D.int)),some (.f,.int (cnt:Int)),some (.l .f,.lst [.int (1+y1%3),.int (y2%2)]),some (.f,Im (y3%(1+y1%3+1),y4%(y2%2+1))),some (.l .f,.lst []),none,none,none,none,none,none]) (by simp only[pv,seval,op])];have ef:=ef p;rw[Ul]at ef;rw[aB (env':=_) (by
  unfold hU;simp only[pv,seval,op];rw[Tt (by lia)];simp only[pv,seval,op,T4];exact ef)]
 unfold gQ;simp only[pv,seval,op,iq]
theorem xF(A0 A1:Option R)(l:List D)(hl:l.length<=100)(n:Int)(g:Gd):fC [A0,A1,some (.l .f,.lst l),some (.f,.int n),some (.f,eG g)]=if n<g.1\/g.2.1<n then .ok (.rt (.f,.non)) else .ok (.nx [A0,A1,some (.l .f,.lst (l++[.int (n+g.2.2)])),some (.f,.int n),some (.f,eG g)]):=by
 have hz:l.length<sizeLine:=e8 (by lia);unfold fC eG;by_cases h1:n<g.1
 ·rw[Tt (.inl h1)];simp only[pv,seval,op,h1,Vm]
 ·by_cases h2:g.2.1<n
  ·rw[Tt (.inr h2)];simp only[pv,seval,op,h1,h2,Vm,Vf,gt_iff_lt,jv]
  ·rw[TB (fun h=>h.elim h1 h2)];simp only[pv,seval,op,h1,h2,Vf,gt_iff_lt,jv,at2,hz]
theorem Em(s:Sp)(d:Sd):((d.1.1<=s.1/\s.1<=d.1.2.1)/\(d.2.1<=s.2/\s.2<=d.2.2.1)/\cY [Im s,II d]=.ok (.f,Im (s.1+d.1.2.2,s.2+d.2.2.2)))\/cY [Im s,II d]=.ok (.f,.non):=by
 have e1:=xF (some (.f,Im s)) (some (.f,II d)) [] (by decide) s.1 d.1;have e2:=xF (some (.f,Im s)) (some (.f,II d)) [.int (s.1+d.1.2.2)] (by simp) s.2 d.2;rw[Vl]at e1;unfold cY mD jV iX;rw[bh (h:=by rfl)];rw[aB (env':=[some (.f,Im s),some (.f,II d),some (.l .f,.lst []),none,none]) (by simp only[pv,seval,op])];unfold Im II at *;by_cases h1:s.1<d.1.1\/d.1.2.1<s.1
 ·rw[Tt h1]at e1;right;simp only[pv,seval,op,Uh,Wz,e1]
 ·rw[TB h1]at e1;by_cases h2:s.2<d.2.1\/d.2.2.1<s.2
  ·rw[Tt h2]at e2;right;simp only[pv,seval,op,Uh,Wz,e1,e2]
  ·rw[TB h2]at e2;left;refine⟨by lia,by lia,?_⟩;simp only[pv,seval,op,Uh,Wz,e1,e2]
theorem ixL{α:Type}[DecidableEq α]{e:α->D}(he:∀a b,HE (e a) (e b)=decide (a=b))(hp:∀l:List α,plainDs 40 (l.map e)=true)(hq:∀a,plainD 40 (e a)=true)(l:List α)(a:α)(h:a∈l):∃i:Nat,l[i]?=some a/\rJ (l.map e) [e a]=.ok (.f,.int (i:Int)):=by
 have e1:(l.map e).any (fun d=>HE d (e a))=true:=by
  rw[Ve,Uy];exact⟨a,h,by show HE (e a) (e a)=true;rw[he,TV rfl]⟩
 have e2:(l.map e).findIdx (fun d=>HE d (e a))=l.findIdx fun x=>decide (x=a):=by
  rw[List.findIdx_map];congr 1
  funext x
  exact he x a
 have h3:(l.findIdx fun x=>decide (x=a))<l.length:=List.findIdx_lt_length_of_exists ⟨a,h,TV rfl⟩;have h4:=Xx (p:=fun x=>decide (x=a)) (xs:=l) (w:=h3);refine⟨l.findIdx fun x=>decide (x=a),by rw[xp h3];congr 1;simpa using h4,?_⟩;unfold rJ;dsimp only;rw[hq,hp,e1,e2];rfl
theorem mW{α:Type}[DecidableEq α](a:α):∀l:List α,a∉l->((l++[a]).findIdx fun x=>decide (x=a))=l.length
 |[],_=>by simp
 |x::l,h=>by
  rw[Tz,not_or]at h;rw[VH,List.findIdx_cons,mW a l h.2,Ui (fun e=>h.1 e.symm)];rfl
theorem F0{α:Type}[DecidableEq α]{e:α->D}(he:∀a b,HE (e a) (e b)=decide (a=b))(hp:∀l:List α,plainDs 40 (l.map e)=true)(hq:∀a,plainD 40 (e a)=true)(l:List α)(a:α)(h:a∉l):rJ (l.map e++[e a]) [e a]=.ok (.f,.int (l.length:Int)):=by
 have e0:l.map e++[e a]=(l++[a]).map e:=by rw[Tu];rfl
 have e1:((l++[a]).map e).any (fun d=>HE d (e a))=true:=by
  rw[Ve,Uy];exact⟨a,Tn _ (TU.mpr rfl),by show HE (e a) (e a)=true;rw[he,TV rfl]⟩
 have e2:((l++[a]).map e).findIdx (fun d=>HE d (e a))=l.length:=by
  rw[List.findIdx_map];rw[<-mW a l h];congr 1
  funext x
  exact he x a
 unfold rJ;dsimp only;rw[e0,hq,hp,e1,e2];rfl
theorem Hm{α:Type}[DecidableEq α]{e:α->D}(he:∀a b,HE (e a) (e b)=decide (a=b))(hp:∀l:List α,plainDs 40 (l.map e)=true)(hq:∀a,plainD 40 (e a)=true)(l:List α)(a:α):Ae (e a) (.lst (l.map e))=.ok (.f,.bl (!decide (a∈l))):=by
 have e1:x6 (e a) (l.map e)=decide (a∈l):=by
  unfold x6;rw[Ve,T7,Uy,TF];constructor
  ·rintro⟨x,hx,e1⟩;have e1:HE (e x) (e a)=true:=e1;rw[he,TF]at e1;rw[<-e1];exact hx
  ·intro h;refine⟨a,h,?_⟩;show HE (e a) (e a)=true;rw[he,TF]
 unfold Ae M7;dsimp only;rw[hq,hp,UM,Tt rfl,e1];rfl
theorem xG(a b:Sp):HE (Im a) (Im b)=decide (a=b):=by
 obtain⟨x,y⟩:=a;obtain⟨x',y'⟩:=b;unfold Im;simp only[HE,ng];rw[T7];simp
theorem pe(a:Sp):plainD 40 (Im a)=true:=rfl
theorem mX(l:List Sp):plainDs 40 (l.map Im)=true:=by
 induction l with
 |nil=>rfl
 |cons a l ih=>
  rw[gU,plainDs,ih];rfl
structure Rs(nZ:HR)(t0 t1:Int)(S:List Sp)(A:List HC)(m:Nat):Prop where
 nd:S.Nodup
 ne:1<=S.length
 bd:∀s∈S,(0<=s.1/\s.1<=t0)/\0<=s.2/\s.2<=t1
 ab:∀a∈A,(0<=a.1/\a.1<(m:Int))/\0<=a.2.2/\a.2.2<(S.length:Int)
 nm:∀a∈A,a.2.1∈nZ
 rc:∀j:Nat,1<=j->j<S.length->∃a∈A,a.2.2=(j:Int)/\∃b:Nat,b<j/\a.1=(b:Int)
theorem Rs.le8{nZ:HR}{t0 t1:Int}{S:List Sp}{A:List HC}{m:Nat}(r:Rs nZ t0 t1 S A m)(h0:t0<=3)(h1:t1<=1):S.length<=8:=by
 have nd:(S.map fun s=>2*s.1+s.2).Nodup:=by
  rw[VP,Wa];refine(VP.mp r.nd).imp_of_mem fun{a b} ha hb JD e=>JD ?_
  have q1:=r.bd a ha;have q2:=r.bd b hb;exact Prod.ext (by lia) (by lia)
 have:=fA 8 nd fun x hx=>by
  obtain⟨s,hs,rfl⟩:=qB hx;have:=r.bd s hs;lia
 rwa [bp]at this
theorem Rs.more{nZ:HR}{t0 t1:Int}{S:List Sp}{A:List HC}{m m':Nat}(r:Rs nZ t0 t1 S A m)(h:m<=m'):Rs nZ t0 t1 S A m':=⟨r.nd,r.ne,r.bd,fun a ha=>by have:=r.ab a ha;lia,r.nm,r.rc⟩
theorem Rs.old{nZ:HR}{t0 t1:Int}{S:List Sp}{A:List HC}{d i:Nat}(r:Rs nZ t0 t1 S A (d+1)){nm:List Nat}(hn:nm∈nZ)(hi:i<S.length):Rs nZ t0 t1 S (A++[((d:Int),nm,(i:Int))]) (d+1):=by
 refine⟨r.nd,r.ne,r.bd,fun a ha=>?_,fun a ha=>?_,fun j j1 j2=>?_⟩
 ·rcases mR ha with ha|ha
  ·exact r.ab a ha
  ·rw[ll ha];dsimp only;lia
 ·rcases mR ha with ha|ha
  ·exact r.nm a ha
  ·rw[ll ha];exact hn
 ·obtain⟨a,ha,q⟩:=r.rc j j1 j2;exact⟨a,Tq _ ha,q⟩
theorem Rs.new{nZ:HR}{t0 t1:Int}{S:List Sp}{A:List HC}{d:Nat}(r:Rs nZ t0 t1 S A (d+1)){nm:List Nat}(hn:nm∈nZ)(hd:d<S.length){t:Sp}(ht:t∉S)(hb:(0<=t.1/\t.1<=t0)/\0<=t.2/\t.2<=t1):Rs nZ t0 t1 (S++[t]) (A++[((d:Int),nm,(S.length:Int))]) (d+1):=by
 have hl:(S++[t]).length=S.length+1:=by rw[j8];rfl
 refine⟨TM.mpr ⟨r.nd,TY.mpr ⟨Ub,Uw⟩,fun x hx y hy=>?_⟩,by lia,fun s hs=>?_,fun a ha=>?_,fun a ha=>?_,fun j j1 j2=>?_⟩
 ·rw[ll hy];rintro rfl;exact ht hx
 ·rcases mR hs with hs|hs
  ·exact r.bd s hs
  ·rw[ll hs];exact hb
 ·rw[hl];rcases mR ha with ha|ha
  ·have:=r.ab a ha;lia
  ·rw[ll ha];dsimp only;lia
 ·rcases mR ha with ha|ha
  ·exact r.nm a ha
  ·rw[ll ha];exact hn
 ·by_cases e:j=S.length
  ·subst e;exact⟨_,Tn _ (TU.mpr rfl),rfl,d,hd,rfl⟩
  ·obtain⟨a,ha,q⟩:=r.rc j j1 (by lia);exact⟨a,Tq _ ha,q⟩
theorem En(nZ:HR)(s:Sp)(gs:List Sd)(t0 t1:Int)(h0:t0<=3)(h1:t1<=1)(S:List Sp)(A:List HC)(hA:A.length<=1000)(d:Nat)(r:Rs nZ t0 t1 S A (d+1))(hd:d<S.length)(nm:List Nat)(hn:nm∈nZ)(g:Sd)(hg:Nu t0 g.1/\Nu t1 g.2)(t8:Option R):
  ∃(S':List Sp) (A':List HC) (u8:Option R),Rs nZ t0 t1 S' A' (d+1)/\S.length<=S'.length/\A'.length<=A.length+1/\eg [some (.f,.lst (nZ.map D.str)),some (.f,Im s),some (.f,.lst (gs.map II)),some (.l .f,.lst (S.map Im)),some (.l .f,.lst (A.map eA)),some (.f,.int ((d:Nat):Int)),some (.f,.str nm),some (.f,II g),t8]=.ok (.nx [some (.f,.lst (nZ.map D.str)),some (.f,Im s),some (.f,.lst (gs.map II)),some (.l .f,.lst (S'.map Im)),some (.l .f,.lst (A'.map eA)),some (.f,.int ((d:Nat):Int)),some (.f,.str nm),some (.f,II g),u8]):=by
 have MM:IH (S.map Im) (d:Int)=some (Im S[d]):=gW (by rw[List.getElem?_map,xp hd];rfl);have h8:=r.le8 h0 h1;have S3:(A.map eA).length<sizeLine:=e8 (by rw[bp];lia);have hzS:(S.map Im).length<sizeLine:=e8 (by rw[bp];lia);unfold eg;have KH:∀t:Sp,dh (Im t)=true:=fun t=>rfl
 have hcn:dh .non=true:=rfl;rcases Em S[d] g with⟨k1,k2,e⟩|e
 ·have hb:=And.intro (hg.1.2 _ k1.1 k1.2) (hg.2.2 _ k2.1 k2.2);generalize ht:((S[d].1+g.1.2.2,S[d].2+g.2.2.2):Sp)=t at e;have hb:(0<=t.1/\t.1<=t0)/\0<=t.2/\t.2<=t1:=by
   rw[<-ht];exact hb
  have Q3:=Hm xG mX pe S t;have S4:isnO (Im t) .non=.ok (.f,.bl true):=id rfl;rw[aB (env':=[some (.f,.lst (nZ.map D.str)),some (.f,Im s),some (.f,.lst (gs.map II)),some (.l .f,.lst (S.map Im)),some (.l .f,.lst (A.map eA)),some (.f,.int ((d:Nat):Int)),some (.f,.str nm),some (.f,II g),some (.f,Im t)]) (by simp only[pv,↓reduceIte,Nat.reduceAdd,Nat.reduceLT,Nat.reduceLeDiff,Nat.reduceEqDiff,op,MM,e,KH])];by_cases hm:t∈S
  ·obtain⟨i,hi,J2⟩:=ixL xG mX pe S t hm;refine⟨S,A++[((d:Int),nm,(i:Int))],some (.f,Im t),r.old hn (nh hi).1,Ts _,by rw[j8];exact Ts _,?_⟩;rw[Tu];simp only[pv,↓reduceIte,Nat.reduceAdd,Nat.reduceLT,Nat.reduceLeDiff,Nat.reduceEqDiff,op,S4,Q3,hm,Vm,Vx,jv,Ap,J2,S3];rfl
  ·have J2:=F0 xG mX pe S t hm;refine⟨S++[t],A++[((d:Int),nm,(S.length:Int))],some (.f,Im t),r.new hn hd hm hb,by rw[j8];lia,by rw[j8];exact Ts _,?_⟩;rw[Tu,Tu,gU,Ul];simp only[pv,↓reduceIte,Nat.reduceAdd,Nat.reduceLT,Nat.reduceLeDiff,Nat.reduceEqDiff,op,S4,Q3,hm,Vf,VI,Ap,J2,S3,hzS];rfl
 ·refine⟨S,A,some (.f,.non),r,Ts _,by lia,?_⟩;rw[aB (env':=[some (.f,.lst (nZ.map D.str)),some (.f,Im s),some (.f,.lst (gs.map II)),some (.l .f,.lst (S.map Im)),some (.l .f,.lst (A.map eA)),some (.f,.int ((d:Nat):Int)),some (.f,.str nm),some (.f,II g),some (.f,.non)]) (by simp only[pv,↓reduceIte,Nat.reduceAdd,Nat.reduceLT,Nat.reduceLeDiff,Nat.reduceEqDiff,op,MM,e,hcn])];simp only[pv,↓reduceIte,Nat.reduceAdd,Nat.reduceLT,Nat.reduceLeDiff,Nat.reduceEqDiff,op,o_isnN,jv]
theorem lP{α β:Type}(f:α->D)(g:β->D)(xs:List α)(ys:List β):((xs.map f).zip (ys.map g)).map (fun z=>D.tup [z.1,z.2])=(xs.zip ys).map fun z=>D.tup [f z.1,g z.2]:=by
 rw[List.zip_map,TN];rfl
theorem F1(nZ:HR)(hn:nZ.length<=3)(t0 t1:Int)(h0:t0<=3)(h1:t1<=1)(s:Sp)(hs:(0<=s.1/\s.1<=t0)/\0<=s.2/\s.2<=t1)(gs:List Sd)(hg:∀g∈gs,Nu t0 g.1/\Nu t1 g.2):
  ∃(as:List HC) (mZ:Nat),Ra nZ as mZ/\dH [.lst (nZ.map D.str),Im s,.lst (gs.map II)]=.ok (.l .f,.lst ((bX cS as).map eA)):=by
 unfold dH nX;rw[bh (h:=by rfl)];rw[aB (env':=[some (.f,.lst (nZ.map D.str)),some (.f,Im s),some (.f,.lst (gs.map II)),some (.l .f,.lst [Im s]),none,none,none,none,none]) (by simp only[pv,↓reduceIte,Nat.reduceAdd,Nat.reduceLT,Nat.reduceLeDiff,Nat.reduceEqDiff,op])];rw[aB (env':=[some (.f,.lst (nZ.map D.str)),some (.f,Im s),some (.f,.lst (gs.map II)),some (.l .f,.lst [Im s]),some (.l .f,.lst []),none,none,none,none]) (by simp only[pv,↓reduceIte,Nat.reduceAdd,Nat.reduceLT,Nat.reduceLeDiff,Nat.reduceEqDiff,op])];rw[aB (env':=[some (.f,.lst (nZ.map D.str)),some (.f,Im s),some (.f,.lst (gs.map II)),some (.l .f,.lst [Im s]),some (.l .f,.lst []),some (.f,.int 0),none,none,none]) (by simp only[pv,↓reduceIte,Nat.reduceAdd,Nat.reduceLT,Nat.reduceLeDiff,Nat.reduceEqDiff,op])];obtain⟨env',ew,S,A,d,t6,t7,t8,r,hd,hA,rfl⟩:=ka (c:=(Ic (av Kv (aq 5) (ai (aX fT (ah (aq 3) aD)))))) (g:=gw)
  (fun k env=>∃S A d t6 t7 t8,Rs nZ t0 t1 S A d/\d<=S.length/\A.length<=3*d/\k=9-d/\env=[some (.f,.lst (nZ.map D.str)),some (.f,Im s),some (.f,.lst (gs.map II)),some (.l .f,.lst (S.map Im)),some (.l .f,.lst (A.map eA)),some (.f,.int ((d:Nat):Int)),t6,t7,t8]) (fun env=>∃S A d t6 t7 t8,Rs nZ t0 t1 S A d/\d=S.length/\A.length<=3*d/\env=[some (.f,.lst (nZ.map D.str)),some (.f,Im s),some (.f,.lst (gs.map II)),some (.l .f,.lst (S.map Im)),some (.l .f,.lst (A.map eA)),some (.f,.int ((d:Nat):Int)),t6,t7,t8]) (by
  rintro k env ⟨S,A,d,t6,t7,t8,r,hd,hA,rfl,rfl⟩;have h8:=r.le8 h0 h1;by_cases Iy:d<S.length
  ·refine .inr ⟨[some (.f,.lst (nZ.map D.str)),some (.f,Im s),some (.f,.lst (gs.map II)),some (.l .f,.lst (S.map Im)),some (.l .f,.lst (A.map eA)),some (.f,.int ((d:Nat):Int)),t6,t7,t8],?_,?_⟩
   ·have:(d:Int)<(S.length:Int):=by lia
    simp only[pv,↓reduceIte,Nat.reduceAdd,Nat.reduceLT,Nat.reduceLeDiff,Nat.reduceEqDiff,op,bp,this,Vm]
   ·obtain⟨env',ef,S',A',t6',t7',Ry,r',MO,S5,rfl⟩:=for_list (a:=fB 2 (az (ax 6) (az (ax 7) bW))) (g:=eg) (e:=fun z:List Nat×Sd=>D.tup [D.str z.1,II z.2]) (nZ.zip gs) (fun j env=>∃S' A' t6 t7 t8,Rs nZ t0 t1 S' A' (d+1)/\S.length<=S'.length/\A'.length<=3*d+j/\env=[some (.f,.lst (nZ.map D.str)),some (.f,Im s),some (.f,.lst (gs.map II)),some (.l .f,.lst (S'.map Im)),some (.l .f,.lst (A'.map eA)),some (.f,.int ((d:Nat):Int)),t6,t7,t8]) (by
     rintro j z env hj ⟨S',A',t6,t7,t8,r',MO,S5,rfl⟩;have hz:=T3 hj;have Qy:=(nh hj).1;rw[UO]at Qy;obtain⟨hz1,Li⟩:=V1 (show(z.1,z.2)∈nZ.zip gs from hz);have h8:=r'.le8 h0 h1;obtain⟨S2,A2,u8,r2,hd2,hA2,e⟩:=En nZ s gs t0 t1 h0 h1 S' A' (by lia) d r' (by lia) z.1 hz1 z.2 (hg _ Li) t8;exact⟨_,by simp only[pv,↓reduceIte,Nat.reduceAdd,Nat.reduceLT,Nat.reduceLeDiff,Nat.reduceEqDiff],_,e,S2,A2,_,_,_,r2,by lia,by lia,rfl⟩) _ ⟨S,A,t6,t7,t8,r.more (by lia),Ts _,by lia,rfl⟩
    rw[UO]at S5;have h8':=r'.le8 h0 h1;refine⟨_,9-(d+1),?_,by lia,S',A',d+1,t6',t7',Ry,r',by lia,by lia,rfl,rfl⟩;unfold gw;rw[aB (env':=_) (by
     unfold k4;simp only[pv,↓reduceIte,Nat.reduceAdd,Nat.reduceLT,Nat.reduceLeDiff,Nat.reduceEqDiff,op,lP];exact ef)]
    unfold jW;simp only[pv,↓reduceIte,Nat.reduceAdd,Nat.reduceLT,Nat.reduceLeDiff,Nat.reduceEqDiff,op,Xo,Wy]
  ·refine .inl ⟨_,?_,S,A,d,t6,t7,t8,r,by lia,hA,rfl⟩;have:¬ (d:Int)<(S.length:Int):=by lia
   simp only[pv,↓reduceIte,Nat.reduceAdd,Nat.reduceLT,Nat.reduceLeDiff,Nat.reduceEqDiff,op,bp,this,Vf]) 100000 9 _ (by decide) ⟨[s],[],0,none,none,none,⟨TY.mpr ⟨Ub,Uw⟩,Ts _,fun x hx=>by rw[ll hx];exact hs,(fun _ h=>nomatch h),(fun _ h=>nomatch h),fun j j1 j2=>by rw[U5]at j2;lia⟩,Uj _,Ts _,rfl,rfl⟩
 have h8:=r.le8 h0 h1;have JD:=r.ne;rw[aB (env':=_) (by
  unfold k7;exact ew)]
 unfold jX;refine⟨A,S.length,⟨by lia,by lia,fun a ha=>?_,r.nm,r.rc⟩,?_⟩
 ·have:=r.ab a ha;lia
 ·simp only[pv,↓reduceIte,Nat.reduceAdd,Nat.reduceLT,Nat.reduceLeDiff,Nat.reduceEqDiff,op,rW A (by lia)]
def Aq(K:List Int)(x:Int):List Int:=if x∈K then K else K++[x]
def f7(K:List Int)(a:HC):List Int:=if a.1∈K then Aq K a.2.2 else K
def Eo(ap:List HC)(K:List Int):List Int:=ap.foldl f7 K
def dC(ap:List HC):Nat->List Int
 | 0=>[0]
 |n+1=>Eo ap (dC ap n)
theorem pf{K:List Int}{x y:Int}:y∈Aq K x<->y∈K\/y=x:=by
 unfold Aq;split
 ·rename_i h;constructor
  ·exact .inl
  ·rintro(h2|rfl)
   ·exact h2
   ·exact h
 ·rw[TX,TU]
theorem B6{K:List Int}{x:Int}(h:K.Nodup):(Aq K x).Nodup:=by
 unfold Aq;split
 ·exact h
 ·rename_i hx;refine TM.mpr ⟨h,TY.mpr ⟨Ub,Uw⟩,fun z hz y hy=>?_⟩;rw[ll hy];rintro rfl;exact hx hz
theorem xH{K:List Int}{a:HC}{y:Int}(h:y∈K):y∈f7 K a:=by
 unfold f7;split
 ·exact pf.mpr (.inl h)
 ·exact h
theorem zm{K:List Int}{a:HC}(h:K.Nodup):(f7 K a).Nodup:=by
 unfold f7;split
 ·exact B6 h
 ·exact h
theorem lQ{y:Int}:∀(L:List HC) (K:List Int),y∈K->y∈L.foldl f7 K
 |[],_,h=>h
 |a::L,K,h=>lQ L (f7 K a) (xH h)
theorem rX:∀(L:List HC) (K:List Int),K.Nodup->(L.foldl f7 K).Nodup
 |[],_,h=>h
 |a::L,K,h=>rX L (f7 K a) (zm h)
theorem rY{C:Int->Prop}:∀(L:List HC) (K:List Int),(∀a∈L,C a.1->C a.2.2)->(∀y∈K,C y)->∀y∈L.foldl f7 K,C y
 |[],_,_,h=>h
 |a::L,K,hc,h=>rY L (f7 K a) (fun b hb=>hc b (Tx _ hb)) fun y hy=>by
  unfold f7 at hy;split at hy
  ·rename_i ha;rcases pf.mp hy with hy|rfl
   ·exact h y hy
   ·exact hc a Tp (h _ ha)
  ·exact h y hy
theorem ph(ap:List HC):∀n,(dC ap n).Nodup
 | 0=>TY.mpr ⟨Ub,Uw⟩
 |n+1=>rX ap _ (ph ap n)
theorem mY{C:Int->Prop}{ap:List HC}(h0:C 0)(hc:∀a∈ap,C a.1->C a.2.2):∀n,∀y∈dC ap n,C y
 | 0=>fun y hy=>by rw[ll hy];exact h0
 |n+1=>rY ap _ hc (mY h0 hc n)
theorem xI{ap:List HC}{y:Int}:∀n m,y∈dC ap n->y∈dC ap (n+m)
 |n,0,h=>h
 |n,m+1,h=>lQ ap _ (xI n m h)
theorem zo:∀(i:Nat) (L:List HC),L.Pairwise (fun a b=>a.1<=b.1)->(∀j:Nat,1<=j->j<=i->∃a∈L,a.2.2=(j:Int)/\∃b:Nat,b<j/\a.1=(b:Int))->(i:Int)∈L.foldl f7 [0]:=by
 intro i;induction i using Nat.strongRecOn with
 |_ i ih=>
  intro L hs hr;cases i with
  |zero=>exact lQ L [0] (TU.mpr rfl)
  |succ i=>
   obtain⟨a,ha,e1,b,hb,e2⟩:=hr (i+1) (by lia) (Ts _);obtain⟨L1,L2,rfl⟩:=List.append_of_mem ha;have Mk:=List.pairwise_append.mp hs;have hb1:(b:Int)∈L1.foldl f7 [0]:=ih b hb L1 Mk.1 fun j j1 j2=>by
    obtain⟨x,hx,q1,c,q2,q3⟩:=hr j j1 (by lia);rcases mR hx with hx|hx
    ·exact⟨x,hx,q1,c,q2,q3⟩
    ·exfalso;rcases Tz.mp hx with hx|hx
     ·rw[hx]at q3;lia
     ·have:=(UU.mp Mk.2.1).1 x hx;lia
   rw[UK,Uc];refine lQ L2 _ ?_;unfold f7;rw[Tt (by rw[e2];exact hb1),e1];exact pf.mpr (.inr rfl)
theorem B7{ap:List HC}(h:ap.Pairwise (fun a b=>cS b a=false)):ap.Pairwise (fun a b=>a.1<=b.1):=by
 refine h.imp fun{a b} Lg=>?_
 refine Int.not_lt.mp fun hl=>?_
 unfold cS ak at Lg;rw[d9,TB (fun e=>by have:=Sum.inl.inj e;lia)]at Lg;have:pk.blt (Sum.inl b.1) (Sum.inl a.1)=true:=by
  first
   |exact TV hl
   |simpa[pk] using hl
 rw[this]at Lg;cases Lg
theorem rZ{α:Type}[DecidableEq α]:∀(l m:List α),l.Nodup->(∀x∈l,x∈m)->l.length<=m.length
 |[],m,_,_=>Uj _
 |a::l,m,nd,h=>by
  rw[TY]at nd;have ha:=h a Tp;have:=rZ l (m.erase a) nd.2 fun x hx=>(List.mem_erase_of_ne (fun e=>nd.1 (by rw[<-e];exact hx))).mpr (h x (Tx _ hx))
  rw[WL ha]at this;have:=W7 ha;rw[TJ];lia
theorem Ra.come{nZ:HR}{as:List HC}{mZ:Nat}(r:Ra nZ as mZ):(dC (bX cS as) (bX cS as).length).length=mZ:=by
 have rs:=r.sort;have hm:=r.mm;have hs:=B7 (cj mV as);generalize bX cS as=L at rs hs;refine Nat.le_antisymm (fA mZ (ph L _) (mY (C:=fun y=>0<=y/\y<(mZ:Int)) (by lia) (fun a ha _=>(rs.bd a ha).2) _)) ?_;have:=rZ ((List.range mZ).map fun(k:Nat)=>(k:Int)) (dC L L.length) (e7 _ _ fun i j _ _ e=>by lia) fun x hx=>by
  obtain⟨k,hk,rfl⟩:=qB hx;have hk:=Uz.mp hk;cases hL:L.length with
  |zero=>
   cases k with
   |zero=>exact TU.mpr rfl
   |succ k=>
    obtain⟨a,ha,_⟩:=rs.rc (k+1) (by lia) hk;rw[Ue hL]at ha;exact nomatch ha
  |succ n=>
   have:=xI 1 n (ap:=L) (y:=(k:Int)) (zo k L hs fun j j1 j2=>rs.rc j j1 (by lia))
   rwa [Nat.add_comm]at this
 rwa [bp,TH]at this
def vK(K:List Int):List D:=K.map fun _=>D.bl true
theorem Ep:∀(ks:List Int) (x:Int),(getD (ks.map D.int) (vK ks) (.int x)).isSome=decide (x∈ks)
 |[],x=>rfl
 |k::ks,x=>by
  have ih:=Ep ks x;unfold getD at ih ⊢;unfold vK at ih ⊢;rw[gU,gU,Uh];by_cases e:x=k
  ·subst e;rw[List.find?_cons_of_pos (by show HE (.int x) (.int x)=true;rw[HE];exact T1 _)];simp
  ·rw[List.find?_cons_of_neg (by show ¬ HE (.int x) (.int k)=true;rw[HE,T6];exact e),ih];simp[e]
theorem Hn(K:List Int)(x:Int):O5 (.int x) (.dct false (K.map D.int) (vK K))=.ok (.f,.bl (decide (x∈K))):=by
 have e:=Ep K x;unfold O5;dsimp only;rw[Tt (show dY false (.int x)=true from rfl),e]
theorem F2(K:List Int)(x:Int):lJ (K.map D.int) (vK K) (.int x) (.bl true)=((Aq K x).map D.int,vK (Aq K x)):=by
 have e:(K.map D.int).any (HE (.int x))=decide (x∈K):=by
  rw[Ve,T7,Uy,TF];constructor
  ·rintro⟨y,hy,h⟩;have h:HE (.int x) (.int y)=true:=h;rw[HE,T6]at h;rw[h];exact hy
  ·intro h;exact⟨x,h,by show HE (.int x) (.int x)=true;rw[HE];exact T1 _⟩
 unfold lJ Aq vK;rw[e];by_cases h:x∈K
 ·rw[Tt h,Tt (TV h),WT,TN];congr 1
  refine Up fun y _=>?_
  show(if _ then D.bl true else D.bl true)=_;split <;> rfl
 ·rw[TB h,Ui h,TB Tw,Tu,Tu];rfl
theorem Er(A0 A2:Option R)(K:List Int)(hK:K.length<=1000)(a:HC):cH [A0,some (.d,.dct false (K.map D.int) (vK K)),A2,some (.f,.int a.1),some (.f,.str a.2.1),some (.f,.int a.2.2)]=.ok (.nx [A0,some (.d,.dct false ((f7 K a).map D.int) (vK (f7 K a))),A2,some (.f,.int a.1),some (.f,.str a.2.1),some (.f,.int a.2.2)]):=by
 have hi:=Hn K a.1;have hz:decide (K.length<sizeLine)=true:=TV (e8 (by lia));have h2:=F2 K a.2.2;unfold cH f7;by_cases h:a.1∈K
 ·rw[Tt h];simp only[pv,↓reduceIte,Nat.reduceAdd,Nat.reduceLT,Nat.reduceLeDiff,Nat.reduceEqDiff,op,hi,h,Vm,bp,hz,UM,h2]
 ·rw[TB h];simp only[pv,↓reduceIte,Nat.reduceAdd,Nat.reduceLT,Nat.reduceLeDiff,Nat.reduceEqDiff,op,hi,h,Vf,jv]
theorem qJ(ap:List HC)(hl:ap.length<=1000)(m:Nat)(hm:1<=m/\m<=12)(hb:∀a∈ap,0<=a.2.2/\a.2.2<(m:Int)):bq [.lst (ap.map eA)]=.ok (.d,.dct false ((dC ap ap.length).map D.int) (vK (dC ap ap.length))):=by
 unfold bq iW;rw[bh (h:=by rfl)];rw[aB (env':=[some (.f,.lst (ap.map eA)),some (.d,.dct false [.int 0] [.bl true]),none,none,none,none]) (by simp only[pv,↓reduceIte,Nat.reduceAdd,Nat.reduceLT,Nat.reduceLeDiff,Nat.reduceEqDiff,op])];obtain⟨env',ef,K,t2,t3,t4,t5,eK,rfl⟩:=kB (a:=ax 2) (g:=dG) (e:=fun k=>D.int (k:Int)) ap.length (fun i env=>∃K t2 t3 t4 t5,K=dC ap i/\env=[some (.f,.lst (ap.map eA)),some (.d,.dct false (K.map D.int) (vK K)),t2,t3,t4,t5]) (by
  rintro k env hk ⟨K0,t2,t3,t4,t5,Sh,rfl⟩;have hc:∀y∈K0,0<=y/\y<(m:Int):=by
   rw[Sh];exact mY (C:=fun y=>0<=y/\y<(m:Int)) (by lia) (fun a ha _=>hb a ha) k
  have M0:K0.Nodup:=by
   rw[Sh];exact ph ap k
  obtain⟨env',ef,K,u3,u4,u5,eK,rfl⟩:=for_list (a:=fB 3 (az (ax 3) (az (ax 4) (az (ax 5) bW)))) (g:=cH) (e:=eA) ap (fun j env=>∃K t3 t4 t5,K=(ap.take j).foldl f7 K0/\env=[some (.f,.lst (ap.map eA)),some (.d,.dct false (K.map D.int) (vK K)),some (.f,.int (k:Int)),t3,t4,t5]) (by
   rintro j a env hj ⟨K,t3,t4,t5,eK,rfl⟩;have ht:ap.take (j+1)=ap.take j++[a]:=by rw[Uu,hj];rfl
   have hlen:K.length<=m:=by
    rw[eK];exact fA m (rX _ _ M0) (rY (C:=fun y=>0<=y/\y<(m:Int)) _ _ (fun a ha _=>hb a (VA ha)) hc)
   have h2:=Er (some (.f,.lst (ap.map eA))) (some (.f,.int (k:Int))) K (by lia) a;refine⟨_,by unfold eA;simp only[pv,↓reduceIte,Nat.reduceAdd,Nat.reduceLT,Nat.reduceLeDiff,Nat.reduceEqDiff],_,h2,f7 K a,_,_,_,?_,rfl⟩;rw[ht,UK,eK];rfl) _ ⟨K0,t3,t4,t5,by rw[Vd];rfl,rfl⟩
  rw[Ux]at eK;refine⟨_,rfl,_,?_,K,some (.f,.int (k:Int)),u3,u4,u5,by rw[eK,Sh];rfl,rfl⟩;unfold dG gN;simp only[pv,↓reduceIte,Nat.reduceAdd,Nat.reduceLT,Nat.reduceLeDiff,Nat.reduceEqDiff,op];exact ef) _ ⟨[0],none,none,none,none,rfl,rfl⟩
 rw[aB (env':=_) (by
  unfold gO;simp only[pv,↓reduceIte,Nat.reduceAdd,Nat.reduceLT,Nat.reduceLeDiff,Nat.reduceEqDiff,op,bp];rw[Tt (by lia)];simp only[pv,↓reduceIte,Nat.reduceAdd,Nat.reduceLT,Nat.reduceLeDiff,Nat.reduceEqDiff,op,T4];exact ef)]
 unfold fW;rw[<-eK];simp only[pv,↓reduceIte,Nat.reduceAdd,Nat.reduceLT,Nat.reduceLeDiff,Nat.reduceEqDiff,op]
theorem xJ(K:List Int):flatDs (vK K)=true:=by
 unfold vK;rw[cy,U7,T8];exact fun _ _=>rfl
structure Fw(nZ:HR)(ap:List HC)(mZ:Nat):Prop where
 mm:1<=mZ/\mZ<=12
 len:ap.length<=60
 bd:∀a∈ap,(0<=a.1/\a.1<(mZ:Int))/\0<=a.2.2/\a.2.2<(mZ:Int)
 nm:∀a∈ap,a.2.1∈nZ
 ct:(dC ap ap.length).length=mZ
 so:ap.Pairwise (fun a b=>cS b a=false)
theorem Fw.ch{nZ:HR}{ap:List HC}{mZ:Nat}(r:Fw nZ ap mZ):Ch nZ ap:=by
 have hm:=r.mm;have L9:=qI hm.1 r.bd;refine⟨r.len,fun a ha=>?_,r.nm,by lia,fun N F s h0 h1=>?_⟩
 ·have:=r.bd a ha;lia
 ·have OD:s∈dC ap ap.length:=by
   refine Decidable.byContradiction fun hn=>?_
   have:=fA mZ (l:=s::dC ap ap.length) (TY.mpr ⟨hn,ph ap _⟩) fun x hx=>by
    rcases Tz.mp hx with rfl|hx
    ·lia
    ·exact mY (C:=fun y=>0<=y/\y<(mZ:Int)) (by lia) (fun a ha _=>(r.bd a ha).2) _ x hx
   rw[TJ,r.ct]at this;lia
  refine mY (C:=fun y=>y∈N.map (·.1)) F.zero (fun a ha h=>?_) _ s OD;obtain⟨n,hn,en⟩:=qB h;obtain⟨m,hm,em,_⟩:=F.clo n hn a ha (by rw[en]);exact Ur.mpr ⟨m,hm,em⟩
theorem B8{α:Type}(l:List α)(k:Nat):(l.take k++l.drop (k+1)).Sublist l:=by
 conv=>rhs;rw[<-List.take_append_drop k l]
 exact List.Sublist.append (List.Sublist.refl _) (List.drop_sublist_drop_left l (Vy k))
theorem zp(x y:List D)(h:x.length+y.length<=1000):cB (.lst x) (.lst y)=.ok (.l .f,.lst (x++y)):=by
 first
  |rw[BU,Tt (line_le (by lia))]
  |(unfold cB;rw[Tt (line_le (by lia))])
  |(unfold cB addD;rw[Tt (line_le (by lia))])
theorem Es(ap:List HC):Me (.lst (ap.map eA)) (.lst [])=.ok (.f,.bl (!ap.isEmpty)):=by
 unfold Me;rw[plainD,og 36 ap];cases ap <;> rfl
theorem B9(nZ:HR)(mZ:Nat)(cs:List Int)(ap:List HC)(r:Fw nZ ap mZ)(c:Int)(t3 t4:Option R):∃Jh u3 u4,Fw nZ Jh mZ/\du [some (.f,.lst (ap.map eA)),some (.f,.lst (cs.map D.int)),some (.f,.int c),t3,t4]=.ok (.nx [some (.f,.lst (Jh.map eA)),some (.f,.lst (cs.map D.int)),some (.f,.int c),u3,u4]):=by
 unfold du;have JD:=Es ap;cases he:ap with
 |nil=>
  rw[he]at JD;subst he;refine⟨[],t3,t4,r,?_⟩;simp only[pv,seval,op,JD,List.isEmpty_nil,Vx,jv]at JD ⊢;simp only[pv,seval,op,JD,jv]
 |cons a0 l0=>
  rw[<-he];have Rv:ap.isEmpty=false:=by rw[he];rfl
  have hpos:0<ap.length:=by rw[he];exact Nat.succ_pos _
  rw[Rv,VI]at JD;clear he Rv;have hlen:=r.len;have hm:=r.mm;have b:=dI c (ap.length:Int) (by lia);obtain⟨k,ek⟩:=T5 b.1;have c1:=qJ ap (by lia) mZ hm fun a ha=>(r.bd a ha).2
  have MV:∀a∈ap.take k++ap.drop (k+1),a∈ap:=fun a ha=>by
   rcases mR ha with h|h
   ·exact VA h
   ·exact Xz h
  have NJ:(ap.take k++ap.drop (k+1)).length<=ap.length:=by
   rw[j8,UI,VF];lia
  have c2:=qJ (ap.take k++ap.drop (k+1)) (by lia) mZ hm fun a ha=>(r.bd a (MV a ha)).2
  have Kz:=zp ((ap.take k).map eA) ((ap.drop (k+1)).map eA) (by rw[bp,bp];rw[j8]at NJ;lia);rw[<-Tu]at Kz;have OH:lz (ap.map eA) none (some (k:Int))=(ap.take k).map eA:=by rw[j9,Vc]
  have OI:lz (ap.map eA) (some ((k:Int)+1)) none=(ap.drop (k+1)).map eA:=by rw[show(k:Int)+1=((k+1:Nat):Int) by lia,tW,X1]
  have f1:=xJ (dC ap ap.length);have f2:=xJ (dC (ap.take k++ap.drop (k+1)) (ap.take k++ap.drop (k+1)).length);have hct:=r.ct;have fw:(dC (ap.take k++ap.drop (k+1)) (ap.take k++ap.drop (k+1)).length).length=mZ->Fw nZ (ap.take k++ap.drop (k+1)) mZ:=fun h=>⟨hm,by lia,fun a ha=>r.bd a (MV a ha),fun a ha=>r.nm a (MV a ha),h,r.so.sublist (B8 ap k)⟩
  generalize ap.take k++ap.drop (k+1)=dS at *;generalize dC dS dS.length=K2 at *;generalize dC ap ap.length=K1 at *;have S6:aT .d (.dct false (K1.map D.int) (vK K1))=true:=f1;have S7:aT .d (.dct false (K2.map D.int) (vK K2))=true:=f2;have key:∀b:Bool,((K2.length:Int)==(K1.length:Int))=b->∃Jh u3 u4,Fw nZ Jh mZ/\Jn (Ic (bC Me (aq 0) (ai (m7 ba)))) (sSeq (bP 3 (av cV (aq 2) (ai (aX fT (ah (aq 0) aD))))) (sSeq (bP 4 (av cB (ai (uI (aq 0) ly (jH (aR 3)))) (ai (uI (aq 0) (jH (av cB (aq 3) (ai (aE (.int 1))))) ly)))) (Jn (Ic (bC Jl (ai (aX fT (ah (ai (eE bq (ah (aq 4) aD))) aD))) (ai (aX fT (ah (ai (eE bq (ah (aq 0) aD))) aD))))) (bP 0 (aR 4)) dy))) dy [some (.f,.lst (ap.map eA)),some (.f,.lst (cs.map D.int)),some (.f,.int c),t3,t4]=.ok (.nx [some (.f,.lst (Jh.map eA)),some (.f,.lst (cs.map D.int)),some (.f,.int c),u3,u4]):=by
   intro b hb;cases b with
   |true=>
    have Qo:K2.length=mZ:=by
     have:=T6.mp hb;lia
    refine⟨dS,some (.f,.int (k:Int)),some (.f,.lst (dS.map eA)),fw Qo,?_⟩;simp only[pv,seval,op,JD,bp,fZ _ (ap.length:Int) (by lia),ek,OH,OI,Kz,c1,c2,S6,S7,hb]
   |false=>
    refine⟨ap,some (.f,.int (k:Int)),some (.l .f,.lst (dS.map eA)),r,?_⟩;simp only[pv,seval,op,JD,bp,fZ _ (ap.length:Int) (by lia),ek,OH,OI,Kz,c1,c2,S6,S7,hb,jv]
  exact key _ rfl
theorem Ca(nZ:HR)(mZ:Nat)(cs:List Int)(ap:List HC)(r:Fw nZ ap mZ):∃Jh,Fw nZ Jh mZ/\de [.lst (ap.map eA),.lst (cs.map D.int)]=.ok (.f,.lst (Jh.map eA)):=by
 unfold de lb;rw[bh (h:=by rfl)];obtain⟨env',ef,Jh,t2,t3,t4,r',rfl⟩:=for_list (a:=ax 2) (g:=du) (e:=D.int) cs (fun j env=>∃ap t2 t3 t4,Fw nZ ap mZ/\env=[some (.f,.lst (ap.map eA)),some (.f,.lst (cs.map D.int)),t2,t3,t4]) (by
  rintro j c env hj ⟨ap,t2,t3,t4,r,rfl⟩;obtain⟨Jh,u3,u4,r',e⟩:=B9 nZ mZ cs ap r c t3 t4;exact⟨_,rfl,_,e,Jh,_,u3,u4,r',rfl⟩) _ ⟨ap,none,none,none,r,rfl⟩
 rw[aB (env':=_) (by
  unfold iY;simp only[pv,seval,op];exact ef)]
 unfold hV;exact⟨Jh,r',by simp only[pv,seval,op]⟩
theorem zq(ds:List D):dh (.lst ds)=false:=rfl
theorem Cb(ns:List Int):∃nZ ap,Wide nZ ap/\nZ.Nodup/\nZ.length<=3/\df [.lst (ns.map D.int)]=.ok (.f,HD nZ ap):=by
 have c0:aH [.lst (ns.map D.int),.int 0]=.ok (.f,.int (cell ns 0)):=lp ns 0;have c1:aH [.lst (ns.map D.int),.int 1]=.ok (.f,.int (cell ns 1)):=lp ns 1;have c2:aH [.lst (ns.map D.int),.int 2]=.ok (.f,.int (cell ns 2)):=lp ns 2;have c3:aH [.lst (ns.map D.int),.int 3]=.ok (.f,.int (cell ns 3)):=lp ns 3;have m3:=dI (cell ns 1) 3 (by decide);obtain⟨cnt,ec⟩:=T5 (show 0<=1+cell ns 1%3 by lia);obtain⟨nZ,P5,M0,Rz,en⟩:=B4 (cell ns 0) cnt (by lia);obtain⟨xs,OF,ex⟩:=tZ (cell ns 2) 40 (by lia);have ex:aW [.int (cell ns 2),.int 40]=.ok (.l .f,.lst (xs.map D.int)):=ex;have h0:nZ≠[]:=by
  intro h;rw[h,Um]at P5;lia
 unfold df lh;rw[bh (h:=by rfl)];rw[aB (env':=[some (.f,.lst (ns.map D.int)),some (.l .f,.lst (nZ.map D.str)),none,none,none,none,none,none]) (by simp only[pv,seval,op,c0,c1,fZ _ 3 (by decide),ec,en])];rw[aB (env':=[some (.f,.lst (ns.map D.int)),some (.l .f,.lst (nZ.map D.str)),some (.l .f,.lst (xs.map D.int)),none,none,none,none,none]) (by simp only[pv,seval,op,c2,ex])];rw[aB (env':=[some (.f,.lst (ns.map D.int)),some (.l .f,.lst (nZ.map D.str)),some (.l .f,.lst (xs.map D.int)),some (.f,.int (cell ns 3%4)),none,none,none,none]) (by simp only[pv,seval,op,c3,fZ _ 4 (by decide)])];generalize cell ns 3%4=kind;cases hk0:(kind==0) with
 |true=>
  obtain⟨as,mZ,ys,ra,e⟩:=FZ nZ h0 xs OF;have e:=gu (r:=(.l .f,.lst ((bX cS as).map eA))) e;have hf:=kC (bX cS as);refine⟨nZ,bX cS as,ra.sort.ch.wide (by lia) Rz (cj mV as),M0,by lia,?_⟩;rw[aB (env':=[some (.f,.lst (ns.map D.int)),some (.l .f,.lst (nZ.map D.str)),some (.l .f,.lst (ys.map D.int)),some (.f,.int kind),some (.l .f,.lst ((bX cS as).map eA)),none,none,none]) (by simp only[pv,seval,op,hk0,rU,tV,e,hf,UM])];simp only[pv,seval,op,HD]
 |false=>
  cases MJ:(kind==1) with
  |true=>
   obtain⟨as,mZ,ys,ra,e⟩:=El nZ h0 xs OF;have e:=gu (r:=(.l .f,.lst ((bX cS as).map eA))) e;have hf:=kC (bX cS as);refine⟨nZ,bX cS as,ra.sort.ch.wide (by lia) Rz (cj mV as),M0,by lia,?_⟩;rw[aB (env':=[some (.f,.lst (ns.map D.int)),some (.l .f,.lst (nZ.map D.str)),some (.l .f,.lst (ys.map D.int)),some (.f,.int kind),some (.l .f,.lst ((bX cS as).map eA)),none,none,none]) (by simp only[pv,seval,op,hk0,MJ,jv,rU,tV,e,hf,UM])];simp only[pv,seval,op,HD]
  |false=>
   obtain⟨t0,t1,s,gs,ys,b0,b1,S8,S9,Q4,hg,e⟩:=ub nZ.length (by lia) xs OF;have e:=gu (r:=(.f,.tup [.lst [.int t0,.int t1],Im s,.lst (gs.map II)])) e;obtain⟨as,mZ,ra,er⟩:=F1 nZ (by lia) t0 t1 b0.2 b1.2 s ⟨S8,S9⟩ gs hg;have hf:=kC (bX cS as);have K4:flatDs [.lst [.int t0,.int t1],Im s,.lst (gs.map II)]=false:=rfl;have s1:DN (eFunW (.l .f) bF 2 (ah (aq 2) (ah (ai (aX fT (ah (aq 1) aD))) aD))) (fB 3 (az (ax 5) (az (ax 6) (az (ax 7) bW)))) [some (.f,.lst (ns.map D.int)),some (.l .f,.lst (nZ.map D.str)),some (.l .f,.lst (xs.map D.int)),some (.f,.int kind),none,none,none,none]=.ok (.nx [some (.f,.lst (ns.map D.int)),some (.f,.lst (nZ.map D.str)),some (.l .f,.lst (ys.map D.int)),some (.f,.int kind),none,some (.f,.lst [.int t0,.int t1]),some (.f,Im s),some (.f,.lst (gs.map II))]):=by
    simp only[pv,seval,op,rU,tV,bp,e,K4,WA,jv,Gi,Gj]
   have s2:bP 4 (eE dH (ah (aq 1) (ah (aq 6) (ah (aq 7) aD)))) [some (.f,.lst (ns.map D.int)),some (.f,.lst (nZ.map D.str)),some (.l .f,.lst (ys.map D.int)),some (.f,.int kind),none,some (.f,.lst [.int t0,.int t1]),some (.f,Im s),some (.f,.lst (gs.map II))]=.ok (.nx [some (.f,.lst (ns.map D.int)),some (.f,.lst (nZ.map D.str)),some (.l .f,.lst (ys.map D.int)),some (.f,.int kind),some (.l .f,.lst ((bX cS as).map eA)),some (.f,.lst [.int t0,.int t1]),some (.f,Im s),some (.f,.lst (gs.map II))]):=by
    simp only[pv,seval,op,er,hf]
   rw[show(sSeq (Jn (Ic (bC Jl (aq 3) (ai (aE (.int 0))))) _ _) _)=sSeq (Jn (Ic (bC Jl (aq 3) (ai (aE (.int 0))))) _ _) _ from rfl];rw[J5,EL (env':=[some (.f,.lst (ns.map D.int)),some (.l .f,.lst (nZ.map D.str)),some (.l .f,.lst (xs.map D.int)),some (.f,.int kind),none,none,none,none]) (by simp only[pv,seval,op,hk0]),EL (env':=[some (.f,.lst (ns.map D.int)),some (.l .f,.lst (nZ.map D.str)),some (.l .f,.lst (xs.map D.int)),some (.f,.int kind),none,none,none,none]) (by simp only[pv,seval,op,MJ]),aB s1,aB s2];cases hk3:(kind==3) with
   |false=>
    refine⟨nZ,bX cS as,ra.sort.ch.wide (by lia) Rz (cj mV as),M0,by lia,?_⟩;simp only[pv,seval,op,hk3,jv,HD]
   |true=>
    have rs:=ra.sort;obtain⟨ap,fw,ef⟩:=Ca nZ mZ (lz ns (some 4) (some 8)) (bX cS as) ⟨rs.mm,rs.len,rs.bd,rs.nm,ra.come,cj mV as⟩;rw[<-BY]at ef;refine⟨nZ,ap,fw.ch.wide (by lia) Rz fw.so,M0,by lia,?_⟩;simp only[pv,seval,op,hk3,ef,zq,jv,Gi,Gj,HD]
def fJ(T:List HC)(a:HC):List HC:=if a.2.2∈met T then T else T++[a]
def ju(c:Int)(m:List Nat)(T:List HC)(a:HC):List HC:=if a.1=c/\a.2.1=m/\a.2.2∉met T then T++[a] else T
theorem r6(T:List HC)(a:HC):met (T++[a])=met T++[a.2.2]:=by
 unfold met;rw[Tu];rfl
theorem Et(c:Int):∀(ap T:List HC),ap.foldl (jt c) T=(ap.filter fun a=>decide (a.1=c)).foldl fJ T
 |[],T=>rfl
 |a::ap,T=>by
  rw[Uc,Et c ap];by_cases h:a.1=c
  ·rw[UW (by simpa using h),Uc];congr 1
   unfold jt fJ;by_cases h2:a.2.2∈met T
   ·rw[TB (fun z=>z.2 h2),Tt h2]
   ·rw[Tt ⟨h,h2⟩,TB h2]
  ·rw[UX (by simpa using h)];congr 1
   unfold jt;rw[TB (fun z=>h z.1)]
theorem Eu(c:Int)(m:List Nat):∀(ap T:List HC),ap.foldl (ju c m) T=((ap.filter fun a=>decide (a.1=c)).filter fun a=>decide (a.2.1=m)).foldl fJ T
 |[],T=>rfl
 |a::ap,T=>by
  rw[Uc,Eu c m ap];by_cases h:a.1=c
  ·rw[UW (by simpa using h)];by_cases h1:a.2.1=m
   ·rw[UW (by simpa using h1),Uc];congr 1
    unfold ju fJ;by_cases h2:a.2.2∈met T
    ·rw[TB (fun z=>z.2.2 h2),Tt h2]
    ·rw[Tt ⟨h,h1,h2⟩,TB h2]
   ·rw[UX (by simpa using h1)];congr 1
    unfold ju;rw[TB (fun z=>h1 z.2.1)]
  ·rw[UX (by simpa using h)];congr 1
   unfold ju;rw[TB (fun z=>h z.1)]
theorem xK(T:List HC)(a:HC):a.2.2∈met (fJ T a)/\∀x∈met T,x∈met (fJ T a):=by
 unfold fJ;split
 ·rename_i h;exact⟨h,fun _ h=>h⟩
 ·rw[r6];exact⟨Tn _ Tp,fun x h=>Tq _ h⟩
theorem qK:∀(X T:List HC),(∀a∈X,a.2.2∈met (X.foldl fJ T))/\∀x∈met T,x∈met (X.foldl fJ T)
 |[],T=>⟨fun a h=>(nomatch h),fun _ h=>h⟩
 |a::X,T=>by
  rw[Uc];have h:=qK X (fJ T a);have h2:=xK T a;refine⟨fun b hb=>?_,fun x hx=>h.2 x (h2.2 x hx)⟩;rcases Tz.mp hb with rfl|hb
  ·exact h.2 _ h2.1
  ·exact h.1 b hb
theorem oh:∀(X T:List HC),(∀a∈X,a.2.2∈met T)->X.foldl fJ T=T
 |[],T,_=>rfl
 |a::X,T,h=>by
  rw[Uc,show fJ T a=T by unfold fJ;rw[Tt (h a Tp)]];exact oh X T fun b hb=>h b (Tx _ hb)
theorem vf(X T:List HC):X.foldl fJ (X.foldl fJ T)=X.foldl fJ T:=oh X _ (qK X T).1
theorem xM(m:List Nat):∀L:List HC,L.Pairwise (fun a b=>KI b.2.1 a.2.1=false)->(∀a∈L,KI a.2.1 m=false)->(L.filter fun a=>decide (a.2.1=m))++(L.filter fun a=>!decide (a.2.1=m))=L
 |[],_,_=>rfl
 |a::L,hp,hm=>by
  rw[UU]at hp;by_cases h:a.2.1=m
  ·rw[UW (by simpa using h),UX (by simpa using h),VH,xM m L hp.2 fun b hb=>hm b (Tx _ hb)]
  ·have none:∀b∈L,¬ b.2.1=m:=fun b hb e=>by
    have h1:=hp.1 b hb;rw[e]at h1;exact h (l8.tot _ _ (hm a Tp) h1)
   have e1:(L.filter fun a=>decide (a.2.1=m))=[]:=W8.mpr fun b hb=>by simpa using none b hb
   have e2:(L.filter fun a=>!decide (a.2.1=m))=L:=List.filter_eq_self.mpr fun b hb=>by simpa using none b hb
   rw[UX (by simpa using h),UW (by simpa using h),e1,e2];rfl
theorem Cc:∀(nZ:HR) (L T:List HC),nZ.Pairwise (fun a b=>KI b a=false)->L.Pairwise (fun a b=>KI b.2.1 a.2.1=false)->(∀a∈L,a.2.1∈nZ)->
  nZ.foldl (fun T m=>(L.filter fun a=>decide (a.2.1=m)).foldl fJ T) T=L.foldl fJ T
 |[],L,T,_,_,hn=>by
  cases L with
  |nil=>rfl
  |cons a L=>exact nomatch hn a Tp
 |m::ms,L,T,hs,hL,hn=>by
  rw[UU]at hs;have Pz:∀a∈L,KI a.2.1 m=false:=fun a ha=>by
   rcases Tz.mp (hn a ha) with e|e
   ·rw[e];exact l8.irr m
   ·exact hs.1 _ e
  have hp:=xM m L hL Pz;rw[Uc];by_cases hm:m∈ms
  ·rw[Cc ms L _ hs.2 hL fun a ha=>by
    rcases Tz.mp (hn a ha) with e|e
    ·rw[e];exact hm
    ·exact e]
   conv=>lhs;rw[<-hp,UK]
   conv=>rhs;rw[<-hp,UK]
   rw[hp,vf]
  ·have e:∀m'∈ms,(L.filter fun a=>decide (a.2.1=m'))=((L.filter fun a=>!decide (a.2.1=m)).filter fun a=>decide (a.2.1=m')):=fun m' hm'=>by
    rw[List.filter_filter];refine List.filter_congr fun a _=>?_
    by_cases h:a.2.1=m'
    ·have:¬ a.2.1=m:=fun z=>hm (by rw[<-z,h];exact hm')
     simp[h]at this ⊢;exact this
    ·simp[h]
   have e2:∀(l:HR) (T:List HC),(∀x∈l,x∈ms)->l.foldl (fun T m=>(L.filter fun a=>decide (a.2.1=m)).foldl fJ T) T=l.foldl (fun T m'=>((L.filter fun a=>!decide (a.2.1=m)).filter fun a=>decide (a.2.1=m')).foldl fJ T) T:=by
    intro l;induction l with
    |nil=>intro T _;rfl
    |cons x l ih=>
     intro T hx;rw[Uc,Uc,ih _ fun y hy=>hx y (Tx _ hy),e x (hx x Tp)]
   rw[e2 ms _ fun x h=>h,Cc ms _ _ hs.2 (hL.filter _) fun a ha=>?_]
   ·conv=>rhs;rw[<-hp,UK]
   ·have Ta:=U4.mp ha;rcases Tz.mp (hn a Ta.1) with e|e
    ·have:=Ta.2;simp[e]at this
    ·exact e
theorem vg{c:Int}:∀{ap:List HC},ap.Pairwise (fun a b=>cS b a=false)->(ap.filter fun a=>decide (a.1=c)).Pairwise (fun a b=>KI b.2.1 a.2.1=false):=by
 intro ap h;have h2:=h.filter (fun a=>decide (a.1=c));refine List.Pairwise.imp_of_mem (fun{a b} ha hb Lg=>?_) h2;have ea:a.1=c:=by simpa using(U4.mp ha).2
 have eb:b.1=c:=by simpa using(U4.mp hb).2
 cases hl:KI b.2.1 a.2.1 with
 |false=>rfl
 |true=>
  exfalso;have JD:b.2.1≠a.2.1:=fun e=>by
   rw[e,l8.irr]at hl;cases hl
  unfold cS ak at Lg;rw[d9,Tt (by rw[ea,eb]),d9,TB (fun e=>JD (S_inj (Sum.inr.inj e)))]at Lg;unfold KI at hl;rw[TF]at hl;have:pk.blt (Sum.inr (S b.2.1)) (Sum.inr (S a.2.1))=true:=by
   first
    |exact TV hl
    |simpa[pk,S] using hl
  rw[this]at Lg;cases Lg
theorem Cd{nZ:HR}{ap:List HC}(Wd:Wide nZ ap)(c:Int)(T:List HC):nZ.foldl (fun T m=>ap.foldl (ju c m) T) T=ap.foldl (jt c) T:=by
 rw[Et];have e:(fun(T:List HC) (m:List Nat)=>ap.foldl (ju c m) T)=fun T m=>((ap.filter fun a=>decide (a.1=c)).filter fun a=>decide (a.2.1=m)).foldl fJ T:=by
  funext T m
  exact Eu c m ap T
 rw[e];exact Cc nZ _ T Wd.ns (vg Wd.as) fun a ha=>Wd.nm a (U4.mp ha).1
def Mok(T:List HC):Prop:=(met T).Nodup/\∀x∈met T,0<=x/\x<12
theorem Mok.le{T:List HC}(h:Mok T):(met T).length<=12:=fA 12 h.1 h.2
theorem Mok.step{T:List HC}(h:Mok T)(c:Int)(m:List Nat)(a:HC)(ha:0<=a.2.2/\a.2.2<12):Mok (ju c m T a):=by
 unfold ju;split
 ·rename_i hc;unfold Mok;rw[r6];refine⟨TM.mpr ⟨h.1,TY.mpr ⟨Ub,Uw⟩,fun x hx y hy=>?_⟩,fun x hx=>?_⟩
  ·rw[ll hy];rintro rfl;exact hc.2.2 hx
  ·rcases mR hx with hx|hx
   ·exact h.2 x hx
   ·rw[ll hx];exact ha
 ·exact h
def Ki(T:List HC):D:=.dct false ((met T).map D.int) (.non::T.map eA)
theorem uc:∀(ks:List Int) (vs:List D) (x:Int),vs.length=ks.length->(getD (ks.map D.int) vs (.int x)).isSome=decide (x∈ks)
 |[],_,x,_=>rfl
 |k::ks,[],x,h=>by simp at h
 |k::ks,v::vs,x,h=>by
  have ih:=uc ks vs x (by simpa using h);unfold getD at ih ⊢;rw[gU,Uh];by_cases e:x=k
  ·subst e;rw[List.find?_cons_of_pos (by show HE (.int x) (.int x)=true;rw[HE];exact T1 _)];simp
  ·rw[List.find?_cons_of_neg (by show ¬ HE (.int x) (.int k)=true;rw[HE,T6];exact e),ih];simp[e]
theorem Ce(T:List HC)(x:Int):rH (.int x) (Ki T)=.ok (.f,.bl (!decide (x∈met T))):=by
 have e:=uc (met T) (.non::T.map eA) x (by unfold met;simp);unfold rH Ki;dsimp only;rw[Tt (show dY false (.int x)=true from rfl),e]
theorem Cf(T:List HC)(a:HC)(h:a.2.2∉met T):lJ ((met T).map D.int) (.non::T.map eA) (.int a.2.2) (eA a)=((met (T++[a])).map D.int,.non::(T++[a]).map eA):=by
 have e:((met T).map D.int).any (HE (.int a.2.2))=false:=by
  rw[Ve,List.any_eq_false];intro m hm;show ¬ HE (.int a.2.2) (.int m)=true;rw[HE,T6];intro e;exact h (by rw[e];exact hm)
 unfold lJ;rw[e,TB Tw,r6,Tu,Tu];rfl
theorem Cg(C:D)(dn:Option R)(c:Int)(m:List Nat)(T:List HC)(hT:Mok T)(a:HC):dJ [some (.f,C),some (.d,Ki T),dn,some (.f,.int c),some (.f,.str m),some (.f,eA a)]=.ok (.nx [some (.f,C),some (.d,Ki (ju c m T a)),dn,some (.f,.int c),some (.f,.str m),some (.f,eA a)]):=by
 have hl:=hT.le;have z:((met T).map D.int).length<sizeLine:=e8 (by rw[bp];lia);have hn:=Ce T a.2.2;unfold dJ;unfold ju;by_cases h1:a.1=c
 ·have e1:(a.1==c)=true:=T6.mpr h1;by_cases h2:a.2.1=m
  ·have e2:(a.2.1==m)=true:=T6.mpr h2;by_cases h3:a.2.2∈met T
   ·rw[TB (fun q=>q.2.2 h3)];unfold eA;simp only[pv,seval,op,e1,e2,at2,hn,h3,Vm,Vx,jv]
   ·rw[Tt ⟨h1,h2,h3⟩];have hp:lJ ((met T).map D.int) (.non::T.map eA) (.int a.2.2) (.tup [.int a.1,.str a.2.1,.int a.2.2])=((met (T++[a])).map D.int,.non::(T++[a]).map eA):=Cf T a h3;rw[show eA a=.tup [.int a.1,.str a.2.1,.int a.2.2] from rfl];simp only[pv,seval,op,e1,e2,at2,hn,h3,Vf,VI];unfold Ki;simp only[pv,seval,op,z,Vm,UM,hp]
  ·rw[TB (fun q=>h2 q.2.1)];have e2:(a.2.1==m)=false:=UC.mpr h2;unfold eA;simp only[pv,seval,op,e1,e2,jv]
 ·rw[TB (fun q=>h1 q.1)];have e1:(a.1==c)=false:=UC.mpr h1;unfold eA;simp only[pv,seval,op,e1,jv]
theorem zr{nZ:HR}{ap:List HC}(Wd:Wide nZ ap)(dn:Option R)(c:Int)(m:List Nat)(T:List HC)(hT:Mok T)(t5:Option R):
  ∃PB,Mok (ap.foldl (ju c m) T)/\dM [some (.f,HD nZ ap),some (.d,Ki T),dn,some (.f,.int c),some (.f,.str m),t5]=.ok (.nx [some (.f,HD nZ ap),some (.d,Ki (ap.foldl (ju c m) T)),dn,some (.f,.int c),some (.f,.str m),PB]):=by
 obtain⟨env',ef,T2,u5,e2,h2,rfl⟩:=for_list (a:=ax 5) (g:=dJ) (e:=eA) ap (fun j env=>∃T2 u5,T2=(ap.take j).foldl (ju c m) T/\Mok T2/\env=[some (.f,HD nZ ap),some (.d,Ki T2),dn,some (.f,.int c),some (.f,.str m),u5]) (by
  rintro j a env hj ⟨T2,u5,e2,h2,rfl⟩;have Rx:=T3 hj;have ht:ap.take (j+1)=ap.take j++[a]:=by rw[Uu,hj];rfl
  exact⟨_,rfl,_,Cg _ dn c m T2 h2 a,ju c m T2 a,some (.f,eA a),by rw[ht,UK,e2];rfl,h2.step c m a (Wd.bd a Rx).2,rfl⟩) _ ⟨T,t5,by rw[Vd];rfl,hT,rfl⟩
 rw[Ux]at e2;subst e2;refine⟨u5,h2,?_⟩;unfold dM j3;unfold HD at ef ⊢;simp only[pv,seval,op];exact ef
theorem zt{nZ:HR}{ap:List HC}(Wd:Wide nZ ap)(dn:Option R)(c:Int)(T:List HC)(hT:Mok T)(t4 t5:Option R):
  ∃Q1 PB,Mok (ap.foldl (jt c) T)/\gx [some (.f,HD nZ ap),some (.d,Ki T),dn,some (.f,.int c),t4,t5]=.ok (.nx [some (.f,HD nZ ap),some (.d,Ki (ap.foldl (jt c) T)),dn,some (.f,.int c),Q1,PB]):=by
 obtain⟨env',ef,T2,u4,u5,e2,h2,rfl⟩:=for_list (a:=ax 4) (g:=dM) (e:=D.str) nZ (fun j env=>∃T2 u4 u5,T2=(nZ.take j).foldl (fun T m=>ap.foldl (ju c m) T) T/\Mok T2/\env=[some (.f,HD nZ ap),some (.d,Ki T2),dn,some (.f,.int c),u4,u5]) (by
  rintro j m env hj ⟨T2,u4,u5,e2,h2,rfl⟩;obtain⟨PB,h3,e3⟩:=zr Wd dn c m T2 h2 u5;have ht:nZ.take (j+1)=nZ.take j++[m]:=by rw[Uu,hj];rfl
  exact⟨_,rfl,_,e3,_,some (.f,.str m),PB,by rw[ht,UK,<-e2];rfl,h3,rfl⟩) _ ⟨T,t4,t5,by rw[Vd];rfl,hT,rfl⟩
 rw[Ux,Cd Wd]at e2;subst e2;refine⟨u4,u5,h2,?_⟩;unfold gx;unfold HD at ef ⊢;simp only[pv,seval,op];exact ef
theorem vh{nZ:HR}{ap:List HC}(Wd:Wide nZ ap):∃T,Run ap (met T).length T/\c5 [HD nZ ap]=.ok (.d,Ki T):=by
 unfold c5 mE;rw[bh (h:=by rfl)];rw[aB (env':=[some (.f,HD nZ ap),some (.d,Ki []),none,none,none,none]) (by simp only[pv,↓reduceIte,Nat.reduceAdd,Nat.reduceLT,Nat.reduceLeDiff,Nat.reduceEqDiff,op];rfl)];rw[aB (env':=[some (.f,HD nZ ap),some (.d,Ki []),some (.f,.int 0),none,none,none]) (by simp only[pv,↓reduceIte,Nat.reduceAdd,Nat.reduceLT,Nat.reduceLeDiff,Nat.reduceEqDiff,op])];obtain⟨env',ew,T,i,t3,t4,t5,hi,JM,rfl⟩:=ka (c:=(Ic (av Kv (aq 2) (ai (aX fT (ah (aq 1) aD)))))) (g:=fD)
  (fun k env=>∃T i t3 t4 t5,Mok T/\i<=(met T).length/\Run ap i T/\k=13-i/\env=[some (.f,HD nZ ap),some (.d,Ki T),some (.f,.int ((i:Nat):Int)),t3,t4,t5]) (fun env=>∃T i t3 t4 t5,i=(met T).length/\Run ap i T/\env=[some (.f,HD nZ ap),some (.d,Ki T),some (.f,.int ((i:Nat):Int)),t3,t4,t5]) (by
  rintro k env ⟨T,i,t3,t4,t5,hM,hi,JM,rfl,rfl⟩;have NI:=hM.le;by_cases Iy:i<(met T).length
  ·refine .inr ⟨[some (.f,HD nZ ap),some (.d,Ki T),some (.f,.int ((i:Nat):Int)),t3,t4,t5],?_,?_⟩
   ·have:(i:Int)<((met T).length:Int):=by lia
    unfold Ki;simp only[pv,↓reduceIte,Nat.reduceAdd,Nat.reduceLT,Nat.reduceLeDiff,Nat.reduceEqDiff,op,bp,this,Vm]
   ·obtain⟨c,hc⟩:∃c,(met T)[i]?=some c:=⟨(met T)[i],xp Iy⟩
    have MM:IH ((met T).map D.int) (i:Int)=some (.int c):=gW (by rw[List.getElem?_map,hc];rfl);obtain⟨Q1,PB,h2,e2⟩:=zt Wd (some (.f,.int ((i:Nat):Int))) c T hM t4 t5;have Nr:=Run.s JM hc;have MV:(met T).length<=(met (ap.foldl (jt c) T)).length:=by
     have:∀(X T:List HC),T.length<=(X.foldl (jt c) T).length:=by
      intro X;induction X with
      |nil=>intro T;exact Ts _
      |cons a X ih=>
       intro T;rw[Uc];refine Uq ?_ (ih _);unfold jt;split
       ·rw[j8];lia
       ·exact Ts _
     have:=this ap T;unfold met;rw[TJ,TJ,bp,bp];lia
    refine⟨_,13-(i+1),?_,by lia,_,i+1,some (.f,.int c),Q1,PB,h2,by lia,Nr,rfl,rfl⟩;unfold fD;rw[aB (env':=[some (.f,HD nZ ap),some (.d,Ki T),some (.f,.int ((i:Nat):Int)),some (.f,.int c),t4,t5]) (by
     unfold Ki;simp only[pv,↓reduceIte,Nat.reduceAdd,Nat.reduceLT,Nat.reduceLeDiff,Nat.reduceEqDiff,op,zi,MM])]
    rw[aB (env':=_) e2];unfold iZ;simp only[pv,↓reduceIte,Nat.reduceAdd,Nat.reduceLT,Nat.reduceLeDiff,Nat.reduceEqDiff,op,Xo,Wy]
  ·refine .inl ⟨_,?_,T,i,t3,t4,t5,by lia,JM,rfl⟩;have:¬ (i:Int)<((met T).length:Int):=by lia
   unfold Ki;simp only[pv,↓reduceIte,Nat.reduceAdd,Nat.reduceLT,Nat.reduceLeDiff,Nat.reduceEqDiff,op,bp,this,Vf]) 100000 13 _ (by decide) ⟨[],0,none,none,none,⟨TY.mpr ⟨Ub,Uw⟩,fun x hx=>by rw[ll hx];decide⟩,Uj _,.z,rfl,rfl⟩
 subst hi;rw[aB (env':=_) (by
  unfold j4;exact ew)]
 unfold i0;exact⟨T,JM,by simp only[pv,↓reduceIte,Nat.reduceAdd,Nat.reduceLT,Nat.reduceLeDiff,Nat.reduceEqDiff,op]⟩
theorem vk{nZ:HR}{ap:List HC}(Wd:Wide nZ ap){N:List Nd}(F:Found ap N):(N.length:Int)=aS ap:=by
 have L9:=Wd.st;obtain⟨mZ,em⟩:=T5 (show 0<=aS ap by lia);have h1:N.length<=mZ:=by
  have:=fA mZ F.nd fun x hx=>by
   obtain⟨n,hn,rfl⟩:=qB hx;rcases F.par n hn with rfl|⟨a,ha,m,hm,_,rfl⟩
   ·exact⟨XN _,by show(0:Int)<mZ;lia⟩
   ·have:=qH ha;have:=Wd.bd a ha;exact⟨this.2.1,by show a.2.2<mZ;lia⟩
  rw[bp]at this;exact this
 have h2:mZ<=N.length:=by
  have:=rZ ((List.range mZ).map fun(k:Nat)=>(k:Int)) (N.map (·.1)) (e7 _ _ fun i j _ _ e=>by lia) fun x hx=>by
   obtain⟨k,hk,rfl⟩:=qB hx;rw[Uz]at hk;exact Wd.all N F k (by lia) (by lia)
  rw[bp,bp,TH]at this;exact this
 lia
theorem Ci(N:List Nd)(s:Int)(w w':HR)(h:s∉N.map (·.1)):lJ ((N++[(s,w)]).map fun n:Nd=>D.int n.1) ((N++[(s,w)]).map gI) (.int s) (gI (s,w'))=((N++[(s,w')]).map (fun n:Nd=>D.int n.1),(N++[(s,w')]).map gI):=by
 have e:((N++[(s,w)]).map fun n:Nd=>D.int n.1).any (HE (.int s))=true:=by
  rw[Uy];exact⟨.int s,Ur.mpr ⟨(s,w),Tn _ Tp,rfl⟩,by rw[HE];exact T1 _⟩
 unfold lJ;rw[e,Tt rfl,WT,TN,Tu,Tu,Tu,Tu];have e2:(N.map ((fun p:D×D=>if HE (.int s) p.1=true then gI (s,w') else p.2)∘fun n:Nd=>(D.int n.1,gI n)))=N.map gI:=by
  refine Up fun n hn=>?_
  show(if HE (.int s) (.int n.1)=true then _ else _)=_;rw[TB (by rw[HE,T6];intro e;exact h (by rw[e];exact Ur.mpr ⟨n,hn,rfl⟩))]
 rw[e2];have e3:([(s,w)]:List Nd).map ((fun p:D×D=>if HE (.int s) p.1=true then gI (s,w') else p.2)∘fun n:Nd=>(D.int n.1,gI n))=[gI (s,w')]:=by
  show[if HE (.int s) (.int s)=true then _ else _]=_;rw[Tt (by rw[HE];exact T1 _)]
 rw[e3];rfl
theorem Ew(N:List Nd)(k:Nat)(n:Nd)(nd:(N.map (·.1)).Nodup)(h:N[k]?=some n):LM (.dct false (N.map fun n:Nd=>D.int n.1) (N.map gI)) (.int n.1)=.ok (.f,gI n):=by
 unfold LM;dsimp only;rw[Tt (show dY false (.int n.1)=true from rfl),o8 N k n nd h]
theorem xN(C:D)(N:List Nd)(hl:N.length<=12)(s:Int)(hs:s∉N.map (·.1))(nd:(N.map (·.1)).Nodup)(a:HC)(k:Nat)(n:Nd)(hn:N[k]?=some n)(hw:n.2.length<=12)(e1:a.1=n.1):
  dN [some (.f,C),some (.d,.dct false (N.map fun n:Nd=>D.int n.1) (N.map gI)),some (.f,.int s),some (.f,eA a)]=.ok (.nx [some (.f,C),some (.d,.dct false ((N++[(s,n.2++[a.2.1])]).map fun n:Nd=>D.int n.1) ((N++[(s,n.2++[a.2.1])]).map gI)),some (.f,.int s),some (.f,eA a)]):=by
 have hp:=xw N (s,[]) hs;have hz:(decide ((N.map fun n:Nd=>D.int n.1).length<sizeLine))=true:=TV (e8 (by rw[bp];lia));unfold dN;have ew0:gI (s,[])=.tup []:=rfl;rw[ew0]at hp;rw[aB (env':=[some (.f,C),some (.d,.dct false ((N++[(s,[])]).map fun n:Nd=>D.int n.1) ((N++[(s,[])]).map gI)),some (.f,.int s),some (.f,eA a)]) (by
  dsimp only at hp;simp only[pv,seval,op,hz,UM,hp])]
 have NY:((N++[(s,([]:HR))]).map (·.1)).Nodup:=by
  rw[Tu,TM];refine⟨nd,TY.mpr ⟨Ub,Uw⟩,fun x hx y hy=>?_⟩;have:y=s:=by simpa using hy
  rw[this];rintro rfl;exact hs hx
 have hd:=Ew (N++[(s,[])]) k n NY (ir hn);rw[<-e1]at hd;have ha:=Gk n.2 a.2.1 (by lia);have MY:=Ci N s [] (n.2++[a.2.1]) hs;have ew:gI n=.tup (n.2.map D.str):=rfl;have ew2:gI (s,n.2++[a.2.1])=.tup ((n.2++[a.2.1]).map D.str):=rfl;rw[ew]at hd;rw[ew2]at MY;have Li:(decide (((N++[(s,([]:HR))]).map fun n:Nd=>D.int n.1).length<sizeLine))=true:=TV (e8 (by rw[bp,j8,TJ,Um];lia));generalize ((N++[(s,([]:HR))]).map fun n:Nd=>D.int n.1)=KS at hd MY Li ⊢;generalize ((N++[(s,([]:HR))]).map gI)=VS at hd MY Li ⊢;generalize ((N++[(s,n.2++[a.2.1])]).map fun n:Nd=>D.int n.1)=KS' at MY ⊢;generalize ((N++[(s,n.2++[a.2.1])]).map gI)=VS' at MY ⊢;have hi:isnO (.tup [.int a.1,.str a.2.1,.int a.2.2]) .non=.ok (.f,.bl true):=rfl;rw[show eA a=.tup [.int a.1,.str a.2.1,.int a.2.2] from rfl];generalize ((n.2++[a.2.1]).map D.str)=W at ha MY;simp only[pv,seval,op,hi,hd,ha,Li,UM,MY]
def wD(w:HR):D:=.tup (w.map D.str)
theorem vm{nZ:HR}{ap:List HC}(Wd:Wide nZ ap){N:List Nd}{T:List HC}(b:Bfs ap N.length [] N T)(JM:Run ap N.length T):
  c5 [HD nZ ap]=.ok (.d,Ki T)/\bo [HD nZ ap]=.ok (.l .f,.lst (((List.range (aS ap).toNat).map fun(s:Nat)=>br N (s:Int)).map wD)):=by
 obtain⟨T',r',et⟩:=vh Wd;have hN:N.length=(met T).length:=by rw[<-b.nm,bp]
 have e:T'=T:=r'.end rfl JM hN;subst e;refine⟨et,?_⟩;have F:=b.found;have NI:=F.le;have hlen:=b.len;unfold bo mF;rw[bh (h:=by rfl)];rw[aB (env':=[some (.f,HD nZ ap),some (.d,.dct false [] []),none,none]) (by simp only[pv,seval,op])];have KH:aT .d (Ki T')=true:=by
  show flatDs (.non::T'.map eA)=true;rw[flatDs];exact kC T'
 obtain⟨env',ef,t2,t3,rfl⟩:=for_list (a:=fB 2 (az (ax 2) (az (ax 3) bW))) (g:=dN) (e:=fun z:D×D=>D.tup [z.1,z.2]) (((met T').map D.int).zip (.non::T'.map eA)) (fun j env=>∃t2 t3,env=[some (.f,HD nZ ap),some (.d,.dct false ((N.take j).map fun n:Nd=>D.int n.1) ((N.take j).map gI)),t2,t3]) (by
  rintro j z env hj ⟨t2,t3,rfl⟩;obtain⟨h1,h2⟩:=List.getElem?_zip_eq_some.mp hj;rw[List.getElem?_map,<-b.nm,List.getElem?_map,Option.map_map,Uk]at h1;obtain⟨n,hn,e1⟩:=h1;have ht:N.take (j+1)=N.take j++[n]:=by rw[Uu,hn];rfl
  have Sg:((N.take j).map (·.1)).Nodup:=by rw[Vc];exact F.nd.take
  have Ms:n.1∉(N.take j).map (·.1):=by
   have NY:((N.take (j+1)).map (·.1)).Nodup:=by rw[Vc];exact F.nd.take
   rw[ht,Tu,TM]at NY;intro hm;exact NY.2.2 _ hm n.1 (by simp) rfl
  have Iy:=(nh hn).1;have e1:D.int n.1=z.1:=e1;refine⟨[some (.f,HD nZ ap),some (.d,.dct false ((N.take j).map fun n:Nd=>D.int n.1) ((N.take j).map gI)),some (.f,z.1),some (.f,z.2)],rfl,_,?_,some (.f,z.1),some (.f,z.2),rfl⟩;rw[ht,<-e1];cases j with
  |zero=>
   have e2:z.2=.non:=by simpa using h2.symm
   rw[F.z]at hn;cases hn;rw[e2];rfl
  |succ j=>
   rw[List.getElem?_cons_succ,List.getElem?_map,Uk]at h2;obtain⟨a,ha,e2⟩:=h2;obtain⟨_,k,n2,hk,Ld,ea,Tb⟩:=b.tr j a ha;rw[hn]at Tb;cases Tb;rw[<-e2];exact xN _ (N.take (j+1)) (by rw[UI];lia) a.2.2 Ms Sg a k n2 (by rw[List.getElem?_take_of_lt (by lia)];exact Ld) (F.wl n2 (T3 Ld)) ea) _ ⟨none,none,rfl⟩
 have hzl:(((met T').map D.int).zip (D.non::T'.map eA)).length=N.length:=by
  rw[UO,bp,TJ,bp,<-hN];lia
 rw[hzl,Ux,Vd,Ul,Ul]at ef;rw[aB (env':=_) (by
  unfold j5;simp only[pv,seval,op,zh,et,KH];unfold Ki;simp only[pv,seval,op];exact ef)]
 clear ef;unfold i4;have hcnt:=vk Wd F;rw[show(aS ap).toNat=N.length by lia];have hc:dm (ax 0) dW (av LM (aq 1) (aq 0)) ((List.range N.length).map fun(k:Nat)=>D.int (k:Int)) [none,some (.f,.dct false (N.map fun n:Nd=>D.int n.1) (N.map gI))]=.ok ((List.range N.length).map fun(s:Nat)=>wD (br N (s:Int))):=by
  refine cv (r:=fun s:Nat=>wD (br N (s:Int))) (fun env=>∃t1,env=[t1,some (.f,.dct false (N.map fun n:Nd=>D.int n.1) (N.map gI))]) (List.range N.length) ?_ _ ⟨_,rfl⟩;rintro s Mk env ⟨t1,rfl⟩;rw[Uz]at Mk;obtain⟨n,hn,en⟩:=qB (Wd.all N F (s:Int) (by lia) (by lia));obtain⟨k,hk⟩:=Ug.mp hn;have hd:LM (.dct false (N.map fun n:Nd=>D.int n.1) (N.map gI)) (.int (s:Int))=.ok (.f,wD (br N (s:Int))):=by
   rw[<-en,Ew N k n F.nd hk,tY F.nd hn];rfl
  refine⟨[some (.f,.int (s:Int)),some (.f,.dct false (N.map fun n:Nd=>D.int n.1) (N.map gI))],rfl,?_⟩;simp only[pv,seval,op,hd];exact⟨_,_,rfl,_,rfl⟩
 rw[TN];have hf:flatDs ((List.range N.length).map fun(s:Nat)=>wD (br N (s:Int)))=true:=by
  rw[cy,U7,T8];intro s _;show dh (.tup _)=true;rw[eD,PV.flat_strs]
 simp only[pv,seval,op,bp];rw[Tt (by lia)];simp only[pv,seval,op,T4,hc];rw[Tt (cf (by rw[bp,TH];lia)),hf];simp only[pv,seval,op];rfl
theorem Ex(w:HR)(m:List Nat):CA (w.map D.str) [.str m]=.ok (.f,.int ((w.count m:Nat):Int)):=by
 unfold CA;dsimp only;rw[fY]
def row(nZ w:HR):List Int:=nZ.map fun m=>((w.count m:Nat):Int)
theorem xO(nZ w:HR)(hl:nZ.length<=1000):eS [.tup (nZ.map D.str),.tup (w.map D.str)]=.ok (.f,.tup ((row nZ w).map D.int)):=by
 unfold eS qm;rw[bh (h:=by rfl)];have hc:dm (ax 0) dW (rB CA (aq 1) (ah (aq 0) aD)) (nZ.map D.str) [none,some (.f,.tup (w.map D.str))]=.ok ((row nZ w).map D.int):=by
  rw[cv (r:=fun m:List Nat=>D.int ((w.count m:Nat):Int)) (fun env=>∃t1,env=[t1,some (.f,.tup (w.map D.str))]) nZ ?_ _ ⟨_,rfl⟩]
  ·unfold row;rw[TN];rfl
  ·rintro m _ env ⟨t1,rfl⟩;refine⟨[some (.f,.str m),some (.f,.tup (w.map D.str))],rfl,?_⟩;simp only[pv,↓reduceIte,Nat.reduceAdd,Nat.reduceLT,Nat.reduceLeDiff,Nat.reduceEqDiff,op,Ex];exact⟨_,_,rfl,_,rfl⟩
 simp only[pv,↓reduceIte,Nat.reduceAdd,Nat.reduceLT,Nat.reduceLeDiff,Nat.reduceEqDiff,op,hc];rw[Tt (cf (by unfold row;rw[bp,bp];lia))];simp only[pv,↓reduceIte,Nat.reduceAdd,Nat.reduceLT,Nat.reduceLeDiff,Nat.reduceEqDiff,op]
theorem Ey(l:List (Int×Int))(hl:l.length<=1000):nW [.tup (l.map fun p=>.int p.1),.tup (l.map fun p=>.int p.2)]=.ok (.f,.tup ((l.map fun p=>p.1-p.2).map D.int)):=by
 unfold nW An;rw[bh (h:=by rfl)];have ez:((l.map fun p=>D.int p.1).zip (l.map fun p=>D.int p.2)).map (fun z=>D.tup [z.1,z.2])=l.map fun p=>D.tup [.int p.1,.int p.2]:=by
  rw[WT,TN];rfl
 have hc:dm (fB 2 (az (ax 0) (az (ax 1) bW))) dW (av jG (aq 0) (aq 1)) (l.map fun p=>D.tup [.int p.1,.int p.2]) [none,none]=.ok ((l.map fun p=>p.1-p.2).map D.int):=by
  rw[cv (r:=fun p:Int×Int=>D.int (p.1-p.2)) (fun env=>∃t1 t2,env=[t1,t2]) l ?_ _ ⟨_,_,rfl⟩]
  ·rw[TN];rfl
  ·rintro p _ env ⟨t1,t2,rfl⟩;refine⟨_,mS _ _ t1 t2 [],?_⟩;simp only[pv,↓reduceIte,Nat.reduceAdd,Nat.reduceLT,Nat.reduceLeDiff,Nat.reduceEqDiff,op];exact⟨_,_,rfl,_,_,rfl⟩
 simp only[pv,↓reduceIte,Nat.reduceAdd,Nat.reduceLT,Nat.reduceLeDiff,Nat.reduceEqDiff,op,ez,hc];rw[Tt (cf (by rw[bp,bp];lia))];simp only[pv,↓reduceIte,Nat.reduceAdd,Nat.reduceLT,Nat.reduceLeDiff,Nat.reduceEqDiff,op]
theorem Ar(nZ:HR)(N:List Nd)(mZ:Nat):flatDs ((List.range mZ).map fun(s:Nat)=>D.tup ((row nZ (br N (s:Int))).map D.int))=true:=by
 rw[cy,U7,T8];intro s _;show dh (.tup _)=true;rw[eD,HF]
theorem Ez(N:List Nd)(mZ:Nat):flatDs ((List.range mZ).map fun(s:Nat)=>D.tup ((br N (s:Int)).map D.str))=true:=by
 rw[cy,U7,T8];intro s _;show dh (.tup _)=true;rw[eD,PV.flat_strs]
theorem r9{nZ:HR}{ap:List HC}{N:List Nd}{mZ:Nat}(hm:mZ<=12)(hl:nZ.length<=1000)(ew:eR [HD nZ ap]=.ok (.l .f,.lst ((List.range mZ).map fun(s:Nat)=>D.tup ((br N (s:Int)).map D.str)))):cX [HD nZ ap]=.ok (.l .f,.lst ((List.range mZ).map fun(s:Nat)=>D.tup ((row nZ (br N (s:Int))).map D.int))):=by
 unfold cX mC;rw[bh (h:=by rfl)];have hc:dm (ax 0) dW (eE eS (ah (ai (av HG (aq 1) (ai (aE (.int 0))))) (ah (aq 0) aD))) ((List.range mZ).map fun(s:Nat)=>D.tup ((br N (s:Int)).map D.str)) [none,some (.f,HD nZ ap)]=.ok ((List.range mZ).map fun(s:Nat)=>D.tup ((row nZ (br N (s:Int))).map D.int)):=by
  refine cv (r:=fun s:Nat=>D.tup ((row nZ (br N (s:Int))).map D.int)) (fun env=>∃t1,env=[t1,some (.f,HD nZ ap)]) (List.range mZ) ?_ _ ⟨_,rfl⟩;rintro s _ env ⟨t1,rfl⟩;refine⟨[some (.f,.tup ((br N (s:Int)).map D.str)),some (.f,HD nZ ap)],rfl,?_⟩;unfold HD;simp only[pv,↓reduceIte,Nat.reduceAdd,Nat.reduceLT,Nat.reduceLeDiff,Nat.reduceEqDiff,op,xO nZ _ hl];exact⟨_,_,rfl,_,rfl⟩
 simp only[pv,↓reduceIte,Nat.reduceAdd,Nat.reduceLT,Nat.reduceLeDiff,Nat.reduceEqDiff,op,ew,Ez];rw[hc,IG,Tt (cf (by rw[bp,TH];lia)),Ar];simp only[pv,↓reduceIte,Nat.reduceAdd,Nat.reduceLT,Nat.reduceLeDiff,Nat.reduceEqDiff,op]
def dot(r uZ:List Int):Int:=((r.zip uZ).map fun p=>p.1*p.2).sum
theorem ke(a b:Int)(r s:List Int):dot (a::r) (b::s)=a*b+dot r s:=by
 unfold dot;rw[Uh,gU,List.sum_cons]
theorem xP(w:HR)(m:List Nat):∀(nZ:HR) (uZ:List Int),nZ.Nodup->uZ.length=nZ.length->m∈nZ->dot (row nZ (w++[m])) uZ=dot (row nZ w) uZ+uZ.getD (nZ.idxOf m) 0
 |[],_,_,_,h=>nomatch h
 |x::nZ,[],_,h,_=>by simp at h
 |x::nZ,b::uZ,nd,hl,hm=>by
  have nd:=TY.mp nd;have e1:∀v:HR,row (x::nZ) v=((v.count x:Nat):Int)::row nZ v:=fun v=>rfl
  rw[e1,e1,ke,ke];by_cases hx:x=m
  ·subst hx;have e2:row nZ (w++[x])=row nZ w:=by
    unfold row;refine Up fun y hy=>?_
    have JD:y≠x:=fun h=>nd.1 (h▸hy)
    rw[WM,Xp (fun h=>JD h.symm),XD,Yj]
   rw[e2,WM,List.count_singleton_self,List.idxOf_cons_self,List.getD_cons_zero];have:(((w.count x+1:Nat)):Int)=(w.count x:Int)+1:=by lia
   rw[this,Int.add_mul];lia
  ·have hm:=(Tz.mp hm).resolve_left fun h=>hx h.symm
   have ih:=xP w m nZ uZ nd.2 (by simpa using hl) hm;rw[ih,WM,Xp (fun h=>hx h.symm),XD,Yj,Xl,beq_false_of_ne hx,cond_false,List.getD_cons_succ];lia
theorem xQ(nZ w:HR)(hw:w.length<=1000):∀x∈row nZ w,dq x=true:=by
 intro x hx;unfold row at hx;obtain⟨m,_,rfl⟩:=qB hx;have h1:=List.count_le_length (a:=m) (l:=w);exact qE _ (by lia)
theorem m5 {nZ : HR} {m : List Nat} (h : m ∈ nZ) : iM (nZ.map D.str) [.str m] = .ok (.f, .int ((nZ.idxOf m : Nat) : Int)) := by
  first
    | (unfold iM
       dsimp only
       rw [fY]
       dsimp only
       rw [Tt h])
    | (unfold iM
       simp only [fY, h, VQ])
def JS(nZ:HR)(uZ:List Int)(w:HR):Int:=(w.map fun m=>uZ.getD (nZ.idxOf m) 0).sum
theorem ud:∀(nZ:HR) (uZ:List Int),dot (row nZ []) uZ=0
 |[],uZ=>rfl
 |_::_,[]=>rfl
 |x::nZ,b::uZ=>by
  show dot (((([]:HR).count x:Nat):Int)::row nZ []) (b::uZ)=0;rw[ke,ud nZ uZ,XD];lia
theorem Cj(nZ:HR)(uZ:List Int)(nd:nZ.Nodup)(hl:uZ.length=nZ.length):∀(n:Nat) (w:HR),w.length=n->(∀m∈w,m∈nZ)->dot (row nZ w) uZ=JS nZ uZ w:=by
 intro n;induction n with
 |zero=>
  intro w hw _;obtain rfl:w=[]:=Ue hw;rw[ud];rfl
 |succ n ih=>
  intro w hw hm;have JD:w≠[]:=by
   intro h;rw[h]at hw;cases hw
  obtain⟨u,m,e⟩:∃u m,w=u++[m]:=⟨w.dropLast,w.getLast JD,(Wo JD).symm⟩
  subst e;rw[j8,U5]at hw;rw[xP u m nZ uZ nd hl (hm m (Tn _ (TU.mpr rfl))),ih u (by lia) fun y hy=>hm y (Tq _ hy)];unfold JS;rw[Tu,List.sum_append,List.map_singleton,List.sum_singleton]
theorem ue:∀(a b:List Int),dot a b=dot b a
 |[],[]=>rfl
 |[],_::_=>rfl
 |_::_,[]=>rfl
 |x::a,y::b=>by rw[ke,ke,ue a b,Int.mul_comm]
theorem xR(a c:List Int)(hl:a.length<=1000)(hs:∀x∈c,dq x=true):eQ [.tup (a.map D.int),.tup (c.map D.int)]=.ok (.f,.int (dot c a)):=by
 unfold eQ qj;rw[bh (h:=by rfl)];have hc:dm (fB 2 (az (ax 0) (az (ax 1) bW))) dW (av iN (aq 0) (aq 1)) ((a.zip c).map fun z=>D.tup [D.int z.1,D.int z.2]) [none,none]=.ok (((a.zip c).map fun p=>p.1*p.2).map D.int):=by
  rw[cv (r:=fun z:Int×Int=>D.int (z.1*z.2)) (fun env=>∃t u,env=[t,u]) (a.zip c) ?_ _ ⟨none,none,rfl⟩]
  ·rw[TN];rfl
  ·rintro z hz env ⟨t,u,rfl⟩;have Li:=(V1 (show(z.1,z.2)∈a.zip c from hz)).2;refine⟨[some (.f,.int z.1),some (.f,.int z.2)],rfl,.f,[some (.f,.int z.1),some (.f,.int z.2)],?_,_,_,rfl⟩;have hm:=Hd z.1 z.2 (hs _ Li);rw[mQ]at hm;simp only[pv,↓reduceIte,Nat.reduceAdd,Nat.reduceLT,Nat.reduceLeDiff,Nat.reduceEqDiff,op,hm]
 have hlen:(((a.zip c).map fun p=>p.1*p.2).map D.int).length<=sizeLine:=cf (by
  rw[bp,bp,UO];lia)
 have K4:=HF ((a.zip c).map fun p=>p.1*p.2);simp only[pv,↓reduceIte,Nat.reduceAdd,Nat.reduceLT,Nat.reduceLeDiff,Nat.reduceEqDiff,op,lP,hc,hlen,K4,xr];rw[ue];rfl
def pD(b:Int)(l:List (Int×Int)):D:=.tup [.int b,.tup (l.map fun p=>D.int p.2),.tup (l.map fun p=>D.int p.1)]
def IW(l:List (Int×Int)):List Int:=l.map fun p=>p.1-p.2
theorem Ck{nZ:HR}{ap:List HC}{N:List Nd}{mZ:Nat}(b:Int)(l:List (Int×Int))(nd:nZ.Nodup)(Lx:l.length=nZ.length)(hn:nZ.length<=5)(hm:mZ<=12)(hw:∀s:Int,(br N s).length<=1000)(PD:∀s:Nat,s<mZ->∀m∈br N (s:Int),m∈nZ)
  (ec:cX [HD nZ ap]=.ok (.l .f,.lst ((List.range mZ).map fun(s:Nat)=>D.tup ((row nZ (br N (s:Int))).map D.int)))):cn [HD nZ ap,pD b l]=.ok (.l .f,.lst (((List.range mZ).map fun(s:Nat)=>b+JS nZ (IW l) (br N (s:Int))).map D.int)):=by
 unfold cn jS;rw[bh (h:=by rfl)];have e1:=Ey l (by lia);have f1:dh (.tup ((IW l).map D.int))=true:=by rw[eD,HF]
 rw[aB (env':=[some (.f,HD nZ ap),some (.f,pD b l),some (.f,.tup ((IW l).map D.int))]) (by
  unfold pD;simp only[pv,↓reduceIte,Nat.reduceAdd,Nat.reduceLT,Nat.reduceLeDiff,Nat.reduceEqDiff,op,Lc,at2,e1,dw];rfl)]
 have hc:dm (ax 0) dW (av cB (ai (av HG (aq 1) (ai (aE (.int 0))))) (ai (eE eQ (ah (aq 2) (ah (aq 0) aD))))) ((List.range mZ).map fun(s:Nat)=>D.tup ((row nZ (br N (s:Int))).map D.int)) [none,some (.f,pD b l),some (.f,.tup ((IW l).map D.int))]=.ok (((List.range mZ).map fun(s:Nat)=>b+JS nZ (IW l) (br N (s:Int))).map D.int):=by
  rw[cv (r:=fun s:Nat=>D.int (b+JS nZ (IW l) (br N (s:Int)))) (fun env=>∃t1,env=[t1,some (.f,pD b l),some (.f,.tup ((IW l).map D.int))]) (List.range mZ) ?_ _ ⟨_,rfl⟩]
  ·rw[TN];rfl
  ·rintro s hs env ⟨t1,rfl⟩;rw[Uz]at hs;have hsl:(IW l).length=nZ.length:=by unfold IW;rw[bp];exact Lx
   have ep:=xR (IW l) (row nZ (br N (s:Int))) (by lia) (xQ nZ _ (hw _));rw[Cj nZ (IW l) nd hsl _ (br N (s:Int)) rfl (PD s hs)]at ep;refine⟨[some (.f,.tup ((row nZ (br N (s:Int))).map D.int)),some (.f,pD b l),some (.f,.tup ((IW l).map D.int))],rfl,.f,[some (.f,.tup ((row nZ (br N (s:Int))).map D.int)),some (.f,pD b l),some (.f,.tup ((IW l).map D.int))],?_,_,rfl⟩;unfold pD;simp only[pv,↓reduceIte,Nat.reduceAdd,Nat.reduceLT,Nat.reduceLeDiff,Nat.reduceEqDiff,op,KZ,ep,dw,iJ]
 have hlen:(((List.range mZ).map fun(s:Nat)=>b+JS nZ (IW l) (br N (s:Int))).map D.int).length<=sizeLine:=cf (by rw[bp,bp,TH];lia);have K4:=HF ((List.range mZ).map fun(s:Nat)=>b+JS nZ (IW l) (br N (s:Int)));simp only[pv,↓reduceIte,Nat.reduceAdd,Nat.reduceLT,Nat.reduceLeDiff,Nat.reduceEqDiff,op,ec,Ar,hc,hlen,K4]
theorem zu{nZ:HR}{ap:List HC}{N:List Nd}{mZ:Nat}(b:Int)(l:List (Int×Int))(Lx:l.length=nZ.length)(hn:nZ.length<=5)(hm:mZ<=12)(hw:∀s:Int,(br N s).length<=1000)(PD:∀s:Nat,s<mZ->∀m∈br N (s:Int),m∈nZ)
  (ew:bo [HD nZ ap]=.ok (.l .f,.lst (((List.range mZ).map fun(s:Nat)=>br N (s:Int)).map wD))) (Si:flatDs (((List.range mZ).map fun(s:Nat)=>br N (s:Int)).map wD)=true):cu [HD nZ ap,pD b l]=.ok (.l .f,.lst (((List.range mZ).map fun(s:Nat)=>b+JS nZ (IW l) (br N (s:Int))).map D.int)):=by
 have RU:dm (fB 2 (az (ax 0) (az (ax 1) bW))) dW (av jG (aq 1) (aq 0)) (l.map fun p=>D.tup [.int p.2,.int p.1]) [none,none]=.ok ((IW l).map D.int):=by
  rw[cv (r:=fun p:Int×Int=>D.int (p.1-p.2)) (fun env=>∃t1 t2,env=[t1,t2]) l ?_ _ ⟨_,_,rfl⟩]
  ·unfold IW;rw[TN];rfl
  ·rintro p _ env ⟨t1,t2,rfl⟩;refine⟨_,mS _ _ t1 t2 [],?_⟩;simp only[pv,↓reduceIte,Nat.reduceAdd,Nat.reduceLT,Nat.reduceLeDiff,Nat.reduceEqDiff,op];exact⟨_,_,rfl,_,_,rfl⟩
 have ez:((l.map fun p=>D.int p.2).zip (l.map fun p=>D.int p.1)).map (fun z=>D.tup [z.1,z.2])=l.map fun p=>D.tup [.int p.2,.int p.1]:=by
  rw[WT,TN];rfl
 have hl0:((IW l).map D.int).length<=sizeLine:=cf (by unfold IW;rw[bp,bp];lia);have hf0:=HF (IW l);have Sj:∀w:HR,(∀m∈w,m∈nZ)->dm (ax 0) dW (av HG (aq 1) (ai (rB iM (ai (av HG (aq 2) (ai (aE (.int 0))))) (ah (aq 0) aD)))) (w.map D.str) [none,some (.f,.lst ((IW l).map D.int)),some (.f,HD nZ ap)]=.ok ((w.map fun m=>(IW l).getD (nZ.idxOf m) 0).map D.int):=by
  intro w Tc;rw[cv (r:=fun m:List Nat=>D.int ((IW l).getD (nZ.idxOf m) 0)) (fun env=>∃t1,env=[t1,some (.f,.lst ((IW l).map D.int)),some (.f,HD nZ ap)]) w ?_ _ ⟨_,rfl⟩]
  ·rw[TN];rfl
  ·rintro m hm env ⟨t1,rfl⟩;have hx:=m5 (Tc m hm);have ha:IH ((IW l).map D.int) ((nZ.idxOf m:Nat):Int)=some (.int ((IW l).getD (nZ.idxOf m) 0)):=dB (by
    unfold IW;rw[bp,Lx];exact UH (Tc m hm))
   refine⟨[some (.f,.str m),some (.f,.lst ((IW l).map D.int)),some (.f,HD nZ ap)],rfl,.f,[some (.f,.str m),some (.f,.lst ((IW l).map D.int)),some (.f,HD nZ ap)],?_,_,rfl⟩;unfold HD;simp only[pv,↓reduceIte,Nat.reduceAdd,Nat.reduceLT,Nat.reduceLeDiff,Nat.reduceEqDiff,op,KZ,hx,ha]
 obtain⟨env',ef,t4,rfl⟩:=for_list (a:=ax 4) (g:=d5) (e:=wD) ((List.range mZ).map fun(s:Nat)=>br N (s:Int)) (fun j env=>∃t4,env=[some (.f,HD nZ ap),some (.f,pD b l),some (.l .f,.lst ((IW l).map D.int)),some (.l .f,.lst (((List.range j).map fun(s:Nat)=>b+JS nZ (IW l) (br N (s:Int))).map D.int)),t4]) (by
  rintro j w env hj ⟨t4,rfl⟩;rw[List.getElem?_map,Uk]at hj;obtain⟨s,hs,rfl⟩:=hj;obtain⟨h1,h2⟩:=nh hs;rw[TH]at h1;rw[U8]at h2;subst h2;have c1:=Sj (br N (j:Int)) (PD j h1);have hl1:(br N (j:Int)).length<=sizeLine:=line_le (by have:=hw (j:Int);lia);have hf1:=HF ((br N (j:Int)).map fun m=>(IW l).getD (nZ.idxOf m) 0);have NJ:(List.range j).length<sizeLine:=e8 (by rw[TH];lia);refine⟨[some (.f,HD nZ ap),some (.f,pD b l),some (.l .f,.lst ((IW l).map D.int)),some (.l .f,.lst (((List.range j).map fun(s:Nat)=>b+JS nZ (IW l) (br N (s:Int))).map D.int)),some (.f,wD (br N (j:Int)))],rfl,[some (.f,HD nZ ap),some (.f,pD b l),some (.l .f,.lst ((IW l).map D.int)),some (.l .f,.lst (((List.range (j+1)).map fun(s:Nat)=>b+JS nZ (IW l) (br N (s:Int))).map D.int)),some (.f,wD (br N (j:Int)))],?_,_,rfl⟩;unfold d5;rw[Ws,Tu,Tu];unfold pD wD;simp only[pv,↓reduceIte,Nat.reduceAdd,Nat.reduceLT,Nat.reduceLeDiff,Nat.reduceEqDiff,op,KZ,c1,bp,hl1,hf1,xr,NJ];rfl) [some (.f,HD nZ ap),some (.f,pD b l),some (.l .f,.lst ((IW l).map D.int)),some (.l .f,.lst []),none] ⟨none,rfl⟩
 rw[bp,TH]at ef;unfold cu j6;rw[bh (h:=by rfl)];rw[aB (env':=[some (.f,HD nZ ap),some (.f,pD b l),some (.l .f,.lst ((IW l).map D.int)),none,none]) (by
  unfold pD;simp only[pv,↓reduceIte,Nat.reduceAdd,Nat.reduceLT,Nat.reduceLeDiff,Nat.reduceEqDiff,op,Lc,at2,ez,RU,hl0,hf0])]
 rw[aB (env':=[some (.f,HD nZ ap),some (.f,pD b l),some (.l .f,.lst ((IW l).map D.int)),some (.l .f,.lst []),none]) (by simp only[pv,↓reduceIte,Nat.reduceAdd,Nat.reduceLT,Nat.reduceLeDiff,Nat.reduceEqDiff,op])];unfold hX gR;simp only[pv,↓reduceIte,Nat.reduceAdd,Nat.reduceLT,Nat.reduceLeDiff,Nat.reduceEqDiff,op,ew,Si,ef]
inductive Cs where
 |pr (i j:Nat)|gp (i:Nat) (m:List Nat)
def eC:Cs->D
 | .pr i j=>.tup [.str [112,97,105,114],.int (i:Int),.int (j:Int)]
 | .gp i m=>.tup [.str [103,97,112],.int (i:Int),.str m]
def Ou(nZ:HR)(ap:List HC)(mZ:Nat):Cs->Prop
 | .pr i j=>i<j/\j<mZ
 | .gp i m=>i<mZ/\m∈nZ/\∀a∈ap,¬ (a.1=(i:Int)/\a.2.1=m)
theorem EA(c:Cs):dh (eC c)=true:=by
 cases c <;> rfl
theorem kF(nZ:HR)(ap:List HC)(hl:ap.length<=60)(i mZ:Nat)(hm:aS ap=(mZ:Int))(hi:i<mZ):cq [HD nZ ap,.int (i:Int)]=.ok (.f,.bl true):=by
 have es:=mT nZ ap (by lia);rw[hm]at es;have c1:decide ((0:Int)<=(i:Int))=true:=TV (by lia);have c2:decide ((i:Int)<(mZ:Int))=true:=TV (by lia);unfold cq jT;rw[bh (h:=by rfl)];simp only[pv,seval,op,Hi,Hh,VI,es,dw,iJ,c1,c2]
theorem se(nZ:HR)(ap:List HC)(i:Nat)(m:List Nat)(h:∀a∈ap,¬ (a.1=(i:Int)/\a.2.1=m)):fU [HD nZ ap,.int (i:Int),.str m]=.ok (.l .f,.lst []):=by
 have hc:dm (fB 3 (az (ax 0) (az (ax 1) (az (ax 2) bW)))) (Bk (Ic (bC Jl (aq 0) (aq 3))) (Ic (bC Jl (aq 1) (aq 4)))) (aR 2) (ap.map eA) [none,none,none,some (.f,.int (i:Int)),some (.f,.str m)]=.ok ((ap.filter fun a=>(a.1==(i:Int))&&(a.2.1==m)).map fun a=>D.int a.2.2):=by
  refine lK (e:=eA) (p:=fun a=>(a.1==(i:Int))&&(a.2.1==m)) (r:=fun a=>D.int a.2.2) (fun env=>∃t1 t2 t3,env=[t1,t2,t3,some (.f,.int (i:Int)),some (.f,.str m)]) ap ?_ _ ⟨_,_,_,rfl⟩;rintro a _ env ⟨t1,t2,t3,rfl⟩;refine⟨_,gH a t1 t2 t3 _,[some (.f,.int a.1),some (.f,.str a.2.1),some (.f,.int a.2.2),some (.f,.int (i:Int)),some (.f,.str m)],?_,?_⟩
  ·cases h1:(a.1==(i:Int)) with
   |true=>simp only[pv,seval,op,h1,Bool.true_and]
   |false=>simp only[pv,seval,op,h1,WA,jv]
  ·split
   ·refine⟨.f,[some (.f,.int a.1),some (.f,.str a.2.1),some (.f,.int a.2.2),some (.f,.int (i:Int)),some (.f,.str m)],?_,_,_,_,rfl⟩;simp only[pv,seval]
   ·exact⟨_,_,_,rfl⟩
 have hf:(ap.filter fun a=>(a.1==(i:Int))&&(a.2.1==m))=[]:=by
  rw[W8];intro a ha z;rw[TL,T6,T6]at z;exact h a ha z
 rw[hf,Ul]at hc;have hl:(0:Nat)<=sizeLine:=Uj _;have K4:flatDs []=true:=rfl;unfold fU qh HD;rw[bh (h:=by rfl)];simp only[pv,seval,op,Lc,hc,Um,hl,K4]
theorem Cm(nZ:HR)(ap:List HC)(hl:ap.length<=60)(mZ:Nat)(hm:aS ap=(mZ:Int))(c:Cs)(hc:Ou nZ ap mZ c):c6 [HD nZ ap,eC c]=.ok (.f,.non):=by
 have e:fV [HD nZ ap,eC c]=.ok (.f,.bl true):=by
  unfold fV qo;rw[bh (h:=by rfl)];cases c with
  |pr i j=>
   obtain⟨h1,h2⟩:=hc;have s1:=kF nZ ap hl i mZ hm (by lia);have s2:=kF nZ ap hl j mZ hm h2;have c1:decide ((i:Int)<(j:Int))=true:=TV (by lia);have n3:(((3:Nat):Int)==3)=true:=rfl;unfold eC;rw[aB (env':=[some (.f,HD nZ ap),some (.f,.tup [.str [112,97,105,114],.int (i:Int),.int (j:Int)])]) (by
    simp only[pv,seval,op,isT,Lc,s1,dw,il,TJ,Um,Vx,jv])]
   simp only[pv,seval,op,KZ,Lc,at2,s2,dw,il,c1,T1]
  |gp i m=>
   obtain⟨h1,h2,h3⟩:=hc;have s1:=kF nZ ap hl i mZ hm h1;have g0:=se nZ ap i m h3;have hh:eF [HD nZ ap,.int (i:Int),.str m]=.ok (.f,.bl false):=by
    have K4:flatDs []=true:=rfl;have c0:decide ((0:Int)<((0:Nat):Int))=false:=rfl;unfold eF nV;rw[bh (h:=by rfl)];simp only[pv,seval,op,g0,fu,K4,Um,c0,decide_false]
   have te:(([103,97,112]:List Nat)==[112,97,105,114])=false:=by decide
   have OD:=D7 m nZ;rw[TV h2]at OD;unfold eC;rw[aB (env':=[some (.f,HD nZ ap),some (.f,.tup [.str [103,97,112],.int (i:Int),.str m])]) (by
    simp only[pv,seval,op,isT,Lc,s1,dw,il,TJ,Um,Vx,jv])]
   rw[aB (env':=[some (.f,HD nZ ap),some (.f,.tup [.str [103,97,112],.int (i:Int),.str m])]) (by simp only[pv,seval,op,KZ,te,jv])];unfold HD at hh ⊢;simp only[pv,seval,op,KZ,Lc,at2,OD,hh,dw,il,T1,VI]
 unfold c6 kY;rw[bh (h:=by rfl)];simp only[pv,seval,e,dw,il,Vx,jv]
def PF(nZ:HR)(L:List Int)(tk:List Int):Cs->Bool
 | .pr i j=>!(L.getD i 0==L.getD j 0)
 | .gp i m=>decide (L.getD i 0<tk.getD (nZ.idxOf m) 0)
theorem zv(nZ:HR)(ap:List HC)(hl:ap.length<=60)(mZ:Nat)(hm:aS ap=(mZ:Int))(b:Int)(l:List (Int×Int))(Lx:l.length=nZ.length)(L:List Int)(hL:L.length=mZ)(eb:cn [HD nZ ap,pD b l]=.ok (.l .f,.lst (L.map D.int)))(c:Cs)(hc:Ou nZ ap mZ c):
  iI [HD nZ ap,pD b l,eC c]=.ok (.f,.bl (PF nZ L (l.map (·.2)) c)):=by
 have ec:=Cm nZ ap hl mZ hm c hc;have K4:=HF L;unfold iI tP;rw[bh (h:=by rfl)];rw[aB (env':=[some (.f,HD nZ ap),some (.f,pD b l),some (.f,eC c),none]) (by
  have MP:dh D.non=true:=rfl;simp only[pv,seval,ec,dw,MP])]
 rw[aB (env':=[some (.f,HD nZ ap),some (.f,pD b l),some (.f,eC c),some (.l .f,.lst (L.map D.int))]) (by simp only[pv,seval,eb,fu,K4])];cases c with
 |pr i j=>
  obtain⟨h1,h2⟩:=hc;have a1:IH (L.map D.int) (i:Int)=some (.int (L.getD i 0)):=dB (by lia);have a2:IH (L.map D.int) (j:Int)=some (.int (L.getD j 0)):=dB (by lia);unfold eC PF;simp only[pv,seval,op,KZ,Lc,at2,a1,a2,T1]
 |gp i m=>
  obtain⟨h1,h2,h3⟩:=hc;have a1:IH (L.map D.int) (i:Int)=some (.int (L.getD i 0)):=dB (by lia);have hx:=m5 h2;have a2:IH ((l.map (·.2)).map D.int) ((nZ.idxOf m:Nat):Int)=some (.int ((l.map (·.2)).getD (nZ.idxOf m) 0)):=dB (by rw[bp,Lx];exact UH h2);rw[TN]at a2;have a2:IH (l.map fun p=>D.int p.2) ((nZ.idxOf m:Nat):Int)=some (.int ((l.map (·.2)).getD (nZ.idxOf m) 0)):=a2;have te:(([103,97,112]:List Nat)==[112,97,105,114])=false:=by decide
  unfold eC PF pD HD;simp only[pv,seval,op,KZ,Lc,at2,te,jv,hx,a1,a2]
theorem zw(nZ:HR)(ap:List HC)(mZ:Nat)(b:Int)(l:List (Int×Int))(Lx:l.length=nZ.length)(L:List Int)(hL:L.length=mZ)(eb:cu [HD nZ ap,pD b l]=.ok (.l .f,.lst (L.map D.int)))(c:Cs)(hc:Ou nZ ap mZ c):
  cI [HD nZ ap,pD b l,eC c]=.ok (.f,.bl (PF nZ L (l.map (·.2)) c)):=by
 have K4:=HF L;unfold cI j7;rw[bh (h:=by rfl)];rw[aB (env':=[some (.f,HD nZ ap),some (.f,pD b l),some (.f,eC c),some (.l .f,.lst (L.map D.int))]) (by simp only[pv,seval,eb,fu,K4])];cases c with
 |pr i j=>
  obtain⟨h1,h2⟩:=hc;have a1:IH (L.map D.int) (i:Int)=some (.int (L.getD i 0)):=dB (by lia);have a2:IH (L.map D.int) (j:Int)=some (.int (L.getD j 0)):=dB (by lia);unfold eC PF;simp only[pv,seval,op,KZ,Lc,at2,a1,a2,T1]
 |gp i m=>
  obtain⟨h1,h2,h3⟩:=hc;have a1:IH (L.map D.int) (i:Int)=some (.int (L.getD i 0)):=dB (by lia);have hx:=m5 h2;have a2:IH ((l.map (·.2)).map D.int) ((nZ.idxOf m:Nat):Int)=some (.int ((l.map (·.2)).getD (nZ.idxOf m) 0)):=dB (by rw[bp,Lx];exact UH h2);rw[TN]at a2;have a2:IH (l.map fun p=>D.int p.2) ((nZ.idxOf m:Nat):Int)=some (.int ((l.map (·.2)).getD (nZ.idxOf m) 0)):=a2;have te:(([103,97,112]:List Nat)==[112,97,105,114])=false:=by decide
  unfold eC PF pD HD;simp only[pv,seval,op,KZ,Lc,at2,te,jv,hx,a1,a2]
abbrev Hs:=Int×List Nat
def eH(h:Hs):D:=.tup [.int h.1,.str h.2]
theorem zx(a b:Hs):HE (eH a) (eH b)=decide (a=b):=by
 obtain⟨x,y⟩:=a;obtain⟨x',y'⟩:=b;unfold eH;simp only[HE,ng];rw[T7];simp
def zy(l:List Hs)(a:Hs):List Hs:=if a∈l then l else l++[a]
theorem uf{l:List Hs}{a b:Hs}:b∈zy l a<->b∈l\/b=a:=by
 unfold zy;split
 ·rename_i h;exact⟨.inl,fun g=>g.elim id fun e=>e▸h⟩
 ·rw[TX,TU]
theorem zH(l:List Hs)(a:Hs):(zy l a).length<=l.length+1:=by
 unfold zy;split
 ·lia
 ·rw[j8];exact Ts _
theorem Ho(l:List Hs)(vs:List D)(a:Hs)(v:D)(hv:vs.length=l.length):∃IX,lJ (l.map eH) vs (eH a) v=((zy l a).map eH,IX)/\IX.length=(zy l a).length:=by
 have e:(l.map eH).any (HE (eH a))=decide (a∈l):=by
  rw[Ve,T7,Uy,TF];constructor
  ·rintro⟨b,hb,h⟩;have h:HE (eH a) (eH b)=true:=h;rw[zx,TF]at h;rw[h];exact hb
  ·intro h;refine⟨a,h,?_⟩;show HE (eH a) (eH a)=true;rw[zx,TF]
 unfold lJ zy;rw[e];by_cases h:a∈l
 ·rw[Tt h,Tt (TV h)];refine⟨_,rfl,?_⟩;rw[bp,UO,bp,hv,Yl]
 ·rw[TB h,TB (by simpa using h),Tu];refine⟨_,rfl,?_⟩;rw[j8,j8,hv];rfl
theorem Gm(r:Hs):∀(ms:List Hs) (vs:List D),vs.length=ms.length->(PV.getD (ms.map eH) vs (eH r)).isSome=decide (r∈ms)
 |[],vs,_=>by
  unfold PV.getD;rw[Ul,List.zip_nil_left];rfl
 |m::ms,[],h=>by cases h
 |m::ms,v::vs,h=>by
  have ih:=Gm r ms vs (by simpa using h);unfold PV.getD at ih ⊢;rw[gU,Uh];by_cases e:r=m
  ·rw[List.find?_cons_of_pos (by show HE (eH r) (eH m)=true;rw[zx];exact TV e)];rw[TV (by rw[e];exact Tp)];rfl
  ·rw[List.find?_cons_of_neg (by show ¬ HE (eH r) (eH m)=true;rw[zx,TF];exact e),ih,T7,TF,TF,Tz];exact⟨.inr,fun z=>z.resolve_left e⟩
theorem keyH(h:Hs):dY true (eH h)=true:=rfl
theorem Hq(r:Hs)(ms:List Hs)(vs:List D)(hv:vs.length=ms.length):rH (eH r) (.dct true (ms.map eH) vs)=.ok (.f,.bl (!decide (r∈ms))):=by
 unfold rH;dsimp only;rw[Gm r ms vs hv,keyH];first
  |rfl
  |(rw[Tt rfl];done)
  |(simp only[VQ];done)
theorem zI(nZ:HR)(ap:List HC)(hl:ap.length<=60)(A1 A6 A7:Option R):∃(hs:List Hs) (vs:List D) (t3 t4 t5:Option R),vs.length=hs.length/\(∀a∈ap,(a.1,a.2.1)∈hs)/\
  fE [some (.f,HD nZ ap),A1,some (.d,.dct true [] []),none,none,none,A6,A7]=.ok (.nx [some (.f,HD nZ ap),A1,some (.d,.dct true (hs.map eH) vs),t3,t4,t5,A6,A7]):=by
 obtain⟨env',ef,hs,vs,t3,t4,t5,h1,h2,h3,rfl⟩:=for_list (a:=fB 3 (az (ax 3) (az (ax 4) (az (ax 5) bW)))) (g:=eW) (e:=eA) ap (fun j env=>∃(hs:List Hs) (vs:List D) (t3 t4 t5:Option R),vs.length=hs.length/\hs.length<=j/\(∀a∈ap.take j,(a.1,a.2.1)∈hs)/\env=[some (.f,HD nZ ap),A1,some (.d,.dct true (hs.map eH) vs),t3,t4,t5,A6,A7]) (by
  rintro j a env hj ⟨hs,vs,t3,t4,t5,h1,h2,h3,rfl⟩;have Iy:=(nh hj).1;obtain⟨IX,e1,e2⟩:=Ho hs vs (a.1,a.2.1) (.bl true) h1;have hle:=zH hs (a.1,a.2.1);have hk:=keyH (a.1,a.2.1);have hz:(zy hs (a.1,a.2.1)).length<=sizeLine:=line_le (by lia);refine⟨[some (.f,HD nZ ap),A1,some (.d,.dct true (hs.map eH) vs),some (.f,.int a.1),some (.f,.str a.2.1),some (.f,.int a.2.2),A6,A7],by unfold eA;simp only[pv,seval],[some (.f,HD nZ ap),A1,some (.d,.dct true ((zy hs (a.1,a.2.1)).map eH) IX),some (.f,.int a.1),some (.f,.str a.2.1),some (.f,.int a.2.2),A6,A7],?_,_,_,_,_,_,e2,by lia,fun b hb=>?_,rfl⟩
  ·unfold eW;unfold eH at e1 hk ⊢;have Li:decide (hs.length<sizeLine)=true:=TV (e8 (by lia));simp only[pv,seval,op,hk,e1,bp,Li,UM]
  ·rw[Uu,hj]at hb;rcases mR hb with hb|hb
   ·exact uf.mpr (.inl (h3 b hb))
   ·rw[ll hb];exact uf.mpr (.inr rfl)) [some (.f,HD nZ ap),A1,some (.d,.dct true [] []),none,none,none,A6,A7] ⟨[],[],none,none,none,rfl,Ts _,(fun a ha=>nomatch ha),rfl⟩
 refine⟨hs,vs,t3,t4,t5,h1,fun a ha=>h3 a (by rw[Ux];exact ha),?_⟩;unfold fE HD;unfold HD at ef;simp only[pv,seval,op,Lc,ef]
def KL(mZ:Nat):List Cs:=((List.range (mZ*mZ)).filter fun k=>decide ((((k:Nat):Int) / (mZ:Int))<((k:Nat):Int)%(mZ:Int))).map fun k=>Cs.pr (k / mZ) (k%mZ)
theorem EB(nZ:HR)(ap:List HC)(mZ:Nat)(hm:1<=mZ):∀c∈KL mZ,Ou nZ ap mZ c:=by
 intro c hc;unfold KL at hc;obtain⟨k,hk,rfl⟩:=qB hc;rw[U4,TF]at hk;refine⟨?_,Nat.mod_lt _ (by lia)⟩;have:=hk.2;rw[<-Int.natCast_ediv,<-Int.natCast_emod]at this;lia
theorem Cn(mZ:Nat)(h:mZ<=12):(KL mZ).length<=144:=by
 unfold KL;rw[bp];refine Uq (VN _ _) ?_;rw[TH];exact XC h h
theorem zJ(mZ:Nat)(hm:1<=mZ)(NI:mZ<=12):dm (ax 0) (Ic (av Kv (ai (av gT (aq 0) (aq 1))) (ai (av cV (aq 0) (aq 1))))) (fP (aA (aE (.str [112,97,105,114])) (aA (av gT (aq 0) (aq 1)) (aA (av cV (aq 0) (aq 1)) ba)))) ((List.range (mZ*mZ)).map fun(k:Nat)=>D.int (k:Int)) [none,some (.f,.int (mZ:Int))]=.ok ((KL mZ).map eC):=by
 have:=lK (e:=fun k:Nat=>D.int (k:Int)) (p:=fun k:Nat=>decide (((k:Int) / (mZ:Int))<(k:Int)%(mZ:Int))) (r:=fun k:Nat=>eC (Cs.pr (k / mZ) (k%mZ))) (a:=ax 0) (c:=Ic (av Kv (ai (av gT (aq 0) (aq 1))) (ai (av cV (aq 0) (aq 1))))) (f:=fP (aA (aE (.str [112,97,105,114])) (aA (av gT (aq 0) (aq 1)) (aA (av cV (aq 0) (aq 1)) ba)))) (fun env=>∃t1,env=[t1,some (.f,.int (mZ:Int))]) (List.range (mZ*mZ)) (by
  rintro k _ env ⟨t1,rfl⟩;have f1:=uX (k:Int) (mZ:Int) (by lia) (by lia);have f2:=fZ (k:Int) (mZ:Int) (by lia);refine⟨[some (.f,.int (k:Int)),some (.f,.int (mZ:Int))],rfl,[some (.f,.int (k:Int)),some (.f,.int (mZ:Int))],?_,?_⟩
  ·simp only[pv,seval,op,f1,f2]
  ·split
   ·refine⟨.f,[some (.f,.int (k:Int)),some (.f,.int (mZ:Int))],?_,_,rfl⟩;simp only[pv,seval,op,f1,f2];unfold eC;dsimp only;rw[Int.natCast_ediv,Int.natCast_emod]
   ·exact⟨_,rfl⟩) _ ⟨none,rfl⟩
 rw[this];unfold KL;rw[TN];rfl
def Nv(nZ:HR)(hs:List Hs)(s:Nat):List Cs:=(nZ.filter fun m=>!decide (((s:Int),m)∈hs)).map fun m=>Cs.gp s m
theorem zL(nZ:HR)(hs:List Hs)(vs:List D)(hv:vs.length=hs.length)(s:Nat):dm (ax 0) (Ic (bC rH (ai (fP (aA (aR 1) (aA (aR 0) ba)))) (aq 2))) (fP (aA (aE (.str [103,97,112])) (aA (aR 1) (aA (aR 0) ba)))) (nZ.map D.str) [none,some (.f,.int (s:Int)),some (.f,.dct true (hs.map eH) vs)]=.ok ((Nv nZ hs s).map eC):=by
 have:=lK (e:=D.str) (p:=fun m=>!decide (((s:Int),m)∈hs)) (r:=fun m=>eC (Cs.gp s m)) (a:=ax 0) (c:=Ic (bC rH (ai (fP (aA (aR 1) (aA (aR 0) ba)))) (aq 2))) (f:=fP (aA (aE (.str [103,97,112])) (aA (aR 1) (aA (aR 0) ba)))) (fun env=>∃t1,env=[t1,some (.f,.int (s:Int)),some (.f,.dct true (hs.map eH) vs)]) nZ (by
  rintro m _ env ⟨t1,rfl⟩;have hn:rH (.tup [.int (s:Int),.str m]) (.dct true (hs.map eH) vs)=.ok (.f,.bl (!decide (((s:Int),m)∈hs))):=Hq ((s:Int),m) hs vs hv;refine⟨[some (.f,.str m),some (.f,.int (s:Int)),some (.f,.dct true (hs.map eH) vs)],rfl,[some (.f,.str m),some (.f,.int (s:Int)),some (.f,.dct true (hs.map eH) vs)],?_,?_⟩
  ·simp only[pv,seval,hn]
  ·split
   ·refine⟨.f,[some (.f,.str m),some (.f,.int (s:Int)),some (.f,.dct true (hs.map eH) vs)],?_,_,rfl⟩;simp only[pv,seval];rfl
   ·exact⟨_,rfl⟩) _ ⟨none,rfl⟩
 rw[this];unfold Nv;rw[TN];rfl
theorem xS(c:Int)(n:Nat)(hn:n<=1000):∃xs:List Int,xs.length=n/\(∀y∈xs,0<=y/\y<=2147483647)/\aW [.int c,.int (n:Int)]=.ok (.l .f,.lst (xs.map D.int)):=by
 unfold aW gv;rw[bh (h:=by rfl)];rw[aB (env':=[some (.f,.int c),some (.f,.int (n:Int)),some (.l .f,.lst []),none,none]) (by simp only[pv,↓reduceIte,Nat.reduceAdd,Nat.reduceLT,Nat.reduceLeDiff,Nat.reduceEqDiff,op])];rw[aB (env':=[some (.f,.int c),some (.f,.int (n:Int)),some (.l .f,.lst []),some (.f,.int (c%2147483629+7)),none]) (by simp only[pv,↓reduceIte,Nat.reduceAdd,Nat.reduceLT,Nat.reduceLeDiff,Nat.reduceEqDiff,op,fZ _ 2147483629 (by decide)])];have hm:=dI c 2147483629 (by decide);obtain⟨env',ef,xs,x,t4,hx,hB,h0,h1,rfl⟩:=kB (a:=ax 4) (g:=cx) (e:=fun k=>D.int (k:Int)) n (fun i env=>∃(xs:List Int) (x:Int) (t4:Option R),xs.length=i/\(∀y∈xs,0<=y/\y<=2147483647)/\0<=x/\x<=2147483640/\env=[some (.f,.int c),some (.f,.int (n:Int)),some (.l .f,.lst (xs.map D.int)),some (.f,.int x),t4]) (by
  rintro k env hk ⟨xs,x,t4,hx,hB,h0,h1,rfl⟩;have q:=dI (x*x+69069*x+5*(k:Int)+1) 2147483629 (by decide);refine⟨_,rfl,_,?_,xs++[(x*x+69069*x+5*(k:Int)+1)%2147483629 / 16],(x*x+69069*x+5*(k:Int)+1)%2147483629,some (.f,.int (k:Int)),by rw[j8,hx];rfl,(fun y hy=>?_),q.1,by lia,rfl⟩
  rotate_left
  ·rcases mR hy with hy|hy
   ·exact hB y hy
   ·rw[ll hy];lia
  have z:(xs.map D.int).length<sizeLine:=e8 (by rw[bp];lia);unfold cx;simp only[pv,↓reduceIte,Nat.reduceAdd,Nat.reduceLT,Nat.reduceLeDiff,Nat.reduceEqDiff,op,zl x x (lO x h0 (by lia)),zl 69069 x (by decide),zl 5 (k:Int) (by decide),fZ _ 2147483629 (by decide),uX _ 16 (by decide) (by decide),z,Tu]) _ ⟨[],c%2147483629+7,none,rfl,(fun y hy=>nomatch hy),by lia,by lia,rfl⟩
 rw[Ul]at ef;rw[aB (env':=_) (by
  unfold eU;simp only[pv,↓reduceIte,Nat.reduceAdd,Nat.reduceLT,Nat.reduceLeDiff,Nat.reduceEqDiff,op];rw[Tt (by lia)];simp only[pv,↓reduceIte,Nat.reduceAdd,Nat.reduceLT,Nat.reduceLeDiff,Nat.reduceEqDiff,op,T4];exact ef)]
 unfold d3;exact⟨xs,hx,hB,by simp only[pv,↓reduceIte,Nat.reduceAdd,Nat.reduceLT,Nat.reduceLeDiff,Nat.reduceEqDiff,op]⟩
theorem kg(nn:Nat)(c:O)(g:FS)(p:Addr)(d0 d1 d2:D):fBodyJ 2 3 nn c g p [d0,d1,d2]=Res.bnd (g ([some (.f,d1),some (.f,d2),some (.pin p c,d0)]++List.replicate nn none)) (f:=⟨fun o=>match o with | .rt r=>.ok r|_=>.bad⟩):=by
 unfold fBodyJ;dsimp only;rw[Tt ⟨rfl,Ts _⟩];rfl
theorem Co{c:O}{F:Addr->List D->Res R}{i:Nat}{fs:FOs}{env e:PV.Env}{o0 o1:Opd}{ow:O}{d0:D}{ds:List D}{x:R×D}(h:fs env=.ok ([o0,o1,.var i],e))(hi:e[i]?=some (some (ow,d0)))(ho:mw c ow=true)(hd:jC (e.set i none) [o0,o1]=.ok ds)(hc:kq F c d0 ds=.ok x):
  kr 2 c F i fs env=if aT x.1.1 x.1.2&&aT c x.2 then .ok (x.1,(e.set i none).set i (some (ow,x.2))) else .ok (x.1,((e.set i none).map frz).set i (some (ow,x.2))):=by
 unfold kr;rw[h];show(match([o0,o1,Opd.var i]:List Opd)[2]? with
  |some (.var j')=>if j'=i then(match e[i]? with
   |some (some (ow,d0))=>if mw c ow then(jC (e.set i none) (([o0,o1,Opd.var i]:List Opd).eraseIdx 2)).bind fun ds=>(kq F c d0 ds).bind fun x=>if aT x.1.1 x.1.2&&aT c x.2 then .ok (x.1,(e.set i none).set i (some (ow,x.2))) else .ok (x.1,((e.set i none).map frz).set i (some (ow,x.2))) else .bad
   |_=>.bad) else .bad
  |_=>.bad)=_
 show(if i=i then(match e[i]? with
   |some (some (ow,d0))=>if mw c ow then(jC (e.set i none) [o0,o1]).bind fun ds=>(kq F c d0 ds).bind fun x=>if aT x.1.1 x.1.2&&aT c x.2 then .ok (x.1,(e.set i none).set i (some (ow,x.2))) else .ok (x.1,((e.set i none).map frz).set i (some (ow,x.2))) else .bad
   |_=>.bad) else .bad)=_
 rw[Tt rfl,hi];dsimp only;rw[Tt ho,hd];show((kq F c d0 ds).bind fun x=>if aT x.1.1 x.1.2&&aT c x.2 then .ok (x.1,(e.set i none).set i (some (ow,x.2))) else .ok (x.1,((e.set i none).map frz).set i (some (ow,x.2))))=_;rw[hc];rfl
theorem Cp(c:O)(F:Addr->List D->Res R)(f:FX)(fs:FOs)(env:PV.Env):BF c F f fs env=Res.bnd (f env) (f:=⟨fun p=>if mw c p.1.1 then Res.bnd (fs p.2) (f:=⟨fun q=>Res.bnd (xj q.1) (f:=⟨fun ds=>Res.bnd (kq F c p.1.2 ds) (f:=⟨fun z=>.ok (z.1,q.2)⟩)⟩)⟩) else .bad⟩):=id rfl
theorem Cq(d:D):xj [.val d]=.ok [d]:=id rfl
theorem EC(p:Addr)(ys:List Int)(x:Int)(a:Option R)(env:PV.Env):d7 1 (a::some (.pin p (.l .f),.lst ((ys++[x]).map D.int))::env)=.ok ((.f,.int x),a::some (.pin p (.l .f),.lst (ys.map D.int))::env):=by
 rw[Tu];first
  |(simp only[pv,seval,jr];done)
  |(simp only[pv,seval,jr];rfl)
  |(simp[d7,isLf];done)
theorem xT(xs:List Int)(hx:20<=xs.length)(hB:∀y∈xs,0<=y/\y<=2147483647):∃(fs ys:List Int),ys.length+10=xs.length/\fs.length=5/\
  BB (ax 0) dW (av jG (ai (av cB (ai (av iN (ai (d7 1)) (ai (av qN (ai (aE (.int 10))) (ai (aE (.int 20))))))) (ai (av cV (ai (d7 1)) (ai (aE (.int 7))))))) (ai (av qN (ai (aE (.int 10))) (ai (aE (.int 28)))))) ((List.range 5).map fun(k:Nat)=>D.int (k:Int)) (fun q=>[none,some (.pin q (.l .f),.lst (xs.map D.int))]) 1 (fs.map D.int,ys.map D.int):=by
 have p20:qN (.int 10) (.int 20)=.ok (.f,.int (10 ^ 20)):=Gg 20 (by decide);have p28:qN (.int 10) (.int 28)=.ok (.f,.int (10 ^ 28)):=Gg 28 (by decide);obtain⟨rs,E2,h1,fs,ys,t0,hy,hl,hb,OG,rfl⟩:=gG (a:=ax 0) (f:=av jG (ai (av cB (ai (av iN (ai (d7 1)) (ai (av qN (ai (aE (.int 10))) (ai (aE (.int 20))))))) (ai (av cV (ai (d7 1)) (ai (aE (.int 7))))))) (ai (av qN (ai (aE (.int 10))) (ai (aE (.int 28)))))) (e:=fun(k:Nat)=>D.int (k:Int)) (fun i E acc=>∃(fs ys:List Int) (t0:Option R),ys.length+2*i=xs.length/\fs.length=i/\(∀y∈ys,0<=y/\y<=2147483647)/\acc=fs.map D.int/\E=fun q=>[t0,some (.pin q (.l .f),.lst (ys.map D.int))]) (List.range 5) 0 (fun q=>[none,some (.pin q (.l .f),.lst (xs.map D.int))]) [] ⟨[],xs,none,by lia,rfl,hB,rfl,rfl⟩ (by
  rintro k x E acc hk ⟨fs,ys,t0,hy,hl,hb,rfl,rfl⟩;obtain⟨MJ,Mc⟩:=nh hk;rw[TH]at MJ;rw[U8]at Mc;subst Mc;obtain⟨ys,y1,rfl,q1⟩:=J0 (xs:=ys) (by lia);have b1:=hb y1 (Tn _ (TU.mpr rfl));have hb2:∀y∈ys,0<=y/\y<=2147483647:=fun y hy=>hb y (Tq _ hy)
  obtain⟨ys,y2,rfl,q2⟩:=J0 (xs:=ys) (by lia);have hm:=Hg y1 (10 ^ 20) (lO y1 b1.1 (by lia));rw[mQ]at hm;refine⟨fun q=>[some (.f,.int (k:Int)),some (.pin q (.l .f),.lst (((ys++[y2])++[y1]).map D.int))],fun p=>rfl,.f,.int (y1*10 ^ 20+y2%7-10 ^ 28),fun q=>[some (.f,.int (k:Int)),some (.pin q (.l .f),.lst (ys.map D.int))],fun p=>?_,fs++[y1*10 ^ 20+y2%7-10 ^ 28],ys,some (.f,.int (k:Int)),by lia,by rw[j8,hl];rfl,fun y hy=>hb2 y (Tq _ hy),by rw[Tu];rfl,rfl⟩;simp only[pv,↓reduceIte,Nat.reduceAdd,Nat.reduceLT,Nat.reduceLeDiff,Nat.reduceEqDiff,op,EC,p20,p28,hm,fZ _ 7 (by decide)])
 rw[TH,V0] at *;rw[Vl]at OG;exact⟨fs,ys,hy,hl,fun q=>⟨_,by rw[h1 q,OG],rfl⟩⟩
theorem xU(xs:List Int)(hx:8<=xs.length):∃(fs ys:List Int),ys.length+5=xs.length/\fs.length=5/\
  BB (ax 0) dW (av jG (ai (av cV (ai (d7 1)) (ai (aE (.int 7))))) (ai (aE (.int 3)))) ((List.range 5).map fun(k:Nat)=>D.int (k:Int)) (fun q=>[none,some (.pin q (.l .f),.lst (xs.map D.int))]) 1 (fs.map D.int,ys.map D.int):=by
 obtain⟨rs,E2,h1,fs,ys,t0,hy,hl,OG,rfl⟩:=gG (a:=ax 0) (f:=av jG (ai (av cV (ai (d7 1)) (ai (aE (.int 7))))) (ai (aE (.int 3)))) (e:=fun(k:Nat)=>D.int (k:Int)) (fun i E acc=>∃(fs ys:List Int) (t0:Option R),ys.length+i=xs.length/\fs.length=i/\acc=fs.map D.int/\E=fun q=>[t0,some (.pin q (.l .f),.lst (ys.map D.int))]) (List.range 5) 0 (fun q=>[none,some (.pin q (.l .f),.lst (xs.map D.int))]) [] ⟨[],xs,none,by lia,rfl,rfl,rfl⟩ (by
  rintro k x E acc hk ⟨fs,ys,t0,hy,hl,rfl,rfl⟩;obtain⟨MJ,Mc⟩:=nh hk;rw[TH]at MJ;rw[U8]at Mc;subst Mc;obtain⟨ys,y1,rfl,q1⟩:=J0 (xs:=ys) (by lia);refine⟨fun q=>[some (.f,.int (k:Int)),some (.pin q (.l .f),.lst ((ys++[y1]).map D.int))],fun p=>rfl,.f,.int (y1%7-3),fun q=>[some (.f,.int (k:Int)),some (.pin q (.l .f),.lst (ys.map D.int))],fun p=>?_,fs++[y1%7-3],ys,some (.f,.int (k:Int)),by lia,by rw[j8,hl];rfl,by rw[Tu];rfl,rfl⟩;simp only[pv,seval,op,EC,fZ _ 7 (by decide)])
 rw[TH,V0] at *;rw[Vl]at OG;exact⟨fs,ys,hy,hl,fun q=>⟨_,by rw[h1 q,OG],rfl⟩⟩
theorem F3(ns:List Int)(nZ:HR)(hn:nZ.length<=3)(xs:List Int)(hx:xs.length=40)(hB:∀y∈xs,0<=y/\y<=2147483647):∃uZ ys:List Int,uZ.length=nZ.length/\20<=ys.length/\∀p,b8 p [.lst (xs.map D.int),.lst (ns.map D.int),.tup (nZ.map D.str)]=.ok (.t [.l .f,.pin p (.l .f)],.tup [.lst (uZ.map D.int),.lst (ys.map D.int)]):=by
 have c2:aH [.lst (ns.map D.int),.int 2]=.ok (.f,.int (cell ns 2)):=lp ns 2;have c3:aH [.lst (ns.map D.int),.int 3]=.ok (.f,.int (cell ns 3)):=lp ns 3;obtain⟨fs,ys,hy,K4,hc⟩:=xT xs (by lia) hB;have hc:=oP hc;obtain⟨ys,y0,rfl,q0⟩:=J0 (xs:=ys) (by lia);have hlen:(fs.map D.int).length<=sizeLine:=cf (by rw[bp];lia);have hff:=HF fs;have hfy:=HF (ys++[y0]);have s1:∀p,bP 3 (jR (bZ (ai (aE (.int 5)))) [none,some 2] 2 1 (ax 0) dW (av jG (ai (av cB (ai (av iN (ai (d7 1)) (ai (av qN (ai (aE (.int 10))) (ai (aE (.int 20))))))) (ai (av cV (ai (d7 1)) (ai (aE (.int 7))))))) (ai (av qN (ai (aE (.int 10))) (ai (aE (.int 28))))))) [some (.f,.lst (ns.map D.int)),some (.f,.tup (nZ.map D.str)),some (.pin p (.l .f),.lst (xs.map D.int)),none,none]=.ok (.nx [some (.f,.lst (ns.map D.int)),some (.f,.tup (nZ.map D.str)),some (.pin p (.l .f),.lst ((ys++[y0]).map D.int)),some (.l .f,.lst (fs.map D.int)),none]):=fun p=>by
  generalize (av jG (ai (av cB (ai (av iN (ai (d7 1)) (ai (av qN (ai (aE (.int 10))) (ai (aE (.int 20))))))) (ai (av cV (ai (d7 1)) (ai (aE (.int 7))))))) (ai (av qN (ai (aE (.int 10))) (ai (aE (.int 28))))))=FF at hc ⊢;simp only[J6,lM,pv,seval,op];rw[Tt (by decide)];simp only[pv,seval,op,show(5:Int).toNat=5 from rfl,jr,hc,hlen,hff,hfy,ZP]
 obtain⟨Ke,zs,hfar,hz,s2⟩:∃Ke zs:List Int,Ke.length=5/\20<=zs.length/\∀p,Jn (Ic (bC Jl (ai (av cV (ai (d7 2)) (ai (aE (.int 2))))) (ai (aE (.int 0))))) (bP 3 (jR (bZ (ai (aE (.int 5)))) [none,some 2] 2 1 (ax 0) dW (av jG (ai (av cV (ai (d7 1)) (ai (aE (.int 7))))) (ai (aE (.int 3)))))) dy [some (.f,.lst (ns.map D.int)),some (.f,.tup (nZ.map D.str)),some (.pin p (.l .f),.lst ((ys++[y0]).map D.int)),some (.l .f,.lst (fs.map D.int)),none]=.ok (.nx [some (.f,.lst (ns.map D.int)),some (.f,.tup (nZ.map D.str)),some (.pin p (.l .f),.lst (zs.map D.int)),some (.l .f,.lst (Ke.map D.int)),none]):=by
  cases h0:(y0%2==0) with
  |true=>
   obtain⟨gs,zs,hz,Q4,Kt⟩:=xU ys (by lia);have Kt:=oP Kt;have Q5:(gs.map D.int).length<=sizeLine:=cf (by rw[bp];lia);have hfg:=HF gs;have hfz:=HF zs;refine⟨gs,zs,Q4,by lia,fun p=>?_⟩;generalize (av jG (ai (av cV (ai (d7 1)) (ai (aE (.int 7))))) (ai (aE (.int 3))))=FF at Kt ⊢;rw[Gh (env':=[some (.f,.lst (ns.map D.int)),some (.f,.tup (nZ.map D.str)),some (.pin p (.l .f),.lst (ys.map D.int)),some (.l .f,.lst (fs.map D.int)),none]) (by simp only[pv,seval,op,xt,fZ _ 2 (by decide),h0])];simp only[J6,lM,pv,seval,op];rw[Tt (by decide)];simp only[pv,seval,op,show(5:Int).toNat=5 from rfl,jr,Kt,Q5,hfg,hfz,ZP]
  |false=>
   refine⟨fs,ys,K4,by lia,fun p=>?_⟩;rw[EL (env':=[some (.f,.lst (ns.map D.int)),some (.f,.tup (nZ.map D.str)),some (.pin p (.l .f),.lst (ys.map D.int)),some (.l .f,.lst (fs.map D.int)),none]) (by simp only[pv,seval,op,xt,fZ _ 2 (by decide),h0])];simp only[pv,seval]
 by_cases h1:cell ns 3%4<2
 ·refine⟨Ke.take nZ.length,zs,by rw[UI];lia,hz,fun p=>?_⟩;have hcut:lz (Ke.map D.int) none (some (nZ.length:Int))=(Ke.take nZ.length).map D.int:=by rw[j9,Vc]
  unfold b8;rw[kg,show([some (.f,.lst (ns.map D.int)),some (.f,.tup (nZ.map D.str)),some (.pin p (.l .f),.lst (xs.map D.int))]++List.replicate 2 none:PV.Env)=[some (.f,.lst (ns.map D.int)),some (.f,.tup (nZ.map D.str)),some (.pin p (.l .f),.lst (xs.map D.int)),none,none] from rfl];unfold ku;rw[aB (s1 p),aB (s2 p)];simp only[pv,seval,op,c3,fZ _ 4 (by decide),h1,Vm,bp,hcut,iq]
 ·obtain⟨ws,hws,ex⟩:=tZ (cell ns 2) 40 (by lia);have ex:aW [.int (cell ns 2),.int 40]=.ok (.l .f,.lst (ws.map D.int)):=ex;obtain⟨t0,t1,s,gs,vs,b0,b1,S8,S9,Q4,hg,e⟩:=ub nZ.length (by lia) ws hws;have e:=gu (r:=(.f,.tup [.lst [.int t0,.int t1],Im s,.lst (gs.map II)])) e;have K4:flatDs [.lst [.int t0,.int t1],Im s,.lst (gs.map II)]=false:=rfl;have h3:IH (Ke.map D.int) 3=some (.int (Ke.getD 3 0)):=dB (k:=3) (by lia);have h4:IH (Ke.map D.int) 4=some (.int (Ke.getD 4 0)):=dB (k:=4) (by lia);have Kt:dm (ax 0) dW (av cB (ai (av iN (ai (av HG (aq 1) (ai (aE (.int 3))))) (ai (av HG (ai (av HG (aq 0) (ai (aE (.int 0))))) (ai (aE (.int 2))))))) (ai (av iN (ai (av HG (aq 1) (ai (aE (.int 4))))) (ai (av HG (ai (av HG (aq 0) (ai (aE (.int 1))))) (ai (aE (.int 2)))))))) (gs.map II) [none,some (.f,.lst (Ke.map D.int))]=.ok ((gs.map fun g=>Ke.getD 3 0*g.1.2.2+Ke.getD 4 0*g.2.2.2).map D.int):=by
   rw[cv (r:=fun g:Sd=>D.int (Ke.getD 3 0*g.1.2.2+Ke.getD 4 0*g.2.2.2)) (fun env=>∃t,env=[t,some (.f,.lst (Ke.map D.int))]) gs ?_ _ ⟨none,rfl⟩]
   ·rw[TN];rfl
   ·rintro g hgm env ⟨t,rfl⟩;have O9:=hg g hgm;refine⟨[some (.f,II g),some (.f,.lst (Ke.map D.int))],rfl,.f,[some (.f,II g),some (.f,.lst (Ke.map D.int))],?_,_,rfl⟩;unfold II eG;simp only[pv,seval,op,h3,h4,at2,o6,qF g.1.2.2 (by have:=O9.1.1;lia) (by have:=O9.1.1;lia),qF g.2.2.2 (by have:=O9.2.1;lia) (by have:=O9.2.1;lia),Bool.or_true]
  have hgl2:((gs.map fun g=>Ke.getD 3 0*g.1.2.2+Ke.getD 4 0*g.2.2.2).map D.int).length<=sizeLine:=cf (by rw[bp,bp];lia);have Sk:=HF (gs.map fun g=>Ke.getD 3 0*g.1.2.2+Ke.getD 4 0*g.2.2.2);refine⟨gs.map fun g=>Ke.getD 3 0*g.1.2.2+Ke.getD 4 0*g.2.2.2,zs,by rw[bp];exact Q4,hz,fun p=>?_⟩;unfold b8;rw[kg,show([some (.f,.lst (ns.map D.int)),some (.f,.tup (nZ.map D.str)),some (.pin p (.l .f),.lst (xs.map D.int))]++List.replicate 2 none:PV.Env)=[some (.f,.lst (ns.map D.int)),some (.f,.tup (nZ.map D.str)),some (.pin p (.l .f),.lst (xs.map D.int)),none,none] from rfl];unfold ku;rw[aB (s1 p),aB (s2 p)];rw[aB (env':=[some (.f,.lst (ns.map D.int)),some (.f,.tup (nZ.map D.str)),some (.pin p (.l .f),.lst (zs.map D.int)),some (.l .f,.lst (Ke.map D.int)),none]) (by simp only[pv,seval,op,c3,fZ _ 4 (by decide),h1,Vf,jv])];rw[aB (env':=[some (.f,.lst (ns.map D.int)),some (.f,.tup (nZ.map D.str)),some (.pin p (.l .f),.lst (zs.map D.int)),some (.l .f,.lst (Ke.map D.int)),some (.f,.lst (gs.map II))]) (by simp only[pv,seval,op,c2,ex,Cp,Cq,tV,bp,e,at2])];generalize (av cB (ai (av iN (ai (av HG (aq 1) (ai (aE (.int 3))))) (ai (av HG (ai (av HG (aq 0) (ai (aE (.int 0))))) (ai (aE (.int 2))))))) (ai (av iN (ai (av HG (aq 1) (ai (aE (.int 4))))) (ai (av HG (ai (av HG (aq 0) (ai (aE (.int 1))))) (ai (aE (.int 2))))))))=FF at Kt ⊢;simp only[pv,seval,op,Kt,hgl2,Sk,iq]
theorem iw:∀(l:List Int) (b:Int),l.foldl min b<=b/\(∀x∈l,l.foldl min b<=x)/\(l.foldl min b=b\/l.foldl min b∈l)
 |[],b=>⟨XN _,(fun _ h=>nomatch h),.inl rfl⟩
 |a::l,b=>by
  obtain⟨h1,h2,h3⟩:=iw l (min b a);rw[Uc];refine⟨by lia,fun x hx=>?_,?_⟩
  ·rcases Tz.mp hx with rfl|hx
   ·lia
   ·exact h2 x hx
  ·rcases h3 with h3|h3
   ·by_cases hba:b<=a
    ·left;rw[h3];lia
    ·right;rw[h3];exact Tz.mpr (.inl (by lia))
   ·exact .inr (Tx _ h3)
theorem zM{ns:List Int}{x:Int}(h:x∈ns):ni ns<=x:=(iw ns _).2.1 x h
theorem zN{ns:List Int}(h:ns≠[]):ni ns∈ns:=by
 unfold ni;rcases(iw ns (ns.headD 0)).2.2 with e|e
 ·rw[e];cases ns with
  |nil=>exact absurd rfl h
  |cons a l=>exact Tp
 ·exact e
theorem ED{l:List Int}(h:l≠[]):Bz [.lst (l.map D.int)]=.ok (.f,.int (ni l)):=by
 unfold Bz;dsimp only;rw[tX];cases l with
 |nil=>exact absurd rfl h
 |cons a l=>rfl
def vn(nZ:HR)(hs:List Hs):Nat->List Cs
 | 0=>[]
 |j+1=>vn nZ hs j++Nv nZ hs j
theorem pj(nZ:HR)(hs:List Hs)(hn:nZ.length<=5):∀j,(vn nZ hs j).length<=5*j
 | 0=>Ts _
 |j+1=>by
  rw[vn,j8];have h1:=pj nZ hs hn j;have h2:(Nv nZ hs j).length<=nZ.length:=by
   unfold Nv;rw[bp];exact VN _ _
  lia
theorem xV(nZ:HR)(ap:List HC)(hs:List Hs)(hh:∀a∈ap,(a.1,a.2.1)∈hs)(mZ:Nat):∀j,j<=mZ->∀c∈vn nZ hs j,Ou nZ ap mZ c
 | 0,_,_,h=>nomatch h
 |j+1,hj,c,h=>by
  rw[vn]at h;rcases mR h with h|h
  ·exact xV nZ ap hs hh mZ j (by lia) c h
  ·unfold Nv at h;obtain⟨m,hm,rfl⟩:=qB h;obtain⟨h1,h2⟩:=U4.mp hm;refine⟨by lia,h1,fun a ha z=>?_⟩;have:=hh a ha;rw[z.1,z.2]at this;rw[TV this]at h2;cases h2
theorem xW(nZ:HR)(ap:List HC)(hl:ap.length<=60)(T:PV.Env):(av cB (ai (aE (.int 1))) (ai (uG (di (lB (av HG (aq 0) (ai (aE (.int 1))))) [none,none,none] (fB 3 (az (ax 0) (az (ax 1) (az (ax 2) bW)))) dW (aX maxD (ah (aq 0) (ah (aq 2) aD)))) (aE (.int 0))))) (some (.f,HD nZ ap)::T)=.ok ((.f,.int (aS ap)),some (.f,HD nZ ap)::T):=by
 simp only[pv,seval,op,HD];rw[cv (r:=fun a:HC=>D.int (pw a)) (fun env=>∃t1 t2 t3,env=[t1,t2,t3]) ap ?_ _ ⟨_,_,_,rfl⟩]
 ·rw[IG,Tt (cf (by rw[bp];lia)),IG,kc fun a=>iJ _];simp only[pv,seval,op];have e:(some (ap.map fun a=>D.int (pw a))).bind cC=some (ap.map pw):=by
   have:=tX (ap.map pw);rw[TN]at this;exact this
  rw[e];rfl
 ·rintro a _ env ⟨t1,t2,t3,rfl⟩;refine⟨_,gH a t1 t2 t3 _,?_⟩;simp only[pv,seval,op];exact⟨_,_,rfl,_,_,_,rfl⟩
theorem sf(cs:List Cs):flatDs (cs.map eC)=true:=kc EA
theorem Cr(nZ:HR)(ap:List HC)(hl:ap.length<=60)(hn:nZ.length<=5)(mZ:Nat)(hm:aS ap=(mZ:Int))(h1:1<=mZ)(NI:mZ<=12):∃cs:List Cs,cs.length<=300/\(∀c∈cs,Ou nZ ap mZ c)/\dg [HD nZ ap]=.ok (.l .f,.lst (cs.map eC)):=by
 have e1:=xW nZ ap hl [none,none,none,none,none,none,none];rw[hm]at e1;obtain⟨hs,vs,t3,t4,t5,hv,hh,e2⟩:=zI nZ ap hl (some (.f,.int (mZ:Int))) none none;have Sl:=zJ mZ h1 NI;have JC:=Cn mZ NI;have hpz:((KL mZ).map eC).length<=sizeLine:=line_le (by rw[bp];lia);have hpf:=sf (KL mZ);have hmm:Bw (.int (mZ:Int)) (.int (mZ:Int))=.ok (.f,.int ((mZ:Int)*(mZ:Int))):=zl _ _ (lO _ (by lia) (by lia));have Td:(mZ:Int)*(mZ:Int)=((mZ*mZ:Nat):Int):=by rw[Int.natCast_mul]
 have hmx:mZ*mZ<=144:=XC NI NI;have e3:bP 6 (di (bZ (ai (av iN (aq 1) (aq 1)))) [none,some 1] (ax 0) (Ic (av Kv (ai (av gT (aq 0) (aq 1))) (ai (av cV (aq 0) (aq 1))))) (fP (aA (aE (.str [112,97,105,114])) (aA (av gT (aq 0) (aq 1)) (aA (av cV (aq 0) (aq 1)) ba))))) [some (.f,HD nZ ap),some (.f,.int (mZ:Int)),some (.d,.dct true (hs.map eH) vs),t3,t4,t5,none,none]=.ok (.nx [some (.f,HD nZ ap),some (.f,.int (mZ:Int)),some (.d,.dct true (hs.map eH) vs),t3,t4,t5,some (.l .f,.lst ((KL mZ).map eC)),none]):=by
  generalize (fP (aA (aE (.str [112,97,105,114])) (aA (av gT (aq 0) (aq 1)) (aA (av cV (aq 0) (aq 1)) ba))))=FF at Sl ⊢;generalize (Ic (av Kv (ai (av gT (aq 0) (aq 1))) (ai (av cV (aq 0) (aq 1)))))=GG at Sl ⊢;simp only[pv,seval,op,hmm];rw[Tt (by rw[Td];lia),Td];simp only[pv,seval,op,T4,Sl,hpz,hpf]
 obtain⟨env',ef,t7,rfl⟩:=kB (a:=ax 7) (g:=eV) (e:=fun k=>D.int (k:Int)) mZ (fun j env=>∃t7,env=[some (.f,HD nZ ap),some (.f,.int (mZ:Int)),some (.d,.dct true (hs.map eH) vs),t3,t4,t5,some (.l .f,.lst ((KL mZ++vn nZ hs j).map eC)),t7]) (by
  rintro j env hj ⟨t7,rfl⟩;have hg:=zL nZ hs vs hv j;have Q4:(Nv nZ hs j).length<=5:=by
   unfold Nv;rw[bp];exact Uq (VN _ _) hn
  have hgz:((Nv nZ hs j).map eC).length<=sizeLine:=line_le (by rw[bp];lia);have Sk:=sf (Nv nZ hs j);have Rr:=pj nZ hs hn j;have Kz:=zp ((KL mZ++vn nZ hs j).map eC) ((Nv nZ hs j).map eC) (by rw[bp,bp,j8];lia);refine⟨[some (.f,HD nZ ap),some (.f,.int (mZ:Int)),some (.d,.dct true (hs.map eH) vs),t3,t4,t5,some (.l .f,.lst ((KL mZ++vn nZ hs j).map eC)),some (.f,.int (j:Int))],by simp only[pv,seval],[some (.f,HD nZ ap),some (.f,.int (mZ:Int)),some (.d,.dct true (hs.map eH) vs),t3,t4,t5,some (.l .f,.lst ((KL mZ++vn nZ hs (j+1)).map eC)),some (.f,.int (j:Int))],?_,_,rfl⟩;unfold eV;rw[vn,<-Ut];generalize KL mZ++vn nZ hs j=PG at Kz ⊢;rw[Tu];generalize (fP (aA (aE (.str [103,97,112])) (aA (aR 1) (aA (aR 0) ba))))=FF at hg ⊢;generalize (Ic (bC rH (ai (fP (aA (aR 1) (aA (aR 0) ba)))) (aq 2)))=GG at hg ⊢;unfold HD;simp only[pv,seval,op,KZ,hg,hgz,Sk,Kz]) [some (.f,HD nZ ap),some (.f,.int (mZ:Int)),some (.d,.dct true (hs.map eH) vs),t3,t4,t5,some (.l .f,.lst ((KL mZ).map eC)),none] ⟨none,by rw[vn,T9]⟩
 refine⟨KL mZ++vn nZ hs mZ,?_,fun c hc=>?_,?_⟩
 ·have:=pj nZ hs hn mZ;rw[j8];lia
 ·rcases mR hc with h|h
  ·exact EB nZ ap mZ h1 c h
  ·exact xV nZ ap hs hh mZ mZ (Ts _) c h
 ·unfold dg lj;rw[bh (h:=by rfl),show(List.map (fun d=>some (O.f,d)) [HD nZ ap]++List.replicate 7 none:PV.Env)=[some (.f,HD nZ ap),none,none,none,none,none,none,none] from rfl];generalize (av cB (ai (aE (.int 1))) (ai (uG (di (lB (av HG (aq 0) (ai (aE (.int 1))))) [none,none,none] (fB 3 (az (ax 0) (az (ax 1) (az (ax 2) bW)))) dW (aX maxD (ah (aq 0) (ah (aq 2) aD)))) (aE (.int 0)))))=MX at e1 ⊢;rw[aB (env':=[some (.f,HD nZ ap),some (.f,.int (mZ:Int)),none,none,none,none,none,none]) (by simp only[pv,seval,e1])];rw[aB (env':=[some (.f,HD nZ ap),some (.f,.int (mZ:Int)),some (.d,.dct true [] []),none,none,none,none,none]) (by simp only[pv,seval])];rw[aB e2];unfold h9;rw[aB e3];have hr:bZ (aq 1) [some (.f,HD nZ ap),some (.f,.int (mZ:Int)),some (.d,.dct true (hs.map eH) vs),t3,t4,t5,some (.l .f,.lst ((KL mZ).map eC)),none]=.ok ((List.range mZ).map fun(k:Nat)=>D.int (k:Int),[some (.f,HD nZ ap),some (.f,.int (mZ:Int)),some (.d,.dct true (hs.map eH) vs),t3,t4,t5,some (.l .f,.lst ((KL mZ).map eC)),none]):=by
   have:=Hf (mZ:Int) (by lia) (by lia) (aq 1) [some (.f,HD nZ ap),some (.f,.int (mZ:Int)),some (.d,.dct true (hs.map eH) vs),t3,t4,t5,some (.l .f,.lst ((KL mZ).map eC)),none] [some (.f,HD nZ ap),some (.f,.int (mZ:Int)),some (.d,.dct true (hs.map eH) vs),t3,t4,t5,some (.l .f,.lst ((KL mZ).map eC)),none] (.var 1) (by simp only[pv,seval]) rfl;rw[T4]at this;exact this
  unfold i5 hZ;rw[J5,Kp,hr,IG];dsimp only;rw[ef,IG];simp only[pv,seval]
theorem xX(nZ:HR)(ap:List HC)(uZ:List Int)(hl:uZ.length=nZ.length)(w:HR)(hw:∀m∈w,m∈nZ):dm (ax 0) dW (av HG (aq 1) (ai (rB iM (ai (av HG (aq 2) (ai (aE (.int 0))))) (ah (aq 0) aD)))) (w.map D.str) [none,some (.f,.lst (uZ.map D.int)),some (.f,HD nZ ap)]=.ok ((w.map fun m=>uZ.getD (nZ.idxOf m) 0).map D.int):=by
 rw[cv (r:=fun m:List Nat=>D.int (uZ.getD (nZ.idxOf m) 0)) (fun env=>∃t1,env=[t1,some (.f,.lst (uZ.map D.int)),some (.f,HD nZ ap)]) w ?_ _ ⟨_,rfl⟩]
 ·rw[TN];rfl
 ·rintro m hm env ⟨t1,rfl⟩;have hx:=m5 (hw m hm);have ha:IH (uZ.map D.int) ((nZ.idxOf m:Nat):Int)=some (.int (uZ.getD (nZ.idxOf m) 0)):=dB (by
   rw[hl];exact UH (hw m hm))
  refine⟨[some (.f,.str m),some (.f,.lst (uZ.map D.int)),some (.f,HD nZ ap)],rfl,.f,[some (.f,.str m),some (.f,.lst (uZ.map D.int)),some (.f,HD nZ ap)],?_,_,rfl⟩;unfold HD;simp only[pv,seval,op,KZ,hx,ha]
theorem vo(nZ:HR)(ap:List HC)(uZ:List Int)(hl:uZ.length=nZ.length)(W:List (HR))(hw:∀w∈W,w.length<=1000/\∀m∈w,m∈nZ):dm (ax 0) dW (aX x5 (ah (ai (di (JI (mn 0) (JI (kl (aR 0)) (km (aR 0)))) [none,some 1,some 2] (ax 0) dW (av HG (aq 1) (ai (rB iM (ai (av HG (aq 2) (ai (aE (.int 0))))) (ah (aq 0) aD)))))) aD)) (W.map wD) [none,some (.f,.lst (uZ.map D.int)),some (.f,HD nZ ap)]=.ok ((W.map (JS nZ uZ)).map D.int):=by
 rw[cv (r:=fun w:HR=>D.int (JS nZ uZ w)) (fun env=>∃t1,env=[t1,some (.f,.lst (uZ.map D.int)),some (.f,HD nZ ap)]) W ?_ _ ⟨_,rfl⟩]
 ·rw[TN];rfl
 ·rintro w hwW env ⟨t1,rfl⟩;obtain⟨h1,h2⟩:=hw w hwW;have hc:=xX nZ ap uZ hl w h2;have hz:w.length<=sizeLine:=line_le (by lia);have hf:=HF (w.map fun m=>uZ.getD (nZ.idxOf m) 0);refine⟨[some (.f,wD w),some (.f,.lst (uZ.map D.int)),some (.f,HD nZ ap)],rfl,.f,[some (.f,wD w),some (.f,.lst (uZ.map D.int)),some (.f,HD nZ ap)],?_,_,rfl⟩;generalize (av HG (aq 1) (ai (rB iM (ai (av HG (aq 2) (ai (aE (.int 0))))) (ah (aq 0) aD))))=EI at hc ⊢;unfold wD;simp only[pv,↓reduceIte,Nat.reduceAdd,Nat.reduceLT,Nat.reduceLeDiff,Nat.reduceEqDiff,op,hc,bp,hz,hf,xr];rfl
theorem ug(W:List (HR)):flatDs (W.map wD)=true:=kc fun w=>by
 unfold wD;rw[eD,PV.flat_strs]
theorem m6(nZ:HR)(ap:List HC)(uZ:List Int)(hl:uZ.length=nZ.length)(W:List (HR))(hW:W.length<=12)(hw:∀w∈W,w.length<=1000/\∀m∈w,m∈nZ)(ew:bo [HD nZ ap]=.ok (.l .f,.lst (W.map wD)))(X2:Option R)(T:PV.Env):
  bP 3 (di (lB (eE bo (ah (aq 0) aD))) [none,some 1,some 0] (ax 0) dW (aX x5 (ah (ai (di (JI (mn 0) (JI (kl (aR 0)) (km (aR 0)))) [none,some 1,some 2] (ax 0) dW (av HG (aq 1) (ai (rB iM (ai (av HG (aq 2) (ai (aE (.int 0))))) (ah (aq 0) aD)))))) aD))) (some (.f,HD nZ ap)::some (.f,.lst (uZ.map D.int))::X2::none::T)=.ok (.nx (some (.f,HD nZ ap)::some (.f,.lst (uZ.map D.int))::X2::some (.l .f,.lst ((W.map (JS nZ uZ)).map D.int))::T)):=by
 have hc:=vo nZ ap uZ hl W hw;have hz:((W.map (JS nZ uZ)).map D.int).length<=sizeLine:=line_le (by rw[bp,bp];lia);have hf:=HF (W.map (JS nZ uZ));have Si:=ug W;generalize (aX x5 (ah (ai (di (JI (mn 0) (JI (kl (aR 0)) (km (aR 0)))) [none,some 1,some 2] (ax 0) dW (av HG (aq 1) (ai (rB iM (ai (av HG (aq 2) (ai (aE (.int 0))))) (ah (aq 0) aD)))))) aD))=EO at hc ⊢;simp only[pv,↓reduceIte,Nat.reduceAdd,Nat.reduceLT,Nat.reduceLeDiff,Nat.reduceEqDiff,op,ew,Si,hc,hz,hf];rw[Tt (by lia)]
def qP(nZ:HR)(uZ th:List Int)(a:HC):Bool:=th.getD a.1.toNat 0+uZ.getD (nZ.idxOf a.2.1) 0==th.getD a.2.2.toNat 0
theorem EE(mm:Addr->List D->Res R)(nZ:HR)(ap:List HC)(uZ th:List Int)(hl:uZ.length=nZ.length)(X2:Option R)(a:HC)(hm:a.2.1∈nZ)(h1:0<=a.1/\a.1<(th.length:Int))(h2:0<=a.2.2/\a.2.2<(th.length:Int)):
  b9 mm (some (.f,HD nZ ap)::some (.f,.lst (uZ.map D.int))::X2::some (.l .f,.lst (th.map D.int))::some (.f,.int a.1)::some (.f,.str a.2.1)::some (.f,.int a.2.2)::none::none::none::none::none::none::[])=if qP nZ uZ th a then .ok (.nx (some (.f,HD nZ ap)::some (.f,.lst (uZ.map D.int))::X2::some (.l .f,.lst (th.map D.int))::some (.f,.int a.1)::some (.f,.str a.2.1)::some (.f,.int a.2.2)::none::none::none::none::none::none::[])) else(jh 2 (kr 2 (.l .f) mm 2 (ah (ai (fP (aA (av HG (aq 0) (ai (aE (.int 0)))) (aA (av HG (aq 0) (ai (aE (.int 1)))) ba)))) (ah (ai (av iN (ai (m7 (aA (aE (.int 0)) ba))) (ai (aX fT (ah (aq 1) aD))))) (ah (aq 2) aD))))) (some (.f,HD nZ ap)::some (.f,.lst (uZ.map D.int))::X2::some (.l .f,.lst (th.map D.int))::some (.f,.int a.1)::some (.f,.str a.2.1)::some (.f,.int a.2.2)::none::none::none::none::none::none::[]):=by
 obtain⟨x,hx⟩:=T5 h1.1;obtain⟨y,hy⟩:=T5 h2.1;have a1:IH (th.map D.int) a.1=some (.int (th.getD a.1.toNat 0)):=by
  rw[hx,T4];exact dB (by lia)
 have a2:IH (th.map D.int) a.2.2=some (.int (th.getD a.2.2.toNat 0)):=by
  rw[hy,T4];exact dB (by lia)
 have J2:=m5 hm;have a3:IH (uZ.map D.int) ((nZ.idxOf a.2.1:Nat):Int)=some (.int (uZ.getD (nZ.idxOf a.2.1) 0)):=dB (by rw[hl];exact UH hm);unfold b9 qP;generalize (jh 2 (kr 2 (.l .f) mm 2 (ah (ai (fP (aA (av HG (aq 0) (ai (aE (.int 0)))) (aA (av HG (aq 0) (ai (aE (.int 1)))) ba)))) (ah (ai (av iN (ai (m7 (aA (aE (.int 0)) ba))) (ai (aX fT (ah (aq 1) aD))))) (ah (aq 2) aD)))))=CALL;cases he:(th.getD a.1.toNat 0+uZ.getD (nZ.idxOf a.2.1) 0==th.getD a.2.2.toNat 0) with
 |true=>
  rw[Tt rfl];unfold HD;rw[EL (env':=some (.f,.tup [.tup (nZ.map D.str),.lst (ap.map eA)])::some (.f,.lst (uZ.map D.int))::X2::some (.l .f,.lst (th.map D.int))::some (.f,.int a.1)::some (.f,.str a.2.1)::some (.f,.int a.2.2)::none::none::none::none::none::none::[]) (by simp only[pv,seval,op,KZ,a1,a2,a3,J2,he,Vx])];simp only[pv,seval]
 |false=>
  rw[TB Tw];unfold HD;rw[Gh (env':=some (.f,.tup [.tup (nZ.map D.str),.lst (ap.map eA)])::some (.f,.lst (uZ.map D.int))::X2::some (.l .f,.lst (th.map D.int))::some (.f,.int a.1)::some (.f,.str a.2.1)::some (.f,.int a.2.2)::none::none::none::none::none::none::[]) (by simp only[pv,seval,op,KZ,a1,a2,a3,J2,he,VI])]
theorem zO(mm:Addr->List D->Res R)(nZ:HR)(ap:List HC)(uZ th:List Int)(hl:uZ.length=nZ.length)(X2:Option R)(r:R)(hb:∀a∈ap,a.2.1∈nZ/\(0<=a.1/\a.1<(th.length:Int))/\0<=a.2.2/\a.2.2<(th.length:Int))
  (hr:ap.all (qP nZ uZ th)=false->∀t4 t5 t6,(jh 2 (kr 2 (.l .f) mm 2 (ah (ai (fP (aA (av HG (aq 0) (ai (aE (.int 0)))) (aA (av HG (aq 0) (ai (aE (.int 1)))) ba)))) (ah (ai (av iN (ai (m7 (aA (aE (.int 0)) ba))) (ai (aX fT (ah (aq 1) aD))))) (ah (aq 2) aD))))) (some (.f,HD nZ ap)::some (.f,.lst (uZ.map D.int))::X2::some (.l .f,.lst (th.map D.int))::t4::t5::t6::none::none::none::none::none::none::[])=.ok (.rt r)):
  (ap.all (qP nZ uZ th)=true/\∃t4 t5 t6,cz mm (some (.f,HD nZ ap)::some (.f,.lst (uZ.map D.int))::X2::some (.l .f,.lst (th.map D.int))::none::none::none::none::none::none::none::none::none::[])=.ok (.nx (some (.f,HD nZ ap)::some (.f,.lst (uZ.map D.int))::X2::some (.l .f,.lst (th.map D.int))::t4::t5::t6::none::none::none::none::none::none::[])))\/(ap.all (qP nZ uZ th)=false/\cz mm (some (.f,HD nZ ap)::some (.f,.lst (uZ.map D.int))::X2::some (.l .f,.lst (th.map D.int))::none::none::none::none::none::none::none::none::none::[])=.ok (.rt r)):=by
 have hg:∀l:List HC,(∀a∈l,a∈ap)->∀t4 t5 t6:Option R,(l.all (qP nZ uZ th)=true/\∃u4 u5 u6,lH (fB 3 (az (ax 4) (az (ax 5) (az (ax 6) bW)))) (b9 mm) (l.map eA) (some (.f,HD nZ ap)::some (.f,.lst (uZ.map D.int))::X2::some (.l .f,.lst (th.map D.int))::t4::t5::t6::none::none::none::none::none::none::[])=.ok (.nx (some (.f,HD nZ ap)::some (.f,.lst (uZ.map D.int))::X2::some (.l .f,.lst (th.map D.int))::u4::u5::u6::none::none::none::none::none::none::[])))\/(l.all (qP nZ uZ th)=false/\lH (fB 3 (az (ax 4) (az (ax 5) (az (ax 6) bW)))) (b9 mm) (l.map eA) (some (.f,HD nZ ap)::some (.f,.lst (uZ.map D.int))::X2::some (.l .f,.lst (th.map D.int))::t4::t5::t6::none::none::none::none::none::none::[])=.ok (.rt r)):=by
  intro l;induction l with
  |nil=>exact fun _ t4 t5 t6=>.inl ⟨rfl,t4,t5,t6,rfl⟩
  |cons a l ih=>
   intro NJ t4 t5 t6;have Q6:=NJ a Tp;obtain⟨b1,b2,b3⟩:=hb a Q6;have hf:=EE mm nZ ap uZ th hl X2 a b1 b2 b3;have ht:fB 3 (az (ax 4) (az (ax 5) (az (ax 6) bW))) (eA a) (some (.f,HD nZ ap)::some (.f,.lst (uZ.map D.int))::X2::some (.l .f,.lst (th.map D.int))::t4::t5::t6::none::none::none::none::none::none::[])=.ok (some (.f,HD nZ ap)::some (.f,.lst (uZ.map D.int))::X2::some (.l .f,.lst (th.map D.int))::some (.f,.int a.1)::some (.f,.str a.2.1)::some (.f,.int a.2.2)::none::none::none::none::none::none::[]):=by
    unfold eA;simp only[pv,seval]
   rw[gU,JX,ht,IG,hf,Wm];cases Q7:qP nZ uZ th a with
   |true=>
    rw[Tt rfl,IG,Bool.true_and];exact ih (fun x hx=>NJ x (Tx _ hx)) _ _ _
   |false=>
    have LB:ap.all (qP nZ uZ th)=false:=by
     rw[List.all_eq_false];exact⟨a,Q6,by rw[Q7];exact Tw⟩
    rw[TB Tw,hr LB,IG,WA];exact .inr ⟨rfl,rfl⟩
 have hi:(lB (av HG (aq 0) (ai (aE (.int 1))))) (some (.f,HD nZ ap)::some (.f,.lst (uZ.map D.int))::X2::some (.l .f,.lst (th.map D.int))::none::none::none::none::none::none::none::none::none::[])=.ok (ap.map eA,some (.f,HD nZ ap)::some (.f,.lst (uZ.map D.int))::X2::some (.l .f,.lst (th.map D.int))::none::none::none::none::none::none::none::none::none::[]):=by
  unfold HD;simp only[pv,seval,op,Lc]
 unfold cz;rw[Kp,hi,IG];exact hg ap (fun _ h=>h) none none none
def Ly(ap:List HC)(th:List Int)(low:Int)(m:List Nat):List Int:=(ap.filter fun a=>a.2.1==m).map fun a=>th.getD a.1.toNat 0-low
theorem zP(ap:List HC)(th:List Int)(low:Int)(m:List Nat)(hb:∀a∈ap,0<=a.1/\a.1<(th.length:Int)):dm (fB 3 (az (ax 0) (az (ax 1) (az (ax 2) bW)))) (Ic (bC Jl (aq 1) (aq 5))) (av jG (ai (av HG (aq 3) (aq 0))) (aq 4)) (ap.map eA) [none,none,none,some (.f,.lst (th.map D.int)),some (.f,.int low),some (.f,.str m)]=.ok ((Ly ap th low m).map D.int):=by
 have:=lK (e:=eA) (p:=fun a:HC=>a.2.1==m) (r:=fun a:HC=>D.int (th.getD a.1.toNat 0-low)) (a:=fB 3 (az (ax 0) (az (ax 1) (az (ax 2) bW)))) (c:=Ic (bC Jl (aq 1) (aq 5))) (f:=av jG (ai (av HG (aq 3) (aq 0))) (aq 4)) (fun env=>∃t1 t2 t3,env=[t1,t2,t3,some (.f,.lst (th.map D.int)),some (.f,.int low),some (.f,.str m)]) ap (by
  rintro a ha env ⟨t1,t2,t3,rfl⟩;have h1:=hb a ha;obtain⟨x,hx⟩:=T5 h1.1;have a1:IH (th.map D.int) a.1=some (.int (th.getD a.1.toNat 0)):=by
   rw[hx,T4];exact dB (by lia)
  refine⟨_,gH a t1 t2 t3 _,[some (.f,.int a.1),some (.f,.str a.2.1),some (.f,.int a.2.2),some (.f,.lst (th.map D.int)),some (.f,.int low),some (.f,.str m)],?_,?_⟩
  ·simp only[pv,seval,op]
  ·split
   ·refine⟨.f,[some (.f,.int a.1),some (.f,.str a.2.1),some (.f,.int a.2.2),some (.f,.lst (th.map D.int)),some (.f,.int low),some (.f,.str m)],?_,_,_,_,rfl⟩;simp only[pv,seval,op,a1]
   ·exact⟨_,_,_,rfl⟩) _ ⟨none,none,none,rfl⟩
 rw[this];unfold Ly;rw[TN];rfl
def lst(v:Int):Int:=if 0<0-v then 0-v else 0
theorem Cu(ns:List Int)(d k:Int)(h:∀x∈ns,k<=x)(hd:k<=d):k<=NX.minD ns d:=by
 unfold NX.minD;split
 ·exact hd
 ·rename_i JD;exact h _ (zN JD)
theorem vp(nZ:HR)(ap:List HC)(Ku:ap.length<=60)(hn:nZ.length<=5)(uZ th:List Int)(hl:uZ.length=nZ.length)(low:Int)(Ov:∀x∈th,low<=x)(hb:∀a∈ap,a.2.1∈nZ/\(0<=a.1/\a.1<(th.length:Int))/\0<=a.2.2/\a.2.2<(th.length:Int))(Jk:ap.all (qP nZ uZ th)=true)(nd:nZ.Nodup)
  (xs:List Int) (hx:10<=xs.length) (t4 t5 t6:Option R):∃(tk ys:List Int) (E:Addr->PV.Env) (u5 u9 L0 NK:Option R),tk.length=nZ.length/\(E=fun q=>[some (.f,HD nZ ap),some (.f,.lst (uZ.map D.int)),some (.pin q (.l .f),.lst (ys.map D.int)),some (.l .f,.lst (th.map D.int)),t4,u5,t6,some (.f,.int low),some (.l .f,.lst (tk.map D.int)),u9,L0,NK,none])/\
  ∀q,fF [some (.f,HD nZ ap),some (.f,.lst (uZ.map D.int)),some (.pin q (.l .f),.lst (xs.map D.int)),some (.l .f,.lst (th.map D.int)),t4,t5,t6,some (.f,.int low),some (.l .f,.lst []),none,none,none,none]=.ok (.nx (E q)):=by
 obtain⟨E',ef,tk,ys,u5,u9,L0,NK,h1,h2,rfl⟩:=qG (a:=fB 2 (az (ax 5) (az (ax 9) bW))) (g:=eX) (e:=fun z:List Nat×Int=>D.tup [.str z.1,.int z.2]) (nZ.zip uZ) (fun j E=>∃(tk ys:List Int) (u5 u9 L0 NK:Option R),tk.length=j/\ys.length+j=xs.length/\E=fun q=>[some (.f,HD nZ ap),some (.f,.lst (uZ.map D.int)),some (.pin q (.l .f),.lst (ys.map D.int)),some (.l .f,.lst (th.map D.int)),t4,u5,t6,some (.f,.int low),some (.l .f,.lst (tk.map D.int)),u9,L0,NK,none]) (by
  rintro j z E hj ⟨tk,ys,u5,u9,L0,NK,h1,h2,rfl⟩;have Qy:=(nh hj).1;rw[UO]at Qy;obtain⟨ys,y0,rfl,q0⟩:=J0 (xs:=ys) (by lia);obtain⟨z1,z2⟩:=List.getElem?_zip_eq_some.mp hj;have hv:uZ.getD (nZ.idxOf z.1) 0=z.2:=by
   obtain⟨hjn,en⟩:=nh z1;have:=nd.idxOf_getElem j hjn;rw[en]at this;rw[this,List.getD_eq_getElem?_getD,z2];rfl
  have hc:=zP ap th low z.1 fun a ha=>(hb a ha).2.1
  have R9:∀x∈Ly ap th low z.1,lst z.2<=x:=by
   intro x Te;unfold Ly at Te;obtain⟨a,ha,rfl⟩:=qB Te;obtain⟨ha,hm⟩:=U4.mp ha;have hm:=T6.mp hm;have hf:=T8.mp Jk a ha;unfold qP at hf;have hf:=T6.mp hf;rw[hm,hv]at hf;obtain⟨_,b1,b2⟩:=hb a ha;have m1:th.getD a.1.toNat 0∈th:=by
    rw[List.getD_eq_getElem?_getD,xp (by lia)];exact Vq _
   have m2:th.getD a.2.2.toNat 0∈th:=by
    rw[List.getD_eq_getElem?_getD,xp (by lia)];exact Vq _
   have l1:=Ov _ m1;have l2:=Ov _ m2;unfold lst;split <;> lia
  have hmd:=Cu (Ly ap th low z.1) (lst z.2+4) (lst z.2) R9 (by lia);have hml:=fZ y0 (NX.minD (Ly ap th low z.1) (lst z.2+4)-lst z.2+1) (by lia);have hz:((Ly ap th low z.1).map D.int).length<=sizeLine:=line_le (by
   rw[bp];unfold Ly;rw[bp];exact Uq (VN _ _) (by lia))
  have hf:=HF (Ly ap th low z.1);have hsq:(some ((Ly ap th low z.1).map D.int)).bind cC=some (Ly ap th low z.1):=tX (Ly ap th low z.1);have Li:tk.length<sizeLine:=e8 (by lia);refine⟨fun q=>[some (.f,HD nZ ap),some (.f,.lst (uZ.map D.int)),some (.pin q (.l .f),.lst ((ys++[y0]).map D.int)),some (.l .f,.lst (th.map D.int)),t4,some (.f,.str z.1),t6,some (.f,.int low),some (.l .f,.lst (tk.map D.int)),some (.f,.int z.2),L0,NK,none],fun q=>by simp only[pv,seval],fun q=>[some (.f,HD nZ ap),some (.f,.lst (uZ.map D.int)),some (.pin q (.l .f),.lst (ys.map D.int)),some (.l .f,.lst (th.map D.int)),t4,some (.f,.str z.1),t6,some (.f,.int low),some (.l .f,.lst ((tk++[lst z.2+y0%(NX.minD (Ly ap th low z.1) (lst z.2+4)-lst z.2+1)]).map D.int)),some (.f,.int z.2),some (.f,.lst ((Ly ap th low z.1).map D.int)),some (.f,.int (lst z.2)),none],fun q=>?_,_,_,_,_,_,_,by rw[j8,U5,h1],by lia,rfl⟩;unfold eX;rw[aB (env':=[some (.f,HD nZ ap),some (.f,.lst (uZ.map D.int)),some (.pin q (.l .f),.lst ((ys++[y0]).map D.int)),some (.l .f,.lst (th.map D.int)),t4,some (.f,.str z.1),t6,some (.f,.int low),some (.l .f,.lst (tk.map D.int)),some (.f,.int z.2),some (.l .f,.lst ((Ly ap th low z.1).map D.int)),NK,none]) (by
   generalize (av jG (ai (av HG (aq 3) (aq 0))) (aq 4))=EH at hc ⊢;generalize (Ic (bC Jl (aq 1) (aq 5)))=CH at hc ⊢;unfold HD;simp only[pv,seval,op,Lc,hc,hz,hf])]
  rw[aB (env':=[some (.f,HD nZ ap),some (.f,.lst (uZ.map D.int)),some (.pin q (.l .f),.lst ((ys++[y0]).map D.int)),some (.l .f,.lst (th.map D.int)),t4,some (.f,.str z.1),t6,some (.f,.int low),some (.l .f,.lst (tk.map D.int)),some (.f,.int z.2),some (.l .f,.lst ((Ly ap th low z.1).map D.int)),some (.f,.int (lst z.2)),none]) (by
   unfold lst;simp only[pv,seval,op])]
  simp only[pv,seval,op,xt,BZ,hsq,hml,bp,Li];rw[Tu];rfl) _ ⟨[],xs,t5,none,none,none,rfl,by lia,rfl⟩
 rw[UO,hl,Yl]at h1;refine⟨tk,ys,_,u5,u9,L0,NK,h1,rfl,fun q=>?_⟩;have hq:=ef q;rw[Ul]at hq;dsimp only at hq ⊢;unfold fF;unfold HD at hq ⊢;simp only[pv,seval,op,KZ,lP,hq]
theorem zQ(z:List (Int×Int)):dm (fB 2 (az (ax 0) (az (ax 1) bW))) dW (av cB (aq 0) (aq 1)) (z.map fun z=>D.tup [D.int z.1,D.int z.2]) [none,none]=.ok ((z.map fun p=>p.1+p.2).map D.int):=by
 rw[cv (r:=fun z:Int×Int=>D.int (z.1+z.2)) (fun env=>∃t u,env=[t,u]) z ?_ _ ⟨none,none,rfl⟩]
 ·rw[TN];rfl
 ·rintro z _ env ⟨t,u,rfl⟩;refine⟨[some (.f,.int z.1),some (.f,.int z.2)],rfl,.f,[some (.f,.int z.1),some (.f,.int z.2)],?_,_,_,rfl⟩;simp only[pv,seval,op]
theorem vq(nZ:HR)(ap:List HC)(Ku:ap.length<=60)(hn:nZ.length<=5)(uZ th:List Int)(hl:uZ.length=nZ.length)(Tf:th≠[])(hb:∀a∈ap,a.2.1∈nZ/\(0<=a.1/\a.1<(th.length:Int))/\0<=a.2.2/\a.2.2<(th.length:Int))(Jk:ap.all (qP nZ uZ th)=true)(nd:nZ.Nodup)
  (xs:List Int) (hx:20<=xs.length) (t4 t5 t6:Option R):∃(b:Int) (l:List (Int×Int)) (ys:List Int),l.length=nZ.length/\∀q,eY [some (.f,HD nZ ap),some (.f,.lst (uZ.map D.int)),some (.pin q (.l .f),.lst (xs.map D.int)),some (.l .f,.lst (th.map D.int)),t4,t5,t6,none,none,none,none,none,none]=.ok (.rt (.t [.f,.pin q (.l .f)],.tup [pD b l,.lst (ys.map D.int)])):=by
 obtain⟨xs,x0,rfl,q0⟩:=J0 (xs:=xs) (by lia);have Pz:=ED Tf;have hm3:=fZ x0 3 (by decide);have hm0:=dI x0 3 (by decide);obtain⟨low,Ov⟩:∃low,low=ni th-x0%3:=⟨_,rfl⟩
 obtain⟨tk,ys,E,u5,u9,L0,NK,htk,hE,e3⟩:=vp nZ ap Ku hn uZ th hl low (fun x hx=>by have:=zM hx;lia) hb Jk nd xs (by lia) t4 t5 t6;have OX:=zQ (tk.zip uZ);have hz:(((tk.zip uZ).map fun p=>p.1+p.2).map D.int).length<=sizeLine:=line_le (by rw[bp,bp,UO];lia);have hf:=HF ((tk.zip uZ).map fun p=>p.1+p.2);have h0:IH (th.map D.int) 0=some (.int (th.getD 0 0)):=dB (k:=0) (UG.mpr Tf);refine⟨th.getD 0 0-low,(tk.zip uZ).map fun z=>(z.1+z.2,z.1),ys,by rw[bp,UO];lia,fun q=>?_⟩;have hp:pD (th.getD 0 0-low) ((tk.zip uZ).map fun z=>(z.1+z.2,z.1))=.tup [.int (th.getD 0 0-low),.tup (tk.map D.int),.tup (((tk.zip uZ).map fun p=>p.1+p.2).map D.int)]:=by
  unfold pD;have e1:((tk.zip uZ).map fun z:Int×Int=>(z.1+z.2,z.1)).map (fun p=>D.int p.2)=tk.map D.int:=by
   rw[TN];have:(tk.zip uZ).map (Prod.fst)=tk:=List.map_fst_zip (by lia);conv=>rhs;rw[<-this,TN]
   rfl
  rw[e1,TN,TN];rfl
 rw[hp];unfold eY;rw[aB (env':=[some (.f,HD nZ ap),some (.f,.lst (uZ.map D.int)),some (.pin q (.l .f),.lst (xs.map D.int)),some (.l .f,.lst (th.map D.int)),t4,t5,t6,some (.f,.int low),none,none,none,none,none]) (by
  rw[Ov];simp only[pv,seval,op,Pz,xt,hm3])]
 rw[aB (env':=[some (.f,HD nZ ap),some (.f,.lst (uZ.map D.int)),some (.pin q (.l .f),.lst (xs.map D.int)),some (.l .f,.lst (th.map D.int)),t4,t5,t6,some (.f,.int low),some (.l .f,.lst []),none,none,none,none]) (by simp only[pv,seval,op])];rw[aB (e3 q),hE];unfold ia;rw[aB (env':=[some (.f,HD nZ ap),some (.f,.lst (uZ.map D.int)),some (.pin q (.l .f),.lst (ys.map D.int)),some (.l .f,.lst (th.map D.int)),t4,u5,t6,some (.f,.int low),some (.f,.lst (tk.map D.int)),u9,L0,NK,some (.l .f,.lst (((tk.zip uZ).map fun p=>p.1+p.2).map D.int))]) (by
  generalize (av cB (aq 0) (aq 1))=GG at OX ⊢;simp only[pv,seval,op,lP,OX,hz,hf])]
 simp only[pv,seval,op,h0,iq]
theorem xY(b:Int)(l:List (Int×Int)):dh (pD b l)=true:=by
 have h1:∀f:Int×Int->Int,flatDs (l.map fun p=>D.int (f p))=true:=fun f=>kc fun _=>rfl
 unfold pD;rw[eD];simp only[flatDs,eD,iJ];rw[h1 (fun p=>p.2),h1 (fun p=>p.1)];rfl
structure Pc(nZ:HR)(ap:List HC)(W:List (HR)):Prop where
 al:ap.length<=60
 nl:nZ.length<=3
 nd:nZ.Nodup
 wl:W.length<=12
 w0:W≠[]
 ww:∀w∈W,w.length<=1000/\∀m∈w,m∈nZ
 bd:∀a∈ap,a.2.1∈nZ/\(0<=a.1/\a.1<(W.length:Int))/\0<=a.2.2/\a.2.2<(W.length:Int)
 ew:bo [HD nZ ap]=.ok (.l .f,.lst (W.map wD))
theorem qL(mm:Addr->List D->Res R){nZ:HR}{ap:List HC}{W:List (HR)}(P:Pc nZ ap W)(uZ:List Int)(hl:uZ.length=nZ.length)(Jk:ap.all (qP nZ uZ (W.map (JS nZ uZ)))=true)(xs:List Int)(hx:20<=xs.length):∃(b:Int) (l:List (Int×Int)) (ys:List Int),l.length=nZ.length/\∀q,fBodyJ 2 3 10 (.l .f) (dR mm) q [.lst (xs.map D.int),HD nZ ap,.lst (uZ.map D.int)]=.ok (.t [.f,.pin q (.l .f)],.tup [pD b l,.lst (ys.map D.int)]):=by
 have NO:=P.wl;have P5:=P.nl;have hb:∀a∈ap,a.2.1∈nZ/\(0<=a.1/\a.1<((W.map (JS nZ uZ)).length:Int))/\0<=a.2.2/\a.2.2<((W.map (JS nZ uZ)).length:Int):=fun a ha=>by
  rw[bp];exact P.bd a ha
 have e1:=fun X2 T=>m6 nZ ap uZ hl W P.wl P.ww P.ew X2 T
 have JD:W.map (JS nZ uZ)≠[]:=by
  intro h;exact P.w0 (List.map_eq_nil_iff.mp h)
 generalize W.map (JS nZ uZ)=th at *;have e2:∃t4 t5 t6,∀X2,cz mm [some (.f,HD nZ ap),some (.f,.lst (uZ.map D.int)),X2,some (.l .f,.lst (th.map D.int)),none,none,none,none,none,none,none,none,none]=.ok (.nx [some (.f,HD nZ ap),some (.f,.lst (uZ.map D.int)),X2,some (.l .f,.lst (th.map D.int)),t4,t5,t6,none,none,none,none,none,none]):=by
  have key:∀(l:List HC),(∀a∈l,a∈ap)->∀t4 t5 t6:Option R,∃u4 u5 u6,∀X2,lH (fB 3 (az (ax 4) (az (ax 5) (az (ax 6) bW)))) (b9 mm) (l.map eA) [some (.f,HD nZ ap),some (.f,.lst (uZ.map D.int)),X2,some (.l .f,.lst (th.map D.int)),t4,t5,t6,none,none,none,none,none,none]=.ok (.nx [some (.f,HD nZ ap),some (.f,.lst (uZ.map D.int)),X2,some (.l .f,.lst (th.map D.int)),u4,u5,u6,none,none,none,none,none,none]):=by
   intro l;induction l with
   |nil=>exact fun _ t4 t5 t6=>⟨t4,t5,t6,fun _=>rfl⟩
   |cons a l ih=>
    intro NJ t4 t5 t6;have Q6:=NJ a Tp;obtain⟨b1,b2,b3⟩:=hb a Q6;have Q7:=T8.mp Jk a Q6;obtain⟨u4,u5,u6,h⟩:=ih (fun x hx=>NJ x (Tx _ hx)) (some (.f,.int a.1)) (some (.f,.str a.2.1)) (some (.f,.int a.2.2));refine⟨u4,u5,u6,fun X2=>?_⟩;have hf:=EE mm nZ ap uZ th hl X2 a b1 b2 b3;rw[Q7,Tt rfl]at hf;have ht:fB 3 (az (ax 4) (az (ax 5) (az (ax 6) bW))) (eA a) [some (.f,HD nZ ap),some (.f,.lst (uZ.map D.int)),X2,some (.l .f,.lst (th.map D.int)),t4,t5,t6,none,none,none,none,none,none]=.ok [some (.f,HD nZ ap),some (.f,.lst (uZ.map D.int)),X2,some (.l .f,.lst (th.map D.int)),some (.f,.int a.1),some (.f,.str a.2.1),some (.f,.int a.2.2),none,none,none,none,none,none]:=by
     unfold eA;simp only[pv,seval]
    rw[gU,JX,ht,IG,hf,IG];exact h X2
  obtain⟨u4,u5,u6,h⟩:=key ap (fun _ h=>h) none none none;refine⟨u4,u5,u6,fun X2=>?_⟩;have hi:(lB (av HG (aq 0) (ai (aE (.int 1))))) [some (.f,HD nZ ap),some (.f,.lst (uZ.map D.int)),X2,some (.l .f,.lst (th.map D.int)),none,none,none,none,none,none,none,none,none]=.ok (ap.map eA,[some (.f,HD nZ ap),some (.f,.lst (uZ.map D.int)),X2,some (.l .f,.lst (th.map D.int)),none,none,none,none,none,none,none,none,none]):=by
   unfold HD;simp only[pv,seval,op,Lc]
  unfold cz;rw[Kp,hi,IG];exact h X2
 obtain⟨t4,t5,t6,e2⟩:=e2;obtain⟨b,l,ys,Lx,e3⟩:=vq nZ ap P.al (by lia) uZ th hl JD hb Jk P.nd xs hx t4 t5 t6;refine⟨b,l,ys,Lx,fun q=>?_⟩;rw[kg,show([some (.f,HD nZ ap),some (.f,.lst (uZ.map D.int)),some (.pin q (.l .f),.lst (xs.map D.int))]++List.replicate 10 none:PV.Env)=[some (.f,HD nZ ap),some (.f,.lst (uZ.map D.int)),some (.pin q (.l .f),.lst (xs.map D.int)),none,none,none,none,none,none,none,none,none,none] from rfl];unfold dR;rw[aB (e1 _ _),aB (e2 _),e3 q,IG]
theorem Cv{nZ:HR}{ap:List HC}{W:List (HR)}(P:Pc nZ ap W)(uZ:List Int)(hl:uZ.length=nZ.length)(xs:List Int)(hx:20<=xs.length):∃(b:Int) (l:List (Int×Int)) (ys:List Int),l.length=nZ.length/\∀q,cE q [.lst (xs.map D.int),HD nZ ap,.lst (uZ.map D.int)]=.ok (.t [.f,.pin q (.l .f)],.tup [pD b l,.lst (ys.map D.int)]):=by
 cases Jk:ap.all (qP nZ uZ (W.map (JS nZ uZ))) with
 |true=>exact qL bJ P uZ hl Jk xs hx
 |false=>
  have NO:=P.wl;have P5:=P.nl;have hz0:∀w:HR,JS nZ (List.replicate nZ.length 0) w=0:=by
   intro w;unfold JS;have e:(w.map fun m=>(List.replicate nZ.length (0:Int)).getD (nZ.idxOf m) 0)=w.map fun _=>(0:Int):=by
    refine Up fun m _=>?_
    rw[List.getD_eq_getElem?_getD,List.getElem?_replicate];split <;> rfl
   rw[e];clear e;induction w with
   |nil=>rfl
   |cons a w ih=>rw[gU,List.sum_cons,ih];rfl
  have Q8:ap.all (qP nZ (List.replicate nZ.length 0) (W.map (JS nZ (List.replicate nZ.length 0))))=true:=by
   rw[T8];intro a ha;have hg:∀i:Nat,(W.map (JS nZ (List.replicate nZ.length 0))).getD i 0=0:=by
    intro i;rw[List.getD_eq_getElem?_getD,List.getElem?_map];cases W[i]? with
    |none=>rfl
    |some w=>exact hz0 w
   unfold qP;rw[hg,hg,List.getD_eq_getElem?_getD,List.getElem?_replicate];split <;> rfl
  obtain⟨b,l,ys,Lx,er⟩:=qL fG P (List.replicate nZ.length 0) (Xb ..) Q8 xs hx;have er:∀q,bJ q [.lst (xs.map D.int),HD nZ ap,.lst ((List.replicate nZ.length (0:Int)).map D.int)]=.ok (.t [.f,.pin q (.l .f)],.tup [pD b l,.lst (ys.map D.int)]):=er;have ec:=gu (r:=(.f,pD b l)) er;refine⟨b,l,ys,Lx,fun q=>?_⟩;have hb:∀a∈ap,a.2.1∈nZ/\(0<=a.1/\a.1<((W.map (JS nZ uZ)).length:Int))/\0<=a.2.2/\a.2.2<((W.map (JS nZ uZ)).length:Int):=fun a ha=>by
   rw[bp];exact P.bd a ha
  have e1:=fun X2 T=>m6 nZ ap uZ hl W P.wl P.ww P.ew X2 T
  generalize W.map (JS nZ uZ)=th at *;have e0:iN (.lst [.int 0]) (.int (uZ.length:Int))=.ok (.l .f,.lst ((List.replicate nZ.length (0:Int)).map D.int)):=by
   rw[hl,BP,Tt ⟨by lia,by lia,line_le (by rw[TJ,Um];lia)⟩,T4];have:∀n:Nat,(List.replicate n [D.int 0]).flatten=(List.replicate n (0:Int)).map D.int:=fun n=>by
    induction n with
    |zero=>rfl
    |succ n ih=>rw[UE,U1,ih,UE,gU];rfl
   rw[this]
  have Q9:∀t4 t5 t6,(jh 2 (kr 2 (.l .f) bJ 2 (ah (ai (fP (aA (av HG (aq 0) (ai (aE (.int 0)))) (aA (av HG (aq 0) (ai (aE (.int 1)))) ba)))) (ah (ai (av iN (ai (m7 (aA (aE (.int 0)) ba))) (ai (aX fT (ah (aq 1) aD))))) (ah (aq 2) aD))))) [some (.f,HD nZ ap),some (.f,.lst (uZ.map D.int)),some (.pin q (.l .f),.lst (xs.map D.int)),some (.l .f,.lst (th.map D.int)),t4,t5,t6,none,none,none,none,none,none]=.ok (.rt (.t [.f,.pin q (.l .f)],.tup [pD b l,.lst (ys.map D.int)])):=by
   intro t4 t5 t6;have hj:=Co (c:=.l .f) (F:=bJ) (i:=2) (fs:=ah (ai (fP (aA (av HG (aq 0) (ai (aE (.int 0)))) (aA (av HG (aq 0) (ai (aE (.int 1)))) ba)))) (ah (ai (av iN (ai (m7 (aA (aE (.int 0)) ba))) (ai (aX fT (ah (aq 1) aD))))) (ah (aq 2) aD))) (env:=[some (.f,HD nZ ap),some (.f,.lst (uZ.map D.int)),some (.pin q (.l .f),.lst (xs.map D.int)),some (.l .f,.lst (th.map D.int)),t4,t5,t6,none,none,none,none,none,none]) (e:=[some (.f,HD nZ ap),some (.f,.lst (uZ.map D.int)),some (.pin q (.l .f),.lst (xs.map D.int)),some (.l .f,.lst (th.map D.int)),t4,t5,t6,none,none,none,none,none,none]) (o0:=.val (HD nZ ap)) (o1:=.val (.lst ((List.replicate nZ.length (0:Int)).map D.int))) (ow:=.pin q (.l .f)) (d0:=.lst (xs.map D.int)) (ds:=[HD nZ ap,.lst ((List.replicate nZ.length (0:Int)).map D.int)]) (by
    unfold HD;simp only[pv,seval,op,KZ,Lc,bp,e0]) rfl rfl rfl ec
   have KH:(aT .f (pD b l)&&aT (.l .f) (.lst (ys.map D.int)))=true:=by
    rw[show aT .f (pD b l)=dh (pD b l) from by rw[dw],xY,show aT (.l .f) (.lst (ys.map D.int))=flatDs (ys.map D.int) from by rw[fu],HF];rfl
   rw[Tt KH]at hj;rw[iq,hj,IG];rfl
  rcases zO bJ nZ ap uZ th hl (some (.pin q (.l .f),.lst (xs.map D.int))) (.t [.f,.pin q (.l .f)],.tup [pD b l,.lst (ys.map D.int)]) hb (fun _=>Q9) with⟨h,_⟩|⟨_,e2⟩
  ·rw[h]at Jk;cases Jk
  ·unfold cE;rw[kg,show([some (.f,HD nZ ap),some (.f,.lst (uZ.map D.int)),some (.pin q (.l .f),.lst (xs.map D.int))]++List.replicate 10 none:PV.Env)=[some (.f,HD nZ ap),some (.f,.lst (uZ.map D.int)),some (.pin q (.l .f),.lst (xs.map D.int)),none,none,none,none,none,none,none,none,none,none] from rfl];unfold dR;rw[aB (e1 _ _),J5,e2,IG];rfl
theorem Bfs.moves{ap:List HC}{i:Nat}{pre:List HC}{N:List Nd}{T:List HC}{nZ:HR}(b:Bfs ap i pre N T)(hn:∀a∈ap,a.2.1∈nZ):∀(j:Nat) (n:Nd),N[j]?=some n->∀m∈n.2,m∈nZ:=by
 intro j;induction j using Nat.strongRecOn with
 |_ j ih=>
  intro n hj m hm;cases j with
  |zero=>
   rw[b.z]at hj;cases hj;cases hm
  |succ j=>
   have Iy:=(nh hj).1;have hl:=b.len;obtain⟨ha,k,n',hk,RB,_,Ld⟩:=b.tr j T[j] (xp (by lia));rw[hj]at Ld;cases Ld;rcases mR hm with h|h
   ·exact ih k (by lia) n' RB m h
   ·rw[ll h];exact hn _ ha
theorem zR(nZ:HR)(ap:List HC):plainD 40 (HD nZ ap)=true:=by
 unfold HD;rw[plainD,plainDs,plainD,n0,plainDs,plainD,og 35 ap];rfl
theorem neB(s:Bool):Me (.bl s) (.bl s)=.ok (.f,.bl false):=by cases s <;> rfl
theorem xZ:∀ns:List Int,ns.length<=63->∃o,BH [.lst (ns.map D.int)]=.ok (o,.bl true):=by
 intro ns _;obtain⟨nZ,ap,Wd,nn,P5,ech⟩:=Cb ns;have Ku:=Wd.al;have L9:=Wd.st;obtain⟨N,T,b,JM,et,Tg⟩:=xx nZ ap (by lia) (fun a ha=>(Wd.bd a ha).2) Wd.all (by lia);have F:=b.found;obtain⟨elt,Sm⟩:=vm Wd b JM;have NO:∀s:Int,(br N s).length<=1000:=by
  intro s;unfold br;cases hf:(N.find? fun n=>n.1==s) with
  |none=>exact Uj _
  |some n=>
   have:=F.wl n (List.mem_of_find?_eq_some hf);show n.2.length<=1000;lia
 have PD:∀s:Int,∀m∈br N s,m∈nZ:=by
  intro s m hm;unfold br at hm;cases hf:(N.find? fun n=>n.1==s) with
  |none=>
   rw[hf]at hm;cases hm
  |some n=>
   rw[hf]at hm;obtain⟨j,hj⟩:=Ug.mp (List.mem_of_find?_eq_some hf);exact b.moves Wd.nm j n hj m hm
 obtain⟨mZ,em⟩:∃mZ:Nat,(aS ap).toNat=mZ:=⟨_,rfl⟩
 have hm:aS ap=(mZ:Int):=by lia
 rw[em]at Tg Sm;have ec:=r9 (by lia) (by lia) Tg;have RJ:∀a∈ap,(0<=a.1/\a.1<(mZ:Int))/\0<=a.2.2/\a.2.2<(mZ:Int):=by
  intro a ha;have h1:=Wd.bd a ha;have h2:=qH ha;lia
 have Th:((List.range mZ).map fun(s:Nat)=>br N (s:Int)).length=mZ:=by rw[bp,TH]
 have P:Pc nZ ap ((List.range mZ).map fun(s:Nat)=>br N (s:Int)):=by
  refine⟨Ku,P5,nn,by lia,?_,fun w hw=>?_,fun a ha=>?_,Sm⟩
  ·intro h;have:=UN List.length h;rw[Th,Um]at this;lia
  ·obtain⟨s,_,rfl⟩:=qB hw;exact⟨NO _,PD _⟩
  ·rw[Th];exact⟨Wd.nm a ha,RJ a ha⟩
 obtain⟨xs,OF,hB,Sn⟩:=xS (cell ns 8) 40 (by lia);have Sn:aW [.int (cell ns 8),.int 40]=.ok (.l .f,.lst (xs.map D.int)):=Sn;obtain⟨uZ,ys,hnu,RL,er⟩:=F3 ns nZ P5 xs OF hB;obtain⟨bb,l,zs,Lx,ep⟩:=Cv P uZ hnu ys RL;have cr:=gu (r:=(.l .f,.lst (uZ.map D.int))) er;have cp:=gu (r:=(.f,pD bb l)) ep;obtain⟨cs,KH,hco,ecs⟩:=Cr nZ ap Ku (by lia) mZ hm (by lia) (by lia);have eb:=Ck bb l nn Lx (by lia) (by lia) NO (fun s _=>PD _) ec;have el:=zu bb l Lx (by lia) (by lia) NO (fun s _=>PD _) Sm (ug _);obtain⟨L,hL⟩:∃L,L=(List.range mZ).map fun(s:Nat)=>bb+JS nZ (IW l) (br N (s:Int)):=⟨_,rfl⟩
 rw[<-hL]at eb el;have Ti:L.length=mZ:=by rw[hL,bp,TH]
 have c8:aH [.lst (ns.map D.int),.int 8]=.ok (.f,.int (cell ns 8)):=lp ns 8;have c9:aH [.lst (ns.map D.int),.int 9]=.ok (.f,.int (cell ns 9)):=lp ns 9;have hm9:=fZ (cell ns 9) ((cs.length:Int)+1) (by lia);have hb9:=dI (cell ns 9) ((cs.length:Int)+1) (by lia);obtain⟨k,ek⟩:=T5 hb9.1;have hkl:k<=cs.length:=by lia
 have JD:=xq _ (zR nZ ap);unfold BH DU;rw[bh (h:=by rfl)];rw[aB (env':=[some (.f,.lst (ns.map D.int)),some (.f,HD nZ ap),none,none,none,none,none,none,none]) (by
  simp only[pv,↓reduceIte,Nat.reduceAdd,Nat.reduceLT,Nat.reduceLeDiff,Nat.reduceEqDiff,op,ech];cases dh (HD nZ ap) <;> rfl)]
 rw[aB (env':=[some (.f,.lst (ns.map D.int)),some (.f,HD nZ ap),some (.l .f,.lst (xs.map D.int)),none,none,none,none,none,none]) (by simp only[pv,↓reduceIte,Nat.reduceAdd,Nat.reduceLT,Nat.reduceLeDiff,Nat.reduceEqDiff,op,c8,Sn])];have j1:=Co (c:=.l .f) (F:=b8) (i:=2) (fs:=ah (aq 0) (ah (ai (av HG (aq 1) (ai (aE (.int 0))))) (ah (aq 2) aD))) (env:=[some (.f,.lst (ns.map D.int)),some (.f,HD nZ ap),some (.l .f,.lst (xs.map D.int)),none,none,none,none,none,none]) (e:=[some (.f,.lst (ns.map D.int)),some (.f,HD nZ ap),some (.l .f,.lst (xs.map D.int)),none,none,none,none,none,none]) (o0:=.var 0) (o1:=.val (.tup (nZ.map D.str))) (ow:=.l .f) (d0:=.lst (xs.map D.int)) (ds:=[.lst (ns.map D.int),.tup (nZ.map D.str)]) (by
  unfold HD;simp only[pv,↓reduceIte,Nat.reduceAdd,Nat.reduceLT,Nat.reduceLeDiff,Nat.reduceEqDiff,op,KZ]) rfl rfl rfl cr
 have Sj:(aT (.l .f) (.lst (uZ.map D.int))&&aT (.l .f) (.lst (ys.map D.int)))=true:=by
  rw[show aT (.l .f) (.lst (uZ.map D.int))=flatDs (uZ.map D.int) from by rw[fu],HF,show aT (.l .f) (.lst (ys.map D.int))=flatDs (ys.map D.int) from by rw[fu],HF];rfl
 rw[Tt Sj]at j1;have j1:kr 2 (.l .f) b8 2 (ah (aq 0) (ah (ai (av HG (aq 1) (ai (aE (.int 0))))) (ah (aq 2) aD))) [some (.f,.lst (ns.map D.int)),some (.f,HD nZ ap),some (.l .f,.lst (xs.map D.int)),none,none,none,none,none,none]=.ok ((.l .f,.lst (uZ.map D.int)),[some (.f,.lst (ns.map D.int)),some (.f,HD nZ ap),some (.l .f,.lst (ys.map D.int)),none,none,none,none,none,none]):=j1;have j2:=Co (c:=.l .f) (F:=cE) (i:=2) (fs:=ah (aq 1) (ah (ai (kr 2 (.l .f) b8 2 (ah (aq 0) (ah (ai (av HG (aq 1) (ai (aE (.int 0))))) (ah (aq 2) aD))))) (ah (aq 2) aD))) (env:=[some (.f,.lst (ns.map D.int)),some (.f,HD nZ ap),some (.l .f,.lst (xs.map D.int)),none,none,none,none,none,none]) (e:=[some (.f,.lst (ns.map D.int)),some (.f,HD nZ ap),some (.l .f,.lst (ys.map D.int)),none,none,none,none,none,none]) (o0:=.var 1) (o1:=.val (.lst (uZ.map D.int))) (ow:=.l .f) (d0:=.lst (ys.map D.int)) (ds:=[HD nZ ap,.lst (uZ.map D.int)]) (by
  generalize (kr 2 (.l .f) b8 2 (ah (aq 0) (ah (ai (av HG (aq 1) (ai (aE (.int 0))))) (ah (aq 2) aD))))=RR at j1 ⊢;simp only[pv,↓reduceIte,Nat.reduceAdd,Nat.reduceLT,Nat.reduceLeDiff,Nat.reduceEqDiff,op,j1]) rfl rfl rfl cp
 have Kt:(aT .f (pD bb l)&&aT (.l .f) (.lst (zs.map D.int)))=true:=by
  rw[show aT .f (pD bb l)=dh (pD bb l) from by rw[dw],xY,show aT (.l .f) (.lst (zs.map D.int))=flatDs (zs.map D.int) from by rw[fu],HF];rfl
 rw[Tt Kt]at j2;rw[aB (env':=[some (.f,.lst (ns.map D.int)),some (.f,HD nZ ap),some (.l .f,.lst (zs.map D.int)),some (.f,pD bb l),none,none,none,none,none]) (by
  rw[J6,j2,IG];rfl)]
 rw[aB (env':=[some (.f,.lst (ns.map D.int)),some (.f,HD nZ ap),some (.l .f,.lst (zs.map D.int)),some (.f,pD bb l),some (.f,HD nZ ap),none,none,none,none]) (by
  unfold HD;simp only[pv,↓reduceIte,Nat.reduceAdd,Nat.reduceLT,Nat.reduceLeDiff,Nat.reduceEqDiff,op,KZ,Lc])]
 have hfc:=sf cs;rw[aB (env':=[some (.f,.lst (ns.map D.int)),some (.f,HD nZ ap),some (.l .f,.lst (zs.map D.int)),some (.f,pD bb l),some (.f,HD nZ ap),some (.l .f,.lst (cs.map eC)),none,none,none]) (by simp only[pv,↓reduceIte,Nat.reduceAdd,Nat.reduceLT,Nat.reduceLeDiff,Nat.reduceEqDiff,op,ecs,hfc])];rw[aB (env':=[some (.f,.lst (ns.map D.int)),some (.f,HD nZ ap),some (.l .f,.lst (zs.map D.int)),some (.f,pD bb l),some (.f,HD nZ ap),some (.l .f,.lst (cs.map eC)),some (.f,.int (k:Int)),none,none]) (by simp only[pv,↓reduceIte,Nat.reduceAdd,Nat.reduceLT,Nat.reduceLeDiff,Nat.reduceEqDiff,op,c9,bp,hm9,ek])];have hd1:lz (cs.map eC) (some (k:Int)) none=(cs.drop k).map eC:=by rw[tW,X1]
 have hd2:lz (cs.map eC) none (some (k:Int))=(cs.take k).map eC:=by rw[j9,Vc]
 have Kz:=zp ((cs.drop k).map eC) ((cs.take k).map eC) (by rw[bp,bp,VF,UI];lia);rw[<-Tu]at Kz;have K5:∀c∈cs.drop k++cs.take k,Ou nZ ap mZ c:=fun c hc=>hco c ((mR hc).elim Xz VA)
 generalize cs.drop k++cs.take k=ds at Kz K5;have hd3:lz (ds.map eC) none (some 20)=(ds.take 20).map eC:=by
  have:=j9 (ds.map eC) 20;rw[Vc];exact this
 rw[aB (env':=[some (.f,.lst (ns.map D.int)),some (.f,HD nZ ap),some (.l .f,.lst (zs.map D.int)),some (.f,pD bb l),some (.f,HD nZ ap),some (.l .f,.lst ((ds.take 20).map eC)),some (.f,.int (k:Int)),none,none]) (by simp only[pv,↓reduceIte,Nat.reduceAdd,Nat.reduceLT,Nat.reduceLeDiff,Nat.reduceEqDiff,op,hd1,hd2,Kz,hd3])];have K5:∀c∈ds.take 20,Ou nZ ap mZ c:=fun c hc=>K5 c (VA hc)
 have hl20:(ds.take 20).length<=20:=by rw[UI];lia
 generalize ds.take 20=gs at K5 hl20;have hd4:lz (gs.map eC) none (some 1)=(gs.take 1).map eC:=by
  have:=j9 (gs.map eC) 1;rw[Vc];exact this
 have OJ:=zp (gs.map eC) ((gs.take 1).map eC) (by rw[bp,bp,UI];lia);rw[<-Tu]at OJ;have K5:∀c∈gs++gs.take 1,Ou nZ ap mZ c:=fun c hc=>(mR hc).elim (K5 c) fun h=>K5 c (VA h)
 have hi:(lB (av cB (aq 5) (ai (uI (aq 5) ly (jH (aE (.int 1))))))) [some (.f,.lst (ns.map D.int)),some (.f,HD nZ ap),some (.l .f,.lst (zs.map D.int)),some (.f,pD bb l),some (.f,HD nZ ap),some (.l .f,.lst (gs.map eC)),some (.f,.int (k:Int)),none,none]=.ok ((gs++gs.take 1).map eC,[some (.f,.lst (ns.map D.int)),some (.f,HD nZ ap),some (.l .f,.lst (zs.map D.int)),some (.f,pD bb l),some (.f,HD nZ ap),some (.l .f,.lst (gs.map eC)),some (.f,.int (k:Int)),none,none]):=by
  simp only[pv,↓reduceIte,Nat.reduceAdd,Nat.reduceLT,Nat.reduceLeDiff,Nat.reduceEqDiff,op,hd4,OJ]
 generalize gs++gs.take 1=hs at K5 hi;obtain⟨env',ef,t7,t8,rfl⟩:=for_list (a:=ax 7) (g:=oS) (e:=eC) hs (fun _ env=>∃t7 t8,env=[some (.f,.lst (ns.map D.int)),some (.f,HD nZ ap),some (.l .f,.lst (zs.map D.int)),some (.f,pD bb l),some (.f,HD nZ ap),some (.l .f,.lst (gs.map eC)),some (.f,.int (k:Int)),t7,t8]) (by
  rintro j c env hj ⟨t7,t8,rfl⟩;have hc:=K5 c (T3 hj);have s1:=zv nZ ap Ku mZ hm bb l Lx L Ti eb c hc;have s2:=zw nZ ap mZ bb l Lx L Ti el c hc;generalize PF nZ L (l.map (·.2)) c=sv at s1 s2;have nb:=neB sv;refine⟨[some (.f,.lst (ns.map D.int)),some (.f,HD nZ ap),some (.l .f,.lst (zs.map D.int)),some (.f,pD bb l),some (.f,HD nZ ap),some (.l .f,.lst (gs.map eC)),some (.f,.int (k:Int)),some (.f,eC c),t8],by simp only[pv,↓reduceIte,Nat.reduceAdd,Nat.reduceLT,Nat.reduceLeDiff,Nat.reduceEqDiff],[some (.f,.lst (ns.map D.int)),some (.f,HD nZ ap),some (.l .f,.lst (zs.map D.int)),some (.f,pD bb l),some (.f,HD nZ ap),some (.l .f,.lst (gs.map eC)),some (.f,.int (k:Int)),some (.f,eC c),some (.f,.bl sv)],?_,_,_,rfl⟩;unfold oS;rw[aB (env':=[some (.f,.lst (ns.map D.int)),some (.f,HD nZ ap),some (.l .f,.lst (zs.map D.int)),some (.f,pD bb l),some (.f,HD nZ ap),some (.l .f,.lst (gs.map eC)),some (.f,.int (k:Int)),some (.f,eC c),some (.f,.bl sv)]) (by simp only[pv,↓reduceIte,Nat.reduceAdd,Nat.reduceLT,Nat.reduceLeDiff,Nat.reduceEqDiff,s1,dw,il])];simp only[pv,↓reduceIte,Nat.reduceAdd,Nat.reduceLT,Nat.reduceLeDiff,Nat.reduceEqDiff,isB,s2,dw,il,nb,Vx,jv]) [some (.f,.lst (ns.map D.int)),some (.f,HD nZ ap),some (.l .f,.lst (zs.map D.int)),some (.f,pD bb l),some (.f,HD nZ ap),some (.l .f,.lst (gs.map eC)),some (.f,.int (k:Int)),none,none] ⟨none,none,rfl⟩
 unfold xk tR;rw[J5,Kp,hi,IG];dsimp only;rw[ef,IG];simp only[pv,↓reduceIte,Nat.reduceAdd,Nat.reduceLT,Nat.reduceLeDiff,Nat.reduceEqDiff,JD];exact⟨_,rfl⟩
end LW
namespace FIN
open PySem PySem.Spec PyProof.Rows L2 NX PV LW
theorem EF{l:PySem.W.OpenLaw}{w:World}{K:W.Frag}{h:Heap}{mg:Str->Option Value}{fa f:Addr}{od an:Option Addr}{sl:Array (Option Value)}{oc kV dc pm cd ct:Value}(X:K.In h)(G:h.Ns mainGlobals mg)(Q7:mg "law" = some (.ref fa))
  (aL:PySem.W.nsIn K mainGlobals "law" = some (some (.ref f))) (lL:K.lookup f=some ⟨oc,od,.func (PySem.W.fnOf "law" "law" (eM o4) (cM o4) (defScope o4) .none kV dc pm an cd ct),sl⟩) (cL:PySem.W.codeIn K cd "law" = true) (kL:PySem.W.keepIn K (.ref f)=true)
  (Jr:Def K mg "states_of" jj) (J7:Def K mg "goes_to" mG) (JN:Def K mg "has_move" kx) (J8:Def K mg "tree_of" mH) (J9:Def K mg "product" mI) (L3:Def K mg "less" xl) (Ka:Def K mg "ways_of" mJ) (Kb:Def K mg "counted" mK) (Js:Def K mg "counts_of" jk) (IL:Def K mg "place_beads" gy) (IM:Def K mg "is_state_of" gA) (Kc:Def K mg "is_case" mL) (IZ:Def K mg "check_case" ib) (Kq:Def K mg "solves" oV) (IC:Def K mg "_law_cell_at" fH) (IP:Def K mg "_law_stream" gB) (I0:Def K mg "_law_names" ic) (ID:Def K mg "_law_come_to" fI) (IQ:Def K mg "_law_guards" gC) (Jt:Def K mg "_law_gone" jl) (JO:Def K mg "_law_run" ky) (JP:Def K mg "_law_few" kz) (Ju:Def K mg "_law_word" jm) (Ja:Def K mg "_law_fewer" ig) (Jb:Def K mg "_law_chart" ij) (Jv:Def K mg "_law_tree" jo) (Jw:Def K mg "_law_ways" jq) (IS:Def K mg "_law_levels" gD) (IT:Def K mg "_law_solved" gE) (Jc:Def K mg "_law_cases" ik) (JQ:Def K mg "_law_row" kA) (Jd:Def K mg "_law_place" ft)
  (JK:PySem.W.nsIn K mainGlobals "bool" = some none) (Lm:PySem.W.nsIn K mainGlobals "int" = some none) (HQ:PySem.W.nsIn K mainGlobals "isinstance" = some none) (HM:PySem.W.nsIn K mainGlobals "len" = some none) (JL:PySem.W.nsIn K mainGlobals "list" = some none) (Iz:PySem.W.nsIn K mainGlobals "max" = some none) (Jg:PySem.W.nsIn K mainGlobals "min" = some none) (HK:PySem.W.nsIn K mainGlobals "range" = some none) (Ib:PySem.W.nsIn K mainGlobals "sorted" = some none) (Jf:PySem.W.nsIn K mainGlobals "sum" = some none) (HS:PySem.W.nsIn K mainGlobals "tuple" = some none) (Ih:PySem.W.nsIn K mainGlobals "zip" = some none):
  ∃fd:FuncData,(∀(s:Shared) (v:Value),BindsTo s fd ⟨[v],[]⟩ [("_law_script",v)])/\∀base:Heap,K.In base->base.Ns mainGlobals mg->FnOk l.prog w K mg base Mn 6 fa fd ["_law_script"] (yU K):=by
 have e:=Q7.symm.trans (PySem.W.mg_of X G aL);cases e;have F:=zX (st:=o4) lL cL kL;have y_bool:=Uo X G JK;have Rb:=Uo X G Lm;have Je:=Uo X G HQ;have IE:=Uo X G HM;have Nw:=Uo X G JL;have Mh:=Uo X G Iz;have OK:=Uo X G Jg;have Iu:=Uo X G HK;have JY:=Uo X G Ib;have Nx:=Uo X G Jf;have Jy:=Uo X G HS;have KN:=Uo X G Ih;refine⟨PySem.W.fnOf "law" "law" (eM o4) (cM o4) (defScope o4) .none kV dc pm an cd ct,fun s v=>.of_eq rfl,fun base KB GB=>?_⟩;have Kf:Ct l.prog w K mg base "states_of" 1 (spF K cD):=qq Jr Mh;have MB:Ct l.prog w K mg base "goes_to" 1 (spF K fU):=uN J7;have L4:Ct l.prog w K mg base "has_move" 2 (spF K eF):=rN JN MB IE;have MC:Ct l.prog w K mg base "tree_of" 1 (spF K eP):=uO J8 IE;have MD:Ct l.prog w K mg base "product" 1 (spF K eQ):=uQ J9 Nx KN;have PH:Ct l.prog w K mg base "less" 1 (spF K nW):=BJ L3 Jy KN;have ME:Ct l.prog w K mg base "ways_of" 2 (spF K eR):=uR Ka Kf MC Iu;have MF:Ct l.prog w K mg base "counted" 1 (spF K eS):=uT Kb Jy;have Lq:Ct l.prog w K mg base "counts_of" 3 (spF K cX):=qu Js MF ME;have KA:Ct l.prog w K mg base "place_beads" 4 (spF K cn):=nv IL Lq PH MD;have KC:Ct l.prog w K mg base "is_state_of" 2 (spF K cq):=nE IM Kf y_bool Rb Je;have MG:Ct l.prog w K mg base "is_case" 3 (spF K fV):=uV Kc L4 KC Je IE Jy;have K6:Ct l.prog w K mg base "check_case" 4 (spF K c6):=oU IZ MG;have Ny:Ct l.prog w K mg base "solves" 5 (spF K iI):=xm Kq K6 KA;have IF:Ct l.prog w K mg base "_law_cell_at" 1 (spF K aH):=mN IC IE;have IU:Ct l.prog w K mg base "_law_stream" 1 (spF K aW):=nF IP Iu;have K7:Ct l.prog w K mg base "_law_names" 1 (spF K c7):=oW I0 Iu JY;have Kr:Ct l.prog w K mg base "_law_come_to" 1 (spF K bq):=mO ID IE Iu;have JG:Ct l.prog w K mg base "_law_guards" 1 (spM K (.l .f) bF):=nG IQ Mh OK Iu;have Lr:Ct l.prog w K mg base "_law_gone" 1 (spF K cY):=qx Jt Jy KN;have L5:Ct l.prog w K mg base "_law_run" 2 (spF K dH):=rO JO Lr IE JY KN;have L6:Ct l.prog w K mg base "_law_few" 1 (spM K (.l .f) eI):=rQ JP IE Iu JY;have Ls:Ct l.prog w K mg base "_law_word" 1 (spM K (.l .f) cZ):=qy Ju IE Iu JY;have K8:Ct l.prog w K mg base "_law_fewer" 2 (spF K de):=oX Ja Kr IE;have K9:Ct l.prog w K mg base "_law_chart" 3 (spF K df):=oY Jb IF L6 K8 JG K7 L5 IU Ls IE Jy;have Lu:Ct l.prog w K mg base "_law_tree" 1 (spF K c5):=qz Jv IE Nw;have Kg:Ct l.prog w K mg base "_law_ways" 2 (spF K bo):=qA Jw Lu IE Iu;have KD:Ct l.prog w K mg base "_law_levels" 3 (spF K cu):=nH IS Kg Nx KN;have KG:Ct l.prog w K mg base "_law_solved" 4 (spF K cI):=nI IT KD;have La:Ct l.prog w K mg base "_law_cases" 1 (spF K dg):=oZ Jc Mh Iu;have L7:Ct l.prog w K mg base "_law_row" 2 (spJ 2 K (.l .f) b8):=rR JQ IF JG IU IE Iu;have Lb:Ct l.prog w K mg base "_law_place" 4 (spJ 2 K (.l .f) cE):=o3 Jd Kg IE Mh OK Nx Jy KN;exact(DV F La IF K9 Lb L7 KG IU Ny y_bool Je IE Nw).imp (DM xZ)
end FIN
def PySem.W.Fast.tw7191057672606690262:=0
def PySem.W.Fast.tw7137557786824297682:=0
def PySem.W.Fast.tw14793151923980249211:=0
def PySem.W.Fast.tw17625416384957216862:=0
def PySem.W.Fast.tw13877488239690699044:=0
def PySem.W.Fast.tw5685621461509961355:=0
def PySem.W.Fast.tw5498583422472480235:=0
def PySem.W.Fast.tw11173085048516668927:=0
def PySem.W.Fast.tw10194223533402848906:=0
def PySem.W.Fast.tw12845743115601205329:=0
def PySem.W.Fast.tw6376219470285581658:=0
def PySem.W.Fast.tw5175695384131559265:=0
def PySem.W.Fast.tw17314114064368460070:=0
def PySem.W.Fast.tw202388580171318474:=0
def PySem.W.Fast.tw11288896169868496408:=0
def PySem.W.Fast.tw9263407640142297111:=0
def PySem.W.Fast.tw13815118015175102653:=0
def PySem.W.Fast.tw15625230493941411240:=0
def PySem.W.Fast.tw15887297334800700811:=0
def PySem.W.Fast.tw16427593122716011228:=0
def PySem.W.Fast.tw4934701541268852302:=0
def PySem.W.Fast.tw13826024083110752199:=0
def PySem.W.Fast.tw9867924834360788154:=0
def PySem.W.Fast.tw13837838764460817776:=0
def PySem.W.Fast.tw5873988455117783134:=0
def PySem.W.Fast.tw12949390429108492162:=0
def PySem.W.Fast.tw15269741717990454906:=0
def PySem.W.Fast.tw183120756209571111:=0
def PySem.W.Fast.tw14202849791272745465:=0
def PySem.W.Fast.tw16826324332118183280:=0
def PySem.W.Fast.tw6225663465538122301:=0
def PySem.W.Fast.tw14100185720944844086:=0
def PySem.W.Fast.tw12950094086808973966:=0
def PySem.W.Fast.tw3952184413477459852:=0
def PySem.W.Fast.tw7254224098217335132:=0
def PySem.W.Fast.tw3283883048269045769:=0
def PySem.W.Fast.tw8855638247587257019:=0
open PySem PySem.W PyProof.Rows
set_option maxRecDepth 100000 in
set_option maxHeartbeats 0 in
theorem PySem.Challenge.cw_netfinder_k61_solved_or_not_holds : PySem.Challenge.rw_netfinder_k61_solved_or_not.Holds := by
  w_on; o_law; k_head; (case hw => w_witness2)
  k_fill
  refine PV.GX (l := PySem.Challenge.rw_netfinder_k61_solved_or_not) (k := 6) (x := "_law_script") rfl rfl ⟨rfl, by decide, by decide⟩ (fun w h Y => PySem.W.kIn_of Y) ?F
  case F =>
    intro w mg fa h KX G Qf
    refine' FIN.EF KX G Qf ?aL ?lL ?cL ?kL ?Jr ?J7 ?JN ?J8 ?J9 ?L3 ?Ka ?Kb ?Js ?IL ?IM ?Kc ?IZ ?Kq ?IC ?IP ?I0 ?ID ?IQ ?Jt ?JO ?JP ?Ju ?Ja ?Jb ?Jv ?Jw ?IS ?IT ?Jc ?JQ ?Jd ?JK ?Lm ?HQ ?HM ?JL ?Iz ?Jg ?HK ?Ib ?Jf ?HS ?Ih
    (case aL => k_is); (case lL => k_is); (case cL => k_is); (case kL => k_is)
    (case Jr => (refine' PV.bI KX G ?a ?l ?c ?k; (case a => k_is); (case l => k_is); (case c => k_is); (case k => k_is)))
    (case J7 => (refine' PV.bI KX G ?a ?l ?c ?k; (case a => k_is); (case l => k_is); (case c => k_is); (case k => k_is)))
    (case JN => (refine' PV.bI KX G ?a ?l ?c ?k; (case a => k_is); (case l => k_is); (case c => k_is); (case k => k_is)))
    (case J8 => (refine' PV.bI KX G ?a ?l ?c ?k; (case a => k_is); (case l => k_is); (case c => k_is); (case k => k_is)))
    (case J9 => (refine' PV.bI KX G ?a ?l ?c ?k; (case a => k_is); (case l => k_is); (case c => k_is); (case k => k_is)))
    (case L3 => (refine' PV.bI KX G ?a ?l ?c ?k; (case a => k_is); (case l => k_is); (case c => k_is); (case k => k_is)))
    (case Ka => (refine' PV.bI KX G ?a ?l ?c ?k; (case a => k_is); (case l => k_is); (case c => k_is); (case k => k_is)))
    (case Kb => (refine' PV.bI KX G ?a ?l ?c ?k; (case a => k_is); (case l => k_is); (case c => k_is); (case k => k_is)))
    (case Js => (refine' PV.bI KX G ?a ?l ?c ?k; (case a => k_is); (case l => k_is); (case c => k_is); (case k => k_is)))
    (case IL => (refine' PV.bI KX G ?a ?l ?c ?k; (case a => k_is); (case l => k_is); (case c => k_is); (case k => k_is)))
    (case IM => (refine' PV.bI KX G ?a ?l ?c ?k; (case a => k_is); (case l => k_is); (case c => k_is); (case k => k_is)))
    (case Kc => (refine' PV.bI KX G ?a ?l ?c ?k; (case a => k_is); (case l => k_is); (case c => k_is); (case k => k_is)))
    (case IZ => (refine' PV.bI KX G ?a ?l ?c ?k; (case a => k_is); (case l => k_is); (case c => k_is); (case k => k_is)))
    (case Kq => (refine' PV.bI KX G ?a ?l ?c ?k; (case a => k_is); (case l => k_is); (case c => k_is); (case k => k_is)))
    (case IC => (refine' PV.bI KX G ?a ?l ?c ?k; (case a => k_is); (case l => k_is); (case c => k_is); (case k => k_is)))
    (case IP => (refine' PV.bI KX G ?a ?l ?c ?k; (case a => k_is); (case l => k_is); (case c => k_is); (case k => k_is)))
    (case I0 => (refine' PV.bI KX G ?a ?l ?c ?k; (case a => k_is); (case l => k_is); (case c => k_is); (case k => k_is)))
    (case ID => (refine' PV.bI KX G ?a ?l ?c ?k; (case a => k_is); (case l => k_is); (case c => k_is); (case k => k_is)))
    (case IQ => (refine' PV.bI KX G ?a ?l ?c ?k; (case a => k_is); (case l => k_is); (case c => k_is); (case k => k_is)))
    (case Jt => (refine' PV.bI KX G ?a ?l ?c ?k; (case a => k_is); (case l => k_is); (case c => k_is); (case k => k_is)))
    (case JO => (refine' PV.bI KX G ?a ?l ?c ?k; (case a => k_is); (case l => k_is); (case c => k_is); (case k => k_is)))
    (case JP => (refine' PV.bI KX G ?a ?l ?c ?k; (case a => k_is); (case l => k_is); (case c => k_is); (case k => k_is)))
    (case Ju => (refine' PV.bI KX G ?a ?l ?c ?k; (case a => k_is); (case l => k_is); (case c => k_is); (case k => k_is)))
    (case Ja => (refine' PV.bI KX G ?a ?l ?c ?k; (case a => k_is); (case l => k_is); (case c => k_is); (case k => k_is)))
    (case Jb => (refine' PV.bI KX G ?a ?l ?c ?k; (case a => k_is); (case l => k_is); (case c => k_is); (case k => k_is)))
    (case Jv => (refine' PV.bI KX G ?a ?l ?c ?k; (case a => k_is); (case l => k_is); (case c => k_is); (case k => k_is)))
    (case Jw => (refine' PV.bI KX G ?a ?l ?c ?k; (case a => k_is); (case l => k_is); (case c => k_is); (case k => k_is)))
    (case IS => (refine' PV.bI KX G ?a ?l ?c ?k; (case a => k_is); (case l => k_is); (case c => k_is); (case k => k_is)))
    (case IT => (refine' PV.bI KX G ?a ?l ?c ?k; (case a => k_is); (case l => k_is); (case c => k_is); (case k => k_is)))
    (case Jc => (refine' PV.bI KX G ?a ?l ?c ?k; (case a => k_is); (case l => k_is); (case c => k_is); (case k => k_is)))
    (case JQ => (refine' PV.bI KX G ?a ?l ?c ?k; (case a => k_is); (case l => k_is); (case c => k_is); (case k => k_is)))
    (case Jd => (refine' PV.bI KX G ?a ?l ?c ?k; (case a => k_is); (case l => k_is); (case c => k_is); (case k => k_is)))
    (case JK => k_is)
    (case Lm => k_is)
    (case HQ => k_is)
    (case HM => k_is)
    (case JL => k_is)
    (case Iz => k_is)
    (case Jg => k_is)
    (case HK => k_is)
    (case Ib => k_is)
    (case Jf => k_is)
    (case HS => k_is)
    (case Ih => k_is)
