import PyProof.Rows.All
import Wide.All
import OpenK.AllK
import Wide.FinOn
import Lean
import PyProof.EqAt
import PyProof.EqKinds
import PyProof.TupleCall
import PySem.Challenge.RW_netfinder_k28_other_moves
set_option Elab.async false
set_option linter.all false
set_option maxRecDepth 100000
set_option compiler.extract_closed false
set_option bootstrap.genMatcherCode false
noncomputable section
theorem Zz{a b:Prop}(x:a)(y:b):a∧b:=⟨x,y⟩
def SM:=@PySem.wpAny_bind
def SN:=@List.mem_cons_self
def SO:=@List.length_map
def SQ:=@PySem.wpAny_pure
def SR:=@List.size_toArray
def SS:=@List.mem_append_right
def SU:=@List.mem_cons_of_mem
def SV:=@Nat.le_refl
def SW:=@List.mem_append_left
def SX:=@Bool.false_ne_true
def SY:=@Bool.and_eq_true
def S1:=@if_pos
def S2:=@PySem.Heap.lt_size
def S3:=@List.mem_cons
def S4:=@if_neg
def S5:=@List.length_cons
def S6:=@Nat.lt_of_lt_of_le
def S7:=@List.map_cons
def S8:=@Nat.ne_of_lt
def S9:=@decide_eq_true_eq
def Ta:=@List.append_nil
def Tb:=@List.map_append
def Tc:=@List.length_singleton
def Td:=@List.map_map
def Te:=@List.mem_singleton
def Tf:=@Option.some.inj
def Tg:=@Option.map_eq_some_iff
def Th:=@List.nodup_append
def Ti:=@List.all_eq_true
def Tj:=@decide_eq_false
def Tn:=@List.mem_append
def To:=@Bool.eq_iff_iff
def Tp:=@Nat.le_trans
def Tq:=@List.length_append
def Tr:=@List.length_range
def Ts:=@List.mem_of_getElem?
def Tt:=@List.nodup_cons
def Tu:=@beq_iff_eq
def Tv:=@decide_eq_true
def Tw:=@Nat.zero_le
def Tx:=@List.append_assoc
def Tz:=@List.length_set
def TB:=@List.mem_range
def TC:=@List.map_nil
def TF:=@decide_eq_false_iff_not
def TH:=@Option.bind_eq_some_iff
def TJ:=@List.length_take
def TK:=@List.eq_nil_of_length_eq_zero
def TL:=@List.length_nil
def TM:=@PySem.wpAny_newObj_type
def TQ:=@PySem.sizeLine_eq
def TR:=@PySem.W.mg_none_of
def TU:=@PySem.wpAny_call_entry
def TV:=@List.lookup_cons
def TY:=@congrArg
def TZ:=@PySem.wpAny_mono
def T3:=@PySem.PassesOwn.never
def T4:=@beq_eq_false_iff_ne
def T5:=@Array.length_toList
def T6:=@List.map_congr_left
def T7:=@Option.isSome_iff_exists
def T8:=@Int.toNat_natCast
def T9:=@List.mem_map
def Ua:=@List.mem_iff_getElem?
def Ub:=@PySem.wpAny_seqItems
def Uc:=@PySem.wpAny_field
def Ud:=@PySem.W.mg_of
def Ue:=@List.idxOf_lt_length_of_mem
def Ug:=@Int.eq_ofNat_of_zero_le
def Uh:=@List.not_mem_nil
def Ui:=@Ne.symm
def Uj:=@PyProof.Rows.slot_tuple_getitem
def Uk:=@List.replicate_succ
def Ul:=@Bool.and_self
def Um:=@Bool.false_eq_true
def Uo:=@List.zip_cons_cons
def Up:=@List.length_drop
def Uq:=@beq_self_eq_true
def Ur:=@PySem.wpAny_typeNameOfWhole_keyiter
def Us:=@List.any_eq_true
def Ut:=@PySem.F.slot_dict_keyiterator_next
def Uu:=@List.nodup_nil
def Uv:=@List.all_map
def Uw:=@PySem.wpAny_truthy_bool
def Ux:=@List.flatten_cons
def Uy:=@of_decide_eq_true
def Uz:=@PySem.mem_of_lookup
def UA:=@PyProof.Rows.KeyOrd.kle_refl
def UB:=@List.take_of_length_le
def UC:=@PySem.F.slot_tuple_iterator_next
def UD:=@Option.getD_none
def UE:=@PySem.F.plain_max_loop
def UG:=@List.cons_append
def UH:=@Nat.lt_irrefl
def UI:=@PySem.wpAny_pyIter_tuple
def UJ:=@PySem.wpAny_Call_Name_kw
def UK:=@PySem.wpAny_holding
def UL:=@PySem.wpAny_setField_rec
def UM:=@List.set_set
def UN:=@List.mem_filter
def UO:=@PySem.wpAny_passesOwn
def UP:=@PySem.wpAny_pyIter_list
def UQ:=@List.of_mem_zip
def UR:=@PySem.F.slot_tuple_index
def US:=@List.filterMap_cons_none
def UT:=@List.filterMap_cons_some
def UU:=@PySem.wpAny_typeOf
def UW:=@decide_false
def UX:=@List.filterMap_cons
def UY:=@List.cons.inj
def UZ:=@Nat.lt_succ_self
def U0:=@List.getElem_mem
def U1:=@PySem.Heap.size_push
def U2:=@List.pairwise_cons
def U3:=@PyProof.Rows.callWith_type1
def U4:=@List.foldl_cons
def U5:=@Nat.le_succ
def U6:=@PySem.codeAny_builtin
def U7:=@List.nil_append
def U8:=@List.ext_getElem?
def U9:=@List.all_cons
def Va:=@List.nodup_iff_pairwise_ne
def Vb:=@Bool.false_and
def Vc:=@PySem.Calls.call_function_entry
def Vd:=@List.drop_eq_getElem_cons
def Ve:=@Bool.not_false
def Vf:=@PySem.wpAny_execs_cons
def Vg:=@PySem.wpAny_letGo
def Vh:=@PySem.Heap.SameBut.update
def Vi:=@decide_true
def Vj:=@PySem.F.args_tuple_add_2
def Vk:=@List.any_map
def Vl:=@PySem.F.type_tuple_index
def Vm:=@PySem.wpAny_execs_nil
def Vn:=@List.mem_filterMap
def Vo:=@PySem.F.entry_tuple_add
def Vp:=@PySem.Obj.data_mapFields
def Vq:=@PySem.tupleKind_room_in1
def Vr:=@List.length_zip
def Vs:=@Bool.not_true
def Vt:=@PySem.F.slot_tuple_add
def Vu:=@if_true
def Vv:=@PyProof.Rows.KeyOrd.kle_of_klt
def Vx:=@PySem.wpAny_dictEntries
def Vy:=@List.pairwise_map
def Vz:=@PySem.wpAny_tryCatch
def VA:=@PySem.F.args_dict_keyiterator_next_1
def VB:=@Option.getD_some
def VC:=@PyProof.Rows.KeyOrd.kle_trans
def VD:=@PySem.F.entry_dict_keyiterator_next
def VE:=@PySem.Calls.evalArgs_plain
def VF:=@PySem.Around.under_plainId
def VG:=@PySem.codeAny_call_builtin
def VH:=@PySem.wpAny_updateSeq_pair
def VI:=@PySem.W.looks_findIn
def VJ:=@PySem.Paired.length
def VL:=@if_false
def VM:=@PySem.F.args_tuple_iterator_next_1
def VN:=@PySem.wpAny_attempt
def VO:=@Bool.true_and
def VP:=@PySem.W.hideAll_get
def VQ:=@List.toList_toArray
def VR:=@Bool.or_eq_true
def VS:=@List.getElem_of_mem
def VT:=@List.length_pos_iff
def VU:=@PySem.F.entry_tuple_iterator_next
def VW:=@PySem.F.slot_zip_next
def VX:=@Array.getD_eq_getD_getElem?
def VY:=@Nat.min_eq_left
def VZ:=@PySem.Calls.Name_function_global
def V0:=@of_decide_eq_false
def V1:=@Int.cast_ofNat_Int
def V2:=@List.drop_zero
def V3:=@PySem.wpAny_setField
def V4:=@List.pairwise_iff_getElem
def V5:=@Bool.and_false
def V6:=@List.take_sublist
def V7:=@PySem.typeIs_str
def V8:=@PySem.wpAny_getItem_list_slice
def V9:=@bne_self_eq_false
def Wa:=@PySem.wpAny_comprehension_free
def Wb:=@Nat.lt_succ_of_lt
def Wc:=@Option.isSome_map
def Wd:=@PySem.AutoSeq1.sub_tuple_tuple
def We:=@List.length_erase_of_mem
def Wf:=@Option.some.injEq
def Wg:=@PySem.plainId_quiet
def Wh:=@PySem.wpAny_onRaise
def Wi:=@PyProof.Rows.listUpdate_at
def Wj:=@PySem.wpAny_newList
def Wl:=@List.not_lt
def Wm:=@PySem.F.plainAttrs_list
def Wn:=@Bool.and_true
def Wo:=@PySem.F.slot_list_index
def Wq:=@PySem.noFill_tuple_add
def Wr:=@PySem.F.entry_max_loop
def Ws:=@PySem.wpAny_forIn_list
def Wt:=@List.drop_length
def Wu:=@PySem.W.cellsFrom_some
def WB:=@List.Perm.append_right
def WC:=@List.drop_eq_nil_of_le
def WD:=@List.length_pos_of_mem
def WE:=@Nat.le_of_lt
def WH:=@PySem.codeAny_mono
def WI:=@PySem.concat_meets
def WJ:=@List.forIn_cons
def WK:=@PySem.wpAny_updateSeq
def WM:=@PySem.wpAny_dictEpoch
def WO:=@List.Perm.append_left
def WQ:=@List.perm_append_comm
def WR:=@Classical.choose_spec
def WS:=@Nat.sub_self
def WT:=@PySem.typeIs_int
def WU:=@PySem.wpAny_rule
def WX:=@List.getElem_toArray
def WY:=@List.findIdx_getElem
def WZ:=@List.mem_of_mem_take
def W0:=@List.take_zero
def W5:=@PySem.W.looks_mroIn
def W6:=@List.take_succ_cons
def W7:=@List.drop_succ_cons
def Xa:=@PySem.W.of_hideAll
def Xb:=@PySem.W.callWith_K
def Xc:=@PySem.wpAny_standAt
def Xd:=@PySem.seq_tuple_add
def Xg:=@List.any_cons
def Xi:=@List.getElem_range
def Xj:=@List.sum_cons
def Xk:=@List.map_take
def Xl:=@Option.isNone_some
def Xw:=@Nat.ne_of_gt
def XA:=@Nat.mul_comm
def XB:=@Nat.zero_add
def XC:=@Nat.sub_zero
def XW:=@or_false
def X8:=@Int.le_refl
def YJ:=@bne_iff_ne
namespace L2
open PySem PySem.Spec PyProof.Rows
def IsTupN(h:Heap)(a:Addr)(items:Array Value):Prop:=∃o,h.get? a=some o/\o.cls=.type "tuple"/\(∃n,o.data=.seq items n)/\o.dict=none
theorem IsTupN.tup{h:Heap}{a:Addr}{items:Array Value}(p:IsTupN h a items):IsTup h a items:=by
 obtain⟨o,e,c,n,_⟩:=p;exact⟨o,e,c,n⟩
theorem IsTupN.new(h:Heap)(items:Array Value):IsTupN (h.push {cls:=.type "tuple",data:=.seq items}) h.objs.size items:=⟨_,Heap.get?_push_size _ rfl,rfl,⟨_,rfl⟩,rfl⟩
abbrev Key:=Sum Int Str
def oN:Key->Value->Bool
 | .inl k,v=>Value.isInt k v
 | .inr x,v=>Value.isStrOf x v
def FD(w:World):Key->Int
 | .inl k=>hashInt k
 | .inr x=>hashStr w x
theorem bK:∀{k:Key}{v:Value},oN k v=true->(∃i t,k=Sum.inl i/\v=Value.int i t)\/(∃x t,k=Sum.inr x/\v=Value.str x t)
 | .inl i,v,h=>by
  obtain⟨t,e⟩:=Value.isInt_shape (k:=i) (v:=v) h;exact .inl ⟨i,t,rfl,e⟩
 | .inr x,v,h=>by
  obtain⟨t,e⟩:=Value.isStrOf_shape (x:=x) (v:=v) h;exact .inr ⟨x,t,rfl,e⟩
theorem rZ(i:Int)(t:Tok):oN (.inl i) (.int i t)=true:=by simp[oN,Value.isInt]
theorem r6(x:Str)(t:Tok):oN (.inr x) (.str x t)=true:=by simp[oN,Value.isStrOf]
theorem A5(a b:Int):decide ((Sum.inl a:Key)=Sum.inl b)=(a==b):=by
 by_cases e:a=b
 ·subst e;simp
 ·have h:¬ (Sum.inl a:Key)=Sum.inl b:=fun q=>e (Sum.inl.inj q)
  rw[Tj h];exact(T4.mpr e).symm
theorem A6(a b:Str):decide ((Sum.inr a:Key)=Sum.inr b)=decide (a=b):=by
 by_cases e:a=b
 ·subst e;simp
 ·have h:¬ (Sum.inr a:Key)=Sum.inr b:=fun q=>e (Sum.inr.inj q)
  rw[Tj h,Tj e]
theorem A7(a:Int)(b:Str):decide ((Sum.inl a:Key)=Sum.inr b)=false:=Tj (fun q=>nomatch q)
theorem A8(a:Str)(b:Int):decide ((Sum.inr a:Key)=Sum.inl b)=false:=Tj (fun q=>nomatch q)
noncomputable def mixKind(prog:Program)(w:World):PySem.KeyKind prog w Key where
 is:=oN
 hash:=FD w
 inj:=fun v a b ha hb=>by
  rcases bK ha with⟨i,t,rfl,rfl⟩|⟨x,t,rfl,rfl⟩
  ·rcases bK hb with⟨j,u,rfl,e⟩|⟨y,u,rfl,e⟩
   ·injection e with e1 _;rw[e1]
   ·exact nomatch e
  ·rcases bK hb with⟨j,u,rfl,e⟩|⟨y,u,rfl,e⟩
   ·exact nomatch e
   ·injection e with e1 _;rw[e1]
 byValue:=fun k v h=>by
  rcases bK h with⟨i,t,rfl,rfl⟩|⟨x,t,rfl,rfl⟩ <;> rfl
 pyHash:=fun hv h=>by
  rcases bK hv with⟨i,t,rfl,rfl⟩|⟨x,t,rfl,rfl⟩
  ·exact wpAny_pyHash_int h
  ·exact wpAny_pyHash_str h
 eqBool:=fun hu hv h=>by
  rcases bK hu with⟨i,t,rfl,rfl⟩|⟨x,t,rfl,rfl⟩
  ·rcases bK hv with⟨j,u,rfl,rfl⟩|⟨y,u,rfl,rfl⟩
   ·rw[A5]at h;exact wpAny_eqBool_int h
   ·rw[A7]at h;exact SeqAt.EqAt.int_str i t y u _ _ _ _ h
  ·rcases bK hv with⟨j,u,rfl,rfl⟩|⟨y,u,rfl,rfl⟩
   ·rw[A8]at h;exact SeqAt.EqAt.str_int x t j u _ _ _ _ h
   ·rw[A6]at h;exact wpAny_eqBool_str h
 «strs»:=fun k x t v h=>by
  rcases bK h with⟨i,u,rfl,e⟩|⟨y,u,rfl,e⟩
  ·exact nomatch e
  ·injection e with e1 _;subst e1;cases v <;> rfl
theorem qO(prog:Program)(w:World)(k:Key)(v:Value):(mixKind prog w).is k v=oN k v:=rfl
theorem oO(prog:Program)(w:World)(i:Int)(t:Tok):(mixKind prog w).is (.inl i) (.int i t)=true:=rZ i t
theorem oP(prog:Program)(w:World)(x:Str)(t:Tok):(mixKind prog w).is (.inr x) (.str x t)=true:=r6 x t
inductive V where
 |non|bl (b:Bool)|int (i:Int)|str (x:Str)|byt (b:Array UInt8)|flt (b:UInt64)|ref (a:Addr)|ty (n:String)
 deriving DecidableEq
noncomputable def RelV:V->Value->Prop
 | .non,u=>u=Value.none
 | .bl b,u=>u=Value.bool b
 | .int i,u=>∃t,u=Value.int i t
 | .str x,u=>∃t,u=Value.str x t
 | .byt b,u=>∃t,u=Value.bytes b t
 | .flt b,u=>∃t,u=Value.float b t
 | .ref a,u=>u=Value.ref a
 | .ty n,u=>u=Value.type n
abbrev Vals:List V->List Value->Prop:=Paired RelV
theorem Vals.length{xs:List V}{us:List Value}(r:Vals xs us):xs.length=us.length:=VJ r
theorem Vals.get:∀{xs:List V}{us:List Value}{i:Nat}{x:V},Vals xs us->xs[i]?=some x->∃u,us[i]?=some u/\RelV x u
 |_,_,_,_,.nil,e=>by simp at e
 |_,_,0,_,.cons r _,e=>by simp at e;subst e;exact⟨_,rfl,r⟩
 |_,_,i+1,x,.cons _ t,e=>by
  obtain⟨u,h1,h2⟩:=Vals.get (i:=i) (x:=x) t (by simpa using e);exact⟨u,by simpa using h1,h2⟩
theorem Vals.set{x:V}{u:Value}(r:RelV x u):∀{xs:List V}{us:List Value}(i:Nat),Vals xs us->Vals (xs.set i x) (us.set i u)
 |_,_,_,.nil=>.nil
 |_,_,0,.cons _ t=>.cons r t
 |_,_,i+1,.cons q t=>.cons q (Vals.set r i t)
theorem Vals.append:∀{xs ys:List V}{us ws:List Value},Vals xs us->Vals ys ws->Vals (xs++ys) (us++ws)
 |_,_,_,_,.nil,s=>s
 |_,_,_,_,.cons r t,s=>.cons r (Vals.append t s)
theorem Vals.take:∀{xs:List V}{us:List Value}(n:Nat),Vals xs us->Vals (xs.take n) (us.take n)
 |_,_,0,_=>.nil
 |_,_,_+1,.nil=>.nil
 |_,_,n+1,.cons r t=>.cons r (Vals.take n t)
theorem Vals.drop:∀{xs:List V}{us:List Value}(n:Nat),Vals xs us->Vals (xs.drop n) (us.drop n)
 |_,_,0,r=>r
 |_,_,_+1,.nil=>.nil
 |_,_,n+1,.cons _ t=>Vals.drop n t
theorem Vals.none_of:∀{xs:List V}{us:List Value}{i:Nat},Vals xs us->xs[i]?=none->us[i]?=none:=fun{xs us i} r e=>by
 have h1:=r.length;have h2:xs.length<=i:=List.getElem?_eq_none_iff.mp e;exact List.getElem?_eq_none_iff.mpr (by lia)
def RelO:Option V->Option Value->Prop
 |some v,some u=>RelV v u
 |none,none=>True
 |_,_=>False
def KV{κ:Type}:List (κ×V)->List (κ×Value)->Prop:=Paired fun(p:κ×V) (q:κ×Value)=>p.1=q.1/\RelV p.2 q.2
def kV:Key->V
 | .inl i=>.int i
 | .inr x=>.str x
inductive HO where
 |lst (xs:List V)
 |tup (xs:List V)
 |dK (kvs:List (Key×V))|dT (kvs:List (List Key×V))
 |set (S:Int->Bool) (n:Nat)
 |ins (C dx:Addr) (fs:List (Str×V))
 |own (x:Addr)
 |xd (fs:List (Str×V))
 |met (f x:Addr)
 |rng (lo hi:Int)
 |frz (o:Obj) (u:HO)
 |tbl (ps:Array Value)
 |ext (φ:Heap->Prop)
abbrev Hp:=Addr->Option HO
def upd(H:Hp)(a:Addr)(o:HO):Hp:=fun b=>if b=a then some o else H b
theorem aP{H:Hp}{a:Addr}{o:HO}:upd H a o a=some o:=by unfold upd;rw[S1 rfl]
theorem az{H:Hp}{a b:Addr}{o:HO}(h:b≠a):upd H a o b=H b:=by unfold upd;rw[S4 h]
theorem DQ{H:Hp}{a b:Addr}{o u:HO}(h:H a=some o)(h':H b=some u)(d:o≠u):a≠b:=by
 intro e;subst e;rw[h]at h';exact d (Tf h')
theorem aU{H:Hp}{a b:Addr}{o:HO}(h:H a=some o)(h':H b=none):a≠b:=by
 intro e;subst e;rw[h]at h';cases h'
section
variable(P:Program)(w:World)
noncomputable def ObjOk(H:Hp)(h:Heap)(a:Addr):HO->Prop
 | .lst xs=>xs.length<=sizeLine/\∃(GQ:List Value) (n:Nat),Vals xs GQ/\h.get? a=some {cls:=.type "list",data:=.seq GQ.toArray n}
 | .tup xs=>xs.length<=sizeLine/\∃GQ:List Value,Vals xs GQ/\IsTupN h a GQ.toArray
 | .dK kvs=>kvs.length<=sizeLine/\(a==sysModules)=false/\∃vs,KV kvs vs/\h.DictOf (mixKind P w) a vs
 | .dT kvs=>kvs.length<=sizeLine/\(a==sysModules)=false/\∃xs:List (List Key×Addr×Value),
   Paired (fun(p:List Key×V) (q:List Key×Addr×Value)=>p.1=q.1/\H q.2.1=some (.tup (p.1.map kV))/\RelV p.2 q.2.2) kvs xs/\
   ∃o es ep,h.get? a=some o/\o.ExactDict/\o.data=.dict es ep/\es.toList=xs.map (entryOfKey (tupleKind (mixKind P w)))/\(xs.map (·.1)).Nodup
 | .set S n=>h.SetOf (intKind P w) a S n
 | .ins C dx fs=>H dx=some (.own a)/\fs.length<=1000/\dx≠a/\h.get? a=some (PySem.W.instObj C dx)/\
   ∃mA,h.Ns1 dx mA/\(∀f,RelO (fs.lookup f) (mA f))/\PySem.Within mA (fs.map (·.1))
 | .own _=>∃o,h.get? a=some o
 | .xd fs=>∃mA,h.Ns1 a mA/\∀f,RelO (fs.lookup f) (mA f)
 | .rng lo hi=>∃t u v,h.get? a=some {cls:=.type "range",data:=.fields #[.int lo t,.int hi u,.int 1 v]}
 | .frz o u=>h.get? a=some o/\ObjOk H h a u
 | .tbl ps=>h.get? a=some {cls:=.none,data:=.fields ps}
 | .met f x=>h.get? a=some (PySem.W.methodObj (.ref f) (.ref x))
 | .ext φ=>φ h/\(∃o,h.get? a=some o)/\∀h1 h2:Heap,φ h1->(∀o,h1.get? a=some o->h2.get? a=some o)->φ h2
def HOk(H:Hp)(h:Heap):Prop:=∀a o,H a=some o->ObjOk P w H h a o
end
section
variable{P:Program}{w:World}{H H':Hp}{h h':Heap}{a:Addr}{o:HO}
theorem ObjOk.lt(x:ObjOk P w H h a o):a<h.objs.size:=by
 cases o with
 |lst xs=>obtain⟨_,_,_,_,e⟩:=x;exact S2 e
 |tup xs=>obtain⟨_,_,_,p⟩:=x;exact p.tup.lt
 |dK kvs=>obtain⟨_,_,_,_,o,_,_,e,_⟩:=x;exact S2 e
 |dT kvs=>obtain⟨_,_,_,_,o,_,_,e,_⟩:=x;exact S2 e
 |set S n=>obtain⟨o,_,_,_,e,_⟩:=x;exact S2 e
 |ins C dx fs=>obtain⟨_,_,_,e,_⟩:=x;exact S2 e
 |own y=>obtain⟨_,e⟩:=x;exact S2 e
 |xd fs=>obtain⟨_,⟨_,_,_,e,_⟩,_⟩:=x;exact S2 e
 |rng lo hi=>obtain⟨_,_,_,e⟩:=x;exact S2 e
 |frz ob u=>obtain⟨e,_⟩:=x;exact S2 e
 |tbl ps=>exact S2 (show h.get? a=some _ from x)
 |met f y=>exact S2 (show h.get? a=some _ from x)
 |ext φ=>obtain⟨_,⟨_,e⟩,_⟩:=x;exact S2 e
theorem Paired.mapP{α β:Type}{F G:α->β->Prop}:∀{l₁:List α}{l₂:List β},Paired F l₁ l₂->(∀a b,F a b->G a b)->Paired G l₁ l₂
 |_,_,.nil,_=>.nil
 |_,_,.cons r t,f=>.cons (f _ _ r) (Paired.mapP t f)
theorem ObjOk.stay(x:ObjOk P w H h a o)(k:∀b u,(b=a\/H b=some (.own a))->h.get? b=some u->h'.get? b=some u)
  (ho:∀b,H b=some (.own a)->H' b=some (.own a)) (ht:∀b xs,H b=some (.tup xs)->H' b=some (.tup xs)):ObjOk P w H' h' a o:=by
 induction o with
 |lst xs=>obtain⟨z,GQ,n,r,e⟩:=x;exact⟨z,GQ,n,r,k _ _ (.inl rfl) e⟩
 |tup xs=>obtain⟨z,GQ,r,ob,e,c⟩:=x;exact⟨z,GQ,r,ob,k _ _ (.inl rfl) e,c⟩
 |dK kvs=>obtain⟨z,y,vs,r,ob,es,ep,e,c⟩:=x;exact⟨z,y,vs,r,ob,es,ep,k _ _ (.inl rfl) e,c⟩
 |dT kvs=>
  obtain⟨z,y,xs,r,ob,es,ep,e,c⟩:=x;exact⟨z,y,xs,Paired.mapP r fun p q z=>⟨z.1,ht _ _ z.2.1,z.2.2⟩,ob,es,ep,k _ _ (.inl rfl) e,c⟩
 |set S n=>obtain⟨ob,es,ep,t,e,c⟩:=x;exact⟨ob,es,ep,t,k _ _ (.inl rfl) e,c⟩
 |ins C dx fs=>
  obtain⟨d,z,ne,e,mA,⟨od,es,ep,e2,c⟩,r⟩:=x;exact⟨ho _ d,z,ne,k _ _ (.inl rfl) e,mA,⟨od,es,ep,k _ _ (.inr d) e2,c⟩,r⟩
 |own y=>obtain⟨ob,e⟩:=x;exact⟨ob,k _ _ (.inl rfl) e⟩
 |xd fs=>obtain⟨mA,⟨od,es,ep,e,c⟩,r⟩:=x;exact⟨mA,⟨od,es,ep,k _ _ (.inl rfl) e,c⟩,r⟩
 |rng lo hi=>obtain⟨t,u,v,e⟩:=x;exact⟨t,u,v,k _ _ (.inl rfl) e⟩
 |frz ob u ih=>obtain⟨e,q⟩:=x;exact⟨k _ _ (.inl rfl) e,ih q⟩
 |tbl ps=>
  have e:h.get? a=some {cls:=.none,data:=.fields ps}:=x;show h'.get? a=some {cls:=.none,data:=.fields ps};exact k a _ (.inl rfl) e
 |met f y=>
  have e:h.get? a=some (PySem.W.methodObj (.ref f) (.ref y)):=x;show h'.get? a=some (PySem.W.methodObj (.ref f) (.ref y));exact k a _ (.inl rfl) e
 |ext φ=>obtain⟨p,⟨o,e⟩,st⟩:=x;exact⟨st _ _ p fun o q=>k _ _ (.inl rfl) q,⟨o,k _ _ (.inl rfl) e⟩,st⟩
theorem HOk.lt(x:HOk P w H h)(e:H a=some o):a<h.objs.size:=(x a o e).lt
theorem HOk.fresh(x:HOk P w H h)(e:h.objs.size<=a):H a=none:=by
 cases q:H a with
 |none=>rfl
 |some u=>exact absurd (S6 (x.lt q) e) (UH _)
theorem HOk.kept(x:HOk P w H h)(k:∀b u,h.get? b=some u->h'.get? b=some u):HOk P w H h':=fun a o e=>
 (x a o e).stay (fun b u _ q=>k b u q) (fun _ q=>q) fun _ _ q=>q
theorem HOk.laid(x:HOk P w H h)(k:∀b u,h.get? b=some u->h'.get? b=some u)(hp:h.objs.size<=a)(new:ObjOk P w (upd H a o) h' a o):HOk P w (upd H a o) h':=fun b u e=>by
 have hn:=x.fresh hp;by_cases hb:b=a
 ·subst hb;rw[aP]at e;cases e;exact new
 ·rw[az hb]at e;exact(x b u e).stay (fun c v _ q=>k c v q) (fun c q=>by rw[az (aU q hn)];exact q) fun c xs q=>by rw[az (aU q hn)];exact q
end
def Rd(H:Hp)(a:Addr)(u:HO):Prop:=H a=some u\/∃o,H a=some (.frz o u)
theorem Rd.ok{P:Program}{w:World}{H:Hp}{h:Heap}{a:Addr}{u:HO}(r:Rd H a u)(x:HOk P w H h):ObjOk P w H h a u:=by
 rcases r with r|⟨o,r⟩
 ·exact x a u r
 ·obtain⟨_,q⟩:=x a _ r;exact q
def OV:Option HO->Prop
 |some (.lst _)=>True
 |some (.dK _)=>True
 |some (.dT _)=>True
 |some (.set _ _)=>True
 |some (.ins _ _ _)=>True
 |some (.ext _)=>True
 |_=>False
section
variable{P:Program}{w:World}{H:Hp}{h h':Heap}{x e:Addr}{o':HO}
theorem HOk.write(ok:HOk P w H h)(mu:OV (H x))(he:e=x\/H e=some (.own x))(k:∀b u,b≠e->h.get? b=some u->h'.get? b=some u)(OG:∃u,h'.get? e=some u)
  (new:ObjOk P w (upd H x o') h' x o'):HOk P w (upd H x o') h':=fun b u q=>by
 have Lc:∀c y,H c=some (.own y)->c≠x:=fun c y r z=>by subst z;rw[r]at mu;exact mu
 have ntup:∀c xs,H c=some (.tup xs)->c≠x:=fun c xs r z=>by subst z;rw[r]at mu;exact mu
 by_cases hb:b=x
 ·subst hb;rw[aP]at q;cases q;exact new
 ·rw[az hb]at q;by_cases hbe:b=e
  ·have q':H b=some (.own x):=by
    rcases he with z|z
    ·exact absurd (hbe.trans z) hb
    ·rw[hbe];exact z
   rw[q]at q';cases q';obtain⟨v,hv⟩:=OG;exact⟨v,by rw[hbe];exact hv⟩
  ·refine(ok b u q).stay (fun c v hc r=>k c v ?_ r) (fun c r=>by rw[az (Lc c b r)];exact r) fun c xs r=>by rw[az (ntup c xs r)];exact r
   rcases hc with rfl|hc
   ·exact hbe
   ·rintro rfl;rcases he with z|z
    ·exact Lc c b hc z
    ·rw[hc]at z;cases z;exact hb rfl
end
structure Un(fs ex:List Addr)(H H':Hp)(h h':Heap):Prop where
 keep:∀b o,h.get? b=some o->H b=none->b∉fs->b∉ex->h'.get? b=some o
 slot:∀b o,h.get? b=some o->H b=none->b∈fs->b∉ex->∃sl,h'.get? b=some {o with slots:=sl}
 free:∀b o,h.get? b=some o->H b=none->b∉ex->H' b=none
 there:∀b o,h.get? b=some o->b∉ex->∃o',h'.get? b=some o'
 tups:∀b xs,H b=some (.tup xs)->H' b=some (.tup xs)
 frzs:∀b o u,H b=some (.frz o u)->H' b=some (.frz o u)
 tbls:∀b ps,H b=some (.tbl ps)->∃more,H' b=some (.tbl (ps++more))
section
variable{fs fs' ex ex':List Addr}{H H1 H2:Hp}{h h1 h2 h':Heap}{a x e:Addr}{o:HO}
theorem Un.any(u:Un fs ex H H1 h h1){b:Addr}{ob:Obj}(q:h.get? b=some ob)(n:H b=none)(hx:b∉ex):∃sl,h1.get? b=some {ob with slots:=sl}:=by
 by_cases hb:b∈fs
 ·exact u.slot b ob q n hb hx
 ·exact⟨ob.slots,u.keep b ob q n hb hx⟩
theorem Un.kept(k:∀b u,h.get? b=some u->h'.get? b=some u):Un fs ex H H h h':=
 ⟨fun b ob q _ _ _=>k b ob q,fun b ob q _ _ _=>⟨ob.slots,k b ob q⟩,fun _ _ _ n _=>n,fun b ob q _=>⟨ob,k b ob q⟩,fun _ _ q=>q,fun _ _ _ q=>q,fun _ ps q=>⟨#[],by rw[q];simp⟩⟩
theorem Un.refl:Un fs ex H H h h:=Un.kept fun _ _ q=>q
theorem Un.laid(k:∀b u,h.get? b=some u->h'.get? b=some u)(hp:h.objs.size<=a)(hn:H a=none):Un fs ex H (upd H a o) h h' where
 keep:=fun b u q _ _ _=>k b u q
 slot:=fun b u q _ _ _=>⟨u.slots,k b u q⟩
 free:=fun b u q n _=>by rw[az (S8 (S6 (S2 q) hp))];exact n
 there:=fun b u q _=>⟨u,k b u q⟩
 tups:=fun b xs q=>by rw[az (aU q hn)];exact q
 frzs:=fun b u xs q=>by rw[az (aU q hn)];exact q
 tbls:=fun b ps q=>⟨#[],by rw[az (aU q hn),q];simp⟩
theorem Un.write(mu:OV (H x))(he:e=x\/H e=some (.own x))(k:∀b u,b≠e->h.get? b=some u->h'.get? b=some u)(OG:∃u,h'.get? e=some u):Un fs ex H (upd H x o) h h':=by
 have hx:∀b,H b=none->b≠x:=fun b n z=>by subst z;rw[n]at mu;exact mu
 have hb:∀b,H b=none->b≠e:=fun b n z=>by
  subst z;rcases he with r|r
  ·exact hx b n r
  ·rw[n]at r;cases r
 have hm:∀b u,H b=some u->¬ OV (some u)->b≠x:=fun b u q nm z=>by subst z;rw[q]at mu;exact nm mu
 refine⟨fun b u q n _ _=>k b u (hb b n) q,fun b u q n _ _=>⟨u.slots,k b u (hb b n) q⟩,fun b u q n _=>by rw[az (hx b n)];exact n,fun b u q _=>?_,
  fun b xs q=>by rw[az (hm b _ q fun z=>z)];exact q,fun b u xs q=>by rw[az (hm b _ q fun z=>z)];exact q,fun b ps q=>⟨#[],by rw[az (hm b _ q fun z=>z),q];simp⟩⟩
 by_cases hbe:b=e
 ·subst hbe;exact OG
 ·exact⟨u,k b u hbe q⟩
end
def trk(h:Heap)(H:Hp):List Addr:=(List.range h.objs.size).filter fun a=>(H a).isSome
def vL(h:Heap)(H:Hp):Heap:=PySem.W.hideAll h (trk h H)
theorem r9(h:Heap)(H:Hp):(vL h H).objs.size=h.objs.size:=PySem.W.hideAll_size _ _
theorem vM{h:Heap}{H:Hp}{b:Addr}{o:Obj}(e:h.get? b=some o)(n:H b=none):(vL h H).get? b=some o:=
 VP _ e fun hm=>by
  have q:(H b).isSome=true:=(UN.mp hm).2;rw[n]at q;simp at q
theorem yA{h:Heap}{H:Hp}{b:Addr}{o:Obj}(e:(vL h H).get? b=some o):h.get? b=some o/\H b=none:=by
 have e':h.get? b=some o:=Xa (trk h H) e;refine⟨e',?_⟩;cases q:H b with
 |none=>rfl
 |some x=>
  have hm:b∈trk h H:=UN.mpr ⟨TB.mpr (S2 e'),by simp[q]⟩;have z:(vL h H).get? b=none:=PySem.W.hideAll_none (trk h H) hm;rw[z]at e;cases e
def yB(g h:Heap)(L:Addr):List (Addr×Obj):=(List.range h.objs.size).filterMap fun a=>if a=L\/(g.get? a).isSome=true then none else(h.get? a).map fun o=>(a,o)
def cT(g h:Heap)(L d:Addr):List (Addr×Obj):=(yB g h L).filter fun p=>decide (p.1≠d)
structure Mod(K:W.Frag)(mg:Str->Option Value)(base:Heap):Prop where
 kin:K.In base
 glob:base.Ns mainGlobals mg
 blt:∃mb,base.Ns builtinsNs mb/\∀x:Str,x≠"__name__"->mb x=bootBuiltins x
 nolimit:base.NoLimit
structure Cx where
 prog:Program
 w:World
 K:W.Frag
 mg:Str->Option Value
 base:Heap
 A:Around
 N:List Str
 s₀:Shared
 H₀:Hp
 env:Env
 outer:List Env
 stack:List Env
 ex:List Addr
 fn:Str->Bool
 calm:Bool
 pn:List (Addr×Obj)
 xe:Value->Shared->Prop
def Jb(l:List Env):List Addr:=l.filterMap (·.frame)
abbrev Cx.fs(X:Cx):List Addr:=Jb X.outer
def QU(sc:Scope)(x:Str):Prop:=sc.names.lookup x=some .local\/sc.names.lookup x=some .cell\/sc.names.lookup x=some .free
def Loc(sc:Scope)(x:Str):Prop:=sc.names.lookup x=some .local\/sc.names.lookup x=some .cell
def Fg(sc:Scope)(x:Str):Bool:=match sc.names.lookup x with
 |some .local=>true
 |some .cell=>true
 |_=>false
theorem lo{sc:Scope}{x:Str}(h:Fg sc x=true):Loc sc x:=by
 unfold Fg at h;split at h
 ·exact .inl (by assumption)
 ·exact .inr (by assumption)
 ·cases h

def FE(env:Env)(h:Heap)(m:Str->Option Value)(x:Str)(u:Value):Prop:=
 (env.kindOf x=some .local/\m x=some u)\/((env.kindOf x=some .cell\/env.kindOf x=some .free)/\∃c,env.cells.lookup x=some c/\h.IsCell c (some u))
structure Cx.Ok(X:Cx):Prop where
 mod:Mod X.K X.mg X.base
 kind:X.env.scope.kind=.function
 glob:X.env.globals=mainGlobals
 blt:X.env.builtins=builtinsNs
 above:X.s₀.heap.objs.size<=X.env.locals
 inj:∀x y c,X.env.cells.lookup x=some c->X.env.cells.lookup y=some c->x=y
 has:∀x,(X.env.kindOf x=some .cell\/X.env.kindOf x=some .free)->∃c,X.env.cells.lookup x=some c
 cab:∀x c,X.fn x=true->X.env.cells.lookup x=some c->X.s₀.heap.objs.size<=c
 hd:X.calm=true->X.A.handled=none
 frames:X.A.frames=some X.stack
 stk:X.stack=X.outer\/(X.stack=X.env::X.outer/\X.env.frame=some X.env.locals)
 exf:∀b∈X.ex,b≠X.env.locals/\∀x c,X.env.cells.lookup x=some c->c≠b
 bs:∀b o,X.base.get? b=some o->X.s₀.heap.get? b=some o/\X.H₀ b=none
 bsz:X.base.objs.size<=X.s₀.heap.objs.size
 noex:∀b o,X.base.get? b=some o->b∉X.ex
 exfs:∀b∈X.ex,b∉X.fs
 funs:X.s₀.heap.FunFrames X.base X.outer
 frf:∀b∈X.fs,X.H₀ b=none
structure Inv(X:Cx)(pr:List (Addr×Obj))(σ:List (Option V))(H:Hp)(s:Shared):Prop where
 ok:X.Ok
 os:s.os=X.s₀.os
 bare:AllBare s.gens
 base:Un X.fs X.ex X.H₀ H X.s₀.heap s.heap
 loc:∃m,s.heap.Ns X.env.locals m/\∀(i:Nat) (x:Str) (v:V),X.N[i]?=some x->σ[i]?=some (some v)->QU X.env.scope x->∃u,RelV v u/\FE X.env s.heap m x u
 cell:∀x c,X.env.cells.lookup x=some c->∃v,s.heap.IsCell c v
 free:H X.env.locals=none
 freeC:∀x c,X.env.cells.lookup x=some c->H c=none
 pin:∀p∈X.pn++pr,s.heap.get? p.1=some p.2/\H p.1=none/\p.1≠X.env.locals/\p.1∉X.fs/\∀v,p.2.data≠.cell v
 hok:HOk X.prog X.w H s.heap
 len:σ.length=X.N.length
section
variable{X:Cx}{pr:List (Addr×Obj)}{σ:List (Option V)}{H H':Hp}{s:Shared}{h':Heap}
theorem Cx.Ok.nofr(ok:X.Ok){b:Addr}{o:Obj}(e:X.base.get? b=some o):b∉X.fs:=fun hb=>by
 have:=(ok.funs.mem hb).1;rw[e]at this;cases this
theorem Inv.bs(I:Inv X pr σ H s):∀b o,X.base.get? b=some o->s.heap.get? b=some o/\H b=none:=fun b o e=>
 ⟨I.base.keep b o (I.ok.bs b o e).1 (I.ok.bs b o e).2 (I.ok.nofr e) (I.ok.noex b o e),I.base.free b o (I.ok.bs b o e).1 (I.ok.bs b o e).2 (I.ok.noex b o e)⟩
theorem Inv.bk(I:Inv X pr σ H s):∀b o,X.base.get? b=some o->s.heap.get? b=some o:=fun b o e=>(I.bs b o e).1
theorem Inv.mod(I:Inv X pr σ H s):Mod X.K X.mg X.base:=I.ok.mod
theorem Inv.kIn(I:Inv X pr σ H s):X.K.In s.heap:=I.ok.mod.kin.keeps I.bk
theorem Inv.lt(I:Inv X pr σ H s):X.env.locals<s.heap.objs.size:=let⟨_,hn,_⟩:=I.loc;hn.lt
theorem Inv.sz(I:Inv X pr σ H s):X.s₀.heap.objs.size<=s.heap.objs.size:=Tp I.ok.above (WE I.lt)
theorem Inv.nofs(I:Inv X pr σ H s){a:Addr}(h:s.heap.objs.size<=a):a∉X.fs:=fun hb=>by
 obtain⟨_,o,ho,_⟩:=I.ok.funs.mem hb;exact absurd (S6 (S2 ho) (Tp I.sz h)) (UH _)
theorem Inv.cne(I:Inv X pr σ H s):∀x c,X.env.cells.lookup x=some c->c≠X.env.locals:=fun x c e z=>by
 obtain⟨v,o,ho,hd⟩:=I.cell x c e;obtain⟨m,⟨o',es,ep,Mj,OW,_⟩,_⟩:=I.loc;rw[z,Mj]at ho;cases ho;rw[OW]at hd;cases hd
theorem Inv.funs(I:Inv X pr σ H s):s.heap.FunFrames X.base X.outer:=by
 have all:∀(l:List Env),(∀b∈Jb l,b∈X.fs)->X.s₀.heap.FunFrames X.base l->s.heap.FunFrames X.base l:=by
  intro l;induction l with
  |nil=>intro _ _;trivial
  |cons env r ih=>
   intro hs hl;obtain⟨hk,⟨L,o,hf,hn,ho,hd⟩,hr⟩:=hl;have hL:L∈X.fs:=hs L (by unfold Jb;rw[UX,hf];exact SN);obtain⟨sl,e⟩:=I.base.slot L o ho (I.ok.frf L hL) hL fun z=>I.ok.exfs L z hL
   exact⟨hk,⟨L,_,hf,hn,e,hd⟩,ih (fun b hb=>hs b (by unfold Jb;rw[UX,hf];exact SU _ hb)) hr⟩
 exact all X.outer (fun _ hb=>hb) I.ok.funs
theorem Inv.stack(I:Inv X pr σ H s):s.heap.FunFrames X.base X.stack:=by
 rcases I.ok.stk with e|⟨e,hf⟩
 ·rw[e];exact I.funs
 ·rw[e];obtain⟨m,hn,_⟩:=I.loc;refine .cons (by rw[I.ok.kind];decide) hf hn ?_ I.funs;exact Heap.get?_none_of_le (Tp I.ok.bsz I.ok.above)
theorem Inv.stkSub(I:Inv X pr σ H s):∀b∈Jb X.stack,b∈X.env.locals::X.fs:=fun b hb=>by
 rcases I.ok.stk with e|⟨e,hf⟩
 ·rw[e]at hb;exact SU _ hb
 ·rw[e]at hb;unfold Jb at hb;rw[UX,hf]at hb;exact hb
theorem Inv.stkFree(I:Inv X pr σ H s):∀b∈Jb X.stack,H b=none:=fun b hb=>by
 rcases S3.mp (I.stkSub b hb) with e|hb
 ·rw[e];exact I.free
 ·obtain⟨_,o,ho,_⟩:=I.ok.funs.mem hb;exact I.base.free b o ho (I.ok.frf b hb) fun z=>I.ok.exfs b z hb
theorem Inv.step{g':Array GenState}{t':Nat}{d':Drawn}{ch:List Addr}(I:Inv X pr σ H s)
  (Mg:∀b∈ch,(b∈X.ex\/X.s₀.heap.objs.size<=b)/\b≠X.env.locals/\(∀x c,X.env.cells.lookup x=some c->c≠b)/\∀p∈X.pn++pr,p.1≠b)
  (keep:∀b o,b≠X.env.locals->b∉X.fs->b∉ch->s.heap.get? b=some o->H b=none->h'.get? b=some o)
  (slot:∀b o,b≠X.env.locals->b∈X.fs->b∉ch->s.heap.get? b=some o->H b=none->∃sl,h'.get? b=some {o with slots:=sl}) (free:∀b o,b∉ch->s.heap.get? b=some o->H b=none->H' b=none)
  (there:∀b o,b∉ch->s.heap.get? b=some o->∃o',h'.get? b=some o')
  (tups:∀b xs,H b=some (.tup xs)->H' b=some (.tup xs)) (frzs:∀b o u,H b=some (.frz o u)->H' b=some (.frz o u)) (tbls:∀b ps,H b=some (.tbl ps)->∃more,H' b=some (.tbl (ps++more)))
  (ns:∀m,s.heap.Ns X.env.locals m->h'.Ns X.env.locals m) (hok:HOk X.prog X.w H' h') (hg:AllBare g'):
  Inv X pr σ H' {s with heap:=h',gens:=g',drawn:=d',toks:=t'}:=by
 have RX:∀b o,X.s₀.heap.get? b=some o->b≠X.env.locals:=fun b o e=>S8 (S6 (S2 e) I.ok.above)
 have Qj:∀b o,X.s₀.heap.get? b=some o->b∉X.ex->b∉ch:=fun b o e hx hb=>by
  rcases(Mg b hb).1 with z|z
  ·exact hx z
  ·exact absurd (S6 (S2 e) z) (UH _)
 have cellK:∀x c,X.env.cells.lookup x=some c->∀v,s.heap.IsCell c v->h'.IsCell c v:=fun x c e v G9=>by
  obtain⟨o,ho,hd⟩:=G9;have OX:c∉ch:=fun z=>(Mg c z).2.2.1 x c e rfl
  by_cases hc:c∈X.fs
  ·obtain⟨sl,q⟩:=slot c o (I.cne x c e) hc OX ho (I.freeC x c e);exact⟨_,q,hd⟩
  ·exact⟨o,keep c o (I.cne x c e) hc OX ho (I.freeC x c e),hd⟩
 refine⟨I.ok,I.os,hg,⟨fun b o e n hb hx=>?_,fun b o e n hb hx=>?_,fun b o e n hx=>?_,fun b o e hx=>?_,fun b xs e=>tups b xs (I.base.tups b xs e),fun b o xs e=>frzs b o xs (I.base.frzs b o xs e),fun b ps e=>?_⟩,?_,fun x c e=>?_,?_,fun x c e=>?_,fun p hp=>?_,hok,I.len⟩
 ·exact keep b o (RX b o e) hb (Qj b o e hx) (I.base.keep b o e n hb hx) (I.base.free b o e n hx)
 ·obtain⟨sl,e1⟩:=I.base.slot b o e n hb hx;obtain⟨RY,e2⟩:=slot b _ (RX b o e) hb (Qj b o e hx) e1 (I.base.free b o e n hx);exact⟨RY,e2⟩
 ·obtain⟨o',e1⟩:=I.base.there b o e hx;exact free b o' (Qj b o e hx) e1 (I.base.free b o e n hx)
 ·obtain⟨o',e1⟩:=I.base.there b o e hx;exact there b o' (Qj b o e hx) e1
 ·obtain⟨m1,e1⟩:=I.base.tbls b ps e;obtain⟨m2,e2⟩:=tbls b _ e1;exact⟨m1++m2,by rw[e2,Array.append_assoc]⟩
 ·obtain⟨m,hn,hl⟩:=I.loc;refine⟨m,ns m hn,fun i x v e1 e2 e3=>?_⟩;obtain⟨u,r,l⟩:=hl i x v e1 e2 e3;refine⟨u,r,?_⟩;rcases l with l|⟨k,c,e,z⟩
  ·exact .inl l
  ·exact .inr ⟨k,c,e,cellK x c e _ z⟩
 ·obtain⟨v,z⟩:=I.cell x c e;exact⟨v,cellK x c e v z⟩
 ·obtain⟨m,⟨o,_,_,ho,_⟩,_⟩:=I.loc;exact free _ o (fun z=>(Mg _ z).2.1 rfl) ho I.free
 ·obtain⟨v,o,ho,hd⟩:=I.cell x c e;exact free c o (fun z=>(Mg c z).2.2.1 x c e rfl) ho (I.freeC x c e)
 ·obtain⟨e,n,ne,nf,d⟩:=I.pin p hp;have OX:p.1∉ch:=fun z=>(Mg p.1 z).2.2.2 p hp rfl
  exact⟨keep p.1 p.2 ne nf OX e n,free p.1 p.2 OX e n,ne,nf,d⟩
theorem Inv.un{t':Nat}(I:Inv X pr σ H s)(u:Un X.fs [] H H' s.heap h')(hok:HOk X.prog X.w H' h'):Inv X pr σ H' {s with heap:=h',toks:=t'}:=by
 obtain⟨m,⟨o,es,ep,ho,r⟩,_⟩:=id I.loc;obtain⟨sl,hL⟩:=u.any ho I.free (by simp);exact I.step (g':=s.gens) (d':=s.drawn) (ch:=[]) (fun _ z=>nomatch z) (fun b o _ hb _ e n=>u.keep b o e n hb (by simp)) (fun b o _ hb _ e n=>u.slot b o e n hb (by simp)) (fun b o _ e n=>u.free b o e n (by simp)) (fun b o _ e=>u.there b o e (by simp)) u.tups u.frzs u.tbls (fun m' hm=>by
  obtain⟨o',Kb,Ny,Mj,r'⟩:=hm;rw[ho]at Mj;cases Mj;exact⟨_,Kb,Ny,hL,r'⟩) hok I.bare
theorem Inv.call{g':Array GenState}{t':Nat}{d':Drawn}{ch:List Addr}(I:Inv X pr σ H s)(u:Un (Jb X.stack) ch H H' s.heap h')(hok:HOk X.prog X.w H' h')(hg:AllBare g')
  (Mg:∀b∈ch,(b∈X.ex\/X.s₀.heap.objs.size<=b)/\b≠X.env.locals/\(∀x c,X.env.cells.lookup x=some c->c≠b)/\∀p∈X.pn++pr,p.1≠b):
  Inv X pr σ H' {s with heap:=h',gens:=g',drawn:=d',toks:=t'}:=by
 obtain⟨m,⟨o,es,ep,ho,r⟩,_⟩:=id I.loc;obtain⟨sl,hL⟩:=u.any ho I.free fun z=>(Mg _ z).2.1 rfl
 exact I.step (ch:=ch) Mg (fun b o hL hb hc e n=>u.keep b o e n (fun z=>(S3.mp (I.stkSub b z)).elim hL hb) hc) (fun b o _ _ hc e n=>u.any e n hc) (fun b o hc e n=>u.free b o e n hc) (fun b o hc e=>u.there b o e hc) u.tups u.frzs u.tbls (fun m' hm=>by
  obtain⟨o',Kb,Ny,Mj,r'⟩:=hm;rw[ho]at Mj;cases Mj;exact⟨_,Kb,Ny,hL,r'⟩) hok hg
theorem Inv.turned{t':Nat}{it:Addr}(I:Inv X pr σ H s)(k:∀b o,b≠it->s.heap.get? b=some o->h'.get? b=some o)(hn:H it=none)(hL:it≠X.env.locals)
  (h1:it∈X.ex\/X.s₀.heap.objs.size<=it) (h2:∀x c,X.env.cells.lookup x=some c->c≠it) (h3:∀p∈X.pn++pr,p.1≠it):Inv X pr σ H {s with heap:=h',toks:=t'}:=by
 have RZ:∀b u,H b=some u->b≠it:=fun b u e z=>by rw[z,hn]at e;cases e
 refine I.step (g':=s.gens) (d':=s.drawn) (ch:=[it]) (fun b hb=>?_) (fun b o _ _ hc e _=>k b o (fun z=>hc (by simp[z])) e) (fun b o _ _ hc e _=>⟨o.slots,k b o (fun z=>hc (by simp[z])) e⟩) (fun _ _ _ _ n=>n)
  (fun b o hc e=>⟨o,k b o (fun z=>hc (by simp[z])) e⟩) (fun _ _ e=>e) (fun _ _ _ e=>e) (fun b ps e=>⟨#[],by rw[e];simp⟩) (fun m hm=>?_) (fun b u e=>?_) I.bare
 ·have e:b=it:=by simpa using hb
  subst e;exact⟨h1,hL,h2,h3⟩
 ·obtain⟨o,es,ep,ho,r⟩:=hm;exact⟨o,es,ep,k _ o (Ui hL) ho,r⟩
 ·refine(I.hok b u e).stay (fun c v hc q=>k c v ?_ q) (fun _ q=>q) fun _ _ q=>q
  rcases hc with z|z
  ·rw[z];exact RZ b u e
  ·exact RZ c _ z
theorem Inv.tok(I:Inv X pr σ H s)(t:Nat):Inv X pr σ H {s with toks:=t}:=I.un (h':=s.heap) (t':=t) Un.refl I.hok
theorem Inv.kept{t':Nat}(I:Inv X pr σ H s)(k:∀b u,s.heap.get? b=some u->h'.get? b=some u):Inv X pr σ H {s with heap:=h',toks:=t'}:=I.un (Un.kept k) (I.hok.kept k)
theorem Inv.laid{a:Addr}{o:HO}{t':Nat}(I:Inv X pr σ H s)(k:∀b u,s.heap.get? b=some u->h'.get? b=some u)(hp:s.heap.objs.size<=a)(new:ObjOk X.prog X.w (upd H a o) h' a o):
  Inv X pr σ (upd H a o) {s with heap:=h',toks:=t'}:=I.un (Un.laid k hp (I.hok.fresh hp)) (I.hok.laid k hp new)
theorem Inv.write{x e:Addr}{o:HO}{t':Nat}(I:Inv X pr σ H s)(mu:OV (H x))(he:e=x\/H e=some (.own x))(k:∀b u,b≠e->s.heap.get? b=some u->h'.get? b=some u)(OG:∃u,h'.get? e=some u)
  (new:ObjOk X.prog X.w (upd H x o) h' x o):Inv X pr σ (upd H x o) {s with heap:=h',toks:=t'}:=I.un (Un.write mu he k OG) (I.hok.write mu he k OG new)
theorem Inv.pins_of{Ni:List (Addr×Obj)}(I:Inv X pr σ H s)(h:∀p∈Ni,s.heap.get? p.1=some p.2/\H p.1=none/\p.1≠X.env.locals/\p.1∉X.fs/\∀v,p.2.data≠.cell v):Inv X Ni σ H s:=
 ⟨I.ok,I.os,I.bare,I.base,I.loc,I.cell,I.free,I.freeC,fun p hp=>(Tn.mp hp).elim (fun z=>I.pin p (SW _ z)) (h p),I.hok,I.len⟩
theorem lx{N:List Str}(hN:N.Nodup){i j:Nat}{x:Str}(a:N[i]?=some x)(b:N[j]?=some x):i=j:=by
 obtain⟨h1,e1⟩:=List.getElem?_eq_some_iff.mp a;obtain⟨h2,e2⟩:=List.getElem?_eq_some_iff.mp b;exact(List.getElem_inj hN).mp (e1.trans e2.symm)
theorem mJ{M:Model}{A:Around}{E:Value->Shared->Prop}{i:Nat}{x:Str}{v:V}{u:Value}{Q:Unit->Shared->Prop}(I:Inv X pr σ H s)(hN:X.N.Nodup)(hi:X.N[i]?=some x)(hx:Loc X.env.scope x)(r:RelV v u)
  (h:∀s',Inv X pr (σ.set i (some v)) H s'->(∃a,Heap.SameBut a s.heap s'.heap/\(a=X.env.locals\/X.env.cells.lookup x=some a))->Q () s') (hf:X.fn x=true\/X.env.scope.names.lookup x=some .local:=by first|exact .inl rfl|exact .inr rfl|assumption):wpAny M A (storeName X.env x u) Q E s:=by
 obtain⟨m,hn,hl⟩:=id I.loc;have hcls:(X.env.scope.kind==.class||(X.env.scope.kind==.module&&X.env.locals != X.env.globals))=false:=by rw[I.ok.kind];rfl
 have hiσ:i<σ.length:=by rw[I.len];exact(List.getElem?_eq_some_iff.mp hi).1
 have cne:=I.cne;have tracked:∀{a:Addr}{h':Heap},(∃o,s.heap.get? a=some o/\H a=none)->Heap.SameBut a s.heap h'->HOk X.prog X.w H h':=fun{a h'} ha hs b ob e=>by
  obtain⟨_,_,Nj⟩:=ha;refine(I.hok b ob e).stay (fun c w' hc q=>(hs.2 c ?_).trans q) (fun _ q=>q) fun _ _ q=>q
  rintro rfl;rcases hc with rfl|hc
  ·rw[Nj]at e;cases e
  ·rw[Nj]at hc;cases hc
 rcases hx with hk|hk
 ·refine wpAny_storeName_local hk hn (fun h' QV hs=>?_) hcls;obtain⟨oL,_,_,hoL,_⟩:=id hn;refine h _ ⟨I.ok,I.os,I.bare,⟨fun b o e n hb hx=>?_,fun b o e n hb hx=>?_,I.base.free,fun b o e hx=>?_,I.base.tups,I.base.frzs,I.base.tbls⟩,⟨_,QV,fun j y v' e1 e2 e3=>?_⟩,fun y c e=>?_,I.free,I.freeC,fun p hp=>?_,tracked ⟨oL,hoL,I.free⟩ hs,by simpa using I.len⟩ ⟨_,hs,.inl rfl⟩
  ·exact(hs.2 b (S8 (S6 (S2 e) I.ok.above))).trans (I.base.keep b o e n hb hx)
  ·obtain⟨sl,e1⟩:=I.base.slot b o e n hb hx;exact⟨sl,(hs.2 b (S8 (S6 (S2 e) I.ok.above))).trans e1⟩
  ·obtain⟨o',e1⟩:=I.base.there b o e hx;exact⟨o',(hs.2 b (S8 (S6 (S2 e) I.ok.above))).trans e1⟩
  ·by_cases hj:j=i
   ·subst hj;rw[hi]at e1;cases e1;rw[List.getElem?_set_self hiσ]at e2;cases e2;exact⟨u,r,.inl ⟨hk,by simp⟩⟩
   ·rw[List.getElem?_set_ne (Ui hj)]at e2;obtain⟨u',r',q⟩:=hl j y v' e1 e2 e3;refine⟨u',r',?_⟩;rcases q with⟨k,e⟩|⟨k,c,e,z⟩
    ·refine .inl ⟨k,?_⟩;have:y≠x:=fun e=>hj (lx hN e1 (e▸hi))
     simp[this,e]
    ·exact .inr ⟨k,c,e,z.sameBut hs (cne y c e)⟩
  ·obtain⟨w',z⟩:=I.cell y c e;exact⟨w',z.sameBut hs (cne y c e)⟩
  ·obtain⟨e,n,ne,nf,d⟩:=I.pin p hp;exact⟨(hs.2 p.1 ne).trans e,n,ne,nf,d⟩
 ·have Ld:X.fn x=true:=by
   rcases hf with z|z
   ·exact z
   ·rw[z]at hk;cases hk
  obtain⟨c,hc⟩:=I.ok.has x (.inl hk);obtain⟨w',z⟩:=I.cell x c hc;refine wpAny_storeName_cell I.ok.kind hk hc z (fun h' Qk hs=>?_);obtain⟨oc,R0,hocd⟩:=id z;refine h {s with heap:=h'} ⟨I.ok,I.os,I.bare,⟨fun b o e n hb hx=>?_,fun b o e n hb hx=>?_,I.base.free,fun b o e hx=>?_,I.base.tups,I.base.frzs,I.base.tbls⟩,⟨m,hn.sameBut hs (Ui (cne x c hc)),fun j y v' e1 e2 e3=>?_⟩,fun y c' e=>?_,I.free,I.freeC,fun p hp=>?_,tracked ⟨oc,R0,I.freeC x c hc⟩ hs,by simpa using I.len⟩ ⟨c,hs,.inr hc⟩
  ·exact(hs.2 b (S8 (S6 (S2 e) (I.ok.cab x c Ld hc)))).trans (I.base.keep b o e n hb hx)
  ·obtain⟨sl,e1⟩:=I.base.slot b o e n hb hx;exact⟨sl,(hs.2 b (S8 (S6 (S2 e) (I.ok.cab x c Ld hc)))).trans e1⟩
  ·obtain⟨o',e1⟩:=I.base.there b o e hx;exact⟨o',(hs.2 b (S8 (S6 (S2 e) (I.ok.cab x c Ld hc)))).trans e1⟩
  ·by_cases hj:j=i
   ·subst hj;rw[hi]at e1;cases e1;rw[List.getElem?_set_self hiσ]at e2;cases e2;exact⟨u,r,.inr ⟨.inl hk,c,hc,Qk⟩⟩
   ·rw[List.getElem?_set_ne (Ui hj)]at e2;obtain⟨u',r',q⟩:=hl j y v' e1 e2 e3;refine⟨u',r',?_⟩;rcases q with q|⟨k,c',e,z'⟩
    ·exact .inl q
    ·refine .inr ⟨k,c',e,z'.sameBut hs ?_⟩;rintro rfl;exact hj (lx hN e1 (I.ok.inj _ _ _ e hc▸hi))
  ·by_cases hcc:c'=c
   ·subst hcc;exact⟨_,Qk⟩
   ·obtain⟨w2,z2⟩:=I.cell y c' e;exact⟨w2,z2.sameBut hs hcc⟩
  ·obtain⟨e,n,ne,nf,d⟩:=I.pin p hp;refine⟨(hs.2 p.1 ?_).trans e,n,ne,nf,d⟩;intro q;rw[q,R0]at e;have q':oc=p.2:=Tf e;exact d w' (by rw[<-q'];exact hocd)
theorem ly{M:Model}{A:Around}{E:Value->Shared->Prop}{i:Nat}{x:Str}{v:V}{u:Value}{Q:Unit->Shared->Prop}(I:Inv X pr σ H s)(hN:X.N.Nodup)(hi:X.N[i]?=some x)(hx:Loc X.env.scope x)(r:RelV v u)
  (h:∀s',Inv X pr (σ.set i (some v)) H s'->Q () s') (hf:X.fn x=true\/X.env.scope.names.lookup x=some .local:=by first|exact .inl rfl|exact .inr rfl|assumption):wpAny M A (storeName X.env x u) Q E s:=
 mJ I hN hi hx r (fun s' I' _=>h s' I') hf
theorem Inv.call'{s':Shared}{ch:List Addr}(I:Inv X pr σ H s)(ho:s'.os=s.os)(u:Un (Jb X.stack) ch H H' s.heap s'.heap)(hok:HOk X.prog X.w H' s'.heap)(hg:AllBare s'.gens)
  (Mg:∀b∈ch,(b∈X.ex\/X.s₀.heap.objs.size<=b)/\b≠X.env.locals/\(∀x c,X.env.cells.lookup x=some c->c≠b)/\∀p∈X.pn++pr,p.1≠b):Inv X pr σ H' s':=by
 obtain⟨h',g',d',t',o'⟩:=s';have e:o'=s.os:=ho;subst e;exact I.call (g':=g') (t':=t') (d':=d') u hok hg Mg
end
abbrev XK:=Value->Option Addr->Hp->Prop
abbrev St:=List (Option V)
abbrev VK:=V->Hp->Prop
abbrev TE:=St->Hp->VK->Prop
abbrev TT:=St->Hp->(Bool->Hp->Prop)->Prop
abbrev TA:=St->Hp->(List V->Hp->Prop)->Prop
structure Ends where
 nx:St->Hp->Prop
 rt:VK
 bk:St->Hp->Prop:=fun _ _=>False
 ct:St->Hp->Prop:=fun _ _=>False
abbrev TS:=Ends->St->Hp->Prop
def EP(X:Cx)(pr:List (Addr×Obj))(σ:St)(Q:VK)(u:Value)(s':Shared):Prop:=∃v H',Inv X pr σ H' s'/\RelV v u/\Q v H'
def TP(X:Cx)(pr:List (Addr×Obj))(σ:St)(Q:Bool->Hp->Prop)(b:Bool)(s':Shared):Prop:=∃H',Inv X pr σ H' s'/\Q b H'
def AP(X:Cx)(pr:List (Addr×Obj))(σ:St)(Q:List V->Hp->Prop)(us:List Value)(s':Shared):Prop:=∃vs H',Inv X pr σ H' s'/\Vals vs us/\Q vs H'
def SP(X:Cx)(pr:List (Addr×Obj))(D:Ends)(f:Flow)(s':Shared):Prop:=
 match f with
 | .next=>∃σ' H',Inv X pr σ' H' s'/\D.nx σ' H'
 | .brk=>∃σ' H',Inv X pr σ' H' s'/\D.bk σ' H'
 | .cont=>∃σ' H',Inv X pr σ' H' s'/\D.ct σ' H'
 | .ret u=>∃v σ' H',Inv X pr σ' H' s'/\RelV v u/\D.rt v H'
def PE(X:Cx)(e:Expr)(t:TE):Prop:=
 ∀(pr:List (Addr×Obj)) (s:Shared) (σ:St) (H:Hp) (Q:VK),Inv X pr σ H s->t σ H Q->wpAny (model X.prog X.w) X.A (eval e X.env) (EP X pr σ Q) X.xe s
def PT(X:Cx)(e:Expr)(t:TT):Prop:=
 ∀(pr:List (Addr×Obj)) (s:Shared) (σ:St) (H:Hp) (Q:Bool->Hp->Prop),Inv X pr σ H s->t σ H Q->wpAny (model X.prog X.w) X.A (isTrue e X.env (eval e X.env)) (TP X pr σ Q) X.xe s
def PW(X:Cx)(e:Expr)(t:TT):Prop:=
 ∀(whole:Sem Value) (pr:List (Addr×Obj)) (s:Shared) (σ:St) (H:Hp) (Q:Bool->Hp->Prop),Inv X pr σ H s->t σ H Q->wpAny (model X.prog X.w) X.A (isTrue e X.env whole) (TP X pr σ Q) X.xe s
theorem PW.pt{X:Cx}{e:Expr}{t:TT}(h:PW X e t):PT X e t:=h _
def PA(X:Cx)(es:List Expr)(t:TA):Prop:=
 ∀(pos:Pos) (pr:List (Addr×Obj)) (s:Shared) (σ:St) (H:Hp) (Q:List V->Hp->Prop),Inv X pr σ H s->t σ H Q->wpAny (model X.prog X.w) X.A (spliced (backTo pos (starEach es X.env))) (AP X pr σ Q) X.xe s
def PS(X:Cx)(st:Stmt)(t:TS):Prop:=
 ∀(pr:List (Addr×Obj)) (s:Shared) (σ:St) (H:Hp) (D:Ends),Inv X pr σ H s->t D σ H->wpAny (model X.prog X.w) X.A (exec st X.env) (SP X pr D) X.xe s
def PSs(X:Cx)(st:List Stmt)(t:TS):Prop:=
 ∀(pr:List (Addr×Obj)) (s:Shared) (σ:St) (H:Hp) (D:Ends),Inv X pr σ H s->t D σ H->wpAny (model X.prog X.w) X.A (execs st X.env) (SP X pr D) X.xe s
theorem He{α:Type}{t:Sem α}{Q Q':α->Shared->Prop}{M:Model}{A:Around}{E:Value->Shared->Prop}{s:Shared}(h:wpAny M A t Q E s)(hQ:∀a s,Q a s->Q' a s):wpAny M A t Q' E s:=TZ h hQ fun _ _ x=>x
section
variable{X:Cx}
theorem bin{a b:Expr}{ta tb:TE}(ha:PE X a ta)(hb:PE X b tb){pr:List (Addr×Obj)}{s:Shared}{σ:St}{H:Hp}{R:V->V->Hp->Prop}(I:Inv X pr σ H s)(h:ta σ H fun x H1=>tb σ H1 fun y H2=>R x y H2)
  {α:Type}{Q:α->Shared->Prop}{f:Value->Value->Sem α}
  (hf:∀v u s2 x y H2,Inv X pr σ H2 s2->RelV x v->RelV y u->R x y H2->wpAny (model X.prog X.w) X.A (f v u) Q X.xe s2):
  wpAny (model X.prog X.w) X.A (eval a X.env) (fun v s₁=>wpAny (model X.prog X.w) X.A (eval b X.env) (fun u s₂=>wpAny (model X.prog X.w) X.A (f v u) Q X.xe s₂) X.xe s₁) X.xe s:=by
 refine He (ha pr s σ H _ I h) fun v s1 Hh=>?_
 obtain⟨x,H1,I1,r1,q1⟩:=Hh;refine He (hb pr s1 σ H1 _ I1 q1) fun u s2 Hh=>?_
 obtain⟨y,H2,I2,r2,q2⟩:=Hh;exact hf v u s2 x y H2 I2 r1 r2 q2
def pG(i:Nat):TE:=fun σ H Q=>∃v,σ[i]?=some (some v)/\Q v H
def tC(v:V):TE:=fun _ H Q=>Q v H
theorem A9{i:Nat}{x:Str}{pos:Pos}(hN:X.N[i]?=some x)(hv:QU X.env.scope x)(hd:(x==("__debug__" : Str))=false:=by decide)(Le:(x==("__classdict__" : Str))=false:=by decide):PE X (.Name x pos) (pG i):=by
 intro pr s σ H Q I h;obtain⟨v,e,h⟩:=h;obtain⟨m,hn,hl⟩:=I.loc;obtain⟨u,r,l⟩:=hl i x v hN e hv;have fin:EP X pr σ Q u s:=⟨v,H,I,r,h⟩
 rcases l with⟨hk,hm⟩|⟨hk,c,hc,HP⟩
 ·exact wpAny_Name (wpAny_loadName_local I.ok.kind hk hn hm fin) hd
 ·rcases hk with hk|hk
  ·exact wpAny_Name (wpAny_loadName_cell I.ok.kind hk hc HP fin) hd
  ·exact wpAny_Name (wpAny_loadName_free I.ok.kind hk hc HP fin Le) hd
theorem Ba{i j pos}:PE X (.Constant (.int i) j pos) (tC (.int i)):=fun _ _ _ H _ I h=>wpAny_Constant_int ⟨.int i,H,I.tok _,⟨_,rfl⟩,h⟩
theorem DR{b j pos}:PE X (.Constant (.bool b) j pos) (tC (.bl b)):=fun _ _ _ H _ I h=>Constant_bool ⟨.bl b,H,I,rfl,h⟩
theorem Bb{j pos}:PE X (.Constant .none j pos) (tC .non):=fun _ _ _ H _ I h=>Constant_none ⟨.non,H,I,rfl,h⟩
theorem Bc{x j pos}:PE X (.Constant (.str x) j pos) (tC (.str x)):=fun _ _ _ H _ I h=>Calls.Constant_str ⟨.str x,H,I.tok _,⟨_,rfl⟩,h⟩
def Gl(X:Cx)(x:Str):Prop:=X.env.kindOf x=some .globalImplicit
theorem jG{E:Value->Shared->Prop}{pr:List (Addr×Obj)}{s:Shared}{σ:St}{H:Hp}{x:Str}{u:Value}{pos:Pos}{Q:Value->Shared->Prop}(I:Inv X pr σ H s)(hg:Gl X x)(hm:X.mg x=some u)(h:Q u s)
  (hd:(x==("__debug__" : Str))=false:=by decide):wpAny (model X.prog X.w) X.A (eval (.Name x pos) X.env) Q E s:=
 VZ I.ok.kind hg (Calls.loadGlobal_global (by rw[I.ok.glob];exact I.mod.glob.keeps I.bk) hm h) hd
theorem kM{E:Value->Shared->Prop}{pr:List (Addr×Obj)}{s:Shared}{σ:St}{H:Hp}{x:Str}{u:Value}{pos:Pos}{Q:Value->Shared->Prop}(I:Inv X pr σ H s)(hg:Gl X x)(hm:X.mg x=none)(hv:bootBuiltins x=some u)(h:Q u s)
  (hn:x≠"__name__":=by decide) (hd:(x==("__debug__" : Str))=false:=by decide):wpAny (model X.prog X.w) X.A (eval (.Name x pos) X.env) Q E s:=by
 obtain⟨mb,h1,h2⟩:=I.mod.blt;exact VZ I.ok.kind hg (Calls.loadGlobal_builtin (by rw[I.ok.glob];exact I.mod.glob.keeps I.bk) hm (by rw[I.ok.blt];exact h1.keeps I.bk) ((h2 x hn).trans hv) h) hd
theorem sd{x:Str}{v:V}{u:Value}{pos:Pos}(hg:Gl X x)(hm:X.mg x=some u)(r:RelV v u)(hd:(x==("__debug__" : Str))=false:=by decide):PE X (.Name x pos) (tC v):=
 fun _ _ _ H _ I h=>jG I hg hm ⟨v,H,I,r,h⟩ hd
theorem yC{x:Str}{v:V}{u:Value}{pos:Pos}(hg:Gl X x)(hm:X.mg x=none)(hv:bootBuiltins x=some u)(r:RelV v u)(hn:x≠"__name__":=by decide)(hd:(x==("__debug__" : Str))=false:=by decide):PE X (.Name x pos) (tC v):=
 fun _ _ _ H _ I h=>kM I hg hm hv ⟨v,H,I,r,h⟩ hn hd
variable{a b:Expr}{ta tb:TE}{pos:Pos}
def PC(X:Cx)(op:CmpOp)(a b:Expr)(t:TE):Prop:=
 ∀(pr:List (Addr×Obj)) (s:Shared) (σ:St) (H:Hp) (Q:VK),Inv X pr σ H s->t σ H Q->
  wpAny (model X.prog X.w) X.A (eval a X.env) (fun v s₁=>wpAny (model X.prog X.w) X.A (eval b X.env) (fun u s₂=>wpAny (model X.prog X.w) X.A (compareOp op v u) (EP X pr σ Q) X.xe s₂) X.xe s₁) X.xe s
theorem vN(b:Expr){op:CmpOp}(h:op≠.In)(h2:op≠.NotIn):behindInMarks op b=false:=by
 have e1:(op==CmpOp.In)=false:=by cases op <;> first|rfl|exact absurd rfl h
 have e2:(op==CmpOp.NotIn)=false:=by cases op <;> first|rfl|exact absurd rfl h2
 cases b <;> simp[behindInMarks,e1,e2]
def tB(t:TE):TT:=fun σ H Q=>t σ H fun x H1=>∃c,x=.bl c/\Q c H1
theorem Fh{op:CmpOp}{t:TE}(h:PC X op a b t)(h1:behindInMarks op b=false:=by first|exact vN _ (by decide) (by decide)|rfl):PT X (.Compare a [op] [b] pos) (tB t):=by
 intro pr s σ H Q I hw;refine wpAny_isTrue_Compare1 (He (h pr s σ H _ I hw) fun v s1 h1=>He h1 fun u s2 h2=>He h2 fun c s3 ⟨x,H1,I1,r1,q1⟩=>?_) h1;obtain⟨d,rfl,q⟩:=q1;cases r1;exact Uw ⟨H1,I1,q⟩
theorem Bd{e:Expr}{t:TE}(h:PE X e t)(he:∀whole,isTrue e X.env whole=(do let v <-whole;standAt e.pos;holding [v] (truthy v)):=by intro _;rfl):PT X e (tB t):=by
 intro pr s σ H Q I hw;refine isTrue_plain (He (h pr s σ H _ I hw) fun v s1 ⟨x,H1,I1,r1,q1⟩=>?_) (he _);obtain⟨d,rfl,q⟩:=q1;cases r1;exact Uw ⟨H1,I1,q⟩
variable{tA Ql:TT}{cT:List Expr}
def FF(t u:TT):TT:=fun σ H Q=>t σ H fun c H1=>if c=true then u σ H1 Q else Q false H1
def tOr(t u:TT):TT:=fun σ H Q=>t σ H fun c H1=>if c=true then Q true H1 else u σ H1 Q
def FH(t:TT):TT:=fun σ H Q=>t σ H fun c H1=>Q (!c) H1
theorem yD(ha:PT X a tA):PW X (.BoolOp .And [a] pos) tA:=by
 intro wh pr s σ H Q I h;refine isTrue_and (He (ha pr s σ H Q I h) fun c s1 e=>?_);cases c with
 |true=>exact isTrue_and_nil e
 |false=>exact e
theorem Be(ha:PT X a tA):PW X (.BoolOp .Or [a] pos) tA:=by
 intro wh pr s σ H Q I h;refine isTrue_or (He (ha pr s σ H Q I h) fun c s1 e=>?_);cases c with
 |false=>exact isTrue_or_nil e
 |true=>exact e
theorem Bf(ha:PT X a tA)(hb:PW X (.BoolOp .And (b::cT) pos) Ql):PW X (.BoolOp .And (a::b::cT) pos) (FF tA Ql):=by
 intro wh pr s σ H Q I h;refine isTrue_and (He (ha pr s σ H _ I h) fun c s1 Hh=>?_);obtain⟨H1,I1,q1⟩:=Hh;cases c with
 |true=>exact hb wh pr s1 σ H1 Q I1 q1
 |false=>exact⟨H1,I1,q1⟩
theorem DS(ha:PT X a tA)(hb:PW X (.BoolOp .Or (b::cT) pos) Ql):PW X (.BoolOp .Or (a::b::cT) pos) (tOr tA Ql):=by
 intro wh pr s σ H Q I h;refine isTrue_or (He (ha pr s σ H _ I h) fun c s1 Hh=>?_);obtain⟨H1,I1,q1⟩:=Hh;cases c with
 |true=>exact⟨H1,I1,q1⟩
 |false=>exact hb wh pr s1 σ H1 Q I1 q1
theorem Bg(ha:PT X a tA):PT X (.UnaryOp .Not a pos) (FH tA):=by
 intro pr s σ H Q I h;exact isTrue_not (ha pr s σ H (fun c H1=>Q (!c) H1) I h)
def DT(ta tb:TE):TE:=fun σ H Q=>ta σ H fun x H1=>∃c,x=.bl c/\if c=true then tb σ H1 Q else Q (.bl false) H1
def DU(ta:TE):TE:=fun σ H Q=>ta σ H fun x H1=>∃c,x=.bl c/\Q (.bl (!c)) H1
theorem Bh{op}{t:TE}(h:PE X a t):PE X (.BoolOp op [a] pos) t:=fun pr s σ H Q I hw=>BoolOp_one (h pr s σ H Q I hw)
theorem Bi(ha:PE X a ta)(hb:PE X (.BoolOp .And (b::cT) pos) tb):PE X (.BoolOp .And (a::b::cT) pos) (DT ta tb):=by
 intro pr s σ H Q I h;refine BoolOp_and (He (ha pr s σ H _ I h) fun v s1 Hh=>?_);obtain⟨x,H1,I1,r1,q1⟩:=Hh;obtain⟨c,rfl,q1⟩:=q1;cases r1;refine Uw ?_;cases c with
 |true=>exact hb pr s1 σ H1 Q I1 q1
 |false=>exact⟨.bl false,H1,I1,rfl,q1⟩
theorem Bj(ha:PE X a ta):PE X (.UnaryOp .Not a pos) (DU ta):=by
 intro pr s σ H Q I h;refine UnaryOp_ (He (ha pr s σ H _ I h) fun v s1 Hh=>?_);obtain⟨x,H1,I1,r1,q1⟩:=Hh;obtain⟨c,rfl,q1⟩:=q1;cases r1;exact not_of (Uw ⟨.bl (!c),H1,I1,rfl,q1⟩)
end
def SqL(K:W.Frag)(H:Hp)(a:Addr)(xs:List V):Prop:=
 Rd H a (.lst xs)\/
  ∃(o:Obj) (GQ:Array Value) (n:Nat),K.lookup a=some o/\o.cls=.type "list"/\o.dict=none/\o.data=.seq GQ n/\GQ.size<=sizeLine/\Vals xs GQ.toList
def SqT(K:W.Frag)(H:Hp)(a:Addr)(xs:List V):Prop:=
 Rd H a (.tup xs)\/
  ∃(o:Obj) (GQ:Array Value) (n:Nat),K.lookup a=some o/\o.cls=.type "tuple"/\o.dict=none/\o.data=.seq GQ n/\GQ.size<=sizeLine/\Vals xs GQ.toList
def FJ:Value->Option V
 | .none=>some .non
 | .bool b=>some (.bl b)
 | .int i _=>some (.int i)
 | .str x _=>some (.str x)
 | .bytes b _=>some (.byt b)
 | .float b _=>some (.flt b)
 | .ref a=>some (.ref a)
 | .type n=>some (.ty n)
 |_=>none
theorem RelV.abs{x:V}{u:Value}(r:RelV x u):FJ u=some x:=by
 cases x with
 |non=>cases r;rfl
 |bl _=>cases r;rfl
 |int _=>obtain⟨t,rfl⟩:=r;rfl
 |str _=>obtain⟨t,rfl⟩:=r;rfl
 |byt _=>obtain⟨t,rfl⟩:=r;rfl
 |flt _=>obtain⟨t,rfl⟩:=r;rfl
 |ref _=>cases r;rfl
 |ty _=>cases r;rfl
theorem RelV.inj{x y:V}{u:Value}(r:RelV x u)(q:RelV y u):x=y:=Tf (r.abs.symm.trans q.abs)
theorem Vals.inj:∀{xs ys:List V}{us:List Value},Vals xs us->Vals ys us->xs=ys
 |_,_,_,.nil,.nil=>rfl
 |_,_,_,.cons r t,.cons r' t'=>by rw[r.inj r',Vals.inj t t']
section
variable{X:Cx}{pr:List (Addr×Obj)}{σ:St}{H:Hp}{s:Shared}{a:Addr}{xs ys:List V}
theorem SqL.of{K:W.Frag}(h:H a=some (.lst xs)):SqL K H a xs:=.inl (.inl h)
theorem SqT.of{K:W.Frag}(h:H a=some (.tup xs)):SqT K H a xs:=.inl (.inl h)
theorem Inv.list(I:Inv X pr σ H s)(h:SqL X.K H a xs):∃GQ:List Value,Vals xs GQ/\PlainL s.heap a GQ.toArray/\xs.length<=sizeLine:=by
 rcases h with h|⟨o,GQ,n,hk,hc,hd,hs,hz,r⟩
 ·obtain⟨z,GQ,n,r,e⟩:=h.ok I.hok;exact⟨GQ,r,⟨_,n,e,rfl,rfl,rfl⟩,z⟩
 ·refine⟨GQ.toList,r,⟨o,n,I.kIn a o hk,hc,hd,by simpa using hs⟩,?_⟩;have e:=r.length;simp only[T5]at e;lia
theorem Inv.tupleN(I:Inv X pr σ H s)(h:SqT X.K H a xs):∃GQ:List Value,Vals xs GQ/\IsTupN s.heap a GQ.toArray/\xs.length<=sizeLine:=by
 rcases h with h|⟨o,GQ,n,hk,hc,hdn,hs,hz,r⟩
 ·obtain⟨z,GQ,r,p⟩:=h.ok I.hok;exact⟨GQ,r,p,z⟩
 ·refine⟨GQ.toList,r,⟨o,I.kIn a o hk,hc,⟨n,by simpa using hs⟩,hdn⟩,?_⟩;have e:=r.length;simp only[T5]at e;lia
theorem Inv.tuple(I:Inv X pr σ H s)(h:SqT X.K H a xs):∃GQ:List Value,Vals xs GQ/\IsTup s.heap a GQ.toArray/\xs.length<=sizeLine:=by
 obtain⟨GQ,r,p,z⟩:=I.tupleN h;exact⟨GQ,r,p.tup,z⟩
theorem Inv.list_inj(I:Inv X pr σ H s)(h:SqL X.K H a xs)(h':SqL X.K H a ys):xs=ys:=by
 obtain⟨GQ,r,⟨o,n,e,_,_,d⟩,_⟩:=I.list h;obtain⟨its',r',⟨o',n',e',_,_,d'⟩,_⟩:=I.list h';rw[e]at e';cases e';rw[d]at d';injection d' with d1 _;have:GQ=its':=by simpa using TY Array.toList d1
 subst this;exact r.inj r'
theorem Inv.tuple_inj(I:Inv X pr σ H s)(h:SqT X.K H a xs)(h':SqT X.K H a ys):xs=ys:=by
 obtain⟨GQ,r,⟨o,e,_,n,d⟩,_⟩:=I.tuple h;obtain⟨its',r',⟨o',e',_,n',d'⟩,_⟩:=I.tuple h';rw[e]at e';cases e';rw[d]at d';injection d' with d1 _;have:GQ=its':=by simpa using TY Array.toList d1
 subst this;exact r.inj r'
end
abbrev Cx.wish(X:Cx)(E:Value->Shared->Prop):Cx:={X with xe:=E}
abbrev Cx.nox(X:Cx):Cx:=X.wish fun _ _=>False
theorem Cx.Ok.wish{X:Cx}(ok:X.Ok)(E:Value->Shared->Prop):(X.wish E).Ok:=
 ⟨ok.mod,ok.kind,ok.glob,ok.blt,ok.above,ok.inj,ok.has,ok.cab,ok.hd,ok.frames,ok.stk,ok.exf,ok.bs,ok.bsz,ok.noex,ok.exfs,ok.funs,ok.frf⟩
theorem Cx.Ok.unwish{X:Cx}{E:Value->Shared->Prop}(ok:(X.wish E).Ok):X.Ok:=
 ⟨ok.mod,ok.kind,ok.glob,ok.blt,ok.above,ok.inj,ok.has,ok.cab,ok.hd,ok.frames,ok.stk,ok.exf,ok.bs,ok.bsz,ok.noex,ok.exfs,ok.funs,ok.frf⟩
section
variable{X:Cx}{pr:List (Addr×Obj)}{σ:St}{H:Hp}{s:Shared}{E:Value->Shared->Prop}
theorem Inv.wish(I:Inv X pr σ H s)(E:Value->Shared->Prop):Inv (X.wish E) pr σ H s:=⟨I.ok.wish E,I.os,I.bare,I.base,I.loc,I.cell,I.free,I.freeC,I.pin,I.hok,I.len⟩
theorem Inv.unwish(I:Inv (X.wish E) pr σ H s):Inv X pr σ H s:=⟨I.ok.unwish,I.os,I.bare,I.base,I.loc,I.cell,I.free,I.freeC,I.pin,I.hok,I.len⟩
theorem SP.unwish{D:Ends}{f:Flow}{s':Shared}(h:SP (X.wish E) pr D f s'):SP X pr D f s':=by
 cases f with
 |next=>obtain⟨σ',H',I,q⟩:=h;exact⟨σ',H',I.unwish,q⟩
 |brk=>obtain⟨σ',H',I,q⟩:=h;exact⟨σ',H',I.unwish,q⟩
 |cont=>obtain⟨σ',H',I,q⟩:=h;exact⟨σ',H',I.unwish,q⟩
 |ret u=>obtain⟨v,σ',H',I,r,q⟩:=h;exact⟨v,σ',H',I.unwish,r,q⟩
theorem PT.nox{e:Expr}{t:TT}(h:PT X.nox e t):PT X e t:=fun pr s σ H Q I hw=>
 TZ (h pr s σ H Q (I.wish _) hw) (fun _ _ ⟨H',I',q⟩=>⟨H',I'.unwish,q⟩) fun _ _ z=>False.elim z
theorem PSs.nox{st:List Stmt}{t:TS}(h:PSs X.nox st t):PSs X st t:=fun pr s σ H D I hw=>
 TZ (h pr s σ H D (I.wish _) hw) (fun _ _ q=>q.unwish) fun _ _ z=>False.elim z
end
section
variable{X:Cx}{st:Stmt}{cT:List Stmt}{t u:TS}{e:Expr}{te:TE}{pos:Pos}
def DV:TS:=fun D σ H=>D.nx σ H
def FK(t u:TS):TS:=fun D σ H=>t {D with nx:=u D} σ H
theorem sf:PSs X [] DV:=fun _ _ σ H _ I h=>Vm ⟨σ,H,I,h⟩
theorem pH(h1:PS X st t)(h2:PSs X cT u):PSs X (st::cT) (FK t u):=by
 intro pr s σ H D I h;refine Vf (He (h1 pr s σ H {D with nx:=u D} I h) fun f s1 q=>?_);cases f with
 |next=>
  obtain⟨σ',H',I',q⟩:=q;exact h2 pr s1 σ' H' D I' q
 |ret v=>exact q
 |brk=>exact q
 |cont=>exact q
theorem yE(h1:PS X st t):PSs X [st] t:=by
 intro pr s σ H D I h;refine Vf (He (h1 pr s σ H D I h) fun f s1 q=>?_);cases f with
 |next=>exact Vm q
 |ret v=>exact q
 |brk=>exact q
 |cont=>exact q
theorem Inv.quiet{pr:List (Addr×Obj)}{σ:St}{H:Hp}{s:Shared}(I:Inv X pr σ H s):interactive X.env=false:=by simp[interactive,I.ok.kind]
def DW(te:TE):TS:=fun D σ H=>te σ H fun _ H1=>D.nx σ H1
theorem yF(he:PE X e te)(hs:swapsWith e none pos.line X.env=pure false:=by rfl):PS X (.Expr e pos) (DW te):=by
 intro pr s σ H D I h;exact wpAny_Expr_any (He (he pr s σ H _ I h) fun v s1 ⟨x,H1,I1,r1,q1⟩=>⟨σ,H1,I1,q1⟩) I.quiet hs
def FL(te:TE):TS:=fun D σ H=>te σ H D.rt
theorem xM(he:PE X e te):PS X (.Return (some e) pos) (FL te):=by
 intro pr s σ H D I h;exact wpAny_Return_some (He (he pr s σ H _ I h) fun v s1 ⟨x,H1,I1,r1,q1⟩=>⟨x,σ,H1,I1,r1,q1⟩)
def FN(c:TT)(t u:TS):TS:=fun D σ H=>c σ H fun b H1=>if b=true then t D σ H1 else u D σ H1
theorem DX{c:Expr}{a b:List Stmt}{tc:TT}(hc:PT X c tc)(ha:PSs X a t)(hb:PSs X b u):PS X (.If c a b pos) (FN tc t u):=by
 intro pr s σ H D I h;refine wpAny_If (He (hc pr s σ H _ I h) fun d s1 Hh=>?_);obtain⟨H1,I1,q1⟩:=Hh;cases d with
 |true=>exact ha pr s1 σ H1 D I1 q1
 |false=>exact hb pr s1 σ H1 D I1 q1
def Bk:TS:=fun _ _ _=>False
theorem vO:PS X st Bk:=fun _ _ _ _ _ _ h=>h.elim
end
abbrev TG:=V->St->Hp->(St->Hp->Prop)->Prop
abbrev Nk:=List V->St->Hp->(St->Hp->Prop)->Prop
def PG(X:Cx)(target:Expr)(t:TG):Prop:=
 ∀(pr:List (Addr×Obj)) (s:Shared) (σ:St) (H:Hp) (v:V) (u:Value) (Q:St->Hp->Prop),Inv X pr σ H s->RelV v u->t v σ H Q->
  wpAny (model X.prog X.w) X.A (assign target X.env u) (fun _ s'=>∃σ' H',Inv X pr σ' H' s'/\Q σ' H') X.xe s
def Nz(X:Cx)(ts:List Expr)(t:Nk):Prop:=
 ∀(pr:List (Addr×Obj)) (s:Shared) (σ:St) (H:Hp) (vs:List V) (us:List Value) (Q:St->Hp->Prop),Inv X pr σ H s->Vals vs us->t vs σ H Q->
  wpAny (model X.prog X.w) X.A (assignInOrder ((assignEach ts X.env).map (·.2)) us) (fun _ s'=>∃σ' H',Inv X pr σ' H' s'/\Q σ' H') X.xe s
abbrev FQ:=V->V->V->Hp->(Hp->Prop)->Prop
def FR(X:Cx)(t:FQ):Prop:=
 ∀(pr:List (Addr×Obj)) (s:Shared) (σ:St) (H:Hp) (o i v:V) (ov iv u:Value) (Q:Hp->Prop),Inv X pr σ H s->RelV o ov->RelV i iv->RelV v u->t o i v H Q->
  wpAny (model X.prog X.w) X.A (setItem ov iv u) (fun _ s'=>∃H',Inv X pr σ H' s'/\Q H') X.xe s
section
variable{X:Cx}{pos:Pos}
def Bl(i:Nat):TG:=fun v σ H Q=>Q (σ.set i (some v)) H
theorem yG{i:Nat}{x:Str}(hN:X.N.Nodup)(hi:X.N[i]?=some x)(hx:Loc X.env.scope x)(hf:X.fn x=true\/X.env.scope.names.lookup x=some .local:=by first|exact .inl rfl|exact .inr rfl|assumption):PG X (.Name x pos) (Bl i):=by
 intro pr s σ H v u Q I r h;exact wpAny_assign_Name (ly I hN hi hx r (fun s' I'=>⟨_,H,I',h⟩) hf)
def FU:Nk:=fun vs σ H Q=>vs=[]/\Q σ H
def DY(t:TG)(u:Nk):Nk:=fun vs σ H Q=>∃v r,vs=v::r/\t v σ H fun σ' H'=>u r σ' H' Q
theorem yH:Nz X [] FU:=by
 intro pr s σ H vs us Q I r h;obtain⟨e,h⟩:=h;subst e;cases r;exact assignInOrder_nil ⟨σ,H,I,h⟩
theorem vP{e:Expr}{es:List Expr}{t:TG}{u:Nk}(h1:PG X e t)(h2:Nz X es u)
  (hs:(assignEach (e::es) X.env).map (·.2)=assign e X.env::(assignEach es X.env).map (·.2):=by rfl):Nz X (e::es) (DY t u):=by
 intro pr s σ H vs us Q I r h;obtain⟨v,vr,e1,h⟩:=h;subst e1;cases r with
 |cons r rr=>
  rw[hs];refine assignInOrder_cons (He (h1 pr s σ H _ _ _ I r h) fun _ s1 Hh=>?_);obtain⟨σ1,H1,I1,q1⟩:=Hh;exact h2 pr s1 σ1 H1 _ _ Q I1 rr q1
def FV(K:W.Frag)(n:Nat)(t:Nk):TG:=fun v σ H Q=>∃a xs,v=.ref a/\SqT K H a xs/\xs.length=n/\t xs σ H Q
theorem Bm{es:List Expr}{k:Nat}{t:Nk}{n:Nat}(hc:X.calm=true)(h:Nz X es t)
  (hn:(assignEach es X.env).length=n:=by rfl) (Lw:(assignEach es X.env).findIdx? (·.1)=none:=by rfl):PG X (.Tuple es k pos) (FV X.K n t):=by
 intro pr s σ H v u Q I r hw;obtain⟨a,xs,e1,hq,hl,hw⟩:=hw;subst e1;cases r;obtain⟨GQ,rv,ht,hz⟩:=I.tuple hq;refine assign_Tuple_tuple (I.ok.hd hc) ht (by simp[hn,<-hl,rv.length]) Lw fun h' hx=>?_
 have I1:Inv X pr σ H {s with heap:=h'}:=I.kept (t':=s.toks) fun b o e=>hx b o (S8 (S2 e)) e
 exact h pr _ σ H xs _ Q I1 (by simpa using rv) hw
def Fi(te:TE)(g:TG):TS:=fun D σ H=>te σ H fun x H1=>g x σ H1 D.nx
theorem Bn{tg e:Expr}{te:TE}{g:TG}(he:PE X e te)(hg:PG X tg g)(hs:swapsWithSole [tg] e pos.line X.env=pure false:=by rfl)(hw:swappedStores [tg] e X.env=pure none:=by rfl)
  (h1:(assignEach [tg] X.env).map (·.2)=[assign tg X.env]:=by rfl):PS X (.Assign [tg] e pos) (Fi te g):=by
 intro pr s σ H D I h;refine wpAny_Assign_stores (He (he pr s σ H _ I h) fun v s1 ⟨x,H1,I1,r1,q1⟩=>?_) hs hw;rw[h1];exact He (hg pr s1 σ H1 x v _ I1 r1 q1) fun _ s2 q=>q
theorem xN{i:Nat}{x:Str}{e:Expr}{te:TE}{pos':Pos}(hN:X.N.Nodup)(hi:X.N[i]?=some x)(hx:Loc X.env.scope x)(he:PE X e te)(hs:swapsWith e (some (.Name x pos')) pos.line X.env=pure false:=by rfl)(hf:X.fn x=true\/X.env.scope.names.lookup x=some .local:=by first|exact .inl rfl|exact .inr rfl|assumption):
  PS X (.Assign [.Name x pos'] e pos) (Fi te (Bl i)):=by
 intro pr s σ H D I h;refine wpAny_Assign_Name (He (he pr s σ H _ I h) fun v s1 ⟨y,H1,I1,r1,q1⟩=>?_) hs;exact ly I1 hN hi hx r1 (fun s2 I2=>⟨_,H1,I2,q1⟩) hf
end
section
variable{X:Cx}{pos:Pos}
def Bo(c:TT)(tb:TS):TS:=fun D σ H=>∃W:Nat->St->Hp->Prop,(∃m,W m σ H)/\∀m σ H,W m σ H->
 c σ H fun b H1=>if b=true then ∃N:St->Hp->Prop,(∀σ' H',N σ' H'->∃m',m'<m/\W m' σ' H')/\tb {D with nx:=N,ct:=N,bk:=D.nx} σ H1 else D.nx σ H1
theorem vQ{c:Expr}{body:List Stmt}{tc:TT}{tb:TS}(hp:PassesOwn (model X.prog X.w) X.A X.env X.xe)(hc:PT X c tc)(hb:PSs X body tb):PS X (.While c body [] pos) (Bo tc tb):=by
 intro pr s σ H D I h;obtain⟨W,⟨m0,w0⟩,turn⟩:=h;refine wpAny_While (codeAny_whileLoop (fun n s'=>∃σ' H',Inv X pr σ' H' s'/\W n σ' H') ?_ m0 ⟨σ,H,I,w0⟩);rintro n s1 ⟨σ1,H1,I1,w1⟩;refine UO hp (He (hc pr s1 σ1 H1 _ I1 (turn n σ1 H1 w1)) fun b s2 Hh=>?_);obtain⟨H2,I2,q2⟩:=Hh;cases b with
 |true=>
  obtain⟨N,hN,q2⟩:=q2;rw[S1 rfl];refine UO hp (He (hb pr s2 σ1 H2 _ I2 q2) fun f s3 q3=>?_);cases f with
  |next=>
   obtain⟨σ3,H3,I3,n3⟩:=q3;obtain⟨m',hm,w3⟩:=hN σ3 H3 n3;exact⟨m',hm,σ3,H3,I3,w3⟩
  |cont=>
   obtain⟨σ3,H3,I3,n3⟩:=q3;obtain⟨m',hm,w3⟩:=hN σ3 H3 n3;exact⟨m',hm,σ3,H3,I3,w3⟩
  |brk=>exact q3
  |ret v=>exact q3
 |false=>
  rw[S4 SX];exact Vm ⟨σ1,H2,I2,q2⟩
end
structure It where
 go:Nat->Hp->Prop
 yld:Nat->Hp->V->Hp->Prop
 stop:Nat->Hp->Prop
def rT(X:Cx)(pr:List (Addr×Obj))(H:Hp)(b:Addr):Prop:=
 H b=none/\b≠X.env.locals/\b∉X.fs/\(b∈X.ex\/X.s₀.heap.objs.size<=b)/\(∀x c,X.env.cells.lookup x=some c->c≠b)/\∀p∈X.pn++pr,p.1≠b
theorem Inv.fpOk{X:Cx}{pr:List (Addr×Obj)}{σ:St}{H H':Hp}{s:Shared}{b:Addr}(I:Inv X pr σ H s)(hb:s.heap.objs.size<=b)(hn:H' b=none):rT X pr H' b:=by
 refine⟨hn,Xw (S6 I.lt hb),I.nofs hb,.inr (Tp I.sz hb),fun x c e z=>?_,fun p hp z=>?_⟩
 ·obtain⟨v,q⟩:=I.cell x c e;exact absurd (S6 q.lt (by rw[z];exact hb)) (UH _)
 ·exact absurd (S6 (S2 (I.pin p hp).1) (by rw[z];exact hb)) (UH _)
structure Turn(P:Program)(w:World)(K:W.Frag)(tg:Expr)(J:It)(fp:List Addr)(it:Addr)(tn:Nat->Heap->Prop):Prop where
 mem:it∈fp
 obj:∀i h,tn i h->∀b∈fp,∃o,h.get? b=some o/\∀v,o.data≠.cell v
 keep:∀i h h',tn i h->(∀b∈fp,∀o,h.get? b=some o->h'.get? b=some o)->tn i h'
 item:∀(X:Cx),X.prog=P->X.w=w->X.K=K->X.calm=true->∀(i:Nat) (pr:List (Addr×Obj)) (s:Shared) (σ:St) (H:Hp) (E:Value->Shared->Prop),Inv X pr σ H s->(∀b∈fp,rT X pr H b)->tn i s.heap->J.go i H->
  wpAny (model P w) X.A (pyNext (.ref it)) (fun r s1=>∃u,r=some u/\
   wpAny (model P w) X.A (letOwnedTupleGo tg (.ref it) u) (fun _ s2=>∃x H',Inv X pr σ H' s2/\RelV x u/\J.yld i H x H'/\tn (i+1) s2.heap/\∀b∈fp,H' b=none) E s1) E s
 done:∀(X:Cx),X.prog=P->X.w=w->X.K=K->X.calm=true->∀(i:Nat) (pr:List (Addr×Obj)) (s:Shared) (σ:St) (H:Hp) (E:Value->Shared->Prop),Inv X pr σ H s->(∀b∈fp,rT X pr H b)->tn i s.heap->J.stop i H->
  wpAny (model P w) X.A (pyNext (.ref it)) (fun r s1=>r=none/\Inv X pr σ H s1) E s
 self:∀(A:Around) (i:Nat) (s:Shared) (Q:Value->Shared->Prop) (E:Value->Shared->Prop),tn i s.heap->Q (.ref it) s->wpAny (model P w) A (pyIter (.ref it)) Q E s
abbrev TI:=St->Hp->(It->Hp->Prop)->Prop
def R1(X:Cx)(pr:List (Addr×Obj))(σ:St)(tg:Expr)(R:It->Hp->Prop)(Qm:Value)(s2:Shared):Prop:=
 ∃(it:Addr) (fp:List Addr) (tn:Nat->Heap->Prop) (J:It) (H':Hp),Qm=.ref it/\Inv X pr σ H' s2/\Turn X.prog X.w X.K tg J fp it tn/\tn 0 s2.heap/\(∀b∈fp,rT X pr H' b)/\R J H'
def PI(X:Cx)(tg iter:Expr)(wi:TI):Prop:=
 ∀(pr:List (Addr×Obj)) (s:Shared) (σ:St) (H:Hp) (R:It->Hp->Prop),Inv X pr σ H s->wi σ H R->
  wpAny (model X.prog X.w) X.A (eval iter X.env) (fun v s1=>wpAny (model X.prog X.w) X.A (pyIter v) (R1 X pr σ tg R) X.xe s1) X.xe s
theorem si {M : Model} {A : Around} {E : Value -> Shared -> Prop} {s : Shared} {tg : Expr} {it : Addr} {u : Value} {o : Obj} {n : String} {vs : Array Value} {Q : Unit -> Shared -> Prop} (ho : s.heap.get? it = some o) (hc : o.cls = .type n) (hd : o.data = .fields vs)
    (hn : ["enumerate", "zip", "dict_itemiterator", "dict_reverseitemiterator", "odict_iterator", "itertools.zip_longest", "itertools.pairwise"].contains n = false) (hQ : Q () s) : wpAny M A (letOwnedTupleGo tg (.ref it) u) Q E s := by
  unfold letOwnedTupleGo
  cases tg <;> first
    | exact SQ hQ
    | (cases u <;> first
        | exact SQ hQ
        | (refine SM (wpAny_load ho ?_)
           rw [hc, hd]
           show wpAny M A (if (["enumerate", "zip", "dict_itemiterator", "dict_reverseitemiterator", "odict_iterator", "itertools.zip_longest", "itertools.pairwise"].contains n && vs[0]? == some (rawInt _)) = true then _ else _) Q E s
           rw [S4 (by intro h; rw [hn, Vb] at h; cases h)]
           exact SQ hQ))
def OH(K:W.Frag)(a:Addr):It:=
 ⟨fun i H=>∃xs x,SqL K H a xs/\xs[i]?=some x,fun i H x H'=>H'=H/\∀xs,SqL K H a xs->xs[i]?=some x,fun i H=>∃xs,SqL K H a xs/\xs.length<=i⟩
def QY(K:W.Frag)(a:Addr):It:=
 ⟨fun i H=>∃xs x,SqT K H a xs/\xs[i]?=some x,fun i H x H'=>H'=H/\∀xs,SqT K H a xs->xs[i]?=some x,fun i H=>∃xs,SqT K H a xs/\xs.length<=i⟩
def Qn(lo:Int)(n:Nat):It:=⟨fun i _=>i<n,fun i H x H'=>H'=H/\x=.int (lo+i),fun i _=>n<=i⟩
theorem sj{P:Program}{w:World}{K:W.Frag}{tg:Expr}(a it:Addr):Turn P w K tg (OH K a) [it] it (fun i h=>h.IsListIter it a i) where
 mem:=by simp
 obj:=fun i h st b hb=>by
  have e:b=it:=by simpa using hb
  subst e;obtain⟨o,e,c,d⟩:=st;exact⟨o,e,fun v z=>by rw[d]at z;cases z⟩
 keep:=fun i h h' st k=>st.at fun o e=>k it (by simp) o e
 item:=by
  intro X hP hw hK hc i pr s σ H E I hf st hg;subst hP hw hK;obtain⟨xs,x,hq,hx⟩:=hg;obtain⟨GQ,rv,p,hz⟩:=I.list hq;obtain⟨u,hu,ru⟩:=rv.get hx;obtain⟨f0,f1,f2,f3,f4,f5⟩:=hf it (by simp);refine wpAny_pyNext_list_item st p.isList (x:=u) (by simpa using hu) fun h' Jl sb=>?_
  have I1:Inv X pr σ H {s with heap:=h'}:=I.turned (t':=s.toks) (fun b o hb e=>(sb.2 b hb).trans e) f0 f1 f3 f4 f5;obtain⟨o,e,c,d⟩:=id Jl;exact⟨u,rfl,si (s:={s with heap:=h'}) e c d (by decide) ⟨x,H,I1,ru,⟨rfl,fun ys hy=>by rw[I.list_inj hy hq];exact hx⟩,Jl,fun b hb=>(hf b hb).1⟩⟩
 done:=by
  intro X hP hw hK hc i pr s σ H E I hf st hg;subst hP hw hK;obtain⟨xs,hq,hx⟩:=hg;obtain⟨GQ,rv,p,hz⟩:=I.list hq;obtain⟨f0,f1,f2,f3,f4,f5⟩:=hf it (by simp);have hl:=rv.length;exact wpAny_pyNext_list_end (I.ok.hd hc) st p.isList (by simp;lia) fun h' eb=>⟨rfl,I.turned (t':=s.toks) (fun b o hb e=>eb b o hb e) f0 f1 f3 f4 f5⟩
 self:=fun _ _ _ _ _ st h=>wpAny_pyIter_listiter st h
theorem qP{P:Program}{w:World}{K:W.Frag}{tg:Expr}(a it:Addr):Turn P w K tg (QY K a) [it] it (fun i h=>h.IsTupleIter it a i) where
 mem:=by simp
 obj:=fun i h st b hb=>by
  have e:b=it:=by simpa using hb
  subst e;obtain⟨o,e,c,d⟩:=st;exact⟨o,e,fun v z=>by rw[d]at z;cases z⟩
 keep:=fun i h h' st k=>st.at fun o e=>k it (by simp) o e
 item:=by
  intro X hP hw hK hc i pr s σ H E I hf st hg;subst hP hw hK;obtain⟨xs,x,hq,hx⟩:=hg;obtain⟨GQ,rv,p,hz⟩:=I.tuple hq;obtain⟨u,hu,ru⟩:=rv.get hx;obtain⟨f0,f1,f2,f3,f4,f5⟩:=hf it (by simp);refine wpAny_pyNext_tuple_item st (show s.heap.IsTuple a GQ.toArray from p) (x:=u) (by simpa using hu) fun h' Jl sb=>?_
  have I1:Inv X pr σ H {s with heap:=h'}:=I.turned (t':=s.toks) (fun b o hb e=>(sb.2 b hb).trans e) f0 f1 f3 f4 f5;obtain⟨o,e,c,d⟩:=id Jl;exact⟨u,rfl,si (s:={s with heap:=h'}) e c d (by decide) ⟨x,H,I1,ru,⟨rfl,fun ys hy=>by rw[I.tuple_inj hy hq];exact hx⟩,Jl,fun b hb=>(hf b hb).1⟩⟩
 done:=by
  intro X hP hw hK hc i pr s σ H E I hf st hg;subst hP hw hK;obtain⟨xs,hq,hx⟩:=hg;obtain⟨GQ,rv,p,hz⟩:=I.tuple hq;obtain⟨f0,f1,f2,f3,f4,f5⟩:=hf it (by simp);have hl:=rv.length;exact wpAny_pyNext_tuple_end (I.ok.hd hc) st (show s.heap.IsTuple a GQ.toArray from p) (by simp;lia) fun h' eb=>⟨rfl,I.turned (t':=s.toks) (fun b o hb e=>eb b o hb e) f0 f1 f3 f4 f5⟩
 self:=fun _ _ _ _ _ st h=>wpAny_pyIter_tupleiter st h
theorem qQ{P:Program}{w:World}{K:W.Frag}{tg:Expr}(it:Addr)(lo:Int)(n:Nat):Turn P w K tg (Qn lo n) [it] it (fun i h=>IsRangeIter h it (lo+(i:Nat)*1) ((n:Int)-(i:Nat)) 1) where
 mem:=by simp
 obj:=fun i h st b hb=>by
  have e:b=it:=by simpa using hb
  subst e;exact⟨_,st,fun v z=>by
   have z':Data.fields _=Data.cell v:=z;cases z'⟩
 keep:=fun i h h' st k=>k it (by simp) _ st
 item:=by
  intro X hP hw hK hc i pr s σ H E I hf st hg;subst hP hw hK;obtain⟨f0,f1,f2,f3,f4,f5⟩:=hf it (by simp);have W:=Walks.range (prog:=X.prog) (w:=X.w) (I.ok.hd hc) it lo 1 n;refine W.item i s _ _ hg st fun v h' tk hv Jl kk=>?_
  obtain⟨t,rfl⟩:=hv;have I1:Inv X pr σ H {s with heap:=h',toks:=tk}:=I.turned (fun b o hb e=>kk b o (by simpa using hb) e) f0 f1 f3 f4 f5;refine⟨_,rfl,si (s:={s with heap:=h',toks:=tk}) (n:="range_iterator") Jl rfl rfl (by decide) ⟨.int (lo+i),H,I1,⟨t,?_⟩,⟨rfl,rfl⟩,Jl,fun b hb=>(hf b hb).1⟩⟩;rw[Int.mul_one]
 done:=by
  intro X hP hw hK hc i pr s σ H E I hf st hg;subst hP hw hK;obtain⟨f0,f1,f2,f3,f4,f5⟩:=hf it (by simp);exact wpAny_pyNext_range_end (I.ok.hd hc) st (by have:n<=i:=hg;lia) fun h' eb=>⟨rfl,I.turned (t':=s.toks) (fun b o hb e=>eb b o hb e) f0 f1 f3 f4 f5⟩
 self:=fun _ _ _ _ _ st h=>wpAny_pyIter_rangeiter st h
section
variable{X:Cx}{tg:Expr}
def DZ(K:W.Frag)(tl:TE):TI:=fun σ H R=>tl σ H fun x H1=>∃a,x=.ref a/\(∃xs,SqL K H1 a xs)/\R (OH K a) H1
def FW(K:W.Frag)(tl:TE):TI:=fun σ H R=>tl σ H fun x H1=>∃a,x=.ref a/\(∃xs,SqT K H1 a xs)/\R (QY K a) H1
theorem sk{l:Expr}{tl:TE}(hl:PE X l tl):PI X tg l (DZ X.K tl):=by
 intro pr s σ H R I h;refine He (hl pr s σ H _ I h) fun v s1 Hh=>?_
 obtain⟨x,H1,I1,r1,q1⟩:=Hh;obtain⟨a,e,⟨xs,hq⟩,q⟩:=q1;subst e;cases r1;obtain⟨GQ,rv,p,hz⟩:=I1.list hq;refine UP p.isList ?_;refine⟨s1.heap.objs.size,[s1.heap.objs.size],_,_,H1,rfl,I1.kept (t':=s1.toks) fun b o e=>Heap.get?_push_of_some _ e,sj a _,⟨_,Heap.get?_push_size _ rfl,rfl,rfl⟩,fun b hb=>?_,q⟩;have e:b=s1.heap.objs.size:=by simpa using hb
 subst e;exact I1.fpOk (SV _) (I1.hok.fresh (SV _))
theorem Bp{l:Expr}{tl:TE}(hl:PE X l tl):PI X tg l (FW X.K tl):=by
 intro pr s σ H R I h;refine He (hl pr s σ H _ I h) fun v s1 Hh=>?_
 obtain⟨x,H1,I1,r1,q1⟩:=Hh;obtain⟨a,e,⟨xs,hq⟩,q⟩:=q1;subst e;cases r1;obtain⟨GQ,rv,p,hz⟩:=I1.tuple hq;refine UI (show s1.heap.IsTuple a GQ.toArray from p) ?_;refine⟨s1.heap.objs.size,[s1.heap.objs.size],_,_,H1,rfl,I1.kept (t':=s1.toks) fun b o e=>Heap.get?_push_of_some _ e,qP a _,⟨_,Heap.get?_push_size _ rfl,rfl,rfl⟩,fun b hb=>?_,q⟩;have e:b=s1.heap.objs.size:=by simpa using hb
 subst e;exact I1.fpOk (SV _) (I1.hok.fresh (SV _))
theorem vR{pr:List (Addr×Obj)}{σ:St}{H:Hp}{s:Shared}{R:It->Hp->Prop}{E:Value->Shared->Prop}{lo hi:Int}{t u v:Tok}{tk:Nat}(I:Inv X pr σ H s)(h1:-(2 ^ 62)<=lo)(h2:lo<2 ^ 62)(h3:-(2 ^ 62)<=hi)(h4:hi<2 ^ 62)
  (q:R (Qn lo (hi-lo).toNat) H):wpAny (model X.prog X.w) X.A (pyIter (.ref s.heap.objs.size)) (R1 X pr σ tg R) E {s with heap:=s.heap.push {cls:=.type "range",data:=.fields #[.int lo t,.int hi u,.int 1 v]},toks:=tk}:=by
 refine wpAny_pyIter_range (IsRange.new ..) (small_one h1 h2 h3 h4) ?_;have I1:Inv X pr σ H {s with heap:=s.heap.push {cls:=.type "range",data:=.fields #[.int lo t,.int hi u,.int 1 v]},toks:=tk}:=I.kept fun b o e=>Heap.get?_push_of_some _ e
 refine⟨(s.heap.push {cls:=.type "range",data:=.fields #[.int lo t,.int hi u,.int 1 v]}).objs.size,[(s.heap.push {cls:=.type "range",data:=.fields #[.int lo t,.int hi u,.int 1 v]}).objs.size],_,_,H,rfl,
  I1.kept (t':=tk) fun b o e=>Heap.get?_push_of_some _ e,qQ _ lo (hi-lo).toNat,?_,fun b hb=>?_,q⟩
 ·have e1:lo+((0:Nat):Int)*1=lo:=by simp
  have e2:(((hi-lo).toNat:Nat):Int)-((0:Nat):Int)=Builtin.Range.rangeSize lo hi 1:=by rw[rangeSize_one];split <;> lia
  show IsRangeIter _ _ (lo+((0:Nat):Int)*1) ((((hi-lo).toNat:Nat):Int)-((0:Nat):Int)) 1;rw[e1,e2];exact Heap.get?_push_size _ rfl
 ·have e:b=(s.heap.push {cls:=.type "range",data:=.fields #[.int lo t,.int hi u,.int 1 v]}).objs.size:=by simpa using hb
  subst e;exact I1.fpOk (SV _) (I1.hok.fresh (SV _))
def D1(ta:TA):TI:=fun σ H R=>ta σ H fun vs H1=>∃j:Int,vs=[.int j]/\-(2 ^ 62)<=j/\j<2 ^ 62/\R (Qn 0 j.toNat) H1
theorem so{a:Expr}{ta:TA}{p pos:Pos}(hg:Gl X "range")(hm:X.mg "range" = none)(ha:PA X [a] ta)(hs:starEach [a] X.env=[(false,eval a X.env)]:=by rfl):PI X tg (.Call (.Name "range" p) [a] [] pos) (D1 ta):=by
 intro pr s σ H R I h;refine Call_ (kM I hg hm boot_range (U3 (He (ha pos pr s σ H _ I h) fun us s1 ⟨vs,H1,I1,r1,q1⟩=>?_) hs rfl));obtain⟨j,e,q1,q2,q⟩:=q1;subst e;cases r1 with
 |cons r rr=>
  cases rr;obtain⟨t,rfl⟩:=r;exact call_range_1 (vR I1 (by lia) (by lia) q1 q2 (by simpa using q))
noncomputable def FY(wi:TI)(g:TG)(tb:TS):TS:=fun D σ H=>wi σ H fun J H1=>∃W:Nat->Nat->St->Hp->Prop,(∃m,W 0 m σ H1)/\∀i m σ H,W i m σ H->
 (J.stop i H/\D.nx σ H)\/(J.go i H/\∃N:St->Hp->Prop,(∀σ' H',N σ' H'->∃m',m'<m/\W (i+1) m' σ' H')/\∀x H',J.yld i H x H'->g x σ H' fun σ2 H2=>tb {D with nx:=N,ct:=N,bk:=D.nx} σ2 H2)
def mK(fp:List Addr)(h:Heap):List (Addr×Obj):=fp.filterMap fun b=>(h.get? b).map fun o=>(b,o)
theorem gk{fp:List Addr}{h:Heap}{b:Addr}{o:Obj}(hb:b∈fp)(e:h.get? b=some o):(b,o)∈mK fp h:=Vn.mpr ⟨b,hb,by rw[e];rfl⟩
theorem sr{fp:List Addr}{h:Heap}{p:Addr×Obj}(hp:p∈mK fp h):p.1∈fp/\h.get? p.1=some p.2:=by
 obtain⟨b,hb,e⟩:=Vn.mp hp;cases q:h.get? b with
 |none=>rw[q]at e;cases e
 |some o=>
  rw[q]at e;have e':(b,o)=p:=Tf e;subst e';exact⟨hb,q⟩
theorem Inv.pinned{pr:List (Addr×Obj)}{σ:St}{H:Hp}{s:Shared}{fp:List Addr}(I:Inv X pr σ H s)(hf:∀b∈fp,rT X pr H b)(ho:∀b∈fp,∃o,s.heap.get? b=some o/\∀v,o.data≠.cell v):Inv X (pr++mK fp s.heap) σ H s:=
 I.pins_of fun p hp=>(Tn.mp hp).elim (fun z=>I.pin p (SS _ z)) fun z=>by
  obtain⟨hb,e⟩:=sr z;obtain⟨f0,f1,f2,_⟩:=hf p.1 hb;obtain⟨o,e',d⟩:=ho p.1 hb;rw[e]at e';cases e';exact⟨e,f0,f1,f2,d⟩
theorem Inv.unpinned{pr pl:List (Addr×Obj)}{σ:St}{H:Hp}{s:Shared}(I:Inv X (pr++pl) σ H s):Inv X pr σ H s:=I.pins_of fun p hp=>I.pin p (SS _ (SW _ hp))
theorem xO{iter:Expr}{body:List Stmt}{wi:TI}{g:TG}{tb:TS}{pos:Pos}(hp:PassesOwn (model X.prog X.w) X.A X.env X.xe)(hc:X.calm=true)(hi:PI X tg iter wi)(hg:PG X tg g)(hb:PSs X body tb)
  (hs:∀x,foldedSetIterable iter X.env x=pure x:=by intro _;rfl):PS X (.For tg iter body [] pos) (FY wi g tb):=by
 intro pr s σ H D I h;refine wpAny_For (He (hi pr s σ H _ I h) fun v s1 h1=>He h1 fun Qm s2 h2=>?_) hs;obtain⟨it,fp,tn,J,H2,e,I2,T,GW,f2,W,⟨m0,w0⟩,turn⟩:=h2;subst e;have Ku:∀{H':Hp},(∀b∈fp,H' b=none)->∀b∈fp,rT X pr H' b:=fun hn b hb=>⟨hn b hb,(f2 b hb).2⟩
 refine codeAny_forLoop_any (fun n s'=>∃i σ' H',Inv X pr σ' H' s'/\tn i s'.heap/\(∀b∈fp,H' b=none)/\W i n σ' H') ?_ m0 ⟨0,σ,H2,I2,GW,fun b hb=>(f2 b hb).1,w0⟩;rintro n s3 ⟨i,σ3,H3,I3,Hs,OY,w3⟩;rcases turn i n σ3 H3 w3 with⟨stop,qn⟩|⟨go,N,hN,step⟩
 ·refine UO hp (He (T.done X rfl rfl rfl hc i pr s3 σ3 H3 X.xe I3 (Ku OY) Hs stop) fun r s4 Hh=>?_);obtain⟨hr,I4⟩:=Hh;subst hr;exact Vm ⟨σ3,H3,I4,qn⟩
 ·refine UO hp (He (T.item X rfl rfl rfl hc i pr s3 σ3 H3 X.xe I3 (Ku OY) Hs go) fun r s4 Hh=>?_);obtain⟨u,hr,h4⟩:=Hh;subst hr;refine UO hp (He h4 fun _ s5 Hh=>?_);obtain⟨x,H5,I5,r5,y5,Jx,QZ⟩:=Hh;have Q0:=I5.pinned (Ku QZ) (T.obj _ _ Jx);refine UO hp (He (hg _ s5 σ3 H5 x u _ Q0 r5 (step x H5 y5)) fun _ s6 Hh=>?_);obtain⟨σ6,H6,I6,q6⟩:=Hh;refine UO hp (He (hb _ s6 σ6 H6 _ I6 q6) fun f s7 q7=>?_);have again:∀{σ7:St}{H7:Hp},Inv X (pr++mK fp s5.heap) σ7 H7 s7->N σ7 H7->∃m,m<n/\∃i σ' H',Inv X pr σ' H' s7/\tn i s7.heap/\(∀b∈fp,H' b=none)/\W i m σ' H':=fun{σ7 H7} I7 n7=>by
   obtain⟨m',hm,w7⟩:=hN σ7 H7 n7;refine⟨m',hm,i+1,σ7,H7,I7.unpinned,T.keep _ _ _ Jx fun b hb o e=>(I7.pin (b,o) (SS _ (SS _ (gk hb e)))).1,fun b hb=>?_,w7⟩;obtain⟨o,e,d⟩:=T.obj _ _ Jx b hb;exact(I7.pin (b,o) (SS _ (SS _ (gk hb e)))).2.1
  cases f with
  |next=>obtain⟨σ7,H7,I7,n7⟩:=q7;exact again I7 n7
  |cont=>obtain⟨σ7,H7,I7,n7⟩:=q7;exact again I7 n7
  |brk=>obtain⟨σ7,H7,I7,q7⟩:=q7;exact⟨σ7,H7,I7.unpinned,q7⟩
  |ret v=>obtain⟨x7,σ7,H7,I7,r7,q7⟩:=q7;exact⟨x7,σ7,H7,I7.unpinned,r7,q7⟩
end
theorem for_list{K:W.Frag}{a:Addr}{xs:List V}{g:TG}{tb:TS}{D:Ends}{σ:St}{H:Hp}(Pv:Nat->St->Hp->Prop)(h0:Pv 0 σ H)(hl:∀i σ H,i<=xs.length->Pv i σ H->SqL K H a xs)
  (hs:∀i x σ H,xs[i]?=some x->Pv i σ H->g x σ H fun σ2 H2=>tb {D with nx:=Pv (i+1),ct:=Pv (i+1),bk:=D.nx} σ2 H2) (hd:∀σ H,Pv xs.length σ H->D.nx σ H):
  ∃W:Nat->Nat->St->Hp->Prop,(∃m,W 0 m σ H)/\∀i m σ H,W i m σ H->
   ((OH K a).stop i H/\D.nx σ H)\/((OH K a).go i H/\∃N:St->Hp->Prop,(∀σ' H',N σ' H'->∃m',m'<m/\W (i+1) m' σ' H')/\∀x H',(OH K a).yld i H x H'->g x σ H' fun σ2 H2=>tb {D with nx:=N,ct:=N,bk:=D.nx} σ2 H2):=by
 refine⟨fun i m σ H=>m=xs.length-i/\i<=xs.length/\Pv i σ H,⟨xs.length,by simp,Tw _,h0⟩,?_⟩;rintro i m σ H ⟨rfl,hi,p⟩;have q:=hl i σ H hi p;by_cases HC:i<xs.length
 ·refine .inr ⟨⟨xs,xs[i],q,by simp[HC]⟩,Pv (i+1),fun σ' H' p'=>⟨xs.length-(i+1),by lia,rfl,HC,p'⟩,fun x H' y=>?_⟩;obtain⟨e,y⟩:=y;subst e;exact hs i x σ _ (y xs q) p
 ·have e:i=xs.length:=by lia
  subst e;exact .inl ⟨⟨xs,q,SV _⟩,hd σ H p⟩
abbrev R2:=V->V->Hp->VK->Prop
def HI(X:Cx)(f:Value->Value->Sem Value)(r:R2):Prop:=
 ∀(pr:List (Addr×Obj)) (s:Shared) (σ:St) (H:Hp) (x y:V) (v u:Value) (Q:VK),Inv X pr σ H s->RelV x v->RelV y u->r x y H Q->
  wpAny (model X.prog X.w) X.A (f v u) (EP X pr σ Q) X.xe s
def Q1(X:Cx)(f:Value->Sem Value)(r:V->Hp->VK->Prop):Prop:=
 ∀(pr:List (Addr×Obj)) (s:Shared) (σ:St) (H:Hp) (x:V) (v:Value) (Q:VK),Inv X pr σ H s->RelV x v->r x H Q->
  wpAny (model X.prog X.w) X.A (f v) (EP X pr σ Q) X.xe s
def c6(X:Cx)(f:Value)(r:List V->Hp->VK->Prop):Prop:=
 ∀(pr:List (Addr×Obj)) (s:Shared) (σ:St) (H:Hp) (xs:List V) (us:List Value) (Q:VK),Inv X pr σ H s->Vals xs us->r xs H Q->
  wpAny (model X.prog X.w) X.A (call f us) (EP X pr σ Q) X.xe s
def OI(r:R2)(ta tb:TE):TE:=fun σ H Q=>ta σ H fun x H1=>tb σ H1 fun y H2=>r x y H2 Q
def tUn(r:V->Hp->VK->Prop)(ta:TE):TE:=fun σ H Q=>ta σ H fun x H1=>r x H1 Q
def rI(C:Int->Int->Prop)(g:Int->Int->V):R2:=fun x y H Q=>∃i j,x=.int i/\y=.int j/\C i j/\Q (g i j) H
def NA(g:Int->Int->V):R2:=fun x y H Q=>∃i j,x=.int i/\y=.int j/\Q (g i j) H
def rU(g:Int->V):V->Hp->VK->Prop:=fun x H Q=>∃i,x=.int i/\Q (g i) H
section
variable{X:Cx}{a b c:Expr}{ta tb tc:TE}{pos:Pos}
theorem D2(ha:PE X a ta)(hb:PE X b tb){pr:List (Addr×Obj)}{s:Shared}{σ:St}{H:Hp}{R:V->V->Hp->Prop}(I:Inv X pr σ H s)
  (h:ta σ H fun x H1=>tb σ H1 fun y H2=>R x y H2) {Q:Value->Shared->Prop}{f:Value->Value->Sem Value}
  (hf:∀v u s2 x y H2,Inv X pr σ H2 s2->RelV x v->RelV y u->R x y H2->wpAny (model X.prog X.w) X.A (f v u) Q X.xe s2):
  wpAny (model X.prog X.w) X.A (eval a X.env) (fun v s₁=>wpAny (model X.prog X.w) X.A (eval b X.env) (fun u s₂=>wpAny (model X.prog X.w) X.A (f v u) Q X.xe s₂) X.xe s₁) X.xe s:=by
 refine He (ha pr s σ H _ I h) fun v s1 Hh=>?_
 obtain⟨x,H1,I1,r1,q1⟩:=Hh;refine He (hb pr s1 σ H1 _ I1 q1) fun u s2 Hh=>?_
 obtain⟨y,H2,I2,r2,q2⟩:=Hh;exact hf v u s2 x y H2 I2 r1 r2 q2
theorem D3{op:Operator}{r:R2}(ho:HI X (binaryOp op) r)(ha:PE X a ta)(hb:PE X b tb):PE X (.BinOp a op b pos) (OI r ta tb):=by
 intro pr s σ H Q I h;exact wpAny_BinOp (D2 ha hb I h fun v u s2 x y H2 I2 rx ry q=>ho pr s2 σ H2 x y v u Q I2 rx ry q)
theorem D4{op:UnaryOp}{r:V->Hp->VK->Prop}(ho:Q1 X (unaryOp op) r)(ha:PE X a ta):PE X (.UnaryOp op a pos) (tUn r ta):=by
 intro pr s σ H Q I h;exact UnaryOp_ (He (ha pr s σ H _ I h) fun v s1 ⟨x,H1,I1,r1,q1⟩=>ho pr s1 σ H1 x v Q I1 r1 q1)
theorem OZ{f:Value->Value->Sem Value}{C:Int->Int->Prop}{g:Int->Int->Int}
  (rule:∀(i j:Int) (t u:Tok) (s:Shared) (Q:Value->Shared->Prop) (E:Value->Shared->Prop),C i j->Q (.int (g i j) s.toks) {s with toks:=s.toks+1}->wpAny (model X.prog X.w) X.A (f (.int i t) (.int j u)) Q E s):
  HI X f (rI C fun i j=>.int (g i j)):=by
 intro pr s σ H x y v u Q I rx ry h;obtain⟨i,j,rfl,rfl,hc,q⟩:=h;obtain⟨t,rfl⟩:=rx;obtain⟨t',rfl⟩:=ry;exact rule i j t t' s _ _ hc ⟨.int (g i j),H,I.tok _,⟨_,rfl⟩,q⟩
theorem Fj{f:Value->Value->Sem Value}{g:Int->Int->Int}
  (rule:∀(i j:Int) (t u:Tok) (s:Shared) (Q:Value->Shared->Prop) (E:Value->Shared->Prop),Q (.int (g i j) s.toks) {s with toks:=s.toks+1}->wpAny (model X.prog X.w) X.A (f (.int i t) (.int j u)) Q E s):
  HI X f (NA fun i j=>.int (g i j)):=by
 intro pr s σ H x y v u Q I rx ry h;obtain⟨i,j,rfl,rfl,q⟩:=h;obtain⟨t,rfl⟩:=rx;obtain⟨t',rfl⟩:=ry;exact rule i j t t' s _ _ ⟨.int (g i j),H,I.tok _,⟨_,rfl⟩,q⟩
theorem D5{f:Value->Value->Sem Value}{g:Int->Int->Bool}
  (rule:∀(i j:Int) (t u:Tok) (s:Shared) (Q:Value->Shared->Prop) (E:Value->Shared->Prop),Q (.bool (g i j)) s->wpAny (model X.prog X.w) X.A (f (.int i t) (.int j u)) Q E s):
  HI X f (NA fun i j=>.bl (g i j)):=by
 intro pr s σ H x y v u Q I rx ry h;obtain⟨i,j,rfl,rfl,q⟩:=h;obtain⟨t,rfl⟩:=rx;obtain⟨t',rfl⟩:=ry;exact rule i j t t' s _ _ ⟨.bl (g i j),H,I,rfl,q⟩
def FZ(i j:Int):Prop:=0<j/\j<1073741824
def F0(i j:Int):Prop:=0<=j/\j<=1000000/\i.natAbs<2 ^ 64
def CMul(i j:Int):Prop:=(-(2 ^ 64)<i/\i<2 ^ 64)\/(-(2 ^ 64)<j/\j<2 ^ 64)
theorem CMul.ok{i j:Int}(h:CMul i j):IntMulOk i j:=by
 rcases h with⟨h1,h2⟩|⟨h1,h2⟩
 ·exact .of_left (intBits_le_64 h1 h2)
 ·exact .of_right (intBits_le_64 h1 h2)
theorem Bq:HI X (binaryOp .Add) (NA fun i j=>.int (i+j)):=Fj fun _ _ _ _ _ _ _ q=>add_int q
theorem Br:HI X (binaryOp .Sub) (NA fun i j=>.int (i-j)):=Fj fun _ _ _ _ _ _ _ q=>sub_int q
theorem Bs:HI X (binaryOp .Mult) (rI CMul fun i j=>.int (i*j)):=OZ fun _ _ _ _ _ _ _ hc q=>mul_int q hc.ok
theorem yI:HI X (binaryOp .FloorDiv) (rI FZ fun i j=>.int (i / j)):=OZ fun i j _ _ _ _ _ hc q=>by
 have h1:(0:Int)<j:=hc.1;have h2:j<1073741824:=hc.2;exact floordiv_int (by lia) (by rw[Int.fdiv_eq_ediv_of_nonneg i (by lia)];exact q) (.inl (PyProof.noPylong_small (by lia)))
theorem Bt:HI X (binaryOp .Mod) (rI (fun _ j=>0<j) fun i j=>.int (i%j)):=OZ fun i j _ _ _ _ _ hc q=>by
 have h1:(0:Int)<j:=hc;exact mod_int' (by lia) (by rw[Int.fmod_eq_emod_of_nonneg i (by lia)];exact q)
theorem Bu:HI X (binaryOp .Pow) (rI F0 fun i j=>.int (i ^ j.toNat)):=OZ fun _ _ _ _ _ _ _ hc q=>pow_int_small hc.1 hc.2.1 hc.2.2 q
theorem unI{f:Value->Sem Value}{g:Int->Int}
  (rule:∀(i:Int) (t:Tok) (s:Shared) (Q:Value->Shared->Prop) (E:Value->Shared->Prop),Q (.int (g i) s.toks) {s with toks:=s.toks+1}->wpAny (model X.prog X.w) X.A (f (.int i t)) Q E s):
  Q1 X f (rU fun i=>.int (g i)):=by
 intro pr s σ H x v Q I rx h;obtain⟨i,rfl,q⟩:=h;obtain⟨t,rfl⟩:=rx;exact rule i t s _ _ ⟨.int (g i),H,I.tok _,⟨_,rfl⟩,q⟩
theorem Bv:Q1 X (unaryOp .USub) (rU fun i=>.int (-i)):=unI fun _ _ _ _ _ q=>neg_int q
end
section
variable{X:Cx}{a b c:Expr}{ta tb tc:TE}{pos:Pos}
theorem su{pr:List (Addr×Obj)}{σ:St}{H:Hp}{s:Shared}{Q:VK}{k k':Bool}(I:Inv X pr σ H s)(q:Q (.bl k) H)(e:k=k'):EP X pr σ Q (.bool k') s:=by
 subst e;exact⟨.bl k,H,I,rfl,q⟩
theorem D6:HI X (compareOp .Lt) (NA fun i j=>.bl (decide (i<j))):=D5 fun _ _ _ _ _ _ _ q=>lt_int q
theorem D7:HI X (compareOp .Gt) (NA fun i j=>.bl (decide (j<i))):=D5 fun _ _ _ _ _ _ _ q=>gt_int q
theorem D8:HI X (compareOp .GtE) (NA fun i j=>.bl (decide (j<=i))):=D5 fun _ _ _ _ _ _ _ q=>ge_int q
theorem sv:HI X (compareOp .Lt) (fun x y H Q=>∃i j,x=.str i/\y=.str j/\Q (.bl (decide (i.cps.toList<j.cps.toList))) H):=by
 intro pr s σ H x y v u Q I rx ry h;obtain⟨i,j,rfl,rfl,q⟩:=h;obtain⟨t,rfl⟩:=rx;obtain⟨t',rfl⟩:=ry;exact lt_str (su I q rfl)
theorem sx:HI X (compareOp .In) (fun x y H Q=>∃i j,x=.str i/\y=.str j/\Q (.bl (!(Builtin.Str.occurrences j i 0 j.length 1).isEmpty)) H):=by
 intro pr s σ H x y v u Q I rx ry h;obtain⟨i,j,rfl,rfl,q⟩:=h;obtain⟨t,rfl⟩:=rx;obtain⟨t',rfl⟩:=ry;exact in_str (su I q rfl)
theorem mL:HI X (compareOp .NotIn) (fun x y H Q=>∃i j,x=.str i/\y=.str j/\Q (.bl (!(!(Builtin.Str.occurrences j i 0 j.length 1).isEmpty))) H):=by
 intro pr s σ H x y v u Q I rx ry h;obtain⟨i,j,rfl,rfl,q⟩:=h;obtain⟨t,rfl⟩:=rx;obtain⟨t',rfl⟩:=ry;exact notIn_str (su I q rfl)
theorem bu(b:Expr){op:CmpOp}(h:op≠.In:=by decide)(h2:op≠.NotIn:=by decide):behindInMarks op b=false:=by
 have e1:(op==CmpOp.In)=false:=by cases op <;> first|rfl|exact absurd rfl h
 have e2:(op==CmpOp.NotIn)=false:=by cases op <;> first|rfl|exact absurd rfl h2
 cases b <;> simp[behindInMarks,e1,e2]
theorem sy{op:CmpOp}{r:R2}(ho:HI X (compareOp op) r)(ha:PE X a ta)(hb:PE X b tb)(hm:behindInMarks op b=false):PE X (.Compare a [op] [b] pos) (OI r ta tb):=by
 intro pr s σ H Q I h;exact wpAny_Compare1 (D2 ha hb I h fun v u s2 x y H2 I2 rx ry q=>ho pr s2 σ H2 x y v u Q I2 rx ry q) hm
def D9(t:TE):TT:=fun σ H Q=>t σ H fun x H'=>∃k,x=.bl k/\Q k H'
theorem sH{op:CmpOp}{r:R2}(ho:HI X (compareOp op) r)(ha:PE X a ta)(hb:PE X b tb)(hm:behindInMarks op b=false):PT X (.Compare a [op] [b] pos) (D9 (OI r ta tb)):=by
 intro pr s σ H Q I h;refine wpAny_isTrue_Compare1 (He (ha pr s σ H _ I h) fun v s1 ⟨x,H1,I1,r1,q1⟩=>He (hb pr s1 σ H1 _ I1 q1) fun u s2 ⟨y,H2,I2,r2,q2⟩=>
  He (ho pr s2 σ H2 x y v u _ I2 r1 r2 q2) fun c s3 ⟨z,H3,I3,r3,k,e,q3⟩=>?_) hm
 subst e;cases r3;exact Uw ⟨H3,I3,q3⟩
theorem kN:(sizeLine:Nat)<2 ^ 63:=by rw[TQ];decide
theorem qR:HI X (binaryOp .Add) (fun x y H Q=>∃i j,x=.str i/\y=.str j/\i.length+j.length<=sizeLine/\Q (.str (i++j)) H):=by
 intro pr s σ H x y v u Q I rx ry h;obtain⟨i,j,rfl,rfl,hz,q⟩:=h;obtain⟨t,rfl⟩:=rx;obtain⟨t',rfl⟩:=ry;exact add_str (fun t' tk=>⟨.str (i++j),H,I.tok _,⟨_,rfl⟩,q⟩) hz
theorem fe{x:V}{us:List Value}(r:Vals [x] us):∃u,us=[u]/\RelV x u:=by
 cases r with
 |cons r1 r2=>cases r2;exact⟨_,rfl,r1⟩
theorem sI{x y:V}{us:List Value}(r:Vals [x,y] us):∃u w',us=[u,w']/\RelV x u/\RelV y w':=by
 cases r with
 |cons r1 r2=>
  cases r2 with
  |cons r3 r4=>cases r4;exact⟨_,_,rfl,r1,r3⟩
end
section
variable{prog:Program}{w:World}{A:Around}{E:Value->Shared->Prop}{s:Shared}{K:W.Frag}{x dx C f:Addr}{mA:Str->Option Value}{name:Str}{v:Value}
end
theorem RelO.some_of{v:V}{o:Option Value}(r:RelO (some v) o):∃u,o=some u/\RelV v u:=by
 cases o with
 |none=>exact(show False from r).elim
 |some u=>exact⟨u,rfl,r⟩
section
variable{P:Program}{w:World}{H H':Hp}{h h':Heap}{a C dx:Addr}{fs fs':List (Str×V)}
end
section
variable{X:Cx}{pr:List (Addr×Obj)}{σ:St}{H:Hp}{s:Shared}{a C dx:Addr}{fs:List (Str×V)}{f:Str}{v:V}{A:Around}{E:Value->Shared->Prop}
end
section
variable{X:Cx}{o e value:Expr}{f:Str}{pos pos' Kc:Pos}{ta tv:TE}
end
section
variable{X:Cx}{pr:List (Addr×Obj)}{σ:St}{H:Hp}{s:Shared}{A:Around}{E:Value->Shared->Prop}{Q:Value->Shared->Prop}{c:Value}{b:Bool}
end
structure Room(k:Nat)(A:Around):Prop where
 hd:A.handled=none
 dp:A.depth+3*k+5<recursionLimit
 un:A.units+16*k+200<cLine
theorem Room.mono{j k:Nat}{A:Around}(r:Room k A)(h:j<=k):Room j A:=⟨r.hd,by have:=r.dp;lia,by have:=r.un;lia⟩
theorem Room.m{j k:Nat}{A:Around}(r:Room k A)(h:j<=k:=by decide):Room j A:=r.mono h
theorem Room.deeper{k:Nat}{A:Around}(r:Room (k+1) A)(env:Env):Room k (A.deeper env):=
 ⟨r.hd,by have:=r.dp;show A.depth+1+3*k+5<_;lia,by have:=r.un;show A.units+3+16*k+200<_;lia⟩
theorem Room.depth{k:Nat}{A:Around}(r:Room k A):A.depth<recursionLimit:=by have:=r.dp;lia
theorem Room.units{k:Nat}{A:Around}(r:Room k A):A.units+64<cLine:=by have:=r.un;lia
theorem Room.units0{k:Nat}{A:Around}(r:Room k A):A.units<cLine:=by have:=r.un;lia
def DI:TA:=fun _ H Q=>Q [] H
def vS(ta:TE)(tr:TA):TA:=fun σ H Q=>ta σ H fun x H1=>tr σ H1 fun xs H2=>Q (x::xs) H2
section
variable{X:Cx}{e:Expr}{es:List Expr}{te:TE}{t:TA}{pos:Pos}
theorem i4:PA X [] DI:=fun _ _ _ _ H Q I h=>Calls.spliced_nil ⟨[],H,I,.nil,h⟩
theorem cU(ha:PE X e te)(hr:PA X es t)(hs:starEach (e::es) X.env=(false,eval e X.env)::starEach es X.env:=by rfl):PA X (e::es) (vS te t):=by
 intro pos pr s σ H Q I h;rw[hs];show wpAny _ _ (spliced ((false,eval e X.env)::backTo pos (starEach es X.env))) _ _ s;refine Calls.spliced_cons (He (ha pr s σ H _ I h) fun u s1 Hh=>?_);obtain⟨x,H1,I1,r1,q1⟩:=Hh;exact He (hr pos pr s1 σ H1 _ I1 q1) fun us s2 ⟨xs,H2,I2,r2,q2⟩=>⟨x::xs,H2,I2,.cons r1 r2,q2⟩
def F1(t:TA):TE:=fun σ H Q=>t σ H fun xs H1=>xs.length<=sizeLine/\∀p,H1 p=none->Q (.ref p) (upd H1 p (.tup xs))
def F2(t:TA):TE:=fun σ H Q=>t σ H fun xs H1=>xs.length<=sizeLine/\∀p,H1 p=none->Q (.ref p) (upd H1 p (.lst xs))
theorem sJ{x1}(h:PA X es t):PE X (.Tuple es x1 pos) (F1 t):=by
 intro pr s σ H Q I hq;refine wpAny_Tuple_spliced (He (h pos pr s σ H _ I hq) fun us s1 ⟨xs,H1,I1,r,z,q⟩=>⟨by rw[<-r.length];exact z,?_⟩);have hf:H1 s1.heap.objs.size=none:=I1.hok.fresh (SV _);refine⟨.ref s1.heap.objs.size,upd H1 s1.heap.objs.size (.tup xs),I1.laid (t':=s1.toks) (fun b u e=>Heap.get?_push_of_some _ e) (SV _) ?_,rfl,q _ hf⟩;exact⟨z,us,r,⟨_,Heap.get?_push_size _ rfl,rfl,⟨_,rfl⟩,rfl⟩⟩
theorem Bw(h:PA X es t):PE X (.List es pos) (F2 t):=by
 intro pr s σ H Q I hq;refine wpAny_List_spliced (He (h pos pr s σ H _ I hq) fun us s1 ⟨xs,H1,I1,r,z,q⟩=>⟨by rw[<-r.length];exact z,?_⟩);have hf:H1 s1.heap.objs.size=none:=I1.hok.fresh (SV _);refine⟨.ref s1.heap.objs.size,upd H1 s1.heap.objs.size (.lst xs),I1.laid (t':=s1.toks) (fun b u e=>Heap.get?_push_of_some _ e) (SV _) ?_,rfl,q _ hf⟩;exact⟨z,us,0,r,Heap.get?_push_size _ rfl⟩
end
abbrev Sp:=List V->Hp->VK->XK->Prop
abbrev Lf:=List Env->Hp->Shared->XK->Value->Shared->Prop
structure Env0(P:Program)(w:World)(K:W.Frag)(mg:Str->Option Value)(base:Heap)(A:Around)(outer:List Env)(s:Shared)(H:Hp):Prop where
 frames:A.frames=some outer
 mod:Mod K mg base
 bs:∀b o,base.get? b=some o->s.heap.get? b=some o/\H b=none
 bsz:base.objs.size<=s.heap.objs.size
 funs:s.heap.FunFrames base outer
 frf:∀b∈Jb outer,H b=none
 hok:HOk P w H s.heap
 bare:AllBare s.gens
def CE(outer:List Env)(P:Program)(w:World)(H:Hp)(s:Shared)(Q:VK)(u:Value)(s':Shared):Prop:=
 ∃v H',s'.os=s.os/\AllBare s'.gens/\Un (Jb outer) [] H H' s.heap s'.heap/\HOk P w H' s'.heap/\RelV v u/\Q v H'
def CR(CX:Lf)(outer:List Env)(P:Program)(w:World)(H:Hp)(s:Shared)(Q:VK)(E:XK)(r:Result)(s':Shared):Prop:=
 match r with
 | .ok (.ret u)=>CE outer P w H s Q u s'
 | .ok _=>False
 | .error e=>CX outer H s E e s'
structure FnOk(P:Program)(w:World)(K:W.Frag)(mg:Str->Option Value)(base:Heap)(CX:Lf)(k:Nat)(f:Addr)(fd:FuncData)(ps:List Str)(sp:Sp):Prop where
 len:∀vs H Q E,sp vs H Q E->vs.length=ps.length
 run:∀(A:Around) (outer:List Env) (s:Shared) (H:Hp) (args:Args) (us:List Value) (vs:List V) (Q:VK) (E:XK),Room k A->Env0 P w K mg base A outer s H->BindsTo s fd args (ps.zip us)->Vals vs us->sp vs H Q E->
  codeAny (model P w) A (.call (.ref f) args) (CR CX outer P w H s Q E) s
theorem FnOk.imp{P:Program}{w:World}{K:W.Frag}{mg:Str->Option Value}{base:Heap}{CX:Lf}{k:Nat}{f:Addr}{fd:FuncData}{ps:List Str}{sp R3:Sp}(F:FnOk P w K mg base CX k f fd ps sp)
  (h:∀vs H Q E,R3 vs H Q E->sp vs H Q E):FnOk P w K mg base CX k f fd ps R3:=
 ⟨fun vs H Q E q=>F.len vs H Q E (h _ _ _ _ q),fun A outer s H args us vs Q E hr he hb hv hs=>F.run A outer s H args us vs Q E hr he hb hv (h _ _ _ _ hs)⟩
section
variable{X:Cx}{pr:List (Addr×Obj)}{σ:St}{H:Hp}{s s':Shared}
theorem Inv.env0(I:Inv X pr σ H s):Env0 X.prog X.w X.K X.mg X.base X.A X.stack s H:=
 ⟨I.ok.frames,I.ok.mod,I.bs,Tp I.ok.bsz I.sz,I.stack,I.stkFree,I.hok,I.bare⟩
theorem Inv.after{Q:VK}{u:Value}(I:Inv X pr σ H s)(h:CE X.stack X.prog X.w H s Q u s'):EP X pr σ Q u s':=by
 obtain⟨v,H',os,bare,un,hok,r,q⟩:=h;obtain⟨hh,g,d,t,R4⟩:=s';obtain rfl:R4=s.os:=os;exact⟨v,H',I.call (h':=hh) (g':=g) (d':=d) (t':=t) (ch:=[]) un hok bare (fun b z=>absurd z (by simp)),r,q⟩
end
def tCall(sp:Sp)(Nl:List V)(E:XK)(t:TA):TE:=fun σ H Q=>t σ H fun vs H1=>sp (vs++Nl) H1 Q E
def Binds(K:W.Frag)(fd:FuncData)(ps:List Str)(ds:List Value):Prop:=
 ∀(s:Shared) (us:List Value),K.In s.heap->(us++ds).length=ps.length->BindsTo s fd ⟨us,[]⟩ (ps.zip (us++ds))
theorem Binds.all{K:W.Frag}{fd:FuncData}{ps:List Str}(h:∀us:List Value,us.length=ps.length->bindArgs fd ⟨us,[]⟩=pure (ps.zip us)):Binds K fd ps []:=fun s us _ hl=>by
 rw[Ta]at hl ⊢;exact .of_eq (h us hl)
def sL(CX:Lf)(X:Cx)(E:XK):Prop:=∀(pr:List (Addr×Obj)) (σ:St) (H:Hp) (s:Shared) (e:Value) (s':Shared),Inv X pr σ H s->CX X.stack H s E e s'->X.xe e s'
section
variable{X:Cx}{CX:Lf}{k:Nat}{f C:Addr}{fd:FuncData}{ps:List Str}{sp:Sp}{Nl:List V}{ds:List Value}{E:XK}{x m:Str}{p pos apos:Pos}{e o:Expr}{es:List Expr}{ta:TE}{t:TA}
theorem Bx{pr:List (Addr×Obj)}{σ:St}{H:Hp}{s:Shared}{Q:VK}{us:List Value}{vs:List V}(F:FnOk X.prog X.w X.K X.mg X.base CX k f fd ps sp)(hr:Room k X.A)(hb:Binds X.K fd ps ds)(hd:Vals Nl ds)(hx:sL CX X E)
  (I:Inv X pr σ H s) (r:Vals vs us) (h:sp (vs++Nl) H Q E):wpAny (model X.prog X.w) X.A (call (.ref f) us) (EP X pr σ Q) X.xe s:=by
 have r2:Vals (vs++Nl) (us++ds):=r.append hd;have hl:(us++ds).length=ps.length:=by rw[<-r2.length];exact F.len _ _ _ _ h
 refine wpAny_call (WH (F.run X.A X.stack s H ⟨us,[]⟩ (us++ds) (vs++Nl) Q E hr I.env0 (hb s us I.kIn hl) r2 h) fun r s' hq=>?_);cases r with
 |error e=>exact hx pr σ H s e s' I hq
 |ok fl=>
  cases fl with
  |ret u=>exact I.after hq
  |next=>exact False.elim hq
  |brk=>exact False.elim hq
  |cont=>exact False.elim hq
theorem yJ(F:FnOk X.prog X.w X.K X.mg X.base CX k f fd ps sp)(hr:Room k X.A)(hg:Gl X x)(hm:X.mg x=some (.ref f))(hk:PySem.W.keepIn X.K (.ref f)=true)(hb:Binds X.K fd ps ds)(hd:Vals Nl ds)(hx:sL CX X E)
  (ha:PA X (e::es) t) (Ie:(x==("__debug__" : Str))=false:=by decide) (he:starEach (e::es) X.env=(false,eval e X.env)::starEach es X.env:=by rfl) (Ic:(backTo pos (starEach es X.env)).any (·.1)=false:=by rfl):
  PE X (.Call (.Name x p) (e::es) [] pos) (tCall sp Nl E t):=by
 intro pr s σ H Q I h;refine UJ (jG I hg hm ?_ Ie);refine Xb (h₀:=X.base) I.ok.mod.kin hk (He (ha pos pr s σ H _ I h) fun us s1 ⟨vs,H1,I1,r,q⟩=>⟨I1.kIn,?_⟩) he Ic;exact Bx F hr hb hd hx I1 r q
end
def PK(X:Cx)(O0:List Keyword)(t:TA):Prop:=
 ∀(pos:Pos) (pr:List (Addr×Obj)) (s:Shared) (σ:St) (H:Hp) (Q:List V->Hp->Prop),Inv X pr σ H s->t σ H Q->wpAny (model X.prog X.w) X.A (evalAll ((backToKw pos (keywordEach O0 X.env)).map (·.2))) (AP X pr σ Q) X.xe s
section
variable{X:Cx}{CX:Lf}{k:Nat}{f C:Addr}{fd:FuncData}{ps ks:List Str}{sp:Sp}{E:XK}{x m:Str}{p pos apos Lg:Pos}{e o:Expr}{es:List Expr}{O0:List Keyword}{te ta:TE}{t tk:TA}{nm:Option Str}
theorem By:PK X [] DI:=fun _ _ _ _ H Q I h=>wpAny_evalAll_nil ⟨[],H,I,.nil,h⟩
theorem yK(ha:PE X e te)(hr:PK X O0 t):PK X (⟨nm,e,Lg⟩::O0) (vS te t):=by
 intro pos pr s σ H Q I h;show wpAny _ _ (evalAll ((do let v <-eval e X.env;standAt pos;pure v)::(backToKw pos (keywordEach O0 X.env)).map (·.2))) _ _ s;refine wpAny_evalAll_cons (SM (He (ha pr s σ H _ I h) fun u s1 ⟨x,H1,I1,r1,q1⟩=>SM (Xc (SQ ?_))));exact He (hr pos pr s1 σ H1 _ I1 q1) fun us s2 ⟨xs,H2,I2,r2,q2⟩=>⟨x::xs,H2,I2,.cons r1 r2,q2⟩
variable{g:List Value->List Value->List Value}{gV:List V->List V->List V}
end
structure FnScope(N P:List Str)(sc:Scope):Prop where
 kind:sc.kind=.function
 co:sc.isCoroutine=false
 gen:sc.isGenerator=false
 nd:N.Nodup
 pre:N.take P.length=P
 par:∀x∈P,sc.names.lookup x=some .local\/sc.names.lookup x=some .cell
 nofree:∀y∈sc.names,y.2≠.free
theorem fs{N P:List Str}{sc:Scope}(a:sc.kind=.function:=by rfl)(b:sc.isCoroutine=false:=by rfl)(c:sc.isGenerator=false:=by rfl)(d:N.Nodup:=by decide +kernel)(e:N.take P.length=P:=by rfl)(f:∀x∈P,sc.names.lookup x=some .local\/sc.names.lookup x=some .cell:=by decide +kernel)(g:∀y∈sc.names,y.2≠.free:=by decide +kernel):FnScope N P sc:=⟨a,b,c,d,e,f,g⟩
theorem mM{kindOf:Str->Option NameKind}{x:Str}:∀{binds:List (Str×Value)}{m:Str->Option Value},(∀v,(x,v)∉binds)->bindL kindOf binds m x=m x
 |[],_,_=>rfl
 |(n,v)::r,m,h=>by
  unfold bindL;rw[mM fun w hw=>h w (SU _ hw)];split
  ·have:x≠n:=by rintro rfl;exact h v SN
   simp[this]
  ·rfl
theorem mO{kindOf:Str->Option NameKind}{x:Str}:∀{binds:List (Str×Value)}{m:Str->Option Value},(∀v,(x,v)∉binds)->bindC kindOf binds m x=m x
 |[],_,_=>rfl
 |(n,v)::r,m,h=>by
  unfold bindC;rw[mO fun w hw=>h w (SU _ hw)];split
  ·rfl
  ·have:x≠n:=by rintro rfl;exact h v SN
   simp[this]
theorem mP{kindOf:Str->Option NameKind}{x:Str}{v:Value}:∀{P:List Str}{vs:List Value}{i:Nat}{m:Str->Option Value},P.Nodup->P[i]?=some x->vs[i]?=some v->kindOf x=some .local->
  bindL kindOf (P.zip vs) m x=some v
 |[],_,_,_,_,h,_,_=>by simp at h
 |_::_,[],_,_,_,_,h,_=>by simp at h
 |p::P,w::vs,0,m,nd,h1,h2,hk=>by
  simp at h1 h2;subst h1;subst h2;show bindL kindOf ((p,w)::P.zip vs) m p=_;unfold bindL;rw[mM fun v hv=>(Tt.mp nd).1 (UQ hv).1,S1 hk];simp
 |p::P,w::vs,i+1,m,nd,h1,h2,hk=>by
  show bindL kindOf ((p,w)::P.zip vs) m x=_;unfold bindL;exact mP (i:=i) (Tt.mp nd).2 (by simpa using h1) (by simpa using h2) hk
theorem mQ{kindOf:Str->Option NameKind}{x:Str}{v:Value}:∀{P:List Str}{vs:List Value}{i:Nat}{m:Str->Option Value},P.Nodup->P[i]?=some x->vs[i]?=some v->kindOf x≠some .local->
  bindC kindOf (P.zip vs) m x=some v
 |[],_,_,_,_,h,_,_=>by simp at h
 |_::_,[],_,_,_,_,h,_=>by simp at h
 |p::P,w::vs,0,m,nd,h1,h2,hk=>by
  simp at h1 h2;subst h1;subst h2;show bindC kindOf ((p,w)::P.zip vs) m p=_;unfold bindC;rw[mO fun v hv=>(Tt.mp nd).1 (UQ hv).1,S4 hk];simp
 |p::P,w::vs,i+1,m,nd,h1,h2,hk=>by
  show bindC kindOf ((p,w)::P.zip vs) m x=_;unfold bindC;exact mQ (i:=i) (Tt.mp nd).2 (by simpa using h1) (by simpa using h2) hk
def hJ(N:List Str)(vs:List V):St:=vs.map some++List.replicate (N.length-vs.length) none
noncomputable def qS(CX:Lf)(P:Program)(w:World)(K:W.Frag)(mg:Str->Option Value)(base:Heap)(N:List Str)(qual:Str)(scope:Scope)(f:Addr)(cd:Value)(A:Around)(outer:List Env)(s:Shared)(H:Hp)(E:XK):Cx where
 prog:=P
 w:=w
 K:=K
 mg:=mg
 base:=base
 A:=A.deeper (envOfC qual scope s.heap.objs.size f cd)
 N:=N
 s₀:=s
 H₀:=H
 env:=envOfC qual scope s.heap.objs.size f cd
 outer:=outer
 stack:=envOfC qual scope s.heap.objs.size f cd::outer
 ex:=[]
 calm:=true
 fn:=fun _=>true
 pn:=[]
 xe:=fun e s'=>wpAny (model P w) (A.deeper (envOfC qual scope s.heap.objs.size f cd)) (leaving (envOfC qual scope s.heap.objs.size f cd) e) (fun _ Q2=>CX outer H s E e Q2) (fun e' Q2=>CX outer H s E e' Q2) s'
theorem pI{sc:Scope}{n:Nat}{x:Str}(h:sc.names.lookup x=some .cell):∃c,(cellsFrom n sc.names []).lookup x=some c:=by
 have q:=Wu sc.names n [] (.inl h);exact T7.mp q
theorem sM{CX:Lf}{P:Program}{w:World}{K:W.Frag}{mg:Str->Option Value}{base:Heap}{N ps:List Str}{qual:Str}{scope:Scope}{f:Addr}{cd:Value}{A:Around}{outer:List Env}{s s1:Shared}{H:Hp}{E:XK}{us:List Value}{vs:List V}
  (S:FnScope N ps scope) (hd:A.handled=none) (e0:Env0 P w K mg base A outer s H) (hl:vs.length=ps.length) (r:Vals vs us)
  (x:InCallC s s.heap.objs.size (bindL (envOfC qual scope s.heap.objs.size f cd).kindOf (ps.zip us) fun _=>none) (cellsFrom (s.heap.objs.size+1) scope.names []) (bindC (envOfC qual scope s.heap.objs.size f cd).kindOf (ps.zip us) fun _=>none) s1):
  Inv (qS CX P w K mg base N qual scope f cd A outer s H E) [] (hJ N vs) H s1:=by
 have Ic:ps.length<=N.length:=by have:=TY List.length S.pre;rw[TJ]at this;lia
 obtain⟨h1,tk,rfl,hk⟩:=x.done;have O1:∀b:Addr,b∉(qS CX P w K mg base N qual scope f cd A outer s H E).ex:=fun b z=>absurd (show b∈([]:List Addr) from z) (by simp)
 refine⟨⟨e0.mod,S.kind,rfl,rfl,SV _,fun y z c h1 h2=>?_,fun y hy=>?_,fun y c _ h=>?_,fun _=>hd,Around.frames_deeper e0.frames,.inr ⟨rfl,rfl⟩,fun b z=>absurd z (O1 b),e0.bs,e0.bsz,fun b _ _=>O1 b,fun b z=>absurd z (O1 b),e0.funs,e0.frf⟩,
  rfl,e0.bare,Un.kept hk,⟨_,x.toInCall.ns,fun i y v h1 h2 h3=>?_⟩,fun y c h=>⟨_,x.cell y c h⟩,e0.hok.fresh (SV _),fun y c h=>?_,fun p hp=>absurd (show p∈([]:List (Addr×Obj)) from hp) (by simp),e0.hok.kept hk,?_⟩
 ·exact name_of_addr x.apart (Uz h1) (Uz h2)
 ·have hy:scope.names.lookup y=some .cell\/scope.names.lookup y=some .free:=hy;rcases hy with hy|hy
  ·exact pI hy
  ·exact absurd rfl (S.nofree _ (Uz hy))
 ·exact WE (x.above y c (Uz h))
 ·have hi:i<vs.length:=by
   unfold hJ at h2;by_cases hi:i<vs.length
   ·exact hi
   ·rw[List.getElem?_append_right (by simpa using hi)]at h2;rw[List.getElem?_replicate]at h2;split at h2 <;> cases h2
  have ha:vs[i]?=some v:=by
   unfold hJ at h2;rw[List.getElem?_append_left (by simpa using hi),List.getElem?_map]at h2;cases e:vs[i]? with
   |none=>rw[e]at h2;cases h2
   |some a=>rw[e]at h2;cases h2;rfl
  obtain⟨u,hu,rv⟩:=r.get ha;have hp:ps[i]?=some y:=by
   rw[<-S.pre,List.getElem?_take_of_lt (by lia)];exact h1
  have R5:ps.Nodup:=by rw[<-S.pre];exact S.nd.sublist (V6 _ _)
  refine⟨u,rv,?_⟩;rcases S.par y (Ts hp) with k|k
  ·exact .inl ⟨k,mP R5 hp hu k⟩
  ·obtain⟨c,e⟩:=pI (n:=s.heap.objs.size+1) k;refine .inr ⟨.inl k,c,e,?_⟩;have q:=x.cell y c e;rw[mQ R5 hp hu (by show scope.names.lookup y≠_;rw[k];decide)]at q;exact q
 ·exact e0.hok.fresh (WE (x.above y c (Uz h)))
 ·unfold hJ;show _=N.length;rw[Tq,SO,List.length_replicate];lia
theorem Bz{CX:Lf}{P:Program}{w:World}{K:W.Frag}{mg:Str->Option Value}{base:Heap}{k:Nat}{f:Addr}{name qual:Str}{params:Arguments}{body:List Stmt}{scope:Scope}{dV kV doc pm Hf ct oc:Value}{an od:Option Addr}
  {LA:Array (Option Value)}{N ps:List Str}{sp:Sp}(lk:K.lookup f=some ⟨oc,od,.func (PySem.W.fnOf name qual params body scope dV kV doc pm an Hf ct),LA⟩) (Le:PySem.W.codeIn K Hf qual=true) (S:FnScope N ps scope)
  (len:∀vs H Q E,sp vs H Q E->vs.length=ps.length)
  (Kd:∀(A:Around) (outer:List Env) (s:Shared) (H:Hp) (vs:List V) (Q:VK) (E:XK),Room k (A.deeper (envOfC qual scope s.heap.objs.size f Hf))->sp vs H Q E->
   ∃t,PSs (qS CX P w K mg base N qual scope f Hf A outer s H E) body t/\t {nx:=fun _ H'=>Q .non H',rt:=Q} (hJ N vs) H):
  FnOk P w K mg base CX (k+1) f (PySem.W.fnOf name qual params body scope dV kV doc pm an Hf ct) ps sp:=by
 refine⟨len,fun A outer s H args us vs Q E hr e0 hb r K1=>?_⟩;have hl:=len _ _ _ _ K1;have KX:K.In s.heap:=e0.mod.kin.keeps fun b o e=>(e0.bs b o e).1
 have lim:s.heap.NoLimit:=e0.mod.nolimit.keeps fun b o e=>(e0.bs b o e).1
 have Jy:∀y∈ps.zip us,scope.names.lookup y.1=some .local\/(scope.names.lookup y.1=some .cell/\((cellsFrom (s.heap.objs.size+1) scope.names []).lookup y.1).isSome=true):=fun G9 hy=>by
  obtain⟨n,v⟩:=G9;rcases S.par n (UQ hy).1 with q|q
  ·exact .inl q
  ·exact .inr ⟨q,Wu _ _ _ (.inl q)⟩
 refine codeAny_call_function hr.depth (KX _ _ lk) rfl S.co S.gen rfl (PySem.W.codeRec_of KX Le) (hb _ _ _ _ ?_);refine wpAny_newFunctionEnv_cells S.kind Jy fun env he s1 x=>?_
 subst he;refine⟨lim.keeps x.toInCall.keep,codeAny_func ?_⟩;obtain⟨t,ht,hq⟩:=Kd A outer s H vs Q E (hr.deeper _) K1;have I:Inv (qS CX P w K mg base N qual scope f Hf A outer s H E) [] (hJ N vs) H s1:=sM S hr.hd e0 hl r x;refine TZ (ht [] s1 (hJ N vs) H _ I hq) (fun fl s' hs=>?_) fun e s' hs=>hs
 have fin:∀{σ':St}{H':Hp}{v:V}{u:Value},Inv (qS CX P w K mg base N qual scope f Hf A outer s H E) [] σ' H' s'->RelV v u->Q v H'->CE outer P w H s Q u s':=
  fun{σ' H' v u} J rv q=>⟨v,H',J.os,J.bare,J.base,J.hok,rv,q⟩
 cases fl with
 |ret u=>
  obtain⟨v,σ',H',J,rv,q⟩:=hs;exact fin J rv q
 |next=>
  obtain⟨σ',H',J,q⟩:=hs;exact fin (v:=V.non) (u:=Value.none) J rfl q
 |brk=>
  obtain⟨_,_,_,q⟩:=hs;exact False.elim q
 |cont=>
  obtain⟨_,_,_,q⟩:=hs;exact False.elim q
section
variable{X:Cx}{x:Str}{p pos:Pos}{e:Expr}{es:List Expr}{t:TA}{id T:String}{r:List V->Hp->VK->Prop}
def Q3(r:List V->Hp->VK->Prop)(t:TA):TE:=fun σ H Q=>t σ H fun vs H1=>r vs H1 Q
theorem jy(hc:c6 X (.builtin id) r)(hg:Gl X x)(hm:X.mg x=none)(hv:bootBuiltins x=some (.builtin id))(ha:PA X (e::es) t)(hn:x≠"__name__":=by decide)(Ie:(x==("__debug__" : Str))=false:=by decide)
  (he:starEach (e::es) X.env=(false,eval e X.env)::starEach es X.env:=by rfl) (Ic:(backTo pos (starEach es X.env)).any (·.1)=false:=by rfl):PE X (.Call (.Name x p) (e::es) [] pos) (Q3 r t):=by
 intro pr s σ H Q I h;refine UJ (kM I hg hm hv ?_ hn Ie);exact PyProof.Rows.callWith_builtin1 (He (ha pos pr s σ H _ I h) fun us s1 ⟨vs,H1,I1,r1,q1⟩=>hc pr s1 σ H1 vs us Q I1 r1 q1) he Ic
theorem sN(hc:c6 X (.type T) r)(hg:Gl X x)(hm:X.mg x=none)(hv:bootBuiltins x=some (.type T))(ha:PA X (e::es) t)(hn:x≠"__name__":=by decide)(Ie:(x==("__debug__" : Str))=false:=by decide)
  (he:starEach (e::es) X.env=(false,eval e X.env)::starEach es X.env:=by rfl) (Ic:(backTo pos (starEach es X.env)).any (·.1)=false:=by rfl):PE X (.Call (.Name x p) (e::es) [] pos) (Q3 r t):=by
 intro pr s σ H Q I h;refine UJ (kM I hg hm hv ?_ hn Ie);exact U3 (He (ha pos pr s σ H _ I h) fun us s1 ⟨vs,H1,I1,r1,q1⟩=>hc pr s1 σ H1 vs us Q I1 r1 q1) he Ic
end
end L2
namespace HT
open PySem PyProof.Rows
section
open PySem.SeqAt
open PySem.AutoSeq1 (wpAny_loadPart')
open PySem.MeetsSeq PySem.MeetsSeq2 PySem.MeetsSeq3
end
section
variable{prog:Program}{w:World}{A:Around}{E:Value->Shared->Prop}{s:Shared}
theorem yL{t b:Addr}{vs ws:List Value}{Q:Value->Shared->Prop}(ht:IsTup s.heap t vs.toArray)(hb:IsTup s.heap b ws.toArray)(hv:vs≠[])
  (h1:ws=[]->Q (.ref t) s) (h2:ws≠[]->Q (.ref s.heap.objs.size) {s with heap:=s.heap.push {cls:=.type "tuple",data:=.seq (vs++ws).toArray}})
  (hsz:vs.length+ws.length<=sizeLine):wpAny (model prog w) A (binaryOp .Add (.ref t) (.ref b)) Q E s:=by
 obtain⟨⟨cls,dd,data,sl⟩,ho,hc,n,hd⟩:=id ht;obtain⟨⟨Mk,K2,data2,K3⟩,Jk,Ke,n2,hd2⟩:=id hb;simp only at hc hd Ke hd2;subst hc hd Ke hd2;have e:vs.toArray++ws.toArray=(vs++ws).toArray:=by simp
 by_cases hw:ws=[]
 ·exact WI ⟨_,ho,rfl⟩ ⟨_,Jk,rfl⟩ Wq Xd Vt Vo (Vj _ _)
   (tuple_addW1 t b vs.toArray ws.toArray n n2 dd K2 sl K3 (by simpa using hv) (by simp[hw])) ⟨ho,Jk,h1 hw⟩
 ·refine WI ⟨_,ho,rfl⟩ ⟨_,Jk,rfl⟩ Wq Xd Vt Vo (Vj _ _)
   (tuple_addW2 t b vs.toArray ws.toArray n n2 dd K2 sl K3 (by simpa using hv) (by simpa using hw) (by rw[SR,SR];exact hsz)) ⟨ho,Jk,?_⟩
  rw[e];exact h2 hw
def sIx(n d:Nat):Option Int->Nat
 |none=>d
 |some v=>if v<0 then(v+(n:Int)).toNat else min v.toNat n
theorem lz(n d:Nat):sIx n d none=d:=rfl
theorem lA(n d k:Nat):sIx n d (some (k:Int))=min k n:=by
 show(if(k:Int)<0 then((k:Int)+(n:Int)).toNat else min (k:Int).toNat n)=min k n;rw[S4 (by lia),T8]
theorem sO(n d:Nat)(hd:d<=n)(o:Option Int):sIx n d o<=n:=by
 cases o with
 |none=>exact hd
 |some v=>
  show(if v<0 then(v+(n:Int)).toNat else min v.toNat n)<=n;by_cases hv:v<0
  ·rw[S1 hv];lia
  ·rw[S4 hv];exact Nat.min_le_right _ _
theorem sP(v:Int)(n d:Nat):(if v<0 then max (v+(n:Int)) 0 else min v (n:Int))=((sIx n d (some v):Nat):Int):=by
 show(if v<0 then max (v+(n:Int)) 0 else min v (n:Int))=(((if v<0 then(v+(n:Int)).toNat else min v.toNat n):Nat):Int)
 by_cases hv:v<0
 ·simp only[S1 hv];lia
 ·simp only[S4 hv];lia
theorem qT(lo hi:Option Int)(n:Nat):Builtin.Slice.sliceAdjust lo hi 1 (n:Int)=(((sIx n 0 lo:Nat):Int),((sIx n n hi:Nat):Int)):=by
 have h1:¬ ((1:Int)<0):=by lia
 unfold Builtin.Slice.sliceAdjust;simp only[h1,VL];refine Prod.ext ?_ ?_
 ·cases lo with
  |none=>rfl
  |some v=>exact sP v n 0
 ·cases hi with
  |none=>rfl
  |some v=>exact sP v n n
theorem qU(i j:Nat):Builtin.Slice.slicePlaces (i:Int) (j:Int) 1=j-i:=by
 unfold Builtin.Slice.slicePlaces;have h1:(1:Int)>0:=by lia
 simp only[h1,Vu,Int.ediv_one];split <;> lia
theorem kO{v:Value}{o:Option Int}{Q:Option Int->Shared->Prop}(p:IsPart v o)(h:Q o s):wpAny (model prog w) A (Builtin.Slice.slicePartIndex v) Q E s:=by
 cases p with
 |none=>exact slicePart_none h
 |int i t=>exact slicePart_int h
theorem eY{sl:Addr}{vl vu:Value}{lo hi:Option Int}{n:Nat}{Q:Int×Int×Nat->Shared->Prop}(hs:s.heap.IsSliceOf sl vl vu .none)(pl:IsPart vl lo)(pu:IsPart vu hi)
  (h:Q (((sIx n 0 lo:Nat):Int),1,sIx n n hi-sIx n 0 lo) s):wpAny (model prog w) A (Builtin.Slice.sliceApplied (.ref sl) (pure (n:Int))) Q E s:=by
 obtain⟨os,K4,Qo,NB⟩:=id hs;unfold Builtin.Slice.sliceApplied Builtin.Slice.sliceFields;refine SM (SM (Uc K4 NB (x:=vl) rfl (SM (Uc K4 NB (x:=vu) rfl (SM (Uc K4 NB (x:=.none) rfl (SQ ?_)))))));refine SM (slicePart_none ?_);show wpAny _ _ (if((1:Int)==0)=true then _ else _) _ _ s;rw[S4 (by decide)];refine SM (kO pl (SM (kO pu (SM (SQ ?_)))));show wpAny _ _ (match Builtin.Slice.sliceAdjust lo hi 1 (n:Int) with|(lo,hi)=>pure (lo,(1:Int),Builtin.Slice.slicePlaces lo hi 1)) _ _ s;rw[qT lo hi n];show wpAny _ _ (pure (((sIx n 0 lo:Nat):Int),(1:Int),Builtin.Slice.slicePlaces ((sIx n 0 lo:Nat):Int) ((sIx n n hi:Nat):Int) 1)) _ _ s;rw[qU];exact SQ h
theorem vT(xs:Array Value)(i k:Nat):((List.range k).filterMap fun(m:Nat)=>xs[((i:Int)+(m:Int)*1).toNat]?).toArray=((xs.toList.drop i).take k).toArray:=by
 have e:(fun(m:Nat)=>xs[((i:Int)+(m:Int)*1).toNat]?)=fun m=>xs[i+m]?:=by
  funext m
  have:((i:Int)+(m:Int)*1).toNat=i+m:=by lia
  rw[this]
 rw[e];have:=pick_run xs i k;rw[List.filterMap_map]at this;have e2:((fun x=>xs[x]?)∘fun x=>i+x)=fun m=>xs[i+m]?:=rfl
 rw[e2]at this;rw[this]
theorem iK{t sl:Addr}{items:Array Value}{vl vu:Value}{lo hi:Option Int}{Q:Value->Shared->Prop}(ht:IsTup s.heap t items)(hs:s.heap.IsSliceOf sl vl vu .none)(pl:IsPart vl lo)(pu:IsPart vu hi)
  (hw:¬ (sIx items.size 0 lo=0/\sIx items.size items.size hi=items.size))
  (h:Q (.ref s.heap.objs.size) {s with heap:=s.heap.push {cls:=.type "tuple",data:=.seq ((items.toList.drop (sIx items.size 0 lo)).take (sIx items.size items.size hi-sIx items.size 0 lo)).toArray}})
  (hsz:items.size<=sizeLine):wpAny (model prog w) A (getItem (.ref t) (.ref sl)) Q E s:=by
 have K5:sizeOk (.seq ((items.toList.drop (sIx items.size 0 lo)).take (sIx items.size items.size hi-sIx items.size 0 lo)).toArray):=by
  show((items.toList.drop (sIx items.size 0 lo)).take (sIx items.size items.size hi-sIx items.size 0 lo)).toArray.size<=sizeLine;rw[SR,TJ,Up,T5];lia
 have hj:sIx items.size items.size hi<=items.size:=sO _ _ (SV _) hi;obtain⟨os,K4,Qo,NB⟩:=id hs;have Q4:s.TypeIs (.ref sl) "slice":=⟨os,K4,Qo⟩
 unfold getItem;try with_reducible refine UK ?_
 first|refine SM (SQ ?_)|skip
 refine SM (wpAny_sequenceKey ht.typeIs (by decide) ?_);refine SM (wpAny_callSpecial?_slot (name:=Str.ofString "__getitem__") ht.typeIs Uj
  (TU Uj ht.typeIs entry_tuple_getitem ?_ (args_tuple_getitem _ _)))
 show wpAny _ _ (Builtin.Tuple.tupleItemsOf (.ref t) >>= _) _ _ s;refine SM (tupleItemsOf_ ht ?_);refine SM (UU Q4 ?_);rw[S1 (by decide)];refine SM (eY hs pl pu ?_);have R6:¬ ((((sIx items.size 0 lo:Nat):Int)==0&&(1:Int)==1&&(sIx items.size items.size hi-sIx items.size 0 lo)==items.size)=true):=by
  intro q;rw[SY,SY]at q;have q1:((sIx items.size 0 lo:Nat):Int)=0:=eq_of_beq q.1.1;have q2:sIx items.size items.size hi-sIx items.size 0 lo=items.size:=eq_of_beq q.2;exact hw ⟨by lia,by lia⟩
 show wpAny _ _ (if(((sIx items.size 0 lo:Nat):Int)==0&&(1:Int)==1&&(sIx items.size items.size hi-sIx items.size 0 lo)==items.size)=true then _ else _) _ _ s;rw[S4 R6,vT];first
  |exact SM (m:=Builtin.Tuple.tupleExact _) (TM (SQ ⟨_,rfl,SQ h⟩) K5)
  |exact SM (m:=Builtin.Tuple.tupleExact _) (TM (SM (SQ (SQ ⟨_,rfl,SQ h⟩))) K5)
  |exact SM (SM (m:=Builtin.Tuple.tupleExact _) (TM (SQ (SQ ⟨_,rfl,SQ h⟩)) K5))
  |exact SM (SM (m:=Builtin.Tuple.tupleExact _) (TM (SQ ⟨_,rfl,SQ h⟩) K5))
end
end HT
namespace L2
open PySem PySem.Spec PyProof.Rows
abbrev TO:=St->Hp->(Option Int->Hp->Prop)->Prop
def PO(X:Cx)(e:Option Expr)(t:TO):Prop:=
 ∀(pr:List (Addr×Obj)) (s:Shared) (σ:St) (H:Hp) (Q:Option Int->Hp->Prop),Inv X pr σ H s->t σ H Q->
  wpAny (model X.prog X.w) X.A (evalPart e X.env) (fun u s'=>∃o H',Inv X pr σ H' s'/\IsPart u o/\Q o H') X.xe s
def yM:TO:=fun _ H Q=>Q none H
def Ea(t:TE):TO:=fun σ H Q=>t σ H fun x H1=>∃i,x=.int i/\Q (some i) H1
section
variable{X:Cx}{e:Expr}{te:TE}{lo hi:Option Expr}{tl th:TO}{pos p2:Pos}
theorem yN:PO X none yM:=by
 intro pr s σ H Q I h;rw[evalPart_none];exact SQ ⟨none,H,I,.none,h⟩
theorem yO(h:PE X e te):PO X (some e) (Ea te):=by
 intro pr s σ H Q I hw;rw[evalPart_some];refine He (h pr s σ H _ I hw) fun u s1 Hh=>?_
 obtain⟨x,H1,I1,r1,q1⟩:=Hh;obtain⟨i,rfl,q⟩:=q1;obtain⟨t,rfl⟩:=r1;exact⟨some i,H1,I1,.int i t,q⟩
def NC(X:Cx)(r:V->Option Int->Option Int->Hp->VK->Prop):Prop:=
 ∀(pr:List (Addr×Obj)) (s:Shared) (σ:St) (H:Hp) (x:V) (v vl vu:Value) (lo hi:Option Int) (sl:Addr) (Q:VK),Inv X pr σ H s->RelV x v->s.heap.IsSliceOf sl vl vu .none->IsPart vl lo->IsPart vu hi->r x lo hi H Q->
  ∃T id,typeLookup (.type T) "__getitem__" = pure (some (.builtin id))/\s.TypeIs v T/\wpAny (model X.prog X.w) X.A (getItem v (.ref sl)) (EP X pr σ Q) X.xe s
def tSl(r:V->Option Int->Option Int->Hp->VK->Prop)(te:TE)(tl th:TO):TE:=fun σ H Q=>te σ H fun x H1=>tl σ H1 fun l H2=>th σ H2 fun u H3=>r x l u H3 Q
theorem vU{r:V->Option Int->Option Int->Hp->VK->Prop}(hr:NC X r)(he:PE X e te)(hl:PO X lo tl)(hu:PO X hi th):PE X (.Subscript e (.Slice lo hi none p2) pos) (tSl r te tl th):=by
 intro pr s σ H Q I h;refine Subscript_ (He (he pr s σ H _ I h) fun v s1 Hh=>?_);obtain⟨x,H1,I1,r1,q1⟩:=Hh;refine wpAny_Slice (He (hl pr s1 σ H1 _ I1 q1) fun vl s2 ⟨l,H2,I2,pl,q2⟩=>He (hu pr s2 σ H2 _ I2 q2) fun vu s3 Hh=>?_);obtain⟨u,H3,I3,pu,q3⟩:=Hh;rw[evalPart_none];refine SQ ?_;have I4:Inv X pr σ H3 {s3 with heap:=s3.heap.push {cls:=.type "slice",data:=.fields #[vl,vu,.none]}}:=I3.kept (t':=s3.toks) fun b ob q=>Heap.get?_push_of_some _ q
 obtain⟨T,id,hT,ht,hg⟩:=hr pr {s3 with heap:=s3.heap.push {cls:=.type "slice",data:=.fields #[vl,vu,.none]}} σ H3 x v vl vu l u s3.heap.objs.size Q I4 r1 (Heap.IsSliceOf.new ..) pl pu q3;show wpAny (model X.prog X.w) X.A (subscriptTail e (.Slice lo hi none p2) v (.ref s3.heap.objs.size)) (EP X pr σ Q) X.xe {s3 with heap:=s3.heap.push {cls:=.type "slice",data:=.fields #[vl,vu,.none]}};exact tail_any (ops:=[.ref s3.heap.objs.size,v]) ht hT hg (by with_unfolding_all rfl)
def xP(xs:List V)(lo hi:Option Int):List V:=(xs.drop (HT.sIx xs.length 0 lo)).take (HT.sIx xs.length xs.length hi-HT.sIx xs.length 0 lo)
theorem jH(xs:List V)(lo hi:Option Int):(xP xs lo hi).length<=xs.length:=by
 unfold xP;rw[TJ,Up];lia
def F3(K:W.Frag):V->Option Int->Option Int->Hp->VK->Prop:=fun x lo hi H Q=>∃a xs,x=.ref a/\SqT K H a xs/\
 ¬ (HT.sIx xs.length 0 lo=0/\HT.sIx xs.length xs.length hi=xs.length)/\∀p,H p=none->Q (.ref p) (upd H p (.tup (xP xs lo hi)))
theorem BA:NC X (F3 X.K):=by
 intro pr s σ H x v vl vu lo hi sl Q I rx hs pl pu h;obtain⟨a,xs,rfl,hx,hw,q⟩:=h;cases rx;obtain⟨GQ,r,ht,hz⟩:=I.tuple hx;have hlen:GQ.toArray.size=xs.length:=by rw[SR];exact r.length.symm
 refine⟨"tuple",_,PyProof.Rows.slot_tuple_getitem.lookup,ht.typeIs,?_⟩;refine HT.iK ht hs pl pu (by rw[hlen];exact hw) ?_ (by rw[hlen];exact hz);rw[hlen];refine⟨.ref s.heap.objs.size,_,I.laid (t':=s.toks) (o:=.tup (xP xs lo hi)) (fun b ob q=>Heap.get?_push_of_some _ q) (SV _) ?_,rfl,q _ (I.hok.fresh (SV _))⟩;exact⟨Tp (jH xs lo hi) hz,_,(r.drop (HT.sIx xs.length 0 lo)).take (HT.sIx xs.length xs.length hi-HT.sIx xs.length 0 lo),IsTupN.new _ _⟩
def Eb(K:W.Frag):R2:=fun x y H Q=>∃a b xs ys,x=.ref a/\y=.ref b/\SqT K H a xs/\SqT K H b ys/\xs≠[]/\xs.length+ys.length<=sizeLine/\
 (ys=[]->Q (.ref a) H)/\(ys≠[]->∀p,H p=none->Q (.ref p) (upd H p (.tup (xs++ys))))
theorem Vals.nil_iff{xs:List V}{us:List Value}(r:Vals xs us):us=[]<->xs=[]:=by
 cases r with
 |nil=>simp
 |cons _ _=>simp
theorem yP:HI X (binaryOp .Add) (Eb X.K):=by
 intro pr s σ H x y v u Q I rx ry h;obtain⟨a,b,xs,ys,rfl,rfl,ha,hb,hx,hz,q1,q2⟩:=h;cases rx;cases ry;obtain⟨GQ,r1,p1,_⟩:=I.tuple ha;obtain⟨Kv,r2,p2,_⟩:=I.tuple hb;refine HT.yL p1 p2 (fun z=>hx (r1.nil_iff.mp z)) (fun z=>⟨.ref a,H,I,rfl,q1 (r2.nil_iff.mp z)⟩) (fun z=>?_) (by rw[<-r1.length,<-r2.length];exact hz);refine⟨.ref s.heap.objs.size,_,I.laid (t':=s.toks) (o:=.tup (xs++ys)) (fun b ob q=>Heap.get?_push_of_some _ q) (SV _) ?_,rfl,q2 (fun w=>z (r2.nil_iff.mpr w)) _ (I.hok.fresh (SV _))⟩;exact⟨by rw[Tq];exact hz,_,r1.append r2,IsTupN.new _ _⟩
end
def ixN(n:Nat)(i:Int):Option Nat:=if 0<=i then(if i<n then some i.toNat else none) else if -(n:Int)<=i then some (i+n).toNat else none
def IU{α:Type}(xs:List α)(i:Int):Option α:=(ixN xs.length i).bind fun j=>xs[j]?
theorem sQ{n:Nat}{i:Int}{j:Nat}(h:ixN n i=some j):seqIndex? i n=some j/\j<n/\-(n:Int)<=i/\i<n:=by
 unfold ixN at h;by_cases h0:0<=i
 ·rw[S1 h0]at h;by_cases h1:i<n
  ·rw[S1 h1]at h;have e:i.toNat=j:=Tf h;exact⟨by rw[seqIndex_of h0 h1,e],by lia,by lia,h1⟩
  ·rw[S4 h1]at h;cases h
 ·rw[S4 h0]at h;by_cases h1:-(n:Int)<=i
  ·rw[S1 h1]at h;have e:(i+n).toNat=j:=Tf h;exact⟨by rw[seqIndex_neg (by lia) h1,e],by lia,h1,by lia⟩
  ·rw[S4 h1]at h;cases h
theorem oQ{α:Type}{xs:List α}{i:Int}{v:α}(h:IU xs i=some v):∃j,seqIndex? i xs.length=some j/\xs[j]?=some v/\j<xs.length/\-(xs.length:Int)<=i/\i<xs.length:=by
 unfold IU at h;cases e:ixN xs.length i with
 |none=>rw[e]at h;cases h
 |some j=>
  rw[e]at h;obtain⟨h1,h2,h3,h4⟩:=sQ e;exact⟨j,h1,h,h2,h3,h4⟩
theorem gQ{α:Type}{xs:List α}{j:Nat}{v:α}(h:xs[j]?=some v):IU xs (j:Int)=some v:=by
 have hj:j<xs.length:=(List.getElem?_eq_some_iff.mp h).1;have e:ixN xs.length (j:Int)=some j:=by
  unfold ixN;rw[S1 (by lia),S1 (by lia)];simp
 unfold IU;rw[e];exact h
def sR(b:Expr):Prop:=∀o i,subscripted b false o i=operate [o,i] (getItem o i)
def O2(X:Cx)(r:R2):Prop:=
 ∀(value slice:Expr) (pr:List (Addr×Obj)) (s:Shared) (σ:St) (H:Hp) (x y:V) (v u:Value) (Q:VK),Inv X pr σ H s->RelV x v->RelV y u->r x y H Q->
  subscripted slice false v u=operate [v,u] (getItem v u)->wpAny (model X.prog X.w) X.A (subscriptTail value slice v u) (EP X pr σ Q) X.xe s
def Nm(X:Cx)(id:String)(r:V->List V->Hp->VK->Prop):Prop:=
 ∀(pr:List (Addr×Obj)) (s:Shared) (σ:St) (H:Hp) (x:V) (xs:List V) (v:Value) (us:List Value) (Q:VK),Inv X pr σ H s->RelV x v->Vals xs us->r x xs H Q->
  wpAny (model X.prog X.w) X.A (call (.builtin id) (v::us)) (EP X pr σ Q) X.xe s
section
variable{X:Cx}{a b:Expr}{ta tb:TE}{pos:Pos}
theorem Ec{r:R2}(hr:O2 X r)(ha:PE X a ta)(hb:PE X b tb)(hs:sR b):PE X (.Subscript a b pos) (OI r ta tb):=by
 intro pr s σ H Q I h;exact Subscript_ (D2 ha hb I h fun v u s2 x y H2 I2 rx ry q=>hr a b pr s2 σ H2 x y v u Q I2 rx ry q (hs _ _))
def F4(K:W.Frag):R2:=fun x y H Q=>∃p xs i v,x=.ref p/\y=.int i/\SqL K H p xs/\IU xs i=some v/\Q v H
def F5(K:W.Frag):R2:=fun x y H Q=>∃p xs i v,x=.ref p/\y=.int i/\SqT K H p xs/\IU xs i=some v/\Q v H
def F6:R2:=fun x y H Q=>∃z i c,x=.str z/\y=.int i/\z.length<=sizeLine/\IU z.cps.toList i=some c/\Q (.str ⟨#[c]⟩) H
theorem yQ:O2 X (F4 X.K):=by
 intro value slice pr s σ H x y v u Q I rx ry h hs;obtain⟨p,xs,i,z,rfl,rfl,hq,he,q⟩:=h;cases rx;obtain⟨t,rfl⟩:=ry;obtain⟨GQ,r,pl,hz⟩:=I.list hq;obtain⟨j,h1,h2,h3,h4,h5⟩:=oQ he;obtain⟨w,ew,Lh⟩:=r.get h2;have hl:=r.length;have hn:=kN;have fin:EP X pr σ Q w s:=⟨z,H,I,Lh,q⟩
 by_cases h0:0<=i
 ·have hj:i.toNat=j:=by
   rw[seqIndex_of h0 h5]at h1;exact Tf h1
  exact item_listR pl.isList h0 (by lia) (by rw[hj];simpa using ew) fin hs
 ·have hj:(i+(GQ.toArray.size:Int)).toNat=j:=by
   rw[seqIndex_neg (by lia) h4]at h1;rw[SR,<-hl];exact Tf h1
  exact subscriptTail_builtinR (x:=w) pl.isList.typeIs slot_list_getitem.lookup
   (wpAny_getItem_list_neg (Q:=fun r s'=>r=w/\EP X pr σ Q r s') pl.isList (by lia) (by rw[SR] <;> lia) (by lia) (by rw[hj];simpa using ew) ⟨rfl,fin⟩) hs
theorem BB:O2 X (F5 X.K):=by
 intro value slice pr s σ H x y v u Q I rx ry h hs;obtain⟨p,xs,i,z,rfl,rfl,hq,he,q⟩:=h;cases rx;obtain⟨t,rfl⟩:=ry;obtain⟨GQ,r,pl,hz⟩:=I.tuple hq;obtain⟨j,h1,h2,h3,h4,h5⟩:=oQ he;obtain⟨w,ew,Lh⟩:=r.get h2;have hl:=r.length;have hn:=kN;have fin:EP X pr σ Q w s:=⟨z,H,I,Lh,q⟩
 exact subscriptTail_builtinR (x:=w) pl.typeIs slot_tuple_getitem.lookup
  (getItem_tuple (j:=j) (Q:=fun r s'=>r=w/\EP X pr σ Q r s') pl (by lia) (by lia) (by rw[SR,<-hl];exact h1) (by simpa using ew) ⟨rfl,fin⟩) hs
theorem BC:O2 X F6:=by
 intro value slice pr s σ H x y v u Q I rx ry h hs;obtain⟨z,i,c,rfl,rfl,hz,he,q⟩:=h;obtain⟨t,rfl⟩:=rx;obtain⟨t',rfl⟩:=ry;obtain⟨j,h1,h2,h3,h4,h5⟩:=oQ he;have hl:z.cps.toList.length=z.length:=by simp[Str.length]
 rw[hl]at h1 h4 h5;have hn:=kN;exact tail_any (V7 s z t) slot_str_getitem.lookup (getItem_str (c:=c) (by
  have e1:decide (i < -(2 ^ 63:Int))=false:=Tj (by lia);have e2:decide (i>=2 ^ 63)=false:=Tj (by lia);rw[e1,e2,Bool.or_false]) (by rw[h1];simpa using h2) ⟨.str ⟨#[c]⟩,H,I.tok _,⟨_,rfl⟩,q⟩) hs
theorem qV(GQ:List Value)(n j:Nat)(u:Value):Obj.mapSeq (·.setIfInBounds j u) {cls:=.type "list",data:=.seq GQ.toArray n}={cls:=.type "list",data:=.seq (GQ.set j u).toArray n}:=by
 simp[Obj.mapSeq]
theorem Inv.lst{pr:List (Addr×Obj)}{σ:St}{H:Hp}{s:Shared}{p:Addr}{xs:List V}(I:Inv X pr σ H s)(h:H p=some (.lst xs)):
  ∃(GQ:List Value) (n:Nat),Vals xs GQ/\s.heap.get? p=some {cls:=.type "list",data:=.seq GQ.toArray n}/\xs.length<=sizeLine:=by
 obtain⟨z,GQ,n,r,e⟩:=I.hok p _ h;exact⟨GQ,n,r,e,z⟩
theorem Inv.lstUpd{pr:List (Addr×Obj)}{σ:St}{H:Hp}{s:Shared}{p:Addr}{xs ys:List V}{GQ its':List Value}{n n':Nat}{f:Obj->Obj}(I:Inv X pr σ H s)(h:H p=some (.lst xs))
  (ho:s.heap.get? p=some {cls:=.type "list",data:=.seq GQ.toArray n}) (hf:f {cls:=.type "list",data:=.seq GQ.toArray n}={cls:=.type "list",data:=.seq its'.toArray n'}) (r:Vals ys its') (hz:ys.length<=sizeLine) (t:Nat):
  Inv X pr σ (upd H p (.lst ys)) {s with heap:=s.heap.update p f,toks:=t}:=by
 have e:(s.heap.update p f).get? p=some {cls:=.type "list",data:=.seq its'.toArray n'}:=by
  rw[Heap.get?_update_self f ho (by rw[hf] <;> rfl),hf]
 refine I.write (x:=p) (e:=p) (by rw[h];trivial) (.inl rfl) (fun b u hb q=>(Heap.get?_update_other _ _ (Ui hb)).trans q) ⟨_,e⟩ ?_;exact⟨hz,its',n',r,e⟩
def BD:V->V->V->Hp->(Hp->Prop)->Prop:=fun o i v H Q=>∃p xs k j,o=.ref p/\i=.int k/\H p=some (.lst xs)/\ixN xs.length k=some j/\Q (upd H p (.lst (xs.set j v)))
theorem vV:FR X BD:=by
 intro pr s σ H o i v ov iv u Q I ro ri rv h;obtain⟨p,xs,k,j,rfl,rfl,hp,hj,q⟩:=h;cases ro;obtain⟨t,rfl⟩:=ri;obtain⟨GQ,n,r,ho,hz⟩:=I.lst hp;obtain⟨h1,h2,h3,h4⟩:=sQ hj;have hl:=r.length;have hn:=kN;have I':Inv X pr σ (upd H p (.lst (xs.set j v))) {s with heap:=s.heap.update p (Obj.mapSeq (·.setIfInBounds j u))}:=
  I.lstUpd hp ho (qV GQ n j u) (r.set rv j) (by rw[Tz];exact hz) s.toks
 by_cases h0:0<=k
 ·have hk:k.toNat=j:=by
   rw[seqIndex_of h0 h4]at h1;exact Tf h1
  exact PySem.W.ki_setAt ho h0 (by lia) (by rw[SR,<-hl];exact h4) (by rw[hk];exact⟨_,I',q⟩)
 ·have hk:(k+(GQ.toArray.size:Int)).toNat=j:=by
   rw[seqIndex_neg (by lia) h3]at h1;rw[SR,<-hl];exact Tf h1
  exact PySem.W.ki_setBack ho (by lia) (by rw[SR,<-hl];exact h3) (by lia) (by rw[hk];exact⟨_,I',q⟩)
theorem mR(lo hi:Option Int)(n:Nat):(sliceBounds lo hi none n).1=((HT.sIx n 0 lo:Nat):Int)/\(sliceBounds lo hi none n).2.1=((HT.sIx n n hi:Nat):Int)/\(sliceBounds lo hi none n).2.2=1:=by
 refine⟨?_,?_,rfl⟩
 ·cases lo with
  |none=>simp[sliceBounds,HT.sIx]
  |some i=>
   simp only[sliceBounds,HT.sIx,UD,show(1:Int)>0 by decide,Vu];by_cases h:i<0
   ·simp only[h,Vu] <;> lia
   ·simp only[h,VL] <;> lia
 ·cases hi with
  |none=>simp[sliceBounds,HT.sIx]
  |some i=>
   simp only[sliceBounds,HT.sIx,UD,show(1:Int)>0 by decide,Vu];by_cases h:i<0
   ·simp only[h,Vu] <;> lia
   ·simp only[h,VL] <;> lia
theorem lB(GQ:List Value)(lo hi:Option Int):slicePick GQ.toArray lo hi none=((GQ.drop (HT.sIx GQ.length 0 lo)).take (HT.sIx GQ.length GQ.length hi-HT.sIx GQ.length 0 lo)).toArray:=by
 obtain⟨h1,h2,h3⟩:=mR lo hi GQ.toArray.size;unfold slicePick;rw[h1,h2,h3];simp only[sliceRange_one,pick_run,SR] <;> rfl
def F7(K:W.Frag):V->Option Int->Option Int->Hp->VK->Prop:=fun x lo hi H Q=>∃a xs,x=.ref a/\SqL K H a xs/\∀p,H p=none->Q (.ref p) (upd H p (.lst (xP xs lo hi)))
theorem yR:NC X (F7 X.K):=by
 intro pr s σ H x v vl vu lo hi sl Q I rx hs pl pu h;obtain⟨a,xs,rfl,hx,q⟩:=h;cases rx;obtain⟨GQ,r,ht,hz⟩:=I.list hx;have hlen:=r.length;refine⟨"list",_,slot_list_getitem.lookup,ht.isList.typeIs,?_⟩;refine V8 ht.isList hs pl pu .none (by simp) ?_ (by rw[SR] <;> lia);rw[lB,<-hlen];refine⟨.ref s.heap.objs.size,_,I.laid (t':=s.toks) (o:=.lst (xP xs lo hi)) (fun b ob q=>Heap.get?_push_of_some _ q) (SV _) ?_,rfl,q _ (I.hok.fresh (SV _))⟩;exact⟨Tp (jH xs lo hi) hz,_,0,(r.drop (HT.sIx xs.length 0 lo)).take (HT.sIx xs.length xs.length hi-HT.sIx xs.length 0 lo),Heap.get?_push_size _ rfl⟩
def vW:V->Bool
 | .non=>true
 | .bl _=>true
 | .int _=>true
 | .str _=>true
 |_=>false
def Q5:V->V->Bool
 | .non,.non=>true
 | .bl a,.bl b=>a==b
 | .bl a,.int b=>(if a then 1 else 0)==b
 | .int a,.bl b=>a==(if b then 1 else 0)
 | .int a,.int b=>a==b
 | .str a,.str b=>a==b
 |_,_=>false
theorem xQ{A:Around}{s:Shared}{y x:V}{u v:Value}(ry:RelV y u)(rx:RelV x v)(fy:vW y=true)(fx:vW x=true):SeqAt.EqAt A s u v (Q5 y x):=by
 cases y with
 |non=>
  cases ry;cases x with
  |non=>cases rx;exact SeqAt.EqAt.same _
  |bl b=>cases rx;exact SeqAt.EqAt.none_bool b
  |int b=>obtain⟨t,rfl⟩:=rx;exact SeqAt.EqAt.none_int b t
  |str b=>obtain⟨t,rfl⟩:=rx;exact SeqAt.EqAt.none_str b t
  |_=>exact absurd (show false=true from fx) SX
 |bl a=>
  cases ry;cases x with
  |non=>cases rx;exact SeqAt.EqAt.bool_none a
  |bl b=>cases rx;exact SeqAt.EqAt.bool_bool a b
  |int b=>obtain⟨t,rfl⟩:=rx;exact SeqAt.EqAt.bool_int a b t
  |str b=>obtain⟨t,rfl⟩:=rx;exact SeqAt.EqAt.bool_str a b t
  |_=>exact absurd (show false=true from fx) SX
 |int a=>
  obtain⟨t',rfl⟩:=ry;cases x with
  |non=>cases rx;exact SeqAt.EqAt.int_none a t'
  |bl b=>cases rx;exact SeqAt.EqAt.int_bool a t' b
  |int b=>obtain⟨t,rfl⟩:=rx;exact SeqAt.EqAt.int_int a t' b t
  |str b=>obtain⟨t,rfl⟩:=rx;exact SeqAt.EqAt.int_str a t' b t
  |_=>exact absurd (show false=true from fx) SX
 |str a=>
  obtain⟨t',rfl⟩:=ry;cases x with
  |non=>cases rx;exact SeqAt.EqAt.str_none a t'
  |bl b=>cases rx;exact SeqAt.EqAt.str_bool a t' b
  |int b=>obtain⟨t,rfl⟩:=rx;exact SeqAt.EqAt.str_int a t' b t
  |str b=>obtain⟨t,rfl⟩:=rx;exact SeqAt.EqAt.str_str a t' b t
  |_=>exact absurd (show false=true from fx) SX
 |_=>exact absurd (show false=true from fy) SX
theorem i5:c6 X (.builtin "len") (fun xs H Q=>∃p ys,xs=[.ref p]/\(SqL X.K H p ys\/SqT X.K H p ys)/\Q (.int ys.length) H):=by
 intro pr s σ H xs us Q I r h;obtain⟨p,ys,rfl,hq,q⟩:=h;obtain⟨u,rfl,rx⟩:=fe r;cases rx;have hn:=kN;rcases hq with hq|hq
 ·obtain⟨GQ,r',pl,hz⟩:=I.list hq;have hlen:=r'.length;exact Calls.call_len_list pl.isList (by simp only[SR] <;> lia) ⟨.int ys.length,H,I.tok _,⟨s.toks+1,by rw[SR,hlen]⟩,q⟩
 ·obtain⟨GQ,r',pl,hz⟩:=I.tuple hq;have hlen:=r'.length;exact len_tuple pl (by simp only[SR] <;> lia) ⟨.int ys.length,H,I.tok _,⟨s.toks+1,by rw[SR,hlen]⟩,q⟩
theorem mS:c6 X (.builtin "len") (fun xs H Q=>∃z,xs=[.str z]/\z.length<=sizeLine/\Q (.int z.length) H):=by
 intro pr s σ H xs us Q I r h;obtain⟨z,rfl,hz,q⟩:=h;obtain⟨u,rfl,t,rfl⟩:=fe r;have hn:=kN;exact len_str (by lia) ⟨.int z.length,H,I.tok _,⟨_,rfl⟩,q⟩
theorem i6:c6 X (.type "list") (fun xs H Q=>∃p ys,xs=[.ref p]/\(SqL X.K H p ys\/SqT X.K H p ys)/\∀l,H l=none->Q (.ref l) (upd H l (.lst ys))):=by
 intro pr s σ H xs us Q I r h;obtain⟨p,ys,rfl,hq,q⟩:=h;obtain⟨u,rfl,rx⟩:=fe r;cases rx;have fin:∀(GQ:List Value),Vals ys GQ->ys.length<=sizeLine->∀(h':Heap) (c':Nat),(∀b o',s.heap.get? b=some o'->h'.get? b=some o')->
   h'.get? s.heap.objs.size=some {cls:=.type "list",dict:=none,data:=.seq GQ.toArray c',slots:=#[]}->EP X pr σ Q (.ref s.heap.objs.size) {s with heap:=h'}:=fun GQ r' hz h' c' kp e=>
  ⟨.ref s.heap.objs.size,_,I.laid (t':=s.toks) kp (SV _) (show ObjOk X.prog X.w _ h' _ (.lst ys) from⟨hz,GQ,c',r',e⟩),rfl,q _ (I.hok.fresh (SV _))⟩
 rcases hq with hq|hq
 ·obtain⟨GQ,r',pl,hz⟩:=I.list hq;have hlen:=r'.length;obtain⟨o,ho,hc,n,hd⟩:=pl.isList;exact call_list_seq p (.inl rfl) ho hc hd (fun h' c' kp e=>fin GQ r' hz h' c' kp e) (by simp only[SR] <;> lia)
 ·obtain⟨GQ,r',pl,hz⟩:=I.tuple hq;have hlen:=r'.length;obtain⟨o,ho,hc,n,hd⟩:=pl;exact call_list_seq p (.inr rfl) ho hc hd (fun h' c' kp e=>fin GQ r' hz h' c' kp e) (by simp only[SR] <;> lia)
theorem hU:c6 X (.type "tuple") (fun xs H Q=>∃p ys,xs=[.ref p]/\((SqL X.K H p ys/\∀l,H l=none->Q (.ref l) (upd H l (.tup ys)))\/(SqT X.K H p ys/\Q (.ref p) H))):=by
 intro pr s σ H xs us Q I r h;obtain⟨p,ys,rfl,h⟩:=h;obtain⟨u,rfl,rx⟩:=fe r;cases rx;rcases h with⟨hq,q⟩|⟨hq,q⟩
 ·obtain⟨GQ,r',pl,hz⟩:=I.list hq;have hlen:=r'.length;refine call_tuple_list pl.isList (fun h' kp=>?_) (by simp only[SR] <;> lia);have I1:Inv X pr σ H {s with heap:=h'}:=I.kept (t':=s.toks) kp;have I2:Inv X pr σ (upd H h'.objs.size (.tup ys)) {s with heap:=h'.push {cls:=.type "tuple",data:=.seq GQ.toArray}}:=
   I1.laid (t':=s.toks) (fun b o e=>Heap.get?_push_of_some _ e) (SV _) (show ObjOk X.prog X.w _ _ _ (.tup ys) from⟨hz,GQ,r',IsTupN.new _ _⟩)
  exact⟨.ref h'.objs.size,_,I2,rfl,q _ (I1.hok.fresh (SV _))⟩
 ·obtain⟨GQ,r',pl,hz⟩:=I.tuple hq;exact call_tuple_same pl ⟨.ref p,H,I,rfl,q⟩
def Q6(K:W.Frag)(T:String)(x:V)(H:Hp):Prop:=match x with
 | .str _=>T = "str"
 | .int _=>T = "int"
 | .ref p=>(T = "list"/\∃xs,SqL K H p xs)\/(T = "tuple"/\∃o,K.lookup p=some o/\o.cls=.type "tuple"/\o.dict=none)\/
   (T = "dict"/\((∃kvs,H p=some (.dK kvs))\/∃kvs,H p=some (.dT kvs)))\/(T = "set"/\∃S n,H p=some (.set S n))
 |_=>False
theorem BF{pr:List (Addr×Obj)}{σ:St}{H:Hp}{s:Shared}{T:String}{x:V}{v:Value}(I:Inv X pr σ H s)(r:RelV x v)(ty:Q6 X.K T x H):
  s.TypeIs v T/\∀a,v=.ref a->∃ob,s.heap.get? a=some ob/\ob.dict=none:=by
 cases x with
 |str z=>
  obtain⟨t,rfl⟩:=r;cases(show T = "str" from ty);exact⟨V7 s z t,fun _ e=>nomatch e⟩
 |int i=>
  obtain⟨t,rfl⟩:=r;cases(show T = "int" from ty);exact⟨WT s i t,fun _ e=>nomatch e⟩
 |ref p=>
  cases r;rcases ty with⟨rfl,xs,hq⟩|⟨rfl,o,hk,hc,hd⟩|⟨rfl,hk⟩|⟨rfl,S,n,hk⟩
  ·obtain⟨GQ,_,pl,_⟩:=I.list hq;refine⟨pl.isList.typeIs,fun a e=>?_⟩;cases e;obtain⟨o,n,e,c,hd,_⟩:=pl;exact⟨o,e,hd⟩
  ·refine⟨⟨o,I.kIn p o hk,hc⟩,fun a e=>?_⟩;cases e;exact⟨o,I.kIn _ o hk,hd⟩
  ·have z:∃o,s.heap.get? p=some o/\o.ExactDict:=by
    rcases hk with⟨kvs,hk⟩|⟨kvs,hk⟩
    ·obtain⟨_,_,_,_,o,_,_,e,ex,_⟩:=I.hok p _ hk;exact⟨o,e,ex⟩
    ·obtain⟨_,_,_,_,o,_,_,e,ex,_⟩:=I.hok p _ hk;exact⟨o,e,ex⟩
   obtain⟨o,e,ex⟩:=z;refine⟨⟨o,e,ex.1⟩,fun a e2=>?_⟩;cases e2;exact⟨o,e,ex.2.1⟩
  ·obtain⟨o,_,_,_,e,ex,_⟩:=I.hok p _ hk;refine⟨⟨o,e,ex.1⟩,fun a e2=>?_⟩;cases e2;exact⟨o,e,ex.2.1⟩
 |_=>exact False.elim ty
def tBM(K:W.Frag)(T:String)(r:V->List V->Hp->VK->Prop)(to:TE)(t:TA):TE:=fun σ H Q=>to σ H fun x H1=>Q6 K T x H1/\t σ H1 fun xs H2=>r x xs H2 Q
variable{o e:Expr}{es:List Expr}{to:TE}{t:TA}{name:Str}{apos Hd:Pos}{T id:String}{r:V->List V->Hp->VK->Prop}
theorem yS(pa:PlainAttrs T)(slot:Slot T name id)(LB:typeOf (.builtin id)=pure (.type "method_descriptor"))(hm:Nm X id r)(ho:PE X o to)(ha:PA X (e::es) t)
  (IA:attributeBase o name X.env (eval o X.env)=eval o X.env:=by rfl)
  (Jz:((backTo Hd (starEach (e::es) X.env)).all (fun x=>!x.1)&&(backToKw Hd (keywordEach [] X.env)).all (fun x=>x.1.isSome)
   && decide ((e::es).length+([]:List Keyword).length+(if([]:List Keyword).isEmpty then 0 else 1)<30))=true:=by rfl)
  (IB:(apos.endLine==Hd.line)=true:=by rfl) (hs:starEach (e::es) X.env=(false,eval e X.env)::starEach es X.env:=by rfl) (HQ:(backTo Hd (starEach es X.env)).any (·.1)=false:=by rfl):
  PE X (.Call (.Attribute o name apos) (e::es) [] Hd) (tBM X.K T r to t):=by
 intro pr s σ H Q I h;refine wpAny_Call_method_late IA Jz IB rfl (He (ho pr s σ H _ I h) fun v s1 Hh=>?_);obtain⟨x,H1,I1,r1,ty,q1⟩:=Hh;obtain⟨h1,h2⟩:=BF I1 r1 ty;refine⟨T,id,pa,slot,LB,h1,h2,?_⟩;have hA:=ha Hd pr s1 σ H1 _ I1 q1;rw[hs]at hA ⊢;refine Calls.callWith_builtin (by show(false||(backTo Hd (starEach es X.env)).any (·.1))=false;rw[HQ] <;> rfl) (VE ?_);exact He hA fun us s2 ⟨vs,H2,I2,r2,q2⟩=>hm pr s2 σ H2 x vs v us Q I2 r1 r2 q2
end
def MtM(X:Cx)(id:String)(r:V->List V->Hp->VK->Prop):Prop:=
 ∀(pr:List (Addr×Obj)) (s:Shared) (σ:St) (H:Hp) (x:V) (xs:List V) (v:Value) (us:List Value) (Q:VK),Inv X pr σ H s->RelV x v->Vals xs us->r x xs H Q->
  wpAny (model X.prog X.w) X.A (call (.builtin id) (v::us)) (EP X pr σ Q) X.xe s
theorem Vals.one:∀{x:V}{us:List Value},Vals [x] us->∃u,us=[u]/\RelV x u
 |_,_,.cons r .nil=>⟨_,rfl,r⟩
theorem Vals.rep{xs:List V}{us:List Value}(h:Vals xs us):∀k:Nat,Vals (List.replicate k xs).flatten (List.replicate k us).flatten
 | 0=>.nil
 |k+1=>by
  rw[Uk,Uk,Ux,Ux];exact Vals.append h (Vals.rep h k)
theorem mT(GQ:List Value):∀(k:Nat) (acc:List Value),
  List.foldl (fun x1 x2=>x1++x2) acc.toArray (List.replicate k GQ.toArray)=(acc++(List.replicate k GQ).flatten).toArray
 | 0,acc=>by simp
 |k+1,acc=>by
  have e:acc.toArray++GQ.toArray=(acc++GQ).toArray:=by simp
  have e2:(acc++GQ)++(List.replicate k GQ).flatten=acc++(List.replicate (k+1) GQ).flatten:=by
   rw[Uk,Ux,Tx]
  rw[<-e2,<-mT GQ k (acc++GQ),<-e,Uk,U4]
section
variable{X:Cx}{pr:List (Addr×Obj)}{σ:St}{H:Hp}{s:Shared}{l b:Addr}{xs ys zs:List V}
theorem Inv.lset{GQ its':List Value}{n:Nat}{f:Array Value->Array Value}{t':Nat}(I:Inv X pr σ H s)(hH:H l=some (.lst xs))
  (e:s.heap.get? l=some {cls:=.type "list",data:=.seq GQ.toArray n}) (hf:f GQ.toArray=its'.toArray) (hv:Vals ys its') (hz:ys.length<=sizeLine):
  Inv X pr σ (upd H l (.lst ys)) {s with heap:=s.heap.update l (Obj.mapSeq f),toks:=t'}:=by
 have q:=PySem.IsL.update e f;rw[hf]at q;refine I.write (x:=l) (e:=l) (by rw[hH];exact trivial) (.inl rfl) (fun b' u hb hu=>(Heap.get?_update_other s.heap (Obj.mapSeq f) (Ui hb)).trans hu) ⟨_,q⟩ ?_;exact⟨hz,its',_,hv,q⟩
theorem Inv.lnew{GQ:List Value}{t':Nat}(I:Inv X pr σ H s)(hv:Vals ys GQ)(hz:ys.length<=sizeLine):
  Inv X pr σ (upd H s.heap.objs.size (.lst ys)) {s with heap:=s.heap.push {cls:=.type "list",data:=.seq GQ.toArray},toks:=t'}:=
 I.laid (fun _ _ q=>Heap.get?_push_of_some _ q) (SV _) ⟨hz,GQ,0,hv,Heap.get?_push_size _ rfl⟩
theorem Inv.fresh(I:Inv X pr σ H s):H s.heap.objs.size=none:=I.hok.fresh (SV _)
theorem Inv.lstM(I:Inv X pr σ H s)(hH:H l=some (.lst xs)):xs.length<=sizeLine/\∃(GQ:List Value) (n:Nat),Vals xs GQ/\xs.length=GQ.length/\s.heap.get? l=some {cls:=.type "list",data:=.seq GQ.toArray n}:=by
 obtain⟨z,GQ,n,r,e⟩:=I.hok l _ hH;exact⟨z,GQ,n,r,r.length,e⟩
theorem vX{n:Nat}(h:n<=sizeLine):Builtin.List.listTooLong n=false:=by
 unfold Builtin.List.listTooLong;exact Tj (by lia)
end
section
variable{X:Cx}
def yT:V->List V->Hp->VK->Prop:=fun x vs H Q=>∃l xs y,x=.ref l/\vs=[y]/\H l=some (.lst xs)/\xs.length<sizeLine/\Q .non (upd H l (.lst (xs++[y])))
theorem mU:MtM X "list.append" yT:=by
 intro pr s σ H x vs v us Q I rx rv h;obtain⟨l,xs,y,rfl,rfl,hH,hz,q⟩:=h;cases rx;obtain⟨u,rfl,ru⟩:=rv.one;obtain⟨z,GQ,n,r,hl,e⟩:=I.lstM hH;refine call_meets F.slot_list_append ⟨_,e,rfl⟩ F.entry_list_append (F.args_list_append_2 _ _) (PySem.list_append l GQ.toArray n u (by rw[SR];lia)) ⟨e,?_⟩;refine⟨.non,_,I.lset (its':=GQ++[u]) hH e (by simp) (r.append (.cons ru .nil)) ?_,rfl,q⟩;rw[Tq,Tc];lia
theorem lC{α:Type}(xs:List α)(k:Nat):(List.replicate k xs).flatten.length=k*xs.length:=by
 induction k with
 |zero=>simp
 |succ k ih=>rw[Uk,Ux,Tq,ih,Nat.succ_mul,Nat.add_comm]
end
section
variable{prog:Program}{w:World}{A:Around}{E:Value->Shared->Prop}{s:Shared}
end
section
variable{X:Cx}
end
end L2
namespace Att
open PySem PySem.W PySem.Calls PyProof.Rows
theorem jI{P:Params}{h:Heap}:∀(ns:List Int) (vs:List Value),WellAll P h vs (ns.map WData.int)->IntsAre vs ns:=by
 intro ns;induction ns with
 |nil=>
  intro vs w;rw[TC]at w;cases w;exact .nil
 |cons n ns ih=>
  intro vs w;rw[S7]at w;cases w with
  |cons a b=>
   cases a;exact .cons _ _ (ih _ b)
theorem sS{l:OpenLaw}{n:Nat}(hn:l.most=some n){P:Params}{h:Heap}{args:List WData}{vals:List Value}
  (Ml:l.row.toRowW.claim.pre args=true) (OJ:WellAll P h vals args):
  ∃a vs ns,vals=[Value.ref a]/\args=[WData.list (ns.map WData.int)]/\h.get? a=some {cls:=.type "list",data:=.seq vs.toArray}/\IntsAre vs ns/\ns.length<=n:=by
 have hsh:WShape.hasAll [] args [.list .int]=true:=(pre_splitW Ml).1;have hc:l.pre.holds [] {args:=args}=true:=(pre_splitW Ml).2;obtain⟨d,r,rfl,h1,h2⟩:=hasAllW_cons hsh;obtain rfl:=hasAllW_nil h2;obtain⟨xs,rfl,h3⟩:=hasW_list h1;obtain⟨ns,rfl⟩:=items_int h3;have hlen:ns.length<=n:=by
  unfold OpenLaw.pre at hc;have h4:(WTm.not (.lt (.lit (.int (n:Int))) (.len (.arg 0)))).holds [] {args:=[.list (ns.map .int)]}=true:=by
   have h4:=(holds_andW hc).1;rw[hn]at h4;exact h4
  have h5:=condW_of h4 (w_not (w_lt w_lit (w_len_list (w_arg rfl))));rw[SO]at h5;refine Nat.le_of_not_lt fun q=>?_
  have q':(n:Int)<((ns.length:Nat):Int):=by lia
  first
   |(rw[Tv q']at h5;exact absurd h5 (by decide))
   |(simp at h5;lia)
 cases OJ with
 |cons w1 w2=>
  cases w2;cases w1 with
  |list ho LC=>exact⟨_,_,ns,rfl,rfl,ho,jI ns _ LC,hlen⟩
theorem sT(l:OpenLaw)(args:List WData):l.row.toRowW.claim.post args (.bool true) args=true:=
 postW_of (r:=l.row.toRowW) (X:=(true==true))
  (show WShape.has [] (.bool true) .bool=true by first|rfl|decide|simp[WShape.has,WShape.arms,WShape.armsAll])
  (show(WTm.eq .res (.lit (.bool true))).value [] {args:=args,res:=some (.bool true),after:=args}=some (.bool (true==true)) from w_eq_bool (w_res rfl) w_lit) rfl
theorem attach_call{l:OpenLaw}{n:Nat}{q:Program}{loose:List Str}{XP:(Str->Option Value)->Heap->Prop}{YP:World->Heap->Prop}{d:DefRec}
  (hn:l.most=some n) (O3:d.params.defaults=[])
  (call:∀(w:World) (s₀ s₁:Shared) (mg mb:Str->Option Value) (fa:Addr) (o:Obj) (pm cd doc:Value) (a:Addr) (vs:List Value) (ns:List Int),
   Ground q loose [] XP w s₀ mg mb s₁.heap->YP w s₁.heap->
   s₁.heap.get? fa=some o->o.data=.func (docDef d.name d.params d.body d.scope pm cd doc)->s₁.heap.CodeRec cd d.name->mg d.name=some (.ref fa)->
   s₁.heap.get? a=some {cls:=.type "list",data:=.seq vs.toArray}->IntsAre vs ns->ns.length<=n->s₁.gens = #[]->
   codeAny (model l.prog w) callerA (.call (.ref fa) ⟨[.ref a],[]⟩) (fun r s'=>r=.ok (.ret (.bool true))/\OldK s₁.heap s'.heap/\s'.os=s₁.os/\AllBare s'.gens) s₁):
  WalkO q loose XP YP l.row.toRowW d [] (fun f vs=>PySem.call f vs):=by
 intro w s₀ s₁ mg mb G Y fa o pm cd doc dV kV ho hd Le hD O4 hg args vals as Ml hlay hrd OJ R7;obtain rfl:dV=.none:=Dflts.none hD O3;obtain rfl:kV=.none:=Dflts.noKw hD;obtain⟨a,vs,ns,rfl,rfl,ND,hints,hlen⟩:=sS hn Ml OJ;refine enter_call (WH (call w s₀ s₁ mg mb fa o pm cd doc a vs ns G Y ho (fd_plain hd) Le O4 ND hints hlen hg) fun r s' hq=>?_);obtain⟨rfl,h2,h3,h4⟩:=hq;exact⟨.inl ⟨.bool true,.bool true,[],rfl,fun _=>rfl,.bool true,sT l _,fun _=>⟨List.Pairwise.nil,fun _ hm=>(nomatch hm)⟩⟩,h2,h3,h4⟩
section
variable{prog:Program}{w:World}{A:Around}{E:Value->Shared->Prop}{s:Shared}{K:Frag}
end
end Att
namespace L2
open PySem PySem.Spec PyProof.Rows
theorem mV:∀{vs:List Value}{ns:List Int},IntsAre vs ns->Vals (ns.map V.int) vs
 |_,_,.nil=>.nil
 |_,_,.cons n t h=>.cons ⟨t,rfl⟩ (mV h)
def Ed(H:Hp):Prop:=∀b,H b=none\/∃o xs,H b=some (.frz o (.lst xs))
theorem vY{P:Program}{w:World}{K:W.Frag}{mg mb:Str->Option Value}{CX:Lf}{k:Nat}{fa a:Addr}{fd:FuncData}{x:Str}{sp:Sp}{s₁:Shared}{vs:List Value}{ns:List Int}
  (KX:K.In s₁.heap) (OK:s₁.heap.Ns mainGlobals mg) (hb:s₁.heap.Ns builtinsNs mb) (O5:∀x:Str,x≠"__name__"->mb x=bootBuiltins x) (hlim:s₁.heap.NoLimit) (hg:s₁.gens = #[])
  (ha:s₁.heap.get? a=some {cls:=.type "list",data:=.seq vs.toArray}) (hi:IntsAre vs ns) (hl:ns.length<=sizeLine) (hr:Room k callerA)
  (F:∀base:Heap,K.In base->base.Ns mainGlobals mg->FnOk P w K mg base CX k fa fd [x] sp) (O6:∀(s:Shared) (u:Value),BindsTo s fd ⟨[u],[]⟩ [(x,u)])
  (K1:∀H:Hp,Ed H->SqL K H a (ns.map V.int)->sp [.ref a] H (fun v _=>v=.bl true) fun _ _ _=>False)
  (Q7:∀H e s',CX [] H s₁ (fun _ _ _=>False) e s'->False):
  codeAny (model P w) callerA (.call (.ref fa) ⟨[.ref a],[]⟩) (fun r s'=>r=.ok (.ret (.bool true))/\OldK s₁.heap s'.heap/\s'.os=s₁.os/\AllBare s'.gens) s₁:=by
 have rv:=mV hi;have lenV:=hi.length;have core:∀H:Hp,Ed H->SqL K H a (ns.map V.int)->HOk P w H s₁.heap->(∀b,H b≠none->b=a)->(H a≠none->K.lookup a=none)->
   codeAny (model P w) callerA (.call (.ref fa) ⟨[.ref a],[]⟩) (fun r s'=>r=.ok (.ret (.bool true))/\OldK s₁.heap s'.heap/\s'.os=s₁.os/\AllBare s'.gens) s₁:=by
  intro H hO hS hok hA hK;have K6:∀{b:Addr}{o:Obj},s₁.heap.get? b=some o->H b=none->(vL s₁.heap H).get? b=some o:=fun e n=>vM e n
  have O1:∀{b:Addr}{o:Obj}{es:Array DictEntry}{ep:Nat},s₁.heap.get? b=some o->o.data=.dict es ep->H b=none:=fun{b o es ep} e d=>by
   cases q:H b with
   |none=>rfl
   |some u=>
    have e':b=a:=hA b (by rw[q];simp);subst e';rw[ha]at e;cases e;have d':Data.seq vs.toArray _=Data.dict es ep:=d;cases d'
  have Qp:∀{b:Addr}{m:Str->Option Value},s₁.heap.Ns b m->(vL s₁.heap H).Ns b m:=fun{b m} ⟨o,es,ep,e,d,r⟩=>⟨o,es,ep,K6 e (O1 e d),d,r⟩
  have R8:K.In (vL s₁.heap H):=fun b o e=>K6 (KX b o e) (by
   cases q:H b with
   |none=>rfl
   |some u=>
    have e':b=a:=hA b (by rw[q];simp);subst e';rw[hK (by rw[q];simp)]at e;cases e)
  have hM:Mod K mg (vL s₁.heap H):=⟨R8,Qp OK,⟨mb,Qp hb,O5⟩,let⟨mc,h1,h2⟩:=hlim;⟨mc,Qp h1,h2⟩⟩
  have e0:Env0 P w K mg (vL s₁.heap H) callerA [] s₁ H:=⟨rfl,hM,fun b o e=>yA e,Nat.le_of_eq (r9 _ _),trivial,fun b hb=>absurd (show b∈([]:List Addr) from hb) (by simp),hok,.of_eq hg⟩
  refine WH ((F _ R8 (Qp OK)).run callerA [] s₁ H ⟨[.ref a],[]⟩ [.ref a] [.ref a] _ _ hr e0 (O6 s₁ (.ref a)) (.cons rfl .nil) (K1 H hO hS)) fun r s' h=>?_
  cases r with
  |error e=>exact(Q7 H e s' h).elim
  |ok fl=>
   cases fl with
   |next=>exact False.elim h
   |brk=>exact False.elim h
   |cont=>exact False.elim h
   |ret u=>
    obtain⟨v,H',os,bare,un,hok',r',q⟩:=h;have q':v=.bl true:=q;subst q';obtain rfl:u=Value.bool true:=r';refine⟨rfl,OldK.of_keep fun b o e=>?_,os,bare⟩;cases q:H b with
    |none=>exact un.keep b o e q (by intro z;exact absurd (show b∈([]:List Addr) from z) (by simp)) (by simp)
    |some u=>
     rcases hO b with z|⟨ob,xs,z⟩
     ·rw[q]at z;cases z
     ·have z2:=un.frzs b ob _ z;obtain⟨e1,_⟩:=hok b _ z;obtain⟨e2,_⟩:=hok' b _ z2;rw[e]at e1;cases e1;exact e2
 cases hk:K.lookup a with
 |some o=>
  have e:=KX a o hk;rw[ha]at e;cases e;refine core (fun _=>none) (fun _=>.inl rfl) (.inr ⟨_,vs.toArray,_,hk,rfl,rfl,rfl,by rw[SR,lenV];exact hl,by simpa using rv⟩) (fun b u z=>by have z':(none:Option HO)=some u:=z;cases z') (fun b z=>absurd rfl z) fun z=>absurd rfl z
 |none=>
  refine core (fun b=>if b=a then some (.frz {cls:=.type "list",data:=.seq vs.toArray} (.lst (ns.map V.int))) else none) (fun b=>?_) (.inl (.inr ⟨{cls:=.type "list",data:=.seq vs.toArray},S1 rfl⟩)) (fun b u z=>?_) (fun b z=>?_) fun _=>hk
  ·by_cases hb:b=a
   ·exact .inr ⟨_,_,S1 hb⟩
   ·exact .inl (S4 hb)
  ·by_cases hb:b=a
   ·have z':=(S1 hb).symm.trans z;cases z';subst hb;exact⟨ha,by rw[SO];exact hl,vs,_,rv,ha⟩
   ·have z':=(S4 hb).symm.trans z;cases z'
  ·by_cases hb:b=a
   ·exact hb
   ·exact absurd (S4 hb) z
theorem yU{l:PySem.W.OpenLaw}{n k:Nat}{q:Program}{loose:List Str}{XP:(Str->Option Value)->Heap->Prop}{YP:World->Heap->Prop}{d:DefRec}{K:Params->W.Frag}{CX:World->Lf}{sp:World->Sp}{x:Str}
  (hn:l.most=some n) (hn2:n<=sizeLine) (O3:d.params.defaults=[]) (hr:Room k callerA)
  (hY:∀(w:World) (h:Heap),YP w h->(K w.params).In h)
  (F:∀(w:World) (mg:Str->Option Value) (fa:Addr) (h:Heap),(K w.params).In h->h.Ns mainGlobals mg->mg d.name=some (.ref fa)->
   ∃fd:FuncData,(∀(s:Shared) (u:Value),BindsTo s fd ⟨[u],[]⟩ [(x,u)])/\
    ∀base:Heap,(K w.params).In base->base.Ns mainGlobals mg->FnOk l.prog w (K w.params) mg base (CX w) k fa fd [x] (sp w))
  (K1:∀(w:World) (H:Hp) (a:Addr) (ns:List Int),ns.length<=n->Ed H->SqL (K w.params) H a (ns.map V.int)->sp w [.ref a] H (fun v _=>v=.bl true) fun _ _ _=>False)
  (Q7:∀(w:World) (H:Hp) (s:Shared) (e:Value) (s':Shared),CX w [] H s (fun _ _ _=>False) e s'->False):
  PySem.W.WalkO q loose XP YP l.row.toRowW d [] (fun f vs=>PySem.call f vs):=by
 refine Att.attach_call hn O3 fun w s₀ s₁ mg mb fa o pm cd doc a vs ns G Y ho hd Le O4 ND hints hlen hg=>?_
 have KX:=hY w _ Y;obtain⟨fd,hb,hF⟩:=F w mg fa _ KX G.T.g O4;exact vY KX G.T.g G.T.b G.T.builtins G.T.nolimit hg ND hints (Tp hlen hn2) hr hF hb (fun H hO hS=>K1 w H a ns hlen hO hS) fun H e s'=>Q7 w H s₁ e s'
def dt(s:Stmt):Arguments:=match s with
 | .FunctionDef _ a _ _ _ _ _ _ _ _=>a
 |_=>{posonlyargs:=[],args:=[],vararg:=none,kwonlyargs:=[],kw_defaults:=[],kwarg:=none,defaults:=[]}
def bU(s:Stmt):List Stmt:=match s with
 | .FunctionDef _ _ b _ _ _ _ _ _ _=>b
 |_=>[]
def defScope(s:Stmt):Scope:=match s with
 | .FunctionDef _ _ _ _ _ _ sc _ _ _=>sc
 |_=>{kind:=.function,names:=[],isGenerator:=false,isCoroutine:=false}
abbrev Li:Lf:=fun _ _ _ _ _ _=>False
abbrev E0:XK:=fun _ _ _=>False
theorem Ee{X:Cx}:sL Li X E0:=fun _ _ _ _ _ _ _ h=>h.elim
structure Fun(K:W.Frag)(x qual:Str)(st:Stmt)(f:Addr)(fd:FuncData):Prop where
 ex:∃(oc:Value) (od:Option Addr) (kV doc pm:Value) (an:Option Addr) (Hf ct:Value) (LA:Array (Option Value)),
  fd=PySem.W.fnOf x qual (dt st) (bU st) (defScope st) .none kV doc pm an Hf ct/\K.lookup f=some ⟨oc,od,.func fd,LA⟩/\PySem.W.codeIn K Hf qual=true
 kp:PySem.W.keepIn K (.ref f)=true
section
variable{P:Program}{w:World}{K:W.Frag}{mg:Str->Option Value}{base:Heap}
theorem Fun.ok{x qual:Str}{st:Stmt}{f:Addr}{fd:FuncData}{N ps:List Str}{k:Nat}{sp:Sp}(F:Fun K x qual st f fd)(S:FnScope N ps (defScope st))(len:∀vs H Q E,sp vs H Q E->vs.length=ps.length)
  (Kd:∀(Hf:Value) (A:Around) (outer:List Env) (s:Shared) (H:Hp) (vs:List V) (Q:VK) (E:XK),Room k (A.deeper (envOfC qual (defScope st) s.heap.objs.size f Hf))->sp vs H Q E->
   ∃t,PSs (qS Li P w K mg base N qual (defScope st) f Hf A outer s H E).nox (bU st) t/\t {nx:=fun _ H'=>Q .non H',rt:=Q} (hJ N vs) H):FnOk P w K mg base Li (k+1) f fd ps sp:=by
 obtain⟨oc,od,kV,doc,pm,an,Hf,ct,LA,rfl,lk,Le⟩:=F.ex;refine Bz lk Le S len fun A outer s H vs Q E hr K1=>?_
 obtain⟨t,h,q⟩:=Kd Hf A outer s H vs Q E hr K1;exact⟨t,h.nox,q⟩
theorem Fun.binds{x qual:Str}{st:Stmt}{f:Addr}{fd:FuncData}{ps:List Str}(F:Fun K x qual st f fd)
  (h:∀(kV doc pm:Value) (an:Option Addr) (Hf ct:Value) (us:List Value),us.length=ps.length->bindArgs (PySem.W.fnOf x qual (dt st) (bU st) (defScope st) .none kV doc pm an Hf ct) ⟨us,[]⟩=pure (ps.zip us)):Binds K fd ps []:=by
 obtain⟨oc,od,kV,doc,pm,an,Hf,ct,LA,rfl,lk,Le⟩:=F.ex;exact .all (h kV doc pm an Hf ct)
theorem xR{x qual:Str}{st:Stmt}{f:Addr}{oc:Value}{od an:Option Addr}{LA:Array (Option Value)}{kV doc pm Hf ct:Value}(l:K.lookup f=some ⟨oc,od,.func (PySem.W.fnOf x qual (dt st) (bU st) (defScope st) .none kV doc pm an Hf ct),LA⟩)
  (c:PySem.W.codeIn K Hf qual=true) (k:PySem.W.keepIn K (.ref f)=true):Fun K x qual st f (PySem.W.fnOf x qual (dt st) (bU st) (defScope st) .none kV doc pm an Hf ct):=⟨⟨oc,od,kV,doc,pm,an,Hf,ct,LA,rfl,l,c⟩,k⟩
end
theorem hu_of{A:Around}{k:Nat}(hr:Room k A):A.units+1<cLine:=Nat.lt_of_le_of_lt (Nat.add_le_add_left (by decide:1<=64) _) hr.units
section
variable{X:Cx}
theorem pv(i:Nat){x:Str}{pos:Pos}(hN:X.N[i]?=some x:=by rfl)(hv:QU X.env.scope x:=by first|exact Or.inl rfl|exact Or.inr (Or.inl rfl)|exact Or.inr (Or.inr rfl))(hd:(x==("__debug__" : Str))=false:=by decide)
  (Le:(x==("__classdict__" : Str))=false:=by decide):PE X (.Name x pos) (pG i):=A9 hN hv hd Le
end
theorem iteF{A B:Prop}(h:B):if false=true then A else B:=by
 rw[S4 SX];exact h
theorem DJ{A B:Prop}(h:A):if true=true then A else B:=by
 rw[S1 rfl];exact h
def Same(H H':Hp):Prop:=∀b o,H b=some o->H' b=some o
theorem Same.refl(H:Hp):Same H H:=fun _ _ h=>h
theorem Same.trans{H H1 H2:Hp}(a:Same H H1)(b:Same H1 H2):Same H H2:=fun c o h=>b c o (a c o h)
end L2
set_option maxHeartbeats 4000000
namespace NX
open PySem PySem.Spec PyProof.Rows L2
section
variable{X:Cx}
theorem vZ(v:Int)(n:Nat):max (0:Int) (min (if v<0 then v+(n:Int) else v) (n:Int))=((HT.sIx n 0 (some v):Nat):Int):=by
 show _=(((if v<0 then(v+(n:Int)).toNat else min v.toNat n):Nat):Int)
 split <;> lia
theorem BG(a b:Nat):sliceRange (a:Int) (b:Int) 1=(List.range (b-a)).map (fun k=>a+k):=by
 unfold sliceRange;rw[S1 (by decide:(1:Int)>0)];by_cases HC:(a:Int)<b
 ·have e3:(((b:Int)-a+1-1) / 1).toNat=b-a:=by first|lia|(simp;done)|(simp;lia)
  simp only[HC,Vu,e3];refine T6 fun k _=>?_
  lia
 ·have:b-a=0:=by lia
  simp[HC,this]
theorem F8(lo hi:Option Int)(n:Nat):Builtin.Str.strSliceIndices lo hi 1 n=(List.range (HT.sIx n n hi-HT.sIx n 0 lo)).map (fun k=>HT.sIx n 0 lo+k):=by
 rw[<-BG];unfold Builtin.Str.strSliceIndices;simp only[show(1:Int)>0 from by decide,Vu];cases lo with
 |none=>
  cases hi with
  |none=>rfl
  |some v=>exact TY (fun z=>sliceRange 0 z 1) (vZ v n)
 |some u=>
  cases hi with
  |none=>exact TY (fun z=>sliceRange z (n:Int) 1) (vZ u n)
  |some v=>exact(TY (fun z=>sliceRange z _ 1) (vZ u n)).trans (TY (fun z=>sliceRange _ z 1) (vZ v n))
def BH(xs:List Nat)(lo hi:Option Int):List Nat:=(xs.drop (HT.sIx xs.length 0 lo)).take (HT.sIx xs.length xs.length hi-HT.sIx xs.length 0 lo)
theorem xS{α:Type}(l:List α):∀(n a:Nat),a+n<=l.length->((List.range n).map (fun k=>a+k)).filterMap (l[·]?)=(l.drop a).take n
 | 0,_,_=>by simp
 |n+1,a,h=>by
  have HC:a+n<l.length:=by lia
  rw[List.range_succ,Tb,List.filterMap_append,xS l n a (by lia),List.take_add_one,List.getElem?_drop];simp[List.getElem?_eq_getElem HC]
theorem sU(x:Str)(lo hi:Option Int):(Txt.slice x lo hi).cps.toList=BH x.cps.toList lo hi:=by
 have hl:x.cps.toList.length=x.length:=T5;have ha:=HT.sO x.length 0 (Tw _) lo;have hb:=HT.sO x.length x.length (SV _) hi;unfold Txt.slice BH;rw[F8,hl];split
 ·rename_i h;have h2:HT.sIx x.length x.length hi-HT.sIx x.length 0 lo=x.length:=by simpa using h
  have ez:HT.sIx x.length 0 lo=0\/x.length=0:=by lia
  rcases ez with e|e
  ·rw[h2,e,V2,UB (by lia)]
  ·have:x.cps.toList=[]:=TK (by lia);rw[this];simp
 ·have hk:∀(f:List Nat),f.filterMap (x.cps[·]?)=f.filterMap (x.cps.toList[·]?):=fun f=>by
   congr 1
   funext i
   simp
  show(List.filterMap _ _).toArray.toList=_;rw[VQ,hk];by_cases hle:HT.sIx x.length 0 lo<=HT.sIx x.length x.length hi
  ·rw[xS _ _ _ (by lia)]
  ·have e0:HT.sIx x.length x.length hi-HT.sIx x.length 0 lo=0:=by lia
   rw[e0];rfl
abbrev S(l:List Nat):Str:=⟨l.toArray⟩
theorem mW(x:Str):S x.cps.toList=x:=by cases x;simp[S]
theorem S_inj{a b:List Nat}(h:S a=S b):a=b:=by
 have:=TY (fun z:Str=>z.cps.toList) h;simpa[S] using this
theorem kF(l:List Nat):(S l).length=l.length:=by simp[S,Str.length]
theorem cN(l:List Nat):(S l).cps.toList=l:=by simp[S]
theorem Ef(a b:List Nat):S a++S b=S (a++b):=by
 rw[<-mW (S a++S b),PySem.W.KT.app_list,cN,cN]
def F9:V->Option Int->Option Int->Hp->VK->Prop:=fun x lo hi H Q=>∃l,x=.str (S l)/\l.length<=sizeLine/\Q (.str (S (BH l lo hi))) H
theorem BI:NC X F9:=by
 intro pr s σ H x v vl vu lo hi sl Q I rx hs pl pu h;obtain⟨l,rfl,hz,q⟩:=h;obtain⟨t,rfl⟩:=rx;have hz':(S l).length<=sizeLine:=by rw[kF];exact hz
 have e:∀t' k,EP X pr σ Q (.str (Txt.slice (S l) lo hi) t') {s with toks:=k}:=fun t' k=>by
  refine⟨.str (S (BH l lo hi)),H,I.tok _,⟨t',?_⟩,q⟩;have e1:=sU (S l) lo hi;rw[cN]at e1;rw[<-e1,mW]
 refine⟨"str",_,PySem.F.slot_str_getitem.lookup,V7 _ _ _,?_⟩;have key:∀(NF Qq:Option (Int×Tok)),partValue NF=vl->partValue Qq=vu->NF.map (·.1)=lo->Qq.map (·.1)=hi->
   wpAny (model X.prog X.w) X.A (getItem (.str (S l) t) (.ref sl)) (EP X pr σ Q) X.xe s:=by
  rintro NF Qq rfl rfl rfl rfl;exact wpAny_getItem_str_slice (l:=NF) (u:=Qq) (st:=none) hs rfl (post_val_or_str ⟨Tp (Txt.slice_le (S l) _ _) hz',fun t' k=>e t' k⟩)
 cases pl with
 |none=>
  cases pu with
  |none=>exact key none none rfl rfl rfl rfl
  |int j uj=>exact key none (some (j,uj)) rfl rfl rfl rfl
 |int i ui=>
  cases pu with
  |none=>exact key (some (i,ui)) none rfl rfl rfl rfl
  |int j uj=>exact key (some (i,ui)) (some (j,uj)) rfl rfl rfl rfl
theorem yV{xs:List V}{j:Nat}{x:V}(h:xs[j]?=some x):xs.getD j .non=x:=by rw[List.getD_eq_getElem?_getD,h];rfl
end
def Def(K:W.Frag)(mg:Str->Option Value)(x:Str)(st:Stmt):Prop:=∃f fd,Fun K x x st f fd/\mg x=some (.ref f)
def Ct(P:Program)(w:World)(K:W.Frag)(mg:Str->Option Value)(base:Heap)(x:Str)(k:Nat)(sp:Sp):Prop:=
 ∃f fd ps,FnOk P w K mg base Li k f fd ps sp/\mg x=some (.ref f)/\PySem.W.keepIn K (.ref f)=true/\Binds K fd ps []
section
variable{X:Cx}{e:Expr}{es:List Expr}{t:TA}{x:Str}{p pos:Pos}{k:Nat}{sp:Sp}
theorem yW(C:Ct X.prog X.w X.K X.mg X.base x k sp)(hr:Room k X.A)(hg:Gl X x)(ha:PA X (e::es) t)(Ie:(x==("__debug__" : Str))=false:=by decide)
  (he:starEach (e::es) X.env=(false,eval e X.env)::starEach es X.env:=by rfl) (Ic:(backTo pos (starEach es X.env)).any (·.1)=false:=by rfl):
  PE X (.Call (.Name x p) (e::es) [] pos) (tCall sp [] E0 t):=by
 obtain⟨f,fd,ps,G,m,kp,b⟩:=C;exact yJ G hr hg m kp b .nil Ee ha Ie he Ic
end
theorem bt_len:bootBuiltins "len" = some (.builtin "len"):=by decide +kernel
theorem eF:bootBuiltins "isinstance" = some (.builtin "isinstance"):=by decide +kernel
theorem yX:bootBuiltins "list" = some (.type "list"):=by decide +kernel
theorem cB:bootBuiltins "tuple" = some (.type "tuple"):=by decide +kernel
theorem line_eq:sizeLine=16777216:=TQ
theorem flat_strs(a:List (List Nat)):(a.map fun l=>V.str (S l)).all vW=true:=by
 rw[Ti];intro v hv;obtain⟨l,_,rfl⟩:=T9.mp hv;rfl
section
variable{X:Cx}{e:Expr}{st:Stmt}
end
def clOf(scope:Scope)(env:Env):List (Str×Addr):=scope.names.foldl (fun cs y=>if y.2==NameKind.free then(y.1,(env.cells.lookup y.1).getD 0)::cs else cs) []
def hV(scope:Scope)(env:Env):Bool:=scope.names.all fun y=>y.2 != NameKind.free||env.kindOf y.1==some .cell||env.kindOf y.1==some .free
theorem gm(env:Env):∀(l:List (Str×NameKind)) (cs:List (Str×Addr)),(∀y∈l,y.2=.free->∃c,env.cells.lookup y.1=some c)->
  (forIn l cs fun(y:Str×NameKind) (r:List (Str×Addr))=>(do
   if y.2==NameKind.free then
    let a <-cellOf env y.1
    pure (ForInStep.yield ((y.1,a)::r))
   else pure (ForInStep.yield r):Sem (ForInStep (List (Str×Addr)))))=pure (l.foldl (fun cs y=>if y.2==NameKind.free then(y.1,(env.cells.lookup y.1).getD 0)::cs else cs) cs)
 |[],cs,_=>by simp
 |y::l,cs,h=>by
  rw[WJ,U4];by_cases k:y.2=.free
  ·obtain⟨c,e⟩:=h y SN k;have e2:cellOf env y.1=pure c:=by unfold cellOf;rw[e]
   simp only[k,Uq,Vu,e2,e,VB,pure_bind];exact gm env l _ fun z hz=>h z (SU _ hz)
  ·have kb:(y.2==NameKind.free)=false:=by simpa using k
   simp only[kb,Um,VL,pure_bind];exact gm env l _ fun z hz=>h z (SU _ hz)
theorem gF(env:Env)(x:Str)(c:Addr):∀(l:List (Str×NameKind)) (cs:List (Str×Addr)),(∀y∈l,y.2=.free->∃c,env.cells.lookup y.1=some c)->(cs.lookup x=some c->env.cells.lookup x=some c)->
  (l.foldl (fun cs y=>if y.2==NameKind.free then(y.1,(env.cells.lookup y.1).getD 0)::cs else cs) cs).lookup x=some c->env.cells.lookup x=some c
 |[],_,_,h,e=>h e
 |y::l,cs,hf,h,e=>by
  rw[U4]at e;refine gF env x c l _ (fun z hz=>hf z (SU _ hz)) (fun q=>?_) e;split at q
  ·rename_i k;have k:y.2=.free:=by simpa using k
   obtain⟨d,ed⟩:=hf y SN k;rw[TV]at q;cases hx:x==y.1 with
   |true=>
    rw[hx]at q;have exy:x=y.1:=by simpa using hx
    rw[ed,VB]at q;rw[exy,ed];exact q
   |false=>
    rw[hx]at q;exact h q
  ·exact h q
theorem jJ(env:Env)(x:Str):∀(l:List (Str×NameKind)) (cs:List (Str×Addr)),((∃d,cs.lookup x=some d)\/(x,NameKind.free)∈l)->
  ∃d,(l.foldl (fun cs y=>if y.2==NameKind.free then(y.1,(env.cells.lookup y.1).getD 0)::cs else cs) cs).lookup x=some d
 |[],_,h=>by
  rcases h with h|h
  ·exact h
  ·cases h
 |y::l,cs,h=>by
  rw[U4];refine jJ env x l _ ?_;rcases h with⟨d,h⟩|h
  ·refine .inl ?_;split
   ·rw[TV];cases hx:x==y.1 with
    |true=>exact⟨_,rfl⟩
    |false=>exact⟨d,h⟩
   ·exact⟨d,h⟩
  ·rcases S3.mp h with h|h
   ·refine .inl ?_;rw[<-h];refine⟨(env.cells.lookup x).getD 0,?_⟩;show List.lookup x ((x,_)::cs)=_;rw[TV,Uq]
   ·exact .inr h
noncomputable def bO(X:Cx)(scope:Scope)(N:List Str)(C:Addr)(s:Shared)(H:Hp)(fp:List Addr)(pn:List (Addr×Obj)):Cx:=
 {X with N:=N,s₀:=s,H₀:=H,env:=compEnvC scope (clOf scope X.env) C X.env,outer:=X.stack,ex:=fp,fn:=fun _=>false,pn:=pn,xe:=fun _ _=>False}
def kP(ix:List (Option Nat))(σ:L2.St):L2.St:=ix.map fun i=>i.bind fun i=>(σ[i]?).bind id
noncomputable def yY(wi:TI)(ix:List (Option Nat))(g:TG)(tc:TT)(te:TE):TE:=fun σ H Q=>wi σ H fun J H1=>∀D,H1 D=none->∃W:Nat->Nat->L2.St->Hp->Prop,(∃m,W 0 m (kP ix σ) (upd H1 D (.lst [])))/\
 ∀i m σ1 H2,W i m σ1 H2->(J.stop i H2/\Q (.ref D) H2)\/(J.go i H2/\∀x H3,J.yld i H2 x H3->g x σ1 H3 fun σ2 H4=>tc σ2 H4 fun b H5=>if b=true then te σ2 H5 fun v H6=>
  ∃ys,H6 D=some (.lst ys)/\ys.length<sizeLine/\∃m',m'<m/\W (i+1) m' σ2 (upd H6 D (.lst (ys++[v]))) else ∃m',m'<m/\W (i+1) m' σ2 H5)
abbrev Mm:Value->Shared->Prop:=fun _ _=>False
theorem OL{α:Type}{M:Model}{A:Around}{t:Sem α}{Q Q':α->Shared->Prop}{E:Value->Shared->Prop}{s:Shared}(h:wpAny M A t Q Mm s)(k:∀a s,Q a s->Q' a s):wpAny M A t Q' E s:=TZ h k fun _ _ z=>z.elim
theorem sV{prog:Program}{w:World}{A:Around}{R:Result->Shared->Prop}{s:Shared}{elt target iter:Expr}{ifs:List Expr}{scope:Scope}{pos:Pos}{it acc:Value}{env:Env}(I:Nat->Shared->Prop)
  (turn:∀n s,I n s->wpAny (model prog w) A (pyNext it) (fun r s₁=>match r with
   |none=>R (.ok .next) s₁
   |some v=>wpAny (model prog w) A (letOwnedTupleGo target it v) (fun _ s₂=>wpAny (model prog w) A (assign target env v) (fun _ s₃=>
     wpAny (model prog w) A (forIn ifs true fun c r=>if r=true then do let ok <-isTrue c env (eval c env);pure (ForInStep.yield ok) else pure (ForInStep.yield r)) (fun ok s₄=>
      if ok=true then wpAny (model prog w) A (eval elt env) (fun x s₅=>
       wpAny (model prog w) A (call (.builtin "list.append") [acc,x]) (fun _ s₆=>∃m,m<n/\I m s₆) Mm s₅) Mm s₄
      else ∃m,m<n/\I m s₄) Mm s₃) Mm s₂) Mm s₁) Mm s)
  (n:Nat) (h:I n s):codeAny (model prog w) A (.compLoop (.ListComp elt [⟨target,iter,ifs,0⟩] scope pos) 0 it acc env) R s:=by
 refine codeAny_loop rfl I (fun n s hI=>?_) n h;show wpAny _ A ((compTurn (.ListComp elt [⟨target,iter,ifs,0⟩] scope pos) 0 it acc env).onRaise (fun x=>do noteFrame x env;theTreesLotGoes x)) _ _ s;refine wpAny_noted ?_;rw[compTurn_list];refine SM (Xc (SM (OL (turn n s hI) fun r s₁ h₁=>?_)));cases r with
 |none=>exact SQ h₁
 |some v=>
  refine SM (OL h₁ fun _ s₂ h₂=>SM (OL h₂ fun _ s₃ h₃=>SM (OL h₃ fun ok s₄ h₄=>?_)));cases ok with
  |false=>exact SQ ⟨rfl,h₄⟩
  |true=>exact SM (SM (OL h₄ fun x s₅ h₅=>SM (OL h₅ fun _ s₆ h₆=>SQ (SQ ⟨rfl,h₆⟩))))
def OM(X:Cx)(ifs:List Expr)(t:TT):Prop:=
 ∀(pr:List (Addr×Obj)) (s:Shared) (σ:L2.St) (H:Hp) (Q:Bool->Hp->Prop),Inv X pr σ H s->t σ H Q->
  wpAny (model X.prog X.w) X.A (forIn ifs true fun c r=>if r=true then do let ok <-isTrue c X.env (eval c X.env);pure (ForInStep.yield ok) else pure (ForInStep.yield r)) (TP X pr σ Q) X.xe s
def Ga:TT:=fun _ H Q=>Q true H
theorem yZ{X:Cx}:OM X [] Ga:=fun _ _ _ H _ I h=>wpAny_tests_nil ⟨H,I,h⟩
theorem y0{X:Cx}{c:Expr}{t:TT}(h:PT X c t):OM X [c] t:=fun pr s σ H Q I k=>wpAny_tests_one (h pr s σ H Q I k)
def xT(X:Cx)(scope:Scope)(N:List Str)(ix:List (Option Nat)):Bool:=
 N.length==ix.length&&(N.zip ix).all fun y=>match y.2 with
  |none=>true
  |some j=>X.N[j]?==some y.1&&scope.names.lookup y.1==some .free
theorem mX{scope:Scope}{env:Env}{x:Str}(h:scope.names.lookup x=some .free):(relabel scope env).names.lookup x=some .cell\/(relabel scope env).names.lookup x=some .free:=by
 unfold relabel;dsimp only;generalize scope.names=l at h;induction l with
 |nil=>cases h
 |cons y l ih=>
  obtain⟨n,k⟩:=y;rw[TV]at h;rw[S7];cases hx:x==n with
  |true=>
   rw[hx]at h;have hk:k=.free:=Tf h;subst hk;dsimp only;split
   ·exact .inl (by rw[TV,hx])
   ·exact .inr (by rw[TV,hx])
  |false=>
   rw[hx]at h;dsimp only;split
   ·rw[TV,hx];exact ih h
   ·rw[TV,hx];exact ih h
theorem mY{scope:Scope}{env:Env}{x:Str}(hc:∀y∈scope.names,y.2≠.cell)(h:(relabel scope env).names.lookup x=some .cell\/(relabel scope env).names.lookup x=some .free):(x,NameKind.free)∈scope.names:=by
 unfold relabel at h;dsimp only at h;generalize scope.names=l at h hc;induction l with
 |nil=>rcases h with h|h <;> cases h
 |cons y l ih=>
  obtain⟨n,k⟩:=y;rw[S7]at h;dsimp only at h;have nk:k≠.cell:=hc (n,k) SN;have R9:=ih (hc:=fun z hz=>hc z (SU _ hz));by_cases cnd:(k==NameKind.free&&env.scope.kind==.function&&env.kindOf n==some .cell)=true
  ·rw[S1 cnd,TV]at h;have kf:k=.free:=by
    have:(k==NameKind.free)=true:=by
     simp only[SY]at cnd;exact cnd.1.1
    simpa using this
   cases hx:x==n with
   |true=>
    have:x=n:=by simpa using hx
    rw[this,kf];exact SN
   |false=>
    rw[hx]at h;exact SU _ (R9 h)
  ·rw[S4 cnd,TV]at h;cases hx:x==n with
   |true=>
    rw[hx]at h;have:x=n:=by simpa using hx
    rcases h with h|h
    ·exact absurd (Tf h) nk
    ·rw[this,<-Tf h];exact SN
   |false=>
    rw[hx]at h;exact SU _ (R9 h)
section
variable{X:Cx}{pr:List (Addr×Obj)}{σ:L2.St}{H:Hp}{s:Shared}{scope:Scope}{N:List Str}{ix:List (Option Nat)}{fp:List Addr}
theorem lD(ok:X.Ok)(hf:hV scope X.env=true):∀y∈scope.names,y.2=.free->∃c,X.env.cells.lookup y.1=some c:=fun y hy k=>by
 have:=Ti.mp hf y hy;rw[k]at this;simp only[V9,Bool.false_or,VR,Tu]at this;exact ok.has y.1 this
theorem jK(ok:X.Ok)(hf:hV scope X.env=true){x:Str}{c:Addr}(h:(clOf scope X.env).lookup x=some c):X.env.cells.lookup x=some c:=
 gF X.env x c scope.names [] (lD ok hf) (fun z=>nomatch z) h
theorem sW(ok:X.Ok)(hf:hV scope X.env=true){x:Str}(h:(x,NameKind.free)∈scope.names):∃c,(clOf scope X.env).lookup x=some c/\X.env.cells.lookup x=some c:=by
 obtain⟨c,e⟩:=jJ X.env x scope.names [] (.inr h);exact⟨c,e,jK ok hf e⟩
theorem _root_.L2.Inv.block(I:Inv X pr σ H s)(hf:hV scope X.env=true)(hk:scope.kind=.function)(HP:∀y∈scope.names,y.2≠.cell)(IV:xT X scope N ix=true)(fo:∀b∈fp,rT X pr H b)(fin:∀b∈fp,∃o,s.heap.get? b=some o)
  {h1:Heap}{t1:Nat}{D C:Addr}(hD:D=s.heap.objs.size) (hC:C=s.heap.objs.size+1) (old:∀b o,s.heap.get? b=some o->h1.get? b=some o) {n:Nat}(acc:h1.get? D=some {cls:=.type "list",data:=.seq #[] n})
  {m:Str->Option Value}(ns:h1.Ns C m):Inv (bO X scope N C s H fp (X.pn++pr)) [] (kP ix σ) (upd H D (.lst [])) {s with heap:=h1,toks:=t1}:=by
 have Kw:s.heap.objs.size<=C:=by rw[hC];exact U5 _
 have freshD:s.heap.objs.size<=D:=by rw[hD];exact SV _
 have nD:H D=none:=I.hok.fresh freshD;have DC:D≠C:=by rw[hD,hC];exact S8 (UZ _)
 have NG:∀b,H b=none->b≠D->upd H D (.lst []) b=none:=fun b n z=>by rw[az z];exact n
 have ON:∀b o,s.heap.get? b=some o->b≠D:=fun b o e=>S8 (S6 (S2 e) freshD)
 have Mn:∀b o,s.heap.get? b=some o->b≠C:=fun b o e=>S8 (S6 (S2 e) Kw)
 have cellAt:∀x c,(clOf scope X.env).lookup x=some c->∃v o,s.heap.get? c=some o/\o.data=.cell v:=fun x c e=>by
  obtain⟨v,o,ho,hd⟩:=I.cell x c (jK I.ok hf e);exact⟨v,o,ho,hd⟩
 have okY:(bO X scope N C s H fp (X.pn++pr)).Ok:=by
  refine⟨I.ok.mod,hk,I.ok.glob,I.ok.blt,Kw,fun x y c e1 e2=>?_,fun x hx=>?_,fun x c z _=>?_,I.ok.hd,I.ok.frames,.inl rfl,fun b hb=>?_,I.bs,?_,fun b o e hb=>?_,fun b hb hs=>?_,I.stack,I.stkFree⟩
  ·exact I.ok.inj x y c (jK I.ok hf e1) (jK I.ok hf e2)
  ·obtain⟨c,e,_⟩:=sW I.ok hf (mY HP hx);exact⟨c,e⟩
  ·exact absurd (show false=true from z) SX
  ·obtain⟨f0,f1,f2,f3,f4,f5⟩:=fo b hb;refine⟨?_,fun x c e=>f4 x c (jK I.ok hf e)⟩;intro z;have z:b=C:=z;obtain⟨o,ho⟩:=fin b hb;exact Mn b o ho z
  ·exact Tp I.ok.bsz I.sz
  ·obtain⟨f0,f1,f2,f3,f4,f5⟩:=fo b hb;rcases f3 with q|q
   ·exact I.ok.noex b o e q
   ·exact absurd (S6 (S2 e) (Tp I.ok.bsz q)) (UH _)
  ·obtain⟨f0,f1,f2,_⟩:=fo b hb;exact(S3.mp (I.stkSub b hs)).elim f1 f2
 refine⟨okY,rfl,I.bare,Un.laid old freshD nD,⟨m,ns,fun i x v e1 e2 e3=>?_⟩,fun x c e=>?_,?_,fun x c e=>?_,fun p hp=>?_,I.hok.laid old freshD ⟨Tw _,[],n,.nil,acc⟩,?_⟩
 ·
  have e2:(ix.map fun i=>i.bind fun i=>(σ[i]?).bind id)[i]?=some (some v):=e2;have e1:N[i]?=some x:=e1;unfold xT at IV;rw[SY]at IV;rw[List.getElem?_map]at e2;cases q:ix[i]? with
  |none=>rw[q]at e2;cases e2
  |some o=>
   rw[q]at e2;have e2:(o.bind fun i=>(σ[i]?).bind id)=some v:=Tf e2;cases o with
   |none=>cases e2
   |some j=>
    have e2:(σ[j]?).bind id=some v:=e2;have hσ:σ[j]?=some (some v):=by
     cases w':σ[j]? with
     |none=>rw[w']at e2;cases e2
     |some y=>rw[w']at e2;exact TY some e2
    have hz:(N.zip ix)[i]?=some (x,some j):=by
     rw[List.getElem?_zip_eq_some];exact⟨e1,q⟩
    have hy:=Ti.mp IV.2 _ (Ts hz);simp only[SY,Tu]at hy;have Sa:(x,NameKind.free)∈scope.names:=Uz hy.2;obtain⟨c,c1,c2⟩:=sW I.ok hf Sa;have O7:X.env.kindOf x=some .cell\/X.env.kindOf x=some .free:=by
     have:=Ti.mp hf _ Sa;simpa using this
    obtain⟨mo,R6,R7⟩:=I.loc;obtain⟨u,r,l⟩:=R7 j x v hy.1 hσ (.inr O7);refine⟨u,r,.inr ⟨mX hy.2,c,c1,?_⟩⟩;rcases l with⟨k1,_⟩|⟨_,c',e',Mj⟩
    ·rcases O7 with k2|k2 <;> (rw[k1]at k2;cases k2)
    ·rw[c2]at e';cases e';obtain⟨o,ho,hd⟩:=Mj;exact⟨o,old c o ho,hd⟩
 ·obtain⟨v,o,ho,hd⟩:=cellAt x c e;exact⟨v,o,old c o ho,hd⟩
 ·exact NG C (I.hok.fresh Kw) (Ui DC)
 ·obtain⟨v,o,ho,hd⟩:=cellAt x c e;exact NG c (I.freeC x c (jK I.ok hf e)) (ON c o ho)
 ·have hp:p∈X.pn++pr:=by
   have:p∈(X.pn++pr)++[]:=hp
   rwa [Ta]at this
  obtain⟨e,nn,ne,nf,d⟩:=I.pin p hp;refine⟨old _ _ e,NG _ nn (ON _ _ e),Mn _ _ e,fun z=>?_,d⟩;exact(S3.mp (I.stkSub p.1 z)).elim ne nf
 ·unfold xT at IV;rw[SY]at IV;have:N.length=ix.length:=by simpa using IV.1
  show(ix.map _).length=N.length;rw[SO,this]
theorem _root_.L2.Inv.unblock{C:Addr}{σ1:L2.St}{H1:Hp}{s1:Shared}{h2:Heap}(I:Inv X pr σ H s)(fo:∀b∈fp,rT X pr H b)(hC:s.heap.objs.size<=C)(J:Inv (bO X scope N C s H fp (X.pn++pr)) [] σ1 H1 s1)(hs:Heap.SameBut C s1.heap h2):
  Inv X pr σ H1 {s1 with heap:=h2}:=by
 have Mn:∀b o,s.heap.get? b=some o->b≠C:=fun b o e=>S8 (S6 (S2 e) hC)
 have bb:Un (Jb X.stack) fp H H1 s.heap s1.heap:=J.base;have jf:H1 C=none:=J.free;refine I.call' (s':={s1 with heap:=h2}) (ch:=fp) J.os ⟨fun b o e n hb hx=>?_,fun b o e n hb hx=>?_,bb.free,fun b o e hx=>?_,bb.tups,bb.frzs,bb.tbls⟩ (fun b ob e=>?_) J.bare fun b hb=>?_
 ·exact(hs.2 b (Mn b o e)).trans (bb.keep b o e n hb hx)
 ·obtain⟨sl,q⟩:=bb.slot b o e n hb hx;exact⟨sl,(hs.2 b (Mn b o e)).trans q⟩
 ·obtain⟨o',q⟩:=bb.there b o e hx;exact⟨o',(hs.2 b (Mn b o e)).trans q⟩
 ·refine(J.hok b ob e).stay (fun c w' hc q=>(hs.2 c ?_).trans q) (fun _ q=>q) fun _ _ q=>q
  rintro rfl;rcases hc with rfl|hc
  ·rw[jf]at e;cases e
  ·rw[jf]at hc;cases hc
 ·obtain⟨f0,f1,f2,f3,f4,f5⟩:=fo b hb;exact⟨f3,f1,f4,f5⟩
end
section
variable{X:Cx}{scope:Scope}{N:List Str}{ix:List (Option Nat)}{tg iter elt:Expr}{ifs:List Expr}{pos:Pos}{wi:TI}{g:TG}{tc:TT}{te:TE}
theorem kQ{pr:List (Addr×Obj)}{σ:L2.St}{H2:Hp}{s2:Shared}{J:It}{fp:List Addr}{it:Addr}{tn:Nat->Heap->Prop}{Q:VK}{RR:Value->Addr->Result->Shared->Prop}{E:Value->Shared->Prop}
  (hc:X.calm=true) (I2:Inv X pr σ H2 s2) (T:Turn X.prog X.w X.K tg J fp it tn) (GW:tn 0 s2.heap) (f2:∀b∈fp,rT X pr H2 b)
  (hg:∀C s H fp pn,PG (bO X scope N C s H fp pn) tg g) (ht:∀C s H fp pn,OM (bO X scope N C s H fp pn) ifs tc) (he:∀C s H fp pn,PE (bO X scope N C s H fp pn) elt te)
  (hf:hV scope X.env=true) (hk:scope.kind=.function) (HP:∀y∈scope.names,y.2≠.cell) (IV:xT X scope N ix=true)
  (q:∀D,H2 D=none->∃W:Nat->Nat->L2.St->Hp->Prop,(∃m,W 0 m (kP ix σ) (upd H2 D (.lst [])))/\
   ∀i m σ1 H3,W i m σ1 H3->(J.stop i H3/\Q (.ref D) H3)\/(J.go i H3/\∀x H4,J.yld i H3 x H4->g x σ1 H4 fun σ2 H5=>tc σ2 H5 fun b H6=>if b=true then te σ2 H6 fun v H7=>
    ∃ys,H7 D=some (.lst ys)/\ys.length<sizeLine/\∃m',m'<m/\W (i+1) m' σ2 (upd H7 D (.lst (ys++[v]))) else ∃m',m'<m/\W (i+1) m' σ2 H6))
  (hRR:∀(D C:Addr) (σ1:L2.St) (H1:Hp) (s1:Shared),s2.heap.objs.size<=C->Inv (bO X scope N C s2 H2 fp (X.pn++pr)) [] σ1 H1 s1->Q (.ref D) H1->RR (.ref D) C (.ok .next) s1):
  wpAny (model X.prog X.w) X.A (newList []) (fun acc s₃=>wpAny (model X.prog X.w) X.A (newFunctionEnv scope X.env.globals (clOf scope X.env) [] X.env.qual none .none (some X.env)) (fun O8 s₄=>
   codeAny (model X.prog X.w) X.A (.compStart (.ListComp elt [⟨tg,iter,ifs,0⟩] scope pos) 0 (.ref it) acc {O8 with scope:=relabel scope X.env}) (RR acc O8.locals) s₄) E s₃) E s2:=by
 refine TM (wpAny_newFunctionEnv HP (by intro y hy;simp at hy) (fun h₁ hns₁ hsb₁=>?_) hk);dsimp only at hns₁ hsb₁ ⊢;generalize hH2:s2.heap.push {cls:=.type "list",dict:=none,data:=.seq ([]:List Value).toArray}=HH at hns₁ hsb₁ ⊢;have hC:HH.objs.size=s2.heap.objs.size+1:=by rw[<-hH2,U1]
 have hDC:s2.heap.objs.size≠HH.objs.size:=by rw[hC];exact S8 (UZ _)
 have O9:s2.heap.objs.size<=HH.objs.size:=by rw[hC];exact U5 _
 have Mn:∀b o,s2.heap.get? b=some o->b≠HH.objs.size:=fun b o e=>S8 (S6 (S2 e) O9)
 have old:∀b o,s2.heap.get? b=some o->h₁.get? b=some o:=fun b o e=>hsb₁.extBut b o (Mn b o e) (Heap.get?_push_of_some _ (hH2▸Heap.get?_push_of_some _ e))
 have Kx:h₁.get? s2.heap.objs.size=some {cls:=.type "list",data:=.seq #[] 0}:=hsb₁.extBut _ _ hDC (Heap.get?_push_of_some _ (hH2▸Heap.get?_push_size _ rfl));obtain⟨W,⟨m0,w0⟩,turn⟩:=q s2.heap.objs.size (I2.hok.fresh (SV _));have fin:∀b∈fp,∃o,s2.heap.get? b=some o:=fun b hb=>let⟨o,e,_⟩:=T.obj 0 _ GW b hb;⟨o,e⟩
 have Ku:∀{H':Hp},(∀b∈fp,H' b=none)->∀b∈fp,rT (bO X scope N HH.objs.size s2 H2 fp (X.pn++pr)) [] H' b:=fun{H'} hn b hb=>by
  obtain⟨f0,f1,ff,f3,f4,f5⟩:=f2 b hb;refine⟨hn b hb,?_,fun z=>?_,.inl hb,fun x c e=>f4 x c (jK I2.ok hf e),fun p hp=>?_⟩
  ·intro z;have z:b=HH.objs.size:=z;obtain⟨o,ho⟩:=fin b hb;exact Mn b o ho z
  ·exact(S3.mp (I2.stkSub b z)).elim f1 ff
  ·have hp:p∈X.pn++pr:=by
    have:p∈(X.pn++pr)++[]:=hp
    rwa [Ta]at this
   exact f5 p hp
 have loop:∀s₃:Shared,s₃={s2 with heap:=h₁,toks:=s2.toks+([]:List (Str×Value)).length}->
   codeAny (model X.prog X.w) X.A (.compLoop (.ListComp elt [⟨tg,iter,ifs,0⟩] scope pos) 0 (.ref it) (.ref s2.heap.objs.size) (compEnvC scope (clOf scope X.env) HH.objs.size X.env)) (RR (.ref s2.heap.objs.size) HH.objs.size) s₃:=by
  rintro s₃ rfl;refine sV (fun n s'=>∃i σ' H',Inv (bO X scope N HH.objs.size s2 H2 fp (X.pn++pr)) [] σ' H' s'/\tn i s'.heap/\(∀b∈fp,H' b=none)/\W i n σ' H') ?_ m0
   ⟨0,_,_,I2.block hf hk HP IV f2 fin rfl hC old Kx hns₁,T.keep 0 _ _ GW fun b _ o e=>old b o e,fun b hb=>?_,w0⟩
  ·rintro n s3 ⟨i,σ3,H3,I3,Hs,OY,w3⟩;rcases turn i n σ3 H3 w3 with⟨stop,qn⟩|⟨go,step⟩
   ·refine He (T.done (bO X scope N HH.objs.size s2 H2 fp (X.pn++pr)) rfl rfl rfl hc i [] s3 σ3 H3 Mm I3 (Ku OY) Hs stop) fun r s4 Hh=>?_
    obtain⟨hr,I4⟩:=Hh;subst hr;exact hRR _ _ σ3 H3 s4 O9 I4 qn
   ·refine He (T.item (bO X scope N HH.objs.size s2 H2 fp (X.pn++pr)) rfl rfl rfl hc i [] s3 σ3 H3 Mm I3 (Ku OY) Hs go) fun r s4 Hh=>?_
    obtain⟨u,hr,h4⟩:=Hh;subst hr;refine He h4 fun _ s5 Hh=>?_
    obtain⟨x,H5,I5,r5,y5,Jx,QZ⟩:=Hh;have Q0:=I5.pinned (Ku QZ) (T.obj _ _ Jx);refine He (hg _ _ _ _ _ _ s5 σ3 H5 x u _ Q0 r5 (step x H5 y5)) fun _ s6 Hh=>?_
    obtain⟨σ6,H6,I6,q6⟩:=Hh;refine He (ht _ _ _ _ _ _ s6 σ6 H6 _ I6 q6) fun ok s7 Hh=>?_
    obtain⟨H7,I7,q7⟩:=Hh;have again:∀{H8:Hp}{s8:Shared},Inv (bO X scope N HH.objs.size s2 H2 fp (X.pn++pr)) ([]++mK fp s5.heap) σ6 H8 s8->(∃m',m'<n/\W (i+1) m' σ6 H8)->
      ∃m,m<n/\∃i σ' H',Inv (bO X scope N HH.objs.size s2 H2 fp (X.pn++pr)) [] σ' H' s8/\tn i s8.heap/\(∀b∈fp,H' b=none)/\W i m σ' H':=fun{H8 s8} I8 ⟨m',hm,w8⟩=>by
     refine⟨m',hm,i+1,σ6,H8,I8.unpinned,T.keep _ _ _ Jx fun b hb o e=>(I8.pin (b,o) (SS _ (SS _ (gk hb e)))).1,fun b hb=>?_,w8⟩;obtain⟨o,e,d⟩:=T.obj _ _ Jx b hb;exact(I8.pin (b,o) (SS _ (SS _ (gk hb e)))).2.1
    cases ok with
    |false=>exact again I7 q7
    |true=>
     show wpAny _ _ _ _ _ _;refine He (he _ _ _ _ _ _ s7 σ6 H7 _ I7 q7) fun x8 s8 Hh=>?_
     obtain⟨v8,H8,I8,r8,ys,Q8,HC,q8⟩:=Hh;refine He (mU _ s8 σ6 H8 (.ref s2.heap.objs.size) [v8] (.ref s2.heap.objs.size) [x8] (fun _ H9=>∃m',m'<n/\W (i+1) m' σ6 H9) I8 rfl (.cons r8 .nil) ⟨_,ys,v8,rfl,rfl,Q8,HC,q8⟩) fun _ s9 Hh=>?_
     obtain⟨_,H9,I9,_,q9⟩:=Hh;exact again I9 q9
  ·rw[az (fun z=>by
    obtain⟨o,ho⟩:=fin b hb;exact absurd z (S8 (S2 ho)))]
   exact(f2 b hb).1
 exact codeAny_compStart_list (loop _ rfl) (T.self _ 0 _ _ _ (T.keep 0 _ _ GW fun b _ o e=>old b o e) (loop _ rfl))
theorem y1(ix:List (Option Nat))(N:List Str)(hc:X.calm=true)(hi:PI X tg iter wi)(hg:∀C s H fp pn,PG (bO X scope N C s H fp pn) tg g)(ht:∀C s H fp pn,OM (bO X scope N C s H fp pn) ifs tc)(he:∀C s H fp pn,PE (bO X scope N C s H fp pn) elt te)
  (hf:hV scope X.env=true:=by rfl) (hk:scope.kind=.function:=by rfl) (HP:∀y∈scope.names,y.2≠.cell:=by decide +kernel) (IW:∀y∈scope.names,y.2=.local->scope.names.lookup y.1=some .local:=by decide +kernel) (IV:xT X scope N ix=true:=by rfl)
  (hs:∀x,foldedSetIterable iter X.env x=pure x:=by intro _;rfl):PE X (.ListComp elt [⟨tg,iter,ifs,0⟩] scope pos) (yY wi ix g tc te):=by
 intro pr s σ H Q I h;rw[eval_ListComp];have LD:closureFor scope X.env=pure (clOf scope X.env):=by
  unfold closureFor clOf;have:=gm X.env scope.names [] (lD I.ok hf);simpa using this
 refine Wa (use:=none) rfl hs LD hk IW (He (hi pr s σ H _ I h) fun v s1 h1=>He h1 fun Qm s2 h2=>?_);obtain⟨it,fp,tn,J,H2,e,I2,T,GW,f2,q⟩:=h2;subst e;refine kQ (RR:=fun acc C=>compPost (model X.prog X.w) X.A X.xe none (EP X pr σ Q) acc C) (Q:=Q) (iter:=iter) hc I2 T GW f2 hg ht he hf hk HP IV q fun D C σ1 H1 s1 hC J1 q1=>?_
 obtain⟨m,ns,_⟩:=J1.loc;exact⟨m,ns,fun h' NH=>⟨.ref D,H1,I2.unblock f2 hC J1 NH,rfl,q1⟩⟩
end
section
variable{X:Cx}{scope:Scope}{N:List Str}{ix:List (Option Nat)}{tg iter elt:Expr}{ifs:List Expr}{pos:Pos}{wi:TI}{g:TG}{tc:TT}{te:TE}
theorem y3{i:Nat}{y:Str}{py LF:Pos}(ix:List (Option Nat))(N:List Str)(hN:X.N.Nodup)(Q9:X.N[i]?=some y)(hy:Loc X.env.scope y)(hc:X.calm=true)(hi:PI X tg iter wi)(hg:∀C s H fp pn,PG (bO X scope N C s H fp pn) tg g)(ht:∀C s H fp pn,OM (bO X scope N C s H fp pn) ifs tc)
  (he:∀C s H fp pn,PE (bO X scope N C s H fp pn) elt te) (Rb:swapsWith (.ListComp elt [⟨tg,iter,ifs,0⟩] scope pos) (some (.Name y py)) LF.line X.env=pure true:=by rfl)
  (hf:hV scope X.env=true:=by rfl) (hk:scope.kind=.function:=by rfl) (HP:∀y∈scope.names,y.2≠.cell:=by decide +kernel) (IW:∀y∈scope.names,y.2=.local->scope.names.lookup y.1=some .local:=by decide +kernel) (IV:xT X scope N ix=true:=by rfl)
  (hs:∀x,foldedSetIterable iter X.env x=pure x:=by intro _;rfl) (Ld:X.fn y=true\/X.env.scope.names.lookup y=some .local:=by first|exact .inl rfl|exact .inr rfl):
  PS X (.Assign [.Name y py] (.ListComp elt [⟨tg,iter,ifs,0⟩] scope pos) LF) (fun D σ H=>yY wi ix g tc te σ H fun v H'=>D.nx (σ.set i (some v)) H'):=by
 intro pr s σ H Dd I h;rw[exec_Assign_Name_used _ _ _ _ Rb];have LD:closureFor scope X.env=pure (clOf scope X.env):=by
  unfold closureFor clOf;have:=gm X.env scope.names [] (lD I.ok hf);simpa using this
 refine SM (Xc (SM ?_));show wpAny _ X.A (do let _ <-comprehension (.ListComp elt [⟨tg,iter,ifs,0⟩] scope pos) scope X.env _ (newList []) false (eval iter X.env) (some (assign (.Name y py) X.env))) _ _ s;refine SM (TZ (Wa (use:=some (assign (.Name y py) X.env)) (Q:=fun _ s'=>SP X pr Dd .next s') rfl hs LD hk IW
  (He (hi pr s σ H _ I h) fun v s1 h1=>He h1 fun Qm s2 h2=>?_)) (fun _ s' hq=>SQ (SQ hq)) fun _ _ e=>e)
 obtain⟨it,fp,tn,J,H2,e,I2,T,GW,f2,q⟩:=h2;subst e;refine kQ (RR:=fun acc C=>compPost (model X.prog X.w) X.A X.xe (some (assign (.Name y py) X.env)) (fun _ s'=>SP X pr Dd .next s') acc C) (Q:=fun v H'=>Dd.nx (σ.set i (some v)) H') (iter:=iter) hc I2 T GW f2 hg ht he hf hk HP IV q fun D C σ1 H1 s1 hC J1 q1=>?_
 obtain⟨m,ns,_⟩:=id J1.loc;have ns:s1.heap.Ns C m:=ns;have I3:Inv X pr σ H1 s1:=I2.unblock f2 hC J1 (.refl ..);show wpAny _ X.A (assign (.Name y py) X.env (.ref D)) _ _ s1;refine wpAny_assign_Name (mJ I3 hN Q9 hy (v:=.ref D) rfl (fun s4 I4 ⟨a,sb,ha⟩=>?_) Ld);have aC:C≠a:=by
  intro z;rcases ha with ha|ha
  ·exact S8 (S6 I2.lt hC) (ha▸z.symm)
  ·obtain⟨v,o,ho,_⟩:=I2.cell y a ha;exact S8 (S6 (S2 ho) hC) z.symm
 refine⟨m,ns.sameBut sb aC,fun h' NH=>?_⟩;have jf:H1 C=none:=J1.free;have kk:∀b o,b≠C->s4.heap.get? b=some o->h'.get? b=some o:=fun b o hb e=>(NH.2 b hb).trans e
 refine⟨σ.set i (some (.ref D)),H1,?_,q1⟩;have z:=I4.turned (t':=s4.toks) kk jf (fun z=>S8 (S6 I2.lt hC) z.symm) (.inr (Tp I2.sz hC)) (fun x c e z=>by
  obtain⟨v,o,ho,_⟩:=I2.cell x c e;exact S8 (S6 (S2 ho) hC) z) (fun p hp z=>S8 (S6 (S2 (I2.pin p hp).1) hC) z)
 exact z
end
def Itv(val:Nat->V)(n:Nat):It:=⟨fun i _=>i<n,fun i H x H'=>H'=H/\x=val i,fun i _=>i=n⟩
theorem pJ{P:Program}{w:World}{K:W.Frag}{tg:Expr}(ty:String)(LB:["enumerate","zip","dict_itemiterator","dict_reverseitemiterator","odict_iterator","itertools.zip_longest","itertools.pairwise"].contains ty=false)(l:List Nat)(t:Tok)(it:Addr)
  (Wk:∀A:Around,A.handled=none->Walks P w A it [it] [it] (S l).cps.size (SignAt (S l)) (fun i h=>h.IsStrIter it ty (S l) t i))
  (self:∀(A:Around) (i:Nat) (s:Shared) (Q:Value->Shared->Prop) (E:Value->Shared->Prop),s.heap.IsStrIter it ty (S l) t i->Q (.ref it) s->wpAny (model P w) A (pyIter (.ref it)) Q E s):
  Turn P w K tg (Itv (fun i=>.str (S [l.getD i 0])) l.length) [it] it (fun i h=>h.IsStrIter it ty (S l) t i) where
 mem:=by simp
 obj:=fun i h st b hb=>by
  have e:b=it:=by simpa using hb
  subst e;obtain⟨o,e,c,d⟩:=st;exact⟨o,e,fun v z=>by rw[d]at z;cases z⟩
 keep:=fun i h h' st k=>by
  obtain⟨o,e,r⟩:=st;exact⟨o,k it (by simp) o e,r⟩
 item:=by
  intro X hP hw hK hc i pr s σ H E I hf st hg;subst hP hw hK;obtain⟨f0,f1,f2,f3,f4,f5⟩:=hf it (by simp);have hg:i<l.length:=hg;refine(Wk X.A (I.ok.hd hc)).item i s _ _ (by simpa[S] using hg) st fun v h' tk hv Jl kk=>?_
  obtain⟨c,u,Qk,rfl⟩:=hv;have I1:Inv X pr σ H {s with heap:=h',toks:=tk}:=I.turned (fun b o hb e=>kk b o (by simpa using hb) e) f0 f1 f3 f4 f5;obtain⟨o,e,cc,d⟩:=id Jl;have JO:l.getD i 0=c:=by
   have:l[i]?=some c:=by simpa[S] using Qk
   rw[List.getD_eq_getElem?_getD,this];rfl
  refine⟨_,rfl,si (s:={s with heap:=h',toks:=tk}) e cc d LB ⟨.str (S [l.getD i 0]),H,I1,⟨u,?_⟩,⟨rfl,rfl⟩,Jl,fun b hb=>(hf b hb).1⟩⟩;rw[JO]
 done:=by
  intro X hP hw hK hc i pr s σ H E I hf st hg;subst hP hw hK;obtain⟨f0,f1,f2,f3,f4,f5⟩:=hf it (by simp);have hg:i=l.length:=hg;have hn:(S l).cps.size=i:=by rw[hg];simp[S]
  refine(Wk X.A (I.ok.hd hc)).done s _ _ (by rw[hn];exact st) fun h' tk kk=>⟨rfl,I.turned (fun b o hb e=>kk b o (by simpa using hb) e) f0 f1 f3 f4 f5⟩
 self:=self
def Gb(tl:TE):TI:=fun σ H R=>tl σ H fun x H1=>∃l,x=.str (S l)/\R (Itv (fun i=>.str (S [l.getD i 0])) l.length) H1
section
variable{X:Cx}{tg:Expr}
theorem BJ{l:Expr}{tl:TE}(hl:PE X l tl):PI X tg l (Gb tl):=by
 intro pr s σ H R I h;refine He (hl pr s σ H _ I h) fun v s1 Hh=>?_
 obtain⟨x,H1,I1,r1,l,e,q⟩:=Hh;subst e;obtain⟨t,rfl⟩:=r1;cases ha:(S l).cps.all (·< 128)
 ·refine wpAny_pyIter_wide ha ?_;refine⟨s1.heap.objs.size,[s1.heap.objs.size],_,_,H1,rfl,I1.kept (t':=s1.toks) fun b o e=>Heap.get?_push_of_some _ e,
   pJ "str_iterator" (by decide) l t _ (fun A hA=>Walks.strWide hA _ _ _) (fun _ _ _ _ _ st h=>wpAny_pyIter_striter_wide st h),⟨_,Heap.get?_push_size _ rfl,rfl,rfl⟩,fun b hb=>?_,q⟩
  have e:b=s1.heap.objs.size:=by simpa using hb
  subst e;exact I1.fpOk (SV _) (I1.hok.fresh (SV _))
 ·refine wpAny_pyIter_ascii ha ?_;refine⟨s1.heap.objs.size,[s1.heap.objs.size],_,_,H1,rfl,I1.kept (t':=s1.toks) fun b o e=>Heap.get?_push_of_some _ e,
   pJ "str_ascii_iterator" (by decide) l t _ (fun A hA=>Walks.strAscii hA _ _ _) (fun _ _ _ _ _ st h=>wpAny_pyIter_striter_ascii st h),⟨_,Heap.get?_push_size _ rfl,rfl,rfl⟩,fun b hb=>?_,q⟩
  have e:b=s1.heap.objs.size:=by simpa using hb
  subst e;exact I1.fpOk (SV _) (I1.hok.fresh (SV _))
theorem lE{pr:List (Addr×Obj)}{s:Shared}{σ:L2.St}{H:Hp}{p:Addr}{xs:List V}{E:Value->Shared->Prop}{R:Value->Shared->Prop}(hc:X.calm=true)(I:Inv X pr σ H s)(h:SqL X.K H p xs\/SqT X.K H p xs)
  (k:∀(it:Addr) (fp:List Addr) (o:Obj) (us:List Value) (Sx:Nat->Heap->Prop),Vals xs us->Walks X.prog X.w X.A.in1 it fp [it] us.length (fun i v=>us[i]?=some v) Sx->Sx 0 (s.heap.push o)->(∀b∈fp,b<(s.heap.push o).objs.size)->it=s.heap.objs.size->R (.ref it) {s with heap:=s.heap.push o}):
  wpAny (model X.prog X.w) X.A.in1 (pyIter (.ref p)) R E s:=by
 have hh:X.A.in1.handled=none:=I.ok.hd hc;rcases h with h|h
 ·obtain⟨us,r,pl,hz⟩:=I.list h;have HC:p<s.heap.objs.size:=by obtain⟨o,ho,_⟩:=pl.isList;exact S2 ho
  refine UP pl.isList (k s.heap.objs.size [s.heap.objs.size,p] _ us (fun i h=>h.IsListIter s.heap.objs.size p i/\h.IsList p us.toArray) r (by
   have W:=Walks.list (prog:=X.prog) (w:=X.w) hh s.heap.objs.size p (S8 HC) us.toArray;simpa using W) ⟨⟨_,Heap.get?_push_size _ rfl,rfl,rfl⟩,pl.isList.at fun o e=>Heap.get?_push_of_some _ e⟩ (fun b hb=>?_) rfl)
  rw[U1];rcases S3.mp hb with rfl|hb
  ·exact UZ _
  ·rw[Te]at hb;rw[hb];exact Wb HC
 ·obtain⟨us,r,pl,hz⟩:=I.tuple h;have NF:s.heap.IsTuple p us.toArray:=pl;have HC:p<s.heap.objs.size:=by obtain⟨o,ho,_⟩:=pl;exact S2 ho
  refine UI NF (k s.heap.objs.size [s.heap.objs.size,p] _ us (fun i h=>h.IsTupleIter s.heap.objs.size p i/\h.IsTuple p us.toArray) r (by
   have W:=Walks.tuple (prog:=X.prog) (w:=X.w) hh s.heap.objs.size p (S8 HC) us.toArray;simpa using W) ⟨⟨_,Heap.get?_push_size _ rfl,rfl,rfl⟩,NF.at fun o e=>Heap.get?_push_of_some _ e⟩ (fun b hb=>?_) rfl)
  rw[U1];rcases S3.mp hb with rfl|hb
  ·exact UZ _
  ·rw[Te]at hb;rw[hb];exact Wb HC
theorem iL{pr:List (Addr×Obj)}{s:Shared}{σ:L2.St}{H:Hp}{o:Obj}{h':Heap}{tk:Nat}(I:Inv X pr σ H s)(kk:∀b ob,b∉[s.heap.objs.size]->(s.heap.push o).get? b=some ob->h'.get? b=some ob):
  Inv X pr σ H {s with heap:=h',toks:=tk}:=I.kept fun b ob e=>kk b ob (fun z=>S8 (S2 e) (by simpa using z)) (Heap.get?_push_of_some _ e)
theorem aW{α:Type}(l:List α)(i:Nat)(d:α)(h:i<l.length):l.getD i d=l[i]:=by
 rw[List.getD_eq_getElem?_getD,List.getElem?_eq_getElem h];rfl
def BK:V->Bool
 | .bl b=>b
 |_=>false
def Eg:V->Bool
 | .bl _=>true
 |_=>false
theorem wa{xs:List V}{us:List Value}(r:Vals xs us)(hb:xs.all Eg=true):TruthOf X.prog X.w X.A.in1 (fun i v=>us[i]?=some v) (fun i=>BK (xs.getD i .non)):=by
 intro i v s Q E hv q;have hl:=r.length;obtain⟨hi,_⟩:=List.getElem?_eq_some_iff.mp hv;have e1:xs[i]?=some (xs[i]'(by lia)):=List.getElem?_eq_getElem _;obtain⟨u,hu,ru⟩:=r.get e1;rw[hv]at hu;cases hu;have q:Q (BK (xs.getD i .non)) s:=q;rw[yV e1]at q;have bl:=Ti.mp hb _ (Ts e1);generalize xs[i]'(by lia)=x at ru q bl;cases x <;> first|(exact absurd (show false=true from bl) SX)|skip
 cases ru;exact Uw q
theorem sX{xs:List V}(f:V->Bool):(List.range xs.length).all (fun i=>f (xs.getD i .non))=xs.all f:=by
 rw[To,Ti,Ti];constructor
 ·intro h x hx;obtain⟨i,hi,rfl⟩:=VS hx;have:=h i (TB.mpr hi)
  rwa [aW _ _ _ hi]at this
 ·intro h i hi;have hi:=TB.mp hi;rw[aW _ _ _ hi];exact h _ (U0 hi)
theorem wb(hc:X.calm=true):c6 X (.builtin "all") (fun vs H Q=>∃p xs,vs=[.ref p]/\(SqL X.K H p xs\/SqT X.K H p xs)/\xs.all Eg=true/\Q (.bl (xs.all BK)) H):=by
 intro pr s σ H vs us Q I r h;obtain⟨p,xs,rfl,hp,hb,q⟩:=h;obtain⟨u,rfl,r1⟩:=fe r;cases r1;refine call_all_walk (lE hc I hp fun it fp o ws Sx rv W st hf hit=>⟨it,fp,[it],_,_,Sx,_,rfl,W,st,wa rv hb,fun h' tk kk=>?_⟩);subst hit;refine⟨.bl (xs.all BK),H,iL (s:=s) I kk,?_,q⟩;rw[<-rv.length,sX];rfl
theorem gR{ns:List Int}{us:List Value}(r:Vals (ns.map V.int) us){i:Nat}{v:Value}(h:us[i]?=some v):∃t,v=.int (ns.getD i 0) t:=by
 have hl:=r.length;rw[SO]at hl;obtain⟨hi,_⟩:=List.getElem?_eq_some_iff.mp h;have e1:(ns.map V.int)[i]?=some (.int (ns.getD i 0)):=by
  rw[List.getElem?_map,List.getElem?_eq_getElem (by lia),aW _ _ _ (by lia)];rfl
 obtain⟨u,hu,t,rfl⟩:=r.get e1;rw[h]at hu;exact⟨t,Tf hu⟩
theorem pK{ns:List Int}{us:List Value}(r:Vals (ns.map V.int) us)(A:Around):CmpOf X.prog X.w A .Gt (fun i v=>us[i]?=some v) (fun i j=>decide (ns.getD j 0<ns.getD i 0)):=by
 intro i j vi vj s Q E hi hj q;obtain⟨t,rfl⟩:=gR r hi;obtain⟨t',rfl⟩:=gR r hj;exact gt_int q
def qW(ns:List Int):Int:=ns.foldl max (ns.headD 0)
def Eh(ns:List Int):Int:=ns.foldl min (ns.headD 0)
theorem lF(ns:List Int):∀k,k<ns.length->argBest (fun i j=>decide (ns.getD j 0<ns.getD i 0)) k<ns.length/\ns.getD (argBest (fun i j=>decide (ns.getD j 0<ns.getD i 0)) k) 0=(ns.take (k+1)).foldl max (ns.headD 0)
 | 0,h=>by
  refine⟨h,?_⟩;cases ns with
  |nil=>cases h
  |cons a l=>show a=max a a;lia
 |k+1,h=>by
  obtain⟨ih1,ih2⟩:=lF ns k (by lia);have et:ns.take (k+1+1)=ns.take (k+1)++[ns.getD (k+1) 0]:=by
   rw[List.take_add_one,List.getElem?_eq_getElem h,aW _ _ _ h];rfl
  rw[et,List.foldl_append,<-ih2];show(if decide (ns.getD (argBest (fun i j=>decide (ns.getD j 0<ns.getD i 0)) k) 0<ns.getD (k+1) 0)=true then k+1 else argBest (fun i j=>decide (ns.getD j 0<ns.getD i 0)) k)<ns.length/\
   ns.getD (if decide (ns.getD (argBest (fun i j=>decide (ns.getD j 0<ns.getD i 0)) k) 0<ns.getD (k+1) 0)=true then k+1 else argBest (fun i j=>decide (ns.getD j 0<ns.getD i 0)) k) 0=max _ _
  split
  ·rename_i hd;have:=Uy hd;exact⟨h,by lia⟩
  ·rename_i hd;rw[S9]at hd;exact⟨ih1,by lia⟩
theorem sY(hc:X.calm=true):c6 X (.builtin "max") (fun vs H Q=>∃(p:Addr) (ns:List Int),vs=[.ref p]/\(SqL X.K H p (ns.map V.int)\/SqT X.K H p (ns.map V.int))/\ns≠[]/\Q (.int (qW ns)) H):=by
 intro pr s σ H vs us Q I r h;obtain⟨p,ns,rfl,hp,LG,q⟩:=h;obtain⟨u,rfl,r1⟩:=fe r;cases r1;have hn:0<ns.length:=by cases ns with|nil=>exact absurd rfl LG|cons _ _=>simp
 refine call_max_walk (lE hc I hp fun it fp o ws Sx rv W st hf hit=>?_);have hl:=rv.length;rw[SO]at hl;refine⟨it,fp,[it],_,_,Sx,_,rfl,W,st,hf,by lia,pK rv _,fun v h' tk hv kk=>?_⟩;subst hit;obtain⟨b1,b2⟩:=lF ns (ns.length-1) (by lia);rw[<-hl]at hv;obtain⟨t,rfl⟩:=gR rv hv;refine⟨.int (qW ns),H,iL (s:=s) I kk,⟨t,?_⟩,q⟩;rw[b2,show ns.length-1+1=ns.length by lia,List.take_length];rfl
end
section
variable{prog:Program}{w:World}{A:Around}{R:Result->Shared->Prop}{it:Addr}{fp wr:List Addr}{n:Nat}{Pv:Nat->Value->Prop}{Sx:Nat->Heap->Prop}{kw:List (Str×Value)}
theorem lG:(toString "max"++toString ".loop" : String) = "max.loop":=by decide
theorem Ei(Wk:Walks prog w A.in1 it fp wr n Pv Sx)(bt:Nat->Nat->Bool)(cm:CmpOf prog w A.in1 .Gt Pv bt)(T:Addr)(nT:T∉fp):∀(k j:Nat) (s:Shared) (vb:Value) (c:Nat),n-(j+1)=k->j+1<=n->Sx (j+1) s.heap->Pv (argBest bt j) vb->
   s.heap.get? T=some {cls:=.type "list",dict:=none,data:=.seq #[vb,vb] c,slots:=#[]}->
   (∀v h' tk,Pv (argBest bt (n-1)) v->(∀b o,b∉wr->b≠T->s.heap.get? b=some o->h'.get? b=some o)->R (.ok (.ret v)) {s with heap:=h',toks:=tk})->codeAny (model prog w) A (.builtin "max.loop" ⟨[.ref it,.none,.ref T],kw⟩) R s:=by
 have Qr:T∉wr:=fun z=>nT (Wk.sub _ z)
 intro k;induction k with
 |zero=>
  intro j s vb c hk hj st hp hT fin;have ej:j+1=n:=by lia
  refine U6 Wr ?_;rw[VF UE _];show wpAny _ A.in1 (seqItems? (.ref T) >>= _) _ _ s;refine SM (Ub hT rfl ?_);show wpAny _ A.in1 (tryCatch (pyNext (.ref it)) _ >>= _) _ _ s;refine SM (Vz (Wk.done s _ _ (ej▸st) fun h' tk kk=>?_));have Nn:=kk T _ Qr hT;show wpAny _ A.in1 (updateSeq T (fun _=>#[]) >>= _) _ _ _;refine SM (WK Nn rfl (SM (Vg (SQ ?_))));exact fin vb _ tk (by rw[<-ej];exact hp) fun b o bw bT e=>(Heap.get?_update_other _ _ (Ui bT)).trans (kk b o bw e)
 |succ k ih=>
  intro j s vb c hk hj st hp hT fin;have jn:j+1<n:=by lia
  refine U6 Wr ?_;rw[VF UE _];show wpAny _ A.in1 (seqItems? (.ref T) >>= _) _ _ s;refine SM (Ub hT rfl ?_);show wpAny _ A.in1 (tryCatch (pyNext (.ref it)) _ >>= _) _ _ s;refine SM (Vz (Wk.item (j+1) s _ _ jn st fun v h' tk pv Jl kk=>?_));have Nn:=kk T _ Qr hT;show wpAny _ A.in1 (tryCatch (holding [v,v] (richCompare .Gt v vb >>= _)) _ >>= _) _ _ _;refine SM (Vz (UK (SM (cm (j+1) (argBest bt j) v vb _ _ _ pv hp (SM (UK (Uw (SM (Vg (SQ ?_))))))))));cases eb:bt (j+1) (argBest bt j) with
  |true=>
   rw[S1 rfl];refine SM (WK Nn rfl (SM (Vg ?_)));rw[lG];refine SQ ⟨Wg UE _,ih (j+1) _ v _ (by lia) jn (Wk.frame _ _ _ Jl fun b bf o e=>?_) (by simp only[argBest,eb,Vu];exact pv) (Heap.get?_update_self _ Nn rfl) fun v2 h2 t2 p2 k2=>?_⟩
   ·exact(Heap.get?_update_other _ _ (fun z:T=b=>nT (by rw[z];exact bf))).trans e
   ·exact fin v2 h2 t2 p2 fun b o bw bT e=>k2 b o bw bT ((Heap.get?_update_other _ _ (Ui bT)).trans (kk b o bw e))
  |false=>
   rw[S4 SX];refine SM (Vg ?_);rw[lG];refine SQ ⟨Wg UE _,ih (j+1) _ vb c (by lia) jn Jl (by simp only[argBest,eb,Um,VL];exact hp) Nn fun v2 h2 t2 p2 k2=>?_⟩;exact fin v2 h2 t2 p2 fun b o bw bT e=>k2 b o bw bT (kk b o bw e)
theorem wc(Wk:Walks prog w A.in1 it fp wr n Pv Sx)(bt:Nat->Nat->Bool)(cm:CmpOf prog w A.in1 .Gt Pv bt)(T:Addr)(nT:T∉fp){s:Shared}{c:Nat}{d:Value}(hkw:kw=[(Str.ofString "default",d)])(st:Sx 0 s.heap)
  (hT:s.heap.get? T=some {cls:=.type "list",dict:=none,data:=.seq #[] c,slots:=#[]}) (fin:∀v h' tk,(if n=0 then v=d else Pv (argBest bt (n-1)) v)->(∀b o,b∉wr->b≠T->s.heap.get? b=some o->h'.get? b=some o)->R (.ok (.ret v)) {s with heap:=h',toks:=tk}):
  codeAny (model prog w) A (.builtin "max.loop" ⟨[.ref it,.none,.ref T],kw⟩) R s:=by
 have Qr:T∉wr:=fun z=>nT (Wk.sub _ z)
 refine U6 Wr ?_;rw[VF UE _];show wpAny _ A.in1 (seqItems? (.ref T) >>= _) _ _ s;refine SM (Ub hT rfl ?_);show wpAny _ A.in1 (tryCatch (pyNext (.ref it)) _ >>= _) _ _ s;by_cases hn:n=0
 ·refine SM (Vz (Wk.done s _ _ (by rw[hn];exact st) fun h' tk kk=>?_));subst hkw;refine SM (WU (SQ ?_));exact fin d _ tk (by rw[S1 hn]) fun b o bw bT e=>kk b o bw e
 ·refine SM (Vz (Wk.item 0 s _ _ (by lia) st fun v h' tk pv Jl kk=>?_));have Nn:=kk T _ Qr hT;show wpAny _ A.in1 (updateSeq T (fun _=>#[v,v]) >>= _) _ _ _;refine SM (WK Nn rfl ?_);rw[lG];refine SQ ⟨Wg UE _,Ei Wk bt cm T nT _ 0 _ v _ rfl (by lia) (Wk.frame _ _ _ Jl fun b bf o e=>?_) pv (Heap.get?_update_self _ Nn rfl) fun v2 h2 t2 p2 k2=>?_⟩
  ·exact(Heap.get?_update_other _ _ (fun z:T=b=>nT (by rw[z];exact bf))).trans e
  ·exact fin v2 h2 t2 (by rw[S4 hn];exact p2) fun b o bw bT e=>k2 b o bw bT ((Heap.get?_update_other _ _ (Ui bT)).trans (kk b o bw e))
end
theorem tree_kw{prog:Program}{w:World}{A:Around}{E:Value->Shared->Prop}{s:Shared}{id:String}{bf:Builtin}{args:List Value}{kw:List (Str×Value)}{Q:Value->Shared->Prop}(hk:builtinKind id=none)(hp:plainId id=true)
  (hb:entryFor table id=some bf) (ha:argsOk id ⟨args,kw⟩)
  (hc:wpAny (model prog w) A.in1 (bf ⟨args,kw⟩) (fun fin s'=>match fin with
   | .done f=>(match(Except.ok f:Result) with | .ok (.ret v)=>Q v s' | .ok _=>False | .error e=>E e s')
   | .again c'=>c'.quiet=true/\codeAny (model prog w) A c' (fun r s'=>match r with | .ok (.ret v)=>Q v s' | .ok _=>False | .error e=>E e s') s') E s):wpAny (model prog w) A (call (.builtin id) args kw) Q E s:=by
 refine wpAny_call (VG hp hb ?_);simp only[checkBuiltinCall,hk];cases hsig:Manifest.signature? id with
 |none=>exact SQ hc
 |some sig=>
  have ha2:Bind.checkArgs id sig ⟨args,kw⟩=pure ():=by simpa only[argsOk,hsig] using ha
  simp only[ha2];exact SQ hc
theorem sZ(a d:Value):argsOk "max" ⟨[a],[(Str.ofString "default",d)]⟩:=by unfold argsOk;kernel_rfl
section
variable{X:Cx}{e k:Expr}{te tk:TE}{p pos Lg:Pos}
def maxD(ns:List Int)(d:Int):Int:=if ns=[] then d else qW ns
def Ej(K:W.Frag)(te tk:TE):TE:=fun σ H Q=>vS te DI σ H fun vs H1=>vS tk DI σ H1 fun ks H2=>∃(a:Addr) (ns:List Int) (d:Int),vs=[.ref a]/\ks=[.int d]/\(SqL K H2 a (ns.map V.int)\/SqT K H2 a (ns.map V.int))/\Q (.int (maxD ns d)) H2
theorem y4(hc:X.calm=true)(hg:Gl X "max")(hm:X.mg "max" = none)(he:PE X e te)(hk:PE X k tk)(hs:starEach [e] X.env=[(false,eval e X.env)]:=by rfl):
  PE X (.Call (.Name "max" p) [e] [⟨some "default",k,Lg⟩] pos) (Ej X.K te tk):=by
 intro pr s σ H Q I h;refine UJ (kM I hg hm (by decide +kernel:bootBuiltins "max" = some (.builtin "max")) ?_ (by decide) (by decide));refine callWith_kw (He (cU he i4 (hs:=hs) pos pr s σ H _ I h) fun us s1 ⟨vs,H1,I1,r1,q1⟩=>?_) (by rw[hs];rfl) (by rw[hs];rfl);refine He (yK hk By pos pr s1 σ H1 _ I1 q1) fun ws s2 Hh=>?_
 obtain⟨ks,H2,I2,r2,a,ns,d,e1,e2,hp,q⟩:=Hh;subst e1 e2;obtain⟨u,rfl,ru⟩:=fe r1;obtain⟨w',rfl,t,rfl⟩:=fe r2;cases ru;show wpAny _ _ (call (.builtin "max") [.ref a] [(Str.ofString "default",.int d t)]) _ _ s2;refine tree_kw F.kind_max F.plain_max F.entry_max (sZ _ _) ?_;show wpAny _ X.A.in1 (Builtin.Builtins.bindParams "max" ["key","default"] 0 ⟨[],[(Str.ofString "default",.int d t)]⟩ >>= _) _ _ s2;refine SM (wpAny_of_eq (show Builtin.Builtins.bindParams "max" ["key","default"] 0 ⟨[],[(Str.ofString "default",.int d t)]⟩=pure [none,some (.int d t)] from rfl) ?_);refine SM (SQ ?_);refine SM (lE hc I2 hp fun it fp o ws Sx rv Wk st hf hit=>?_);have hl:=rv.length;rw[SO]at hl;refine SM (TM ?_);have nT:(s2.heap.push o).objs.size∉fp:=fun z=>UH _ (hf _ z)
 rw[lG];refine SQ ⟨Wg UE _,wc Wk _ (pK rv _) (s2.heap.push o).objs.size nT rfl (Wk.frame _ _ _ st fun b _ ob e=>Heap.get?_push_of_some _ e) (Heap.get?_push_size _ rfl) fun v h' tk' hv kk=>?_⟩;subst hit;have I3:Inv X pr σ H2 {s2 with heap:=h',toks:=tk'}:=iL (s:=s2) (o:=o) I2 fun b ob nb e=>kk b ob nb (S8 (S2 e)) (Heap.get?_push_of_some _ e)
 refine⟨.int (maxD ns d),H2,I3,?_,q⟩;unfold maxD;by_cases hn:ns=[]
 ·rw[S1 (by rw[<-hl,hn];rfl)]at hv;rw[S1 hn,hv];exact⟨t,rfl⟩
 ·have h0:0<ns.length:=VT.mpr hn;rw[S4 (by lia)]at hv;rw[S4 hn];obtain⟨b1,b2⟩:=lF ns (ns.length-1) (by lia);rw[<-hl]at hv;obtain⟨t2,rfl⟩:=gR rv hv;refine⟨t2,?_⟩;rw[b2,show ns.length-1+1=ns.length by lia,List.take_length];rfl
end
section
variable{prog:Program}{w:World}{A:Around}{E:Value->Shared->Prop}{s:Shared}
theorem we{it t:Addr}{i:Nat}{items:Array Value}{x:Value}{Q:Value->Shared->Prop}(hi:s.heap.IsTupleIter it t i)(ht:s.heap.IsTuple t items)(hx:items[i]?=some x)
  (k:∀h',h'.IsTupleIter it t (i+1)->Heap.SameBut it s.heap h'->Q x {s with heap:=h'}):wpAny (model prog w) A (Builtin.SmallTypes.nextOf (.ref it)) Q E s:=by
 obtain⟨o,ho,oc,od⟩:=id hi;obtain⟨q,hq,_,n,qd⟩:=ht;unfold Builtin.SmallTypes.nextOf;refine SM (wpAny_callSpecial?_slot (name:=Str.ofString "__next__") hi.typeIs UC (TU UC hi.typeIs VU ?_ (VM _)));show wpAny _ _ (field (.ref it) 0 >>= _) _ _ s;refine SM (Uc ho od (x:=.ref t) rfl ?_);show wpAny _ _ (if(Value.ref t==Value.none)=true then _ else _) _ _ s;rw[S4 (fun z:(Value.ref t==Value.none)=true=>SX z)];show wpAny _ _ (field (.ref it) 1 >>= _) _ _ s;refine SM (Uc ho od (x:=.int i 0) rfl (SM (Ub hq qd ?_)));simp only[T8,hx];refine SM (V3 ho od (by simp) (SQ ⟨x,rfl,SQ (k _ ⟨_,Heap.get?_update_self _ ho (Obj.isFreed_of_fields (Vp od _)),(Obj.cls_mapFields ..).trans oc,?_⟩ (Vh ..))⟩));rw[Vp od];simp[rawInt]
theorem y6{it t:Addr}{i:Nat}{items:Array Value}{Q:Value->Shared->Prop}(hh:A.handled=none)(hi:s.heap.IsTupleIter it t i)(ht:s.heap.IsTuple t items)(hx:items[i]?=none)
  (k:∀h' e,Heap.ExtBut it s.heap h'->(∃o,h'.get? e=some o/\o.cls=.type "StopIteration")->E (.ref e) {s with heap:=h'}):wpAny (model prog w) A (Builtin.SmallTypes.nextOf (.ref it)) Q E s:=by
 obtain⟨o,ho,oc,od⟩:=id hi;obtain⟨q,hq,_,n,qd⟩:=ht;unfold Builtin.SmallTypes.nextOf;refine SM (wpAny_callSpecial?_slot (name:=Str.ofString "__next__") hi.typeIs UC (TU UC hi.typeIs VU ?_ (VM _)));show wpAny _ _ (field (.ref it) 0 >>= _) _ _ s;refine SM (Uc ho od (x:=.ref t) rfl ?_);show wpAny _ _ (if(Value.ref t==Value.none)=true then _ else _) _ _ s;rw[S4 (fun z:(Value.ref t==Value.none)=true=>SX z)];show wpAny _ _ (field (.ref it) 1 >>= _) _ _ s;refine SM (Uc ho od (x:=.int i 0) rfl (SM (Ub hq qd ?_)));simp only[T8,hx];refine SM (WU (SM (V3 ho od (by simp) ?_)));show wpAny _ _ (newExc (.type "StopIteration") [] >>= _) _ _ _;refine SM ?_;simp only[newExc,newTuple];refine SM (TM (SM (m:=firstArgMember _ _) (wpAny_of_eq (a:=Value.none) (by first|rfl|(simp only[firstArgMember];rfl)) (TM ?_ (by size_fits)))) (by size_fits));simp only[raiseNew];refine SM (wpAny_handled ?_);first
  |rw[show A.in1.handled=none from hh]
  |rw[hh]
 exact SM (SQ (wpAny_throw (k _ _ (((Vh ..).extBut.push _).push _) ⟨_,Heap.get?_push_size _ rfl,rfl⟩)))
def IsIt(k:Bool)(h:Heap)(it l:Addr)(i:Nat):Prop:=match k with
 |true=>h.IsListIter it l i
 |false=>h.IsTupleIter it l i
def IsSq(k:Bool)(h:Heap)(l:Addr)(xs:Array Value):Prop:=match k with
 |true=>h.IsList l xs
 |false=>h.IsTuple l xs
theorem IsIt.at{k:Bool}{h h':Heap}{it l:Addr}{i:Nat}(x:IsIt k h it l i)(e:∀o,h.get? it=some o->h'.get? it=some o):IsIt k h' it l i:=by
 cases k with
 |true=>obtain⟨o,ho,r⟩:=(show h.IsListIter it l i from x);exact(show h'.IsListIter it l i from⟨o,e o ho,r⟩)
 |false=>obtain⟨o,ho,r⟩:=(show h.IsTupleIter it l i from x);exact(show h'.IsTupleIter it l i from⟨o,e o ho,r⟩)
theorem IsSq.at{k:Bool}{h h':Heap}{l:Addr}{xs:Array Value}(x:IsSq k h l xs)(e:∀o,h.get? l=some o->h'.get? l=some o):IsSq k h' l xs:=by
 cases k with
 |true=>obtain⟨o,ho,r⟩:=(show h.IsList l xs from x);exact(show h'.IsList l xs from⟨o,e o ho,r⟩)
 |false=>obtain⟨o,ho,r⟩:=(show h.IsTuple l xs from x);exact(show h'.IsTuple l xs from⟨o,e o ho,r⟩)
theorem IsIt.obj{k:Bool}{h:Heap}{it l:Addr}{i:Nat}(x:IsIt k h it l i):∃o,h.get? it=some o/\∀v,o.data≠.cell v:=by
 cases k with
 |true=>obtain⟨o,ho,_,d⟩:=(show h.IsListIter it l i from x);exact⟨o,ho,fun v z=>by rw[d]at z;cases z⟩
 |false=>obtain⟨o,ho,_,d⟩:=(show h.IsTupleIter it l i from x);exact⟨o,ho,fun v z=>by rw[d]at z;cases z⟩
theorem oR{k:Bool}{it l:Addr}{i:Nat}{xs:Array Value}{x:Value}{Q:Value->Shared->Prop}(hi:IsIt k s.heap it l i)(hl:IsSq k s.heap l xs)(hx:xs[i]?=some x)
  (q:∀h',IsIt k h' it l (i+1)->Heap.SameBut it s.heap h'->Q x {s with heap:=h'}):wpAny (model prog w) A (Builtin.SmallTypes.nextOf (.ref it)) Q E s:=by
 cases k with
 |true=>exact wpAny_nextOf_list_item hi hl hx q
 |false=>exact we hi hl hx q
theorem xU{k:Bool}{it l:Addr}{i:Nat}{xs:Array Value}{Q:Value->Shared->Prop}(hh:A.handled=none)(hi:IsIt k s.heap it l i)(hl:IsSq k s.heap l xs)(hx:xs[i]?=none)
  (q:∀h' e,Heap.ExtBut it s.heap h'->(∃o,h'.get? e=some o/\o.cls=.type "StopIteration")->E (.ref e) {s with heap:=h'}):wpAny (model prog w) A (Builtin.SmallTypes.nextOf (.ref it)) Q E s:=by
 cases k with
 |true=>exact wpAny_nextOf_list_end hh hi hl hx q
 |false=>exact y6 hh hi hl hx q
theorem y7{k1 k2:Bool}{z TI TO i1 i2 l1 l2:Addr}{i:Nat}{xs ys:Array Value}{x y a b:Value}{Q:Value->Shared->Prop}(D:ZipApart z TI TO i1 i2 l1 l2)(hz:IsZip s.heap z TI TO .none)(Ky:IsPair s.heap TI (.ref i1) (.ref i2))(Lj:IsPair s.heap TO a b)
  (h1:IsIt k1 s.heap i1 l1 i) (h2:IsIt k2 s.heap i2 l2 i) (g1:IsSq k1 s.heap l1 xs) (g2:IsSq k2 s.heap l2 ys) (hx:xs[i]?=some x) (hy:ys[i]?=some y)
  (q:∀h',IsZip h' z TI TO (rawInt s.heap.objs.size)->IsPair h' TO x y->IsIt k1 h' i1 l1 (i+1)->IsIt k2 h' i2 l2 (i+1)->IsPair h' s.heap.objs.size x y->
   (∀c o,c≠z->c≠TO->c≠i1->c≠i2->s.heap.get? c=some o->h'.get? c=some o)->Q (.ref s.heap.objs.size) {s with heap:=h'}):
  wpAny (model prog w) A (Builtin.«zip.__next__» ⟨[.ref z],[]⟩) (fun fin s'=>∃v,fin=.done (.ret v)/\Q v s') E s:=by
 show wpAny _ _ (field (.ref z) 2 >>= _) _ _ _;refine SM (Uc hz rfl (x:=.bool false) rfl ?_);show wpAny _ _ (field (.ref z) 3 >>= _) _ _ _;refine SM (Uc hz rfl (x:=.ref TI) rfl (SM (Ub Ky rfl ?_)));show wpAny _ _ (Builtin.SmallTypes.ownedTupleIsFree (.ref z) >>= _) _ _ _;refine SM ?_;unfold Builtin.SmallTypes.ownedTupleIsFree;refine SM (Uc hz rfl (x:=.none) rfl (SQ ?_));rw[S1 (by rfl)];refine SM (WU (SM (Uc hz rfl (x:=.ref TO) rfl (SM (UL hz (by simp) fun hA zA sA=>?_)))));have zA:IsZip hA z TI TO .ellipsis:=zA;refine SM ?_;simp only[List.zipIdx_cons,List.zipIdx_nil,WJ,List.forIn_nil];refine SM (SM (Wh ?_));show wpAny _ _ (Builtin.SmallTypes.nextOf (.ref i1) >>= _) _ _ _;refine SM (oR (h1.at fun o e=>sA.extBut _ _ D.i1z e) (g1.at fun o e=>sA.extBut _ _ D.l1z e) hx fun hB iB sB=>SQ ?_);have tB:IsPair hB TO a b:=sB.extBut _ _ D.TOi1 (sA.extBut _ _ D.TOz Lj);refine SM (Ub tB rfl (SM (VH tB fun hC tC sC=>SM (Vg (SQ ?_)))));have tC:IsPair hC TO x b:=tC;refine SM (SM (Wh ?_));show wpAny _ _ (Builtin.SmallTypes.nextOf (.ref i2) >>= _) _ _ _;refine SM (oR (h2.at fun o e=>sC.extBut _ _ D.TOi2.symm (sB.extBut _ _ D.i12.symm (sA.extBut _ _ D.i2z e))) (g2.at fun o e=>sC.extBut _ _ D.l2TO (sB.extBut _ _ D.l2i1 (sA.extBut _ _ D.l2z e))) hy fun hD iD sD=>SQ ?_);have tD:IsPair hD TO x b:=sD.extBut _ _ D.TOi2 tC;refine SM (Ub tD rfl (SM (VH tD fun hE tE sE=>SM (Vg (SQ (SQ ?_))))));have tE:IsPair hE TO x y:=tE;refine SM (Ub tE rfl (SM (wpAny_newTuple ?_)));have ez:hE.objs.size=s.heap.objs.size:=by rw[sE.1,sD.1,sC.1,sB.1,sA.1]
 have zE:IsZip hE z TI TO .ellipsis:=sE.extBut _ _ D.TOz.symm (sD.extBut _ _ D.i2z.symm (sC.extBut _ _ D.TOz.symm (sB.extBut _ _ D.i1z.symm zA)));have kE:∀c o,c≠z->c≠TO->c≠i1->c≠i2->s.heap.get? c=some o->hE.get? c=some o:=fun c o c1 c2 c3 c4 e=>sE.extBut _ _ c2 (sD.extBut _ _ c4 (sC.extBut _ _ c2 (sB.extBut _ _ c3 (sA.extBut _ _ c1 e))))
 have i1E:IsIt k1 hE i1 l1 (i+1):=iB.at fun o e=>sE.extBut _ _ D.TOi1.symm (sD.extBut _ _ D.i12 (sC.extBut _ _ D.TOi1.symm e))
 have i2E:IsIt k2 hE i2 l2 (i+1):=iD.at fun o e=>sE.extBut _ _ D.TOi2.symm e
 show wpAny _ _ (Builtin.SmallTypes.ownedTupleHandOut (.ref z) (.ref hE.objs.size) >>= _) _ _ _;refine SM ?_;unfold Builtin.SmallTypes.ownedTupleHandOut;have zF:IsZip (hE.push {cls:=.type "tuple",data:=.seq #[x,y]}) z TI TO .ellipsis:=Heap.get?_push_of_some _ zE;refine SM (UL zF (by simp) fun hG zG sG=>?_);have zG:IsZip hG z TI TO (rawInt hE.objs.size):=zG;refine UL zG (by simp) fun hK zK sK=>?_
 have zK:IsZip hK z TI TO (rawInt hE.objs.size):=zK;have up:∀c o,c≠z->hE.get? c=some o->hK.get? c=some o:=fun c o c1 e=>sK.extBut _ _ c1 (sG.extBut _ _ c1 (Heap.get?_push_of_some _ e))
 have nz:hE.objs.size≠z:=Xw (S2 zE);have tK:IsPair hK hE.objs.size x y:=sK.extBut _ _ nz (sG.extBut _ _ nz (Heap.get?_push_size _ rfl));rw[ez]at zK tK;refine SQ ⟨_,rfl,?_⟩;show Q (.ref hE.objs.size) _;rw[ez];exact q hK zK (up _ _ D.TOz tE) (i1E.at fun o e=>up _ o D.i1z e) (i2E.at fun o e=>up _ o D.i2z e) tK fun c o c1 c2 c3 c4 e=>up c o c1 (kE c o c1 c2 c3 c4 e)
theorem BL{k1 k2:Bool}{z TI TO i1 i2 l1 l2:Addr}{i:Nat}{xs ys:Array Value}{a b:Value}{Q:Fin->Shared->Prop}(hh:A.handled=none)(D:ZipApart z TI TO i1 i2 l1 l2)(hz:IsZip s.heap z TI TO .none)(Ky:IsPair s.heap TI (.ref i1) (.ref i2))(Lj:IsPair s.heap TO a b)
  (h1:IsIt k1 s.heap i1 l1 i) (h2:IsIt k2 s.heap i2 l2 i) (g1:IsSq k1 s.heap l1 xs) (g2:IsSq k2 s.heap l2 ys) (he:xs[i]?=none\/ys[i]?=none)
  (q:∀h' e,(∀c o,c≠z->c≠TO->c≠i1->c≠i2->s.heap.get? c=some o->h'.get? c=some o)->(∃o,h'.get? e=some o/\o.cls=.type "StopIteration")->E (.ref e) {s with heap:=h'}):
  wpAny (model prog w) A (Builtin.«zip.__next__» ⟨[.ref z],[]⟩) Q E s:=by
 show wpAny _ _ (field (.ref z) 2 >>= _) _ _ _;refine SM (Uc hz rfl (x:=.bool false) rfl ?_);show wpAny _ _ (field (.ref z) 3 >>= _) _ _ _;refine SM (Uc hz rfl (x:=.ref TI) rfl (SM (Ub Ky rfl ?_)));show wpAny _ _ (Builtin.SmallTypes.ownedTupleIsFree (.ref z) >>= _) _ _ _;refine SM ?_;unfold Builtin.SmallTypes.ownedTupleIsFree;refine SM (Uc hz rfl (x:=.none) rfl (SQ ?_));rw[S1 (by rfl)];refine SM (WU (SM (Uc hz rfl (x:=.ref TO) rfl (SM (UL hz (by simp) fun hA zA sA=>?_)))));have zA:IsZip hA z TI TO .ellipsis:=zA;refine SM ?_;simp only[List.zipIdx_cons,List.zipIdx_nil,WJ,List.forIn_nil];refine SM (SM (Wh ?_));show wpAny _ _ (Builtin.SmallTypes.nextOf (.ref i1) >>= _) _ _ _;cases hx:xs[i]? with
 |none=>
  refine SM (xU hh (h1.at fun o e=>sA.extBut _ _ D.i1z e) (g1.at fun o e=>sA.extBut _ _ D.l1z e) hx fun hB e sB Hh=>?_);obtain⟨oe,ge,ce⟩:=Hh;have zB:IsZip hB z TI TO .ellipsis:=sB _ _ D.i1z.symm zA;have ne:e≠z:=fun x=>by subst x;rw[zB]at ge;cases ge;simp at ce
  exact UL zB (by simp) fun hC _ sC=>q hC e (fun c o c1 _ c3 _ x=>sC.extBut _ _ c1 (sB _ _ c3 (sA.extBut _ _ c1 x))) ⟨oe,sC.extBut _ _ ne ge,ce⟩
 |some x=>
  have hy:ys[i]?=none:=by
   rcases he with z|z
   ·rw[hx]at z;cases z
   ·exact z
  refine SM (oR (h1.at fun o e=>sA.extBut _ _ D.i1z e) (g1.at fun o e=>sA.extBut _ _ D.l1z e) hx fun hB iB sB=>SQ ?_);have tB:IsPair hB TO a b:=sB.extBut _ _ D.TOi1 (sA.extBut _ _ D.TOz Lj);refine SM (Ub tB rfl (SM (VH tB fun hC tC sC=>SM (Vg (SQ ?_)))));refine SM (SM (Wh ?_));show wpAny _ _ (Builtin.SmallTypes.nextOf (.ref i2) >>= _) _ _ _;refine SM (xU hh (h2.at fun o e=>sC.extBut _ _ D.TOi2.symm (sB.extBut _ _ D.i12.symm (sA.extBut _ _ D.i2z e))) (g2.at fun o e=>sC.extBut _ _ D.l2TO (sB.extBut _ _ D.l2i1 (sA.extBut _ _ D.l2z e))) hy fun hD e sD Hh=>?_);obtain⟨oe,ge,ce⟩:=Hh;have zD:IsZip hD z TI TO .ellipsis:=sD _ _ D.i2z.symm (sC.extBut _ _ D.TOz.symm (sB.extBut _ _ D.i1z.symm zA));have ne:e≠z:=fun x=>by subst x;rw[zD]at ge;cases ge;simp at ce
  exact UL zD (by simp) fun hF _ sF=>q hF e (fun c o c1 c2 c3 c4 x=>sF.extBut _ _ c1 (sD _ _ c4 (sC.extBut _ _ c2 (sB.extBut _ _ c3 (sA.extBut _ _ c1 x))))) ⟨oe,sF.extBut _ _ ne ge,ce⟩
end
def itObj(k:Bool)(l:Addr):Obj:=match k with
 |true=>{cls:=.type "list_iterator",data:=.fields #[.ref l,.int 0 0]}
 |false=>{cls:=.type "tuple_iterator",data:=.fields #[.ref l,.int 0 0]}
theorem pL(k:Bool)(h:Heap)(l:Addr):IsIt k (h.push (itObj k l)) h.objs.size l 0:=by
 cases k with
 |true=>exact⟨_,Heap.get?_push_size _ rfl,rfl,rfl⟩
 |false=>exact⟨_,Heap.get?_push_size _ rfl,rfl,rfl⟩
abbrev zA(h:Heap)(k1:Bool)(l1:Addr):Heap:=h.push (itObj k1 l1)
abbrev zB(h:Heap)(k1 k2:Bool)(l1 l2:Addr):Heap:=(zA h k1 l1).push (itObj k2 l2)
abbrev zC(h:Heap)(k1 k2:Bool)(l1 l2:Addr):Heap:=(zB h k1 k2 l1 l2).push {cls:=.type "tuple",data:=.seq #[.ref h.objs.size,.ref (zA h k1 l1).objs.size]}
abbrev zD(h:Heap)(k1 k2:Bool)(l1 l2:Addr):Heap:=(zC h k1 k2 l1 l2).push {cls:=.type "tuple",data:=.seq #[.none,.none]}
abbrev zE(h:Heap)(k1 k2:Bool)(l1 l2:Addr):Heap:=(zD h k1 k2 l1 l2).push {cls:=.type "zip",data:=.fields #[.none,.bool false,.bool false,.ref (zB h k1 k2 l1 l2).objs.size,.ref (zC h k1 k2 l1 l2).objs.size]}
set_option maxHeartbeats 8000000 in
theorem BM(k1 k2:Bool)(l1 l2:Addr)(xs ys:Array Value):
  Meets (Builtin.«zip.__new__» ⟨[.type "zip",.ref l1,.ref l2],[]⟩) (fun _ R s=>IsSq k1 s.heap l1 xs/\IsSq k2 s.heap l2 ys/\R (.ok (.ret (.ref (zD s.heap k1 k2 l1 l2).objs.size))) {s with heap:=zE s.heap k1 k2 l1 l2}):=
 .of_wp fun prog w A R s h=>by
  obtain⟨hp,g,d,tk,os⟩:=s;obtain⟨g1,g2,q⟩:=h;have hsub:=sub_zip;cases k1 with
  |true=>
   have e1:Heap.IsList (Shared.heap ⟨hp,g,d,tk,os⟩) l1 xs:=g1;cases k2 with
   |true=>
    have e2:Heap.IsList (Shared.heap ⟨hp.push {cls:=.type "list_iterator",data:=.fields #[.ref l1,.int 0 0]},g,d,tk,os⟩) l2 ys:=Heap.IsList.push g2 _
    wp_walk using UP e1,UP e2
    exact⟨_,rfl,q⟩
   |false=>
    have e2:Heap.IsTuple (Shared.heap ⟨hp.push {cls:=.type "list_iterator",data:=.fields #[.ref l1,.int 0 0]},g,d,tk,os⟩) l2 ys:=Heap.IsTuple.push g2 _
    wp_walk using UP e1,UI e2
    exact⟨_,rfl,q⟩
  |false=>
   have e1:Heap.IsTuple (Shared.heap ⟨hp,g,d,tk,os⟩) l1 xs:=g1;cases k2 with
   |true=>
    have e2:Heap.IsList (Shared.heap ⟨hp.push {cls:=.type "tuple_iterator",data:=.fields #[.ref l1,.int 0 0]},g,d,tk,os⟩) l2 ys:=Heap.IsList.push g2 _
    wp_walk using UI e1,UP e2
    exact⟨_,rfl,q⟩
   |false=>
    have e2:Heap.IsTuple (Shared.heap ⟨hp.push {cls:=.type "tuple_iterator",data:=.fields #[.ref l1,.int 0 0]},g,d,tk,os⟩) l2 ys:=Heap.IsTuple.push g2 _
    wp_walk using UI e1,UI e2
    exact⟨_,rfl,q⟩
def ZS(k1 k2:Bool)(z TI TO i1 i2 l1 l2:Addr)(i:Nat)(h:Heap):Prop:=IsZip h z TI TO .none/\IsPair h TI (.ref i1) (.ref i2)/\(∃a b,IsPair h TO a b)/\IsIt k1 h i1 l1 i/\IsIt k2 h i2 l2 i
theorem y8{prog:Program}{w:World}{A:Around}{E:Value->Shared->Prop}{s:Shared}{k1 k2:Bool}{l1 l2:Addr}{xs ys:Array Value}{Q:Value->Shared->Prop}(g1:IsSq k1 s.heap l1 xs)(g2:IsSq k2 s.heap l2 ys)
  (q:∀h',ZS k1 k2 (s.heap.objs.size+4) (s.heap.objs.size+2) (s.heap.objs.size+3) s.heap.objs.size (s.heap.objs.size+1) l1 l2 0 h'->(∀c o,s.heap.get? c=some o->h'.get? c=some o)->Q (.ref (s.heap.objs.size+4)) {s with heap:=h'}):
  wpAny (model prog w) A (call (.type "zip") [.ref l1,.ref l2]) Q E s:=by
 refine callType_new F.called_zip (by decide) (F.typeCall_zip_2 _ _) (F.newCall_zip_2 _ _) (fun obj=>F.args_object_init_3 obj _ _) F.entry_zip_new (BM k1 k2 l1 l2 xs ys) ⟨g1,g2,?_⟩;have nA:(zA s.heap k1 l1).objs.size=s.heap.objs.size+1:=U1 ..;have nB:(zB s.heap k1 k2 l1 l2).objs.size=s.heap.objs.size+2:=by rw[U1,nA]
 have nC:(zC s.heap k1 k2 l1 l2).objs.size=s.heap.objs.size+3:=by rw[U1,nB]
 have nD:(zD s.heap k1 k2 l1 l2).objs.size=s.heap.objs.size+4:=by rw[U1,nC]
 have pu:∀{h:Heap}{o:Obj}{c:Addr}{v:Obj},h.get? c=some v->(h.push o).get? c=some v:=fun e=>Heap.get?_push_of_some _ e
 have gz:(zE s.heap k1 k2 l1 l2).get? (zD s.heap k1 k2 l1 l2).objs.size=some _:=Heap.get?_push_size _ rfl;have go:(zE s.heap k1 k2 l1 l2).get? (zC s.heap k1 k2 l1 l2).objs.size=some _:=pu (Heap.get?_push_size _ rfl);have gi:(zE s.heap k1 k2 l1 l2).get? (zB s.heap k1 k2 l1 l2).objs.size=some _:=pu (pu (Heap.get?_push_size _ rfl));have j2:IsIt k2 (zE s.heap k1 k2 l1 l2) (zA s.heap k1 l1).objs.size l2 0:=(pL k2 (zA s.heap k1 l1) l2).at fun o e=>pu (pu (pu e))
 have j1:IsIt k1 (zE s.heap k1 k2 l1 l2) s.heap.objs.size l1 0:=(pL k1 s.heap l1).at fun o e=>pu (pu (pu (pu e)))
 show _/\_;rw[nB,nC,nD]at gz;rw[nA,nB]at gi;rw[nC]at go;rw[nA]at j2;rw[nD];exact⟨⟨_,gz,rfl⟩,q _ ⟨gz,gi,⟨_,_,go⟩,j1,j2⟩ fun c o x=>pu (pu (pu (pu (pu x))))⟩
noncomputable def Rc(K:W.Frag)(k1 k2:Bool)(a b:Addr):It:=
 ⟨fun i H=>∃xs ys x y,(if k1 then SqL K H a xs else SqT K H a xs)/\(if k2 then SqL K H b ys else SqT K H b ys)/\xs[i]?=some x/\ys[i]?=some y,
  fun i H v H'=>∃T,H T=none/\v=.ref T/\∀xs ys x y,(if k1 then SqL K H a xs else SqT K H a xs)->(if k2 then SqL K H b ys else SqT K H b ys)->xs[i]?=some x->ys[i]?=some y->H'=upd H T (.tup [x,y]),
  fun i H=>∃xs ys,(if k1 then SqL K H a xs else SqT K H a xs)/\(if k2 then SqL K H b ys else SqT K H b ys)/\i=min xs.length ys.length⟩
section
variable{X:Cx}{pr:List (Addr×Obj)}{σ:L2.St}{H:Hp}{s:Shared}
theorem qX(I:Inv X pr σ H s){k:Bool}{a:Addr}{xs:List V}(h:if k then SqL X.K H a xs else SqT X.K H a xs):∃us:List Value,Vals xs us/\IsSq k s.heap a us.toArray:=by
 cases k with
 |true=>
  obtain⟨us,r,p,_⟩:=I.list (show SqL X.K H a xs from h);exact⟨us,r,p.isList⟩
 |false=>
  obtain⟨us,r,p,_⟩:=I.tuple (show SqT X.K H a xs from h);exact⟨us,r,(show s.heap.IsTuple a us.toArray from p)⟩
theorem xV(I:Inv X pr σ H s){k:Bool}{a:Addr}{xs ys:List V}(h:if k then SqL X.K H a xs else SqT X.K H a xs)(h':if k then SqL X.K H a ys else SqT X.K H a ys):xs=ys:=by
 cases k with
 |true=>exact I.list_inj (show SqL X.K H a xs from h) (show SqL X.K H a ys from h')
 |false=>exact I.tuple_inj (show SqT X.K H a xs from h) (show SqT X.K H a ys from h')
theorem gC(I:Inv X pr σ H s){k:Bool}{a b:Addr}{xs:List V}(h:if k then SqL X.K H a xs else SqT X.K H a xs)(f:rT X pr H b):a≠b:=by
 rintro rfl;obtain⟨f0,_,_,f3,_⟩:=f;have nb:∀o,X.K.lookup a=some o->False:=fun o hk=>by
  have e:=I.ok.mod.kin a o hk;rcases f3 with z|z
  ·exact I.ok.noex a o e z
  ·exact absurd (S6 (S2 e) (Tp I.ok.bsz z)) (UH _)
 cases k with
 |true=>
  rcases(show SqL X.K H a xs from h) with(h|⟨o,h⟩)|⟨o,GQ,n,hk,_⟩
  ·rw[f0]at h;cases h
  ·rw[f0]at h;cases h
  ·exact nb o hk
 |false=>
  rcases(show SqT X.K H a xs from h) with(h|⟨o,h⟩)|⟨o,GQ,n,hk,_⟩
  ·rw[f0]at h;cases h
  ·rw[f0]at h;cases h
  ·exact nb o hk
end
theorem nx_zip_item{prog:Program}{w:World}{A:Around}{E:Value->Shared->Prop}{s:Shared}{k1 k2:Bool}{z TI TO i1 i2 l1 l2:Addr}{i:Nat}{xs ys:Array Value}{x y:Value}{Q:Option Value->Shared->Prop}(D:ZipApart z TI TO i1 i2 l1 l2)(st:ZS k1 k2 z TI TO i1 i2 l1 l2 i s.heap)
  (g1:IsSq k1 s.heap l1 xs) (g2:IsSq k2 s.heap l2 ys) (hx:xs[i]?=some x) (hy:ys[i]?=some y)
  (q:∀h',IsZip h' z TI TO (rawInt s.heap.objs.size)->IsPair h' TO x y->IsIt k1 h' i1 l1 (i+1)->IsIt k2 h' i2 l2 (i+1)->IsPair h' s.heap.objs.size x y->
   (∀c o,c≠z->c≠TO->c≠i1->c≠i2->s.heap.get? c=some o->h'.get? c=some o)->Q (some (.ref s.heap.objs.size)) {s with heap:=h'}):wpAny (model prog w) A (pyNext (.ref z)) Q E s:=by
 obtain⟨hz,Ky,⟨a,b,Lj⟩,h1,h2⟩:=st;have ty:s.TypeIs (.ref z) "zip":=⟨_,hz,rfl⟩
 unfold pyNext;exact SM (VN (wpAny_callSpecial?_slot (name:=Str.ofString "__next__") ty VW (TU VW ty F.entry_zip_next (y7 D hz Ky Lj h1 h2 g1 g2 hx hy fun h' a1 a2 a3 a4 a5 a6=>SQ (q h' a1 a2 a3 a4 a5 a6)) (F.args_zip_next_1 _))))
theorem qY{prog:Program}{w:World}{A:Around}{E:Value->Shared->Prop}{s:Shared}{k1 k2:Bool}{z TI TO i1 i2 l1 l2:Addr}{i:Nat}{xs ys:Array Value}{Q:Option Value->Shared->Prop}(hh:A.handled=none)(D:ZipApart z TI TO i1 i2 l1 l2)(st:ZS k1 k2 z TI TO i1 i2 l1 l2 i s.heap)
  (g1:IsSq k1 s.heap l1 xs) (g2:IsSq k2 s.heap l2 ys) (he:xs[i]?=none\/ys[i]?=none) (q:∀h',(∀c o,c≠z->c≠TO->c≠i1->c≠i2->s.heap.get? c=some o->h'.get? c=some o)->Q none {s with heap:=h'}):wpAny (model prog w) A (pyNext (.ref z)) Q E s:=by
 obtain⟨hz,Ky,⟨a,b,Lj⟩,h1,h2⟩:=st;have ty:s.TypeIs (.ref z) "zip":=⟨_,hz,rfl⟩
 unfold pyNext;refine SM (VN (wpAny_callSpecial?_slot (name:=Str.ofString "__next__") ty VW (TU VW ty F.entry_zip_next (BL hh D hz Ky Lj h1 h2 g1 g2 he fun h' e kk ⟨o,ho,oc⟩=>?_) (F.args_zip_next_1 _))));exact SM (wpAny_isInstance (T:="StopIteration") (b:=true) ⟨o,ho,oc⟩ isSubtype_stop (SQ (q _ kk)))
theorem wg{P:Program}{w:World}{K:W.Frag}{es:List Expr}{kt:Nat}{pt:Pos}(k1 k2:Bool)(a b z TI TO i1 i2:Addr)(ne:z≠TI/\z≠TO/\z≠i1/\z≠i2/\TI≠TO/\TI≠i1/\TI≠i2/\TO≠i1/\TO≠i2/\i1≠i2):
  Turn P w K (.Tuple es kt pt) (Rc K k1 k2 a b) [z,TI,TO,i1,i2] z (ZS k1 k2 z TI TO i1 i2 a b) where
 mem:=by simp
 obj:=fun i h st c hc=>by
  obtain⟨hz,Ky,⟨x,y,Lj⟩,h1,h2⟩:=st;simp only[S3,Uh,XW]at hc;rcases hc with rfl|rfl|rfl|rfl|rfl
  ·exact⟨_,hz,fun v q=>by cases q⟩
  ·exact⟨_,Ky,fun v q=>by cases q⟩
  ·exact⟨_,Lj,fun v q=>by cases q⟩
  ·exact h1.obj
  ·exact h2.obj
 keep:=fun i h h' st k=>by
  obtain⟨hz,Ky,⟨x,y,Lj⟩,h1,h2⟩:=st;exact⟨k z (by simp) _ hz,k TI (by simp) _ Ky,⟨x,y,k TO (by simp) _ Lj⟩,h1.at fun o e=>k i1 (by simp) o e,h2.at fun o e=>k i2 (by simp) o e⟩
 item:=by
  intro X hP hw hK hc i pr s σ H E I hf st hg;subst hP hw hK;obtain⟨xs,ys,x,y,s1,s2,hx,hy⟩:=hg;obtain⟨us,r1,q1⟩:=qX I s1;obtain⟨ws,r2,q2⟩:=qX I s2;obtain⟨u,hu,ru⟩:=r1.get hx;obtain⟨v,hv,rv⟩:=r2.get hy;obtain⟨n1,n2,n3,n4,n5,n6,n7,n8,n9,Rf⟩:=ne;have f:=fun c hc=>hf c hc
  have D:ZipApart z TI TO i1 i2 a b:=⟨n1.symm,n2.symm,n3.symm,n4.symm,n5,n6,n7,n8,n9,Rf,gC I s1 (f z (by simp)),gC I s1 (f TO (by simp)),gC I s1 (f i1 (by simp)),gC I s1 (f i2 (by simp)),
   gC I s2 (f z (by simp)),gC I s2 (f TO (by simp)),gC I s2 (f i1 (by simp)),gC I s2 (f i2 (by simp))⟩
  have Ky:=st.2.1;refine nx_zip_item D st q1 q2 (by simpa using hu) (by simpa using hv) fun h' z1 t1 j1 j2 tp kk=>⟨_,rfl,?_⟩
  refine wpAny_letOwnedTupleGo_zip z1 fun h2 z2 sb=>?_
  have nT:H s.heap.objs.size=none:=I.hok.fresh (SV _);have tT:s.heap.objs.size≠z:=Xw (S2 st.1);have all:∀c o,c≠z->c≠TO->c≠i1->c≠i2->s.heap.get? c=some o->h2.get? c=some o:=fun c o c1 c2 c3 c4 e=>(sb.2 c c1).trans (kk c o c1 c2 c3 c4 e)
  have fz:=f z (by simp);have fo:=f TO (by simp);have f1:=f i1 (by simp);have f2:=f i2 (by simp);have NI:∀c ob,H c=some ob->c≠z/\c≠TO/\c≠i1/\c≠i2:=fun c ob e=>⟨(fun q=>by rw[q,fz.1]at e;cases e),(fun q=>by rw[q,fo.1]at e;cases e),(fun q=>by rw[q,f1.1]at e;cases e),(fun q=>by rw[q,f2.1]at e;cases e)⟩
  refine⟨.ref s.heap.objs.size,upd H s.heap.objs.size (.tup [x,y]),?_,rfl,⟨_,nT,rfl,fun IJ ys' x' y' a1 a2 a3 a4=>?_⟩,⟨z2,?_,⟨u,v,(sb.2 TO n2.symm).trans t1⟩,j1.at fun o e=>(sb.2 i1 n3.symm).trans e,j2.at fun o e=>(sb.2 i2 n4.symm).trans e⟩,fun c hc=>?_⟩
  ·have tup2:h2.get? s.heap.objs.size=some {cls:=.type "tuple",data:=.seq #[u,v]}:=(sb.2 _ tT).trans tp;have S0:Inv X pr σ (upd H s.heap.objs.size (.tup [x,y])) {s with heap:=h2,gens:=s.gens,drawn:=s.drawn,toks:=s.toks}:=by
    refine I.step (ch:=[z,TO,i1,i2]) (fun c hc=>?_) (fun c o _ _ nc e _=>all c o (fun q=>nc (by simp[q])) (fun q=>nc (by simp[q])) (fun q=>nc (by simp[q])) (fun q=>nc (by simp[q])) e)
     (fun c o _ _ nc e _=>⟨o.slots,all c o (fun q=>nc (by simp[q])) (fun q=>nc (by simp[q])) (fun q=>nc (by simp[q])) (fun q=>nc (by simp[q])) e⟩) (fun c o _ e n=>by rw[az (S8 (S2 e))];exact n)
     (fun c o nc e=>⟨o,all c o (fun q=>nc (by simp[q])) (fun q=>nc (by simp[q])) (fun q=>nc (by simp[q])) (fun q=>nc (by simp[q])) e⟩) (fun c l e=>by rw[az (aU e nT)];exact e) (fun c o u' e=>by rw[az (aU e nT)];exact e)
     (fun c ps e=>⟨#[],by rw[az (aU e nT),e];simp⟩) (fun m hm=>?_) (fun c ob e=>?_) I.bare
    ·simp only[S3,Uh,XW]at hc;rcases hc with rfl|rfl|rfl|rfl
     ·exact⟨fz.2.2.2.1,fz.2.1,fz.2.2.2.2.1,fz.2.2.2.2.2⟩
     ·exact⟨fo.2.2.2.1,fo.2.1,fo.2.2.2.2.1,fo.2.2.2.2.2⟩
     ·exact⟨f1.2.2.2.1,f1.2.1,f1.2.2.2.2.1,f1.2.2.2.2.2⟩
     ·exact⟨f2.2.2.2.1,f2.2.1,f2.2.2.2.2.1,f2.2.2.2.2.2⟩
    ·obtain⟨o,es,ep,ho,r⟩:=hm;exact⟨o,es,ep,all _ o (Ui fz.2.1) (Ui fo.2.1) (Ui f1.2.1) (Ui f2.2.1) ho,r⟩
    ·by_cases ec:c=s.heap.objs.size
     ·subst ec;rw[aP]at e;cases e;exact⟨by simp only[S5,TL];rw[TQ];decide,[u,v],.cons ru (.cons rv .nil),⟨_,tup2,rfl,⟨0,rfl⟩,rfl⟩⟩
     ·rw[az ec]at e;refine(I.hok c ob e).stay (fun d w' hd q=>?_) (fun d q=>by rw[az (aU q nT)];exact q) fun d l q=>by rw[az (aU q nT)];exact q
      have OW:∃oo,H d=some oo:=by
       rcases hd with rfl|hd
       ·exact⟨_,e⟩
       ·exact⟨_,hd⟩
      obtain⟨oo,Rg⟩:=OW;obtain⟨m1,m2,m3,m4⟩:=NI d oo Rg;exact all d w' m1 m2 m3 m4 q
   exact S0
  ·have e1:=xV I a1 s1;have e2:=xV I a2 s2;subst e1 e2;rw[hx]at a3;rw[hy]at a4;cases a3;cases a4;rfl
  ·exact(sb.2 TI n1.symm).trans (kk TI _ n1.symm n5 n6 n7 Ky)
  ·have hc0:=(f c hc).1;have cs:c≠s.heap.objs.size:=by
    have:=(fun i h st=>by
     exact(by
      obtain⟨hz,Ky,⟨x,y,Lj⟩,h1,h2⟩:=st;simp only[S3,Uh,XW]at hc;rcases hc with rfl|rfl|rfl|rfl|rfl
      ·exact⟨_,hz⟩
      ·exact⟨_,Ky⟩
      ·exact⟨_,Lj⟩
      ·obtain⟨o,e,_⟩:=h1.obj;exact⟨o,e⟩
      ·obtain⟨o,e,_⟩:=h2.obj;exact⟨o,e⟩:∃o,h.get? c=some o):∀i h,ZS k1 k2 z TI TO i1 i2 a b i h->∃o,h.get? c=some o) i s.heap st
    obtain⟨o,e⟩:=this;exact S8 (S2 e)
   rw[az cs];exact hc0
 done:=by
  intro X hP hw hK hc i pr s σ H E I hf st hg;subst hP hw hK;obtain⟨xs,ys,s1,s2,hi⟩:=hg;obtain⟨us,r1,q1⟩:=qX I s1;obtain⟨ws,r2,q2⟩:=qX I s2;have l1:=r1.length;have l2:=r2.length;obtain⟨n1,n2,n3,n4,n5,n6,n7,n8,n9,Rf⟩:=ne;have f:=fun c hc=>hf c hc
  have D:ZipApart z TI TO i1 i2 a b:=⟨n1.symm,n2.symm,n3.symm,n4.symm,n5,n6,n7,n8,n9,Rf,gC I s1 (f z (by simp)),gC I s1 (f TO (by simp)),gC I s1 (f i1 (by simp)),gC I s1 (f i2 (by simp)),
   gC I s2 (f z (by simp)),gC I s2 (f TO (by simp)),gC I s2 (f i1 (by simp)),gC I s2 (f i2 (by simp))⟩
  have fz:=f z (by simp);have fo:=f TO (by simp);have f1:=f i1 (by simp);have f2:=f i2 (by simp);refine qY (I.ok.hd hc) D st q1 q2 (by
   rcases Nat.le_total us.length ws.length with q|q
   ·exact .inl (by simp;lia)
   ·exact .inr (by simp;lia)) fun h' kk=>⟨rfl,?_⟩
  have NI:∀c ob,H c=some ob->c≠z/\c≠TO/\c≠i1/\c≠i2:=fun c ob e=>⟨(fun q=>by rw[q,fz.1]at e;cases e),(fun q=>by rw[q,fo.1]at e;cases e),(fun q=>by rw[q,f1.1]at e;cases e),(fun q=>by rw[q,f2.1]at e;cases e)⟩
  have S0:Inv X pr σ H {s with heap:=h',gens:=s.gens,drawn:=s.drawn,toks:=s.toks}:=by
   refine I.step (ch:=[z,TO,i1,i2]) (fun c hc=>?_) (fun c o _ _ nc e _=>kk c o (fun q=>nc (by simp[q])) (fun q=>nc (by simp[q])) (fun q=>nc (by simp[q])) (fun q=>nc (by simp[q])) e)
    (fun c o _ _ nc e _=>⟨o.slots,kk c o (fun q=>nc (by simp[q])) (fun q=>nc (by simp[q])) (fun q=>nc (by simp[q])) (fun q=>nc (by simp[q])) e⟩) (fun c o _ e n=>n)
    (fun c o nc e=>⟨o,kk c o (fun q=>nc (by simp[q])) (fun q=>nc (by simp[q])) (fun q=>nc (by simp[q])) (fun q=>nc (by simp[q])) e⟩) (fun c l e=>e) (fun c o u' e=>e)
    (fun c ps e=>⟨#[],by rw[e];simp⟩) (fun m hm=>?_) (fun c ob e=>?_) I.bare
   ·simp only[S3,Uh,XW]at hc;rcases hc with rfl|rfl|rfl|rfl
    ·exact⟨fz.2.2.2.1,fz.2.1,fz.2.2.2.2.1,fz.2.2.2.2.2⟩
    ·exact⟨fo.2.2.2.1,fo.2.1,fo.2.2.2.2.1,fo.2.2.2.2.2⟩
    ·exact⟨f1.2.2.2.1,f1.2.1,f1.2.2.2.2.1,f1.2.2.2.2.2⟩
    ·exact⟨f2.2.2.2.1,f2.2.1,f2.2.2.2.2.1,f2.2.2.2.2.2⟩
   ·obtain⟨o,es,ep,ho,r⟩:=hm;exact⟨o,es,ep,kk _ o (Ui fz.2.1) (Ui fo.2.1) (Ui f1.2.1) (Ui f2.2.1) ho,r⟩
   ·refine(I.hok c ob e).stay (fun d w' hd q=>?_) (fun d q=>q) fun d l q=>q
    have OW:∃oo,H d=some oo:=by
     rcases hd with rfl|hd
     ·exact⟨_,e⟩
     ·exact⟨_,hd⟩
    obtain⟨oo,Rg⟩:=OW;obtain⟨m1,m2,m3,m4⟩:=NI d oo Rg;exact kk d w' m1 m2 m3 m4 q
  exact S0
 self:=fun _ _ _ _ _ st h=>wpAny_pyIter_zip st.1 h
section
variable{X:Cx}{es:List Expr}{kt:Nat}{pt:Pos}
def Gd(K:W.Frag)(k1 k2:Bool)(ta:TA):TI:=fun σ H R=>ta σ H fun vs H1=>∃a b xs ys,vs=[.ref a,.ref b]/\(if k1 then SqL K H1 a xs else SqT K H1 a xs)/\(if k2 then SqL K H1 b ys else SqT K H1 b ys)/\R (Rc K k1 k2 a b) H1
theorem BN(k1 k2:Bool){e1 e2:Expr}{ta:TA}{p pos:Pos}(hg:Gl X "zip")(hm:X.mg "zip" = none)(ha:PA X [e1,e2] ta)(he:starEach [e1,e2] X.env=(false,eval e1 X.env)::starEach [e2] X.env:=by rfl)(Ic:(backTo pos (starEach [e2] X.env)).any (·.1)=false:=by rfl):
  PI X (.Tuple es kt pt) (.Call (.Name "zip" p) [e1,e2] [] pos) (Gd X.K k1 k2 ta):=by
 intro pr s σ H R I h;refine UJ (kM I hg hm (by decide +kernel:bootBuiltins "zip" = some (.type "zip")) ?_ (by decide) (by decide));refine U3 (He (ha pos pr s σ H _ I h) fun us s1 ⟨vs,H1,I1,r1,a,b,xs,ys,e,s1',s2',q⟩=>?_) he Ic;subst e;obtain⟨u,w',rfl,ra,rb⟩:=sI r1;cases ra;cases rb;obtain⟨us,v1,q1⟩:=qX I1 s1';obtain⟨ws,v2,q2⟩:=qX I1 s2';refine y8 q1 q2 fun h' st kk=>?_
 refine wpAny_pyIter_zip st.1 ?_;have fr:∀j,rT X pr H1 (s1.heap.objs.size+j):=fun j=>I1.fpOk (Nat.le_add_right _ _) (I1.hok.fresh (Nat.le_add_right _ _))
 have nn:∀i j:Nat,i≠j->s1.heap.objs.size+i≠s1.heap.objs.size+j:=fun i j h z=>h (Nat.add_left_cancel z)
 refine⟨_,_,_,_,H1,rfl,I1.kept (t':=s1.toks) kk,wg k1 k2 a b (s1.heap.objs.size+4) (s1.heap.objs.size+2) (s1.heap.objs.size+3) (s1.heap.objs.size+0) (s1.heap.objs.size+1)
  ⟨nn 4 2 (by decide),nn 4 3 (by decide),nn 4 0 (by decide),nn 4 1 (by decide),nn 2 3 (by decide),nn 2 0 (by decide),nn 2 1 (by decide),nn 3 0 (by decide),nn 3 1 (by decide),nn 0 1 (by decide)⟩,st,fun c hc=>?_,q⟩
 simp only[S3,Uh,XW]at hc;rcases hc with rfl|rfl|rfl|rfl|rfl
 ·exact fr 4
 ·exact fr 2
 ·exact fr 3
 ·exact fr 0
 ·exact fr 1
end
end NX
namespace NX
open PySem PySem.W PyProof.Rows
section
variable{n:Nat}{O:KeyOrd}{κ:Nat->O.α}{cmp:Nat->Nat->(Bool->Shared->Prop)->Shared->Prop}{Good:Shared->Prop}
def kk(κ:Nat->O.α)(p:Array Nat)(i:Nat):O.α:=κ (p.getD i 0)
structure POk(n:Nat)(p:Array Nat):Prop where
 perm:p.toList.Perm (List.range n)
theorem POk.size{p:Array Nat}(h:POk n p):p.size=n:=by
 have:=h.perm.length_eq;simpa using this
theorem POk.lt{p:Array Nat}(h:POk n p){i:Nat}(hi:i<n):p.getD i 0<n:=by
 have hs:=h.size;have Mh:i<p.size:=by lia
 have e:p.getD i 0=p[i]:=by simp[Array.getD,Mh]
 rw[e];exact TB.mp (h.perm.mem_iff.mp (Array.getElem_mem_toList Mh))
theorem POk.of{p q:Array Nat}(h:POk n p)(hq:q.Perm p):POk n q:=⟨(Array.perm_iff_toList_perm.mp hq).trans h.perm⟩
def aZ(κ:Nat->O.α)(p:Array Nat)(m:Nat):Prop:=∀i j,i<=j->j<m->O.kle (kk κ p i) (kk κ p j)
def eG(κ:Nat->O.α)(p:Array Nat)(m:Nat):Prop:=∀i j,i<=j->j<m->O.kle (kk κ p j) (kk κ p i)
theorem dX{p q:Array Nat}{i j:Nat}(h:p[i]?=q[j]?):p.getD i 0=q.getD j 0:=by
 rw[VX,VX,h]
theorem pM{p:Array Nat}{i j:Nat}(hj:j<=p.size)(k:Nat):kk κ (kas_rev p i j) k=if i<=k/\k<j then kk κ p (i+j-1-k) else kk κ p k:=by
 have e:=getElem?_mirror_all (i:=i) hj k;unfold kk kas_rev;split
 ·rename_i h;rw[S1 h]at e;rw[dX e]
 ·rename_i h;rw[S4 h]at e;rw[dX e]
theorem xW{p:Array Nat}{src d:Nat}(hs:src<p.size)(hd:d<=src)(k:Nat):kk κ (bubble p src d) k=if k=src-d then kk κ p src else if src-d<k/\k<=src then kk κ p (k-1) else kk κ p k:=by
 have e:=getElem?_bubble hs d hd k;by_cases h:k=src-d
 ·rw[S1 h]at e ⊢;exact TY κ (dX e)
 ·rw[S4 h]at e ⊢;by_cases h2:src-d<k/\k<=src
  ·rw[S1 h2]at e ⊢;exact TY κ (dX e)
  ·rw[S4 h2]at e ⊢;exact TY κ (dX e)
theorem POk.rev{p:Array Nat}(h:POk n p)(i j:Nat):POk n (kas_rev p i j):=h.of (mirror_perm _ _ _ _)
theorem POk.bub{p:Array Nat}(h:POk n p)(i j:Nat):POk n (bubble p i j):=h.of (bubble_perm _ _ _)
theorem qZ(p:Array Nat):aZ κ p 1:=fun i j a b=>by
 have e:i=j:=by lia
 rw[e];exact UA _
theorem oS{p:Array Nat}{m:Nat}(h1:1<=m)(h:aZ κ p m)(hm:O.kle (kk κ p (m-1)) (kk κ p m)):aZ κ p (m+1):=by
 intro i j Lx hj;by_cases e:j=m
 ·subst e;by_cases e2:i=j
  ·subst e2;exact UA _
  ·exact VC (h i (j-1) (by lia) (by lia)) hm
 ·exact h i j Lx (by lia)
theorem dY{p:Array Nat}{m:Nat}(h1:1<=m)(h:eG κ p m)(hm:O.kle (kk κ p m) (kk κ p (m-1))):eG κ p (m+1):=by
 intro i j Lx hj;by_cases e:j=m
 ·subst e;by_cases e2:i=j
  ·subst e2;exact UA _
  ·exact VC hm (h i (j-1) (by lia) (by lia))
 ·exact h i j Lx (by lia)
variable(hc:∀i j,i<n->j<n->∀(Q:Bool->Shared->Prop) s,Good s->(∀s',Good s'->Q (O.blt (κ i) (κ j)) s')->cmp i j Q s)
include hc
theorem tf{p:Array Nat}(hp:POk n p){HD:Nat}(hn:HD<=n){Q:Nat->Shared->Prop}:∀(f m:Nat) (s:Shared),Good s->1<=m->m+f=HD->aZ κ p m->
  (∀r s',Good s'->m<=r->r<=HD->aZ κ p r->(r<HD->O.klt (kk κ p r) (kk κ p (r-1)))->Q r s')->(kas_asc p f m).kasWp cmp Q s
 | 0,m,s,g,h1,hf,hs,k=>k m s g (SV _) (by lia) hs (fun z=>by lia)
 |f+1,m,s,g,h1,hf,hs,k=>by
  show cmp (p.getD m 0) (p.getD (m-1) 0) _ s;refine hc _ _ (hp.lt (by lia)) (hp.lt (by lia)) _ s g fun s' g'=>?_
  cases e:O.blt (κ (p.getD m 0)) (κ (p.getD (m-1) 0)) with
  |true=>
   (try dsimp only)
   rw[S1 rfl];exact k m s' g' (SV _) (by lia) hs fun _=>e
  |false=>
   (try dsimp only)
   rw[S4 SX];exact tf hp hn f (m+1) s' g' (by lia) (by lia) (oS h1 hs e) fun r s2 g2 a b c d=>k r s2 g2 (by lia) b c d
def y9(κ:Nat->O.α)(p:Array Nat)(m q:Nat):Prop:=∀k,m-(q+1)<=k->k<m->kk κ p k=kk κ p (m-1)
omit hc in
theorem m5{p:Array Nat}{m q:Nat}(hm:m<=p.size)(h:y9 κ p m q)(k:Nat):kk κ (kas_rev p (m-(q+1)) m) k=kk κ p k:=by
 rw[pM hm];split
 ·rename_i hk;rw[h _ (by lia) (by lia),h k hk.1 hk.2]
 ·rfl
omit hc in
theorem iM{p p':Array Nat}{m:Nat}(e:∀k,kk κ p' k=kk κ p k)(h:eG κ p m):eG κ p' m:=fun i j a b=>by rw[e,e];exact h i j a b
theorem lH{HD:Nat}(hn:HD<=n){Q:Array Nat×Nat×Nat->Shared->Prop}:∀(f:Nat) (p:Array Nat) (m q:Nat) (s:Shared),POk n p->Good s->1<=m->q+1<=m->m+f=HD->eG κ p m->y9 κ p m q->
  (∀p' m' q' s',POk n p'->Good s'->m<=m'->m'<=HD->q'+1<=m'->eG κ p' m'->y9 κ p' m' q'->Q (p',m',q') s')->(kas_desc f p m q).kasWp cmp Q s
 | 0,p,m,q,s,hp,g,h1,hq,hf,hs,ha,k=>k p m q s hp g (SV _) (by lia) hq hs ha
 |f+1,p,m,q,s,hp,g,h1,hq,hf,hs,ha,k=>by
  show cmp (p.getD m 0) (p.getD (m-1) 0) _ s;refine hc _ _ (hp.lt (by lia)) (hp.lt (by lia)) _ s g fun s' g'=>?_
  have hsz:=hp.size;cases e:O.blt (κ (p.getD m 0)) (κ (p.getD (m-1) 0)) with
  |true=>
   (try dsimp only)
   rw[S1 rfl];have le:O.kle (kk κ p m) (kk κ p (m-1)):=Vv e;by_cases h0:q>0
   ·rw[S1 h0];have same:=m5 (κ:=κ) (p:=p) (m:=m) (q:=q) (by lia) ha;refine lH hn f _ (m+1) 0 s' (hp.rev _ _) g' (by lia) (by lia) (by lia) (dY h1 (iM same hs) (by rw[same,same];exact le)) ?_ fun p' m' q' s2 a b c d e' f' g2=>k p' m' q' s2 a b (by lia) d e' f' g2
    intro k' a b;have:k'=m:=by lia
    rw[this];rfl
   ·rw[S4 h0];refine lH hn f p (m+1) 0 s' hp g' (by lia) (by lia) (by lia) (dY h1 hs le) ?_ fun p' m' q' s2 a b c d e' f' g2=>k p' m' q' s2 a b (by lia) d e' f' g2
    intro k' a b;have:k'=m:=by lia
    rw[this];rfl
  |false=>
   (try dsimp only)
   rw[S4 SX];show cmp (p.getD (m-1) 0) (p.getD m 0) _ s';refine hc _ _ (hp.lt (by lia)) (hp.lt (by lia)) _ s' g' fun s2 g2=>?_
   cases e2:O.blt (κ (p.getD (m-1) 0)) (κ (p.getD m 0)) with
   |true=>
    (try dsimp only)
    rw[S1 rfl];exact k p m q s2 hp g2 (SV _) (by lia) hq hs ha
   |false=>
    (try dsimp only)
    rw[S4 SX];have eq:kk κ p (m-1)=kk κ p m:=KeyOrd.kle_antisymm (O:=O) e e2;refine lH hn f p (m+1) (q+1) s2 hp g2 (by lia) (by lia) (by lia) (dY h1 hs (by rw[eq];exact UA _)) ?_ fun p' m' q' s3 a b c d e' f' g3=>k p' m' q' s3 a b (by lia) d e' f' g3
    intro k' a b;show kk κ p k'=kk κ p m;by_cases z:k'=m
    ·rw[z]
    ·rw[ha k' (by lia) (by lia),eq]
omit hc in
theorem q0{p:Array Nat}{m:Nat}(hm:m<=p.size)(h:eG κ p m):aZ κ (kas_rev p 0 m) m:=by
 intro i j a b;rw[pM hm,pM hm,S1 (by lia),S1 (by lia)];exact h _ _ (by lia) (by lia)
theorem tj{p:Array Nat}(hp:POk n p){m HD:Nat}(hn:HD<=n)(h1:1<=m)(hm:m<=HD)(hs:eG κ p m){Q:Nat×Array Nat->Shared->Prop}{s:Shared}(g:Good s)
  (k:∀r p' s',POk n p'->Good s'->1<=r->r<=HD->aZ κ p' r->Q (r,p') s'):(kas_tail3 m HD p).kasWp cmp Q s:=by
 unfold kas_tail3;rw[KasT.kasWp_bind];have hsz:=hp.size;refine tf hc (hp.rev 0 m) hn (HD-m) m s g h1 (by lia) (q0 (by lia) hs) fun r s' g' a b c _=>?_
 exact k r _ s' (hp.rev 0 m) g' (by lia) b c
theorem jL{p:Array Nat}(hp:POk n p){m HD:Nat}(hn:HD<=n)(h1:1<=m)(hm:m+1<=HD)(hs:eG κ p (m+1)){Q:Nat×Array Nat->Shared->Prop}{s:Shared}(g:Good s)
  (k:∀r p' s',POk n p'->Good s'->1<=r->r<=HD->aZ κ p' r->Q (r,p') s'):(kas_descPart m HD p).kasWp cmp Q s:=by
 unfold kas_descPart;rw[KasT.kasWp_bind];refine lH hc hn (HD-(m+1)) p (m+1) 0 s hp g (by lia) (by lia) (by lia) hs ?_ fun p' m' q' s' a b c d e f g2=>?_
 ·intro k' a b;have:k'=m:=by lia
  rw[this];rfl
 ·have hsz:=a.size;dsimp only;split
  ·have same:=m5 (κ:=κ) (p:=p') (m:=m') (q:=q') (by lia) g2;exact tj hc (a.rev _ _) hn (by lia) d (iM same f) b k
  ·exact tj hc a hn (by lia) d f b k
theorem wj{p:Array Nat}(hp:POk n p){HD:Nat}(hn:HD<=n)(h1:1<=HD){Q:Nat×Array Nat->Shared->Prop}{s:Shared}(g:Good s)
  (k:∀r p' s',POk n p'->Good s'->1<=r->r<=HD->aZ κ p' r->Q (r,p') s'):(kas_count HD p).kasWp cmp Q s:=by
 unfold kas_count;rw[KasT.kasWp_bind];have hsz:=hp.size;refine tf hc hp hn (HD-1) 1 s g (SV _) (by lia) (qZ p) fun m s' g' a b c d=>?_
 by_cases e:m=HD
 ·rw[S1 (by simpa using e)];exact k m p s' hp g' (by lia) (by lia) c
 ·rw[S4 (by simpa using e)];have dd:=d (by lia);by_cases h2:m>1
  ·rw[S1 h2];show cmp (p.getD 0 0) (p.getD (m-1) 0) _ s';refine hc _ _ (hp.lt (by lia)) (hp.lt (by lia)) _ s' g' fun s2 g2=>?_
   cases e2:O.blt (κ (p.getD 0 0)) (κ (p.getD (m-1) 0)) with
   |true=>
    (try dsimp only)
    rw[S1 rfl];exact k m p s2 hp g2 (by lia) b c
   |false=>
    (try dsimp only)
    rw[S4 SX];have eq:∀i,i<m->kk κ p i=kk κ p 0:=fun i hi=>by
     have x1:=c 0 i (by lia) hi;have x2:=c i (m-1) (by lia) (by lia);exact KeyOrd.kle_antisymm (O:=O) (VC x2 e2) x1
    have same:∀i,kk κ (kas_rev p 0 m) i=kk κ p i:=fun i=>by
     rw[pM (by lia)];split
     ·rw[eq _ (by lia),eq i (by lia)]
     ·rfl
    refine jL hc (hp.rev 0 m) hn (by lia) (by lia) ?_ g2 k;refine iM same (dY (by lia) (fun i j x y=>?_) (Vv dd));rw[eq i (by lia),eq j y];exact UA _
  ·rw[S4 h2];refine jL hc hp hn (by lia) (by lia) (dY (by lia) (fun i j x y=>?_) (Vv dd)) g' k;have:i=j:=by lia
   rw[this];exact UA _
theorem lI{p:Array Nat}(hp:POk n p){t:Nat}(ht:t<n)(hs:aZ κ p t){Q:Nat->Shared->Prop}:∀(f l r:Nat) (s:Shared),Good s->l<=r->r<=t->r-l<=f->(∀i,i<l->O.kle (kk κ p i) (kk κ p t))->(∀i,r<=i->i<t->O.klt (kk κ p t) (kk κ p i))->
  (∀x s',Good s'->x<=t->(∀i,i<x->O.kle (kk κ p i) (kk κ p t))->(∀i,x<=i->i<t->O.klt (kk κ p t) (kk κ p i))->Q x s')->(kas_place p t f l r).kasWp cmp Q s
 | 0,l,r,s,g,h1,h2,h3,lo,hi,k=>k l s g (by lia) lo fun i a b=>hi i (by lia) b
 |f+1,l,r,s,g,h1,h2,h3,lo,hi,k=>by
  unfold kas_place;by_cases e:l>=r
  ·rw[S1 e];exact k l s g (by lia) lo fun i a b=>hi i (by lia) b
  ·rw[S4 e];show cmp (p.getD t 0) (p.getD ((l+r) / 2) 0) _ s;refine hc _ _ (hp.lt ht) (hp.lt (by lia)) _ s g fun s' g'=>?_
   cases e2:O.blt (κ (p.getD t 0)) (κ (p.getD ((l+r) / 2) 0)) with
   |true=>
    (try dsimp only)
    rw[S1 rfl];refine lI hp ht hs f l ((l+r) / 2) s' g' (by lia) (by lia) (by lia) lo (fun i a b=>?_) k;exact KeyOrd.klt_of_klt_of_kle (O:=O) e2 (hs _ i a b)
   |false=>
    (try dsimp only)
    rw[S4 SX];refine lI hp ht hs f ((l+r) / 2+1) r s' g' (by lia) (by lia) (by lia) (fun i a=>?_) hi k;exact VC (O:=O) (hs i ((l+r) / 2) (by lia) (by lia)) e2
theorem xX{Q:Array Nat->Shared->Prop}:∀(f:Nat) (p:Array Nat) (t:Nat) (s:Shared),POk n p->Good s->t+f=n->aZ κ p t->(∀p' s',POk n p'->Good s'->aZ κ p' n->Q p' s')->(kas_bin f p t).kasWp cmp Q s
 | 0,p,t,s,hp,g,hf,hs,k=>k p s hp g (by rw[show n=t by lia];exact hs)
 |f+1,p,t,s,hp,g,hf,hs,k=>by
  unfold kas_bin;rw[KasT.kasWp_bind];have hsz:=hp.size;refine lI hc hp (by lia) hs t 0 t s g (Tw _) (SV _) (by lia) (fun i a=>by lia) (fun i a b=>by lia) fun x s' g' hx lo hi=>?_
  refine xX f _ (t+1) s' (hp.bub _ _) g' (by lia) ?_ k;have ex:t-(t-x)=x:=by lia
  intro i j a b;rw[xW (by lia) (by lia),xW (by lia) (by lia),ex];have lo':=lo;by_cases i1:i=x
  ·by_cases j1:j=x
   ·rw[S1 i1,S1 j1];exact UA _
   ·rw[S1 i1,S4 j1,S1 (by lia)];exact Vv (hi (j-1) (by lia) (by lia))
  ·rw[S4 i1];by_cases i2:x<i/\i<=t
   ·rw[S1 i2,S4 (by lia),S1 (by lia)];exact hs (i-1) (j-1) (by lia) (by lia)
   ·rw[S4 i2];by_cases j1:j=x
    ·rw[S1 j1];exact lo i (by lia)
    ·rw[S4 j1];by_cases j2:x<j/\j<=t
     ·rw[S1 j2];exact hs i (j-1) (by lia) (by lia)
     ·rw[S4 j2];exact hs i j a (by lia)
theorem za(h1:1<=n){Q:Array Nat->Shared->Prop}{s:Shared}(g:Good s)(k:∀p s',POk n p->Good s'->aZ κ p n->Q p s'):(kas_sort n).kasWp cmp Q s:=by
 unfold kas_sort;rw[KasT.kasWp_bind];refine wj hc (p:=List.toArray (List.range n)) ⟨by simp⟩ (SV _) h1 g fun r p' s' hp g' a b c=>?_
 dsimp only;split
 ·have e:max r 1=r:=by lia
  rw[e];exact xX hc (n-r) p' r s' hp g' (by lia) c k
 ·exact k p' s' hp g' (by rw[show n=r by lia];exact c)
end
end NX
namespace NX
open PySem PySem.W PySem.Spec PyProof.Rows L2
section
variable{prog:Program}{w:World}{A:Around}{E:Value->Shared->Prop}{s:Shared}
theorem pN(n:Nat):POk n (List.toArray (List.range n)):=⟨by simp⟩
theorem hX{O:KeyOrd}{key:Nat->O.α}{kd:SortKind}{a:Addr}{vs:List Value}{n:Nat}{P:PySem.Fin->Shared->Prop}(ho:s.heap.get? a=some (seqObj "list" vs.toArray n))(Kz:vs.length<64)
  (Jy:2<=vs.length->∀(h':Heap),(∀b o,b≠a->s.heap.get? b=some o->h'.get? b=some o)->∀Q:SortKind->Shared->Prop,Q kd {s with heap:=h'}->wpAny (model prog w) A (keyKind' vs.toArray) Q E {s with heap:=h'})
  (LH:∀i j,i<vs.length->j<vs.length->∀(h':Heap),(∀b o,b≠a->s.heap.get? b=some o->h'.get? b=some o)->∀C:Bool->Shared->Prop,C (O.blt (key i) (key j)) {s with heap:=h'}->kas_ask prog w A kd vs i j C {s with heap:=h'})
  (h:∀p h',POk vs.length p->aZ key p vs.length->(∃e,h'.get? a=some (seqObj "list" (List.toArray (p.toList.map fun i=>vs.getD i .none)) e))->(∀b o,b≠a->s.heap.get? b=some o->h'.get? b=some o)->P (.done (.ret .none)) {s with heap:=h'}):
  wpAny (model prog w) A (Builtin.«list.sort» ⟨[.ref a],[]⟩) P E s:=by
 rw[list_sort_plain];have la:a<s.heap.objs.size:=S2 ho;have zs:vs.toArray.size=vs.length:=by simp
 refine SM (listItems_at ho rfl (SM (Wi ho rfl ?_ (by rw[zs,TQ];lia) (Tw _))));obtain⟨e1,h1⟩:∃e1,(s.heap.update a (Obj.mapSeq fun _=>#[])).get? a=some (seqObj "list" #[] e1):=⟨_,get?_update_seq ho (fun _=>#[])⟩
 refine SM (seqEpoch_at h1 rfl (SM (wpAny_newTuple (SM (Wj (UK ?_))) (by simp only[VQ];rw[TQ];lia))));generalize e6:((s.heap.update a (Obj.mapSeq fun _=>#[])).push {cls:=.type "tuple",data:=.seq vs.toArray.toList.toArray}).push {cls:=.type "list",data:=.seq ([]:List Value).toArray}=h6;have k6:∀b o,b≠a->s.heap.get? b=some o->h6.get? b=some o:=fun b o nb e=>by
  rw[<-e6];exact Heap.get?_push_of_some _ (Heap.get?_push_of_some _ ((Heap.get?_update_other _ _ (Ui nb)).trans e))
 have Pa:h6.get? a=some (seqObj "list" #[] e1):=by
  rw[<-e6];exact Heap.get?_push_of_some _ (Heap.get?_push_of_some _ h1)
 dsimp only;have fin:∀(p:Array Nat),POk vs.length p->aZ key p vs.length->∀out:Array Value,out=List.toArray (p.toList.map fun i=>vs.getD i .none)->
   P (.done (.ret .none)) {s with heap:=h6.update a (Obj.mapSeq fun _=>out)}:=fun p hp hs out eo=>by
  subst eo;exact h p _ hp hs ⟨_,get?_update_seq Pa _⟩ fun b o nb e=>(Heap.get?_update_other _ _ (Ui nb)).trans (k6 b o nb e)
 have fits:∀{out:Array Value}{p:Array Nat},POk vs.length p->out=List.toArray (p.toList.map fun i=>vs.getD i .none)->out.size<=sizeLine+1:=fun{out p} hp e=>by
  rw[e,SR,SO,hp.perm.length_eq,Tr,TQ];lia
 by_cases h2:vs.toArray.size<2
 ·rw[S1 h2,S1 h2];refine SM (SQ ?_);rw[StateT.run_pure];refine SM (SQ ?_);dsimp only;have eo:(arrOf (SortSt.mk' general' (vs.toArray.zip vs.toArray) #[] 7 none)).map (·.2)=List.toArray ((List.toArray (List.range vs.length)).toList.map fun i=>vs.getD i .none):=by
   show(vs.toArray.zip vs.toArray).map (·.2)=_;apply Array.toList_inj.mp;simp only[Array.toList_map,Array.toList_zip,VQ];have a1:(vs.zip vs).map (·.2)=vs:=by
    rw[List.map_snd_zip];exact SV _
   rw[a1];apply U8;intro i;by_cases hi:i<vs.length
   ·simp[hi]
   ·simp[hi]
  refine SM (seqEpoch_at Pa rfl (SM (Wi Pa rfl ?_ (Tw _) (fits (pN _) eo))));simp only[V9,Um,VL];refine SQ (fin _ (pN _) ?_ _ eo);intro i j x y;have:i=j:=by lia
  rw[this];exact UA _
 ·rw[S4 h2,S4 h2];have Rh:2<=vs.length:=by lia
  refine SM (Jy Rh h6 k6 _ ?_);refine SM (TZ (kat_run (ks:=vs) (vs:=vs) (Q:=fun Jl s'=>∃p,POk vs.length p/\aZ key p vs.length/\arrOf Jl=p.map (kas_item (vs.toArray.zip vs.toArray))/\failedOf Jl=none/\s'={s with heap:=h6})
   (G:=fun p s'=>POk vs.length p/\aZ key p vs.length/\s'={s with heap:=h6}) rfl Rh Kz (fun p Jl s' hz Ri hf hg=>⟨p,hg.1,hg.2.1,Ri,hf,hg.2.2⟩)
   (za (n:=vs.length) (O:=O) (κ:=key) (Good:=fun s'=>s'={s with heap:=h6}) (fun i j hi hj Q s' g k=>?_) (by lia) rfl fun p s' hp g hs=>⟨hp,hs,g⟩)) (fun r s' hq=>?_) fun _ _ e=>e)
  ·subst g;exact LH i j hi hj h6 k6 Q (k _ rfl)
  ·obtain⟨p,hp,hs,Ri,hf,rfl⟩:=hq;have eo:=kat_snds (ks:=vs) (vs:=vs) rfl Ri;refine SM (seqEpoch_at Pa rfl (SM (Wi Pa rfl ?_ (Tw _) (fits hp eo))));rw[hf];simp only[V9,Um,VL];exact SQ (fin p hp hs _ eo)
theorem iN{O:KeyOrd}{key:Nat->O.α}{kd:SortKind}{l:Addr}{vs:List Value}{Q:Value->Shared->Prop}(hl:s.heap.IsList l vs.toArray)(Kz:vs.length<64)
  (Jy:2<=vs.length->∀(A':Around) (E':Value->Shared->Prop) (h':Heap),(∀b o,s.heap.get? b=some o->h'.get? b=some o)->∀Q:SortKind->Shared->Prop,Q kd {s with heap:=h'}->wpAny (model prog w) A' (keyKind' vs.toArray) Q E' {s with heap:=h'})
  (LH:∀i j,i<vs.length->j<vs.length->∀(h':Heap),(∀b o,s.heap.get? b=some o->h'.get? b=some o)->∀C:Bool->Shared->Prop,C (O.blt (key i) (key j)) {s with heap:=h'}->kas_ask prog w A.in1.in1 kd vs i j C {s with heap:=h'})
  (h:∀p h' e,POk vs.length p->aZ key p vs.length->h'.get? (s.heap.objs.size+1)=some (seqObj "list" (List.toArray (p.toList.map fun i=>vs.getD i .none)) e)->(∀b o,s.heap.get? b=some o->h'.get? b=some o)->Q (.ref (s.heap.objs.size+1)) {s with heap:=h'}):
  wpAny (model prog w) A (call (.builtin "sorted") [.ref l]) Q E s:=by
 refine Vc kind_sorted plain_sorted entry_sorted (args_sorted1 _) ?_;unfold Builtin.«sorted»;refine SM (m:=checkCount "sorted" 1 1 _) (SQ (SM (collect_list hl (SM (Wj ?_ (by rw[TQ];lia))) (by rw[TQ];lia))));have zz:((s.heap.push (seqObj "list" #[] 0)).update s.heap.objs.size (Obj.mapSeq (·++vs.toArray))).objs.size=s.heap.objs.size+1:=by rw[Heap.size_update,size_push']
 generalize e5:(s.heap.push (seqObj "list" #[] 0)).update s.heap.objs.size (Obj.mapSeq (·++vs.toArray))=h5 at zz ⊢;have k5:∀b o,s.heap.get? b=some o->(h5.push (seqObj "list" vs.toArray 0)).get? b=some o:=fun b o e=>by
  rw[<-e5];exact Heap.get?_push_of_some _ ((Heap.get?_update_other _ _ (Ui (S8 (S2 e)))).trans (Heap.get?_push_of_some _ e))
 have hL:(h5.push (seqObj "list" vs.toArray 0)).get? (s.heap.objs.size+1)=some (seqObj "list" vs.toArray 0):=by
  rw[<-zz];exact Heap.get?_push_size _ rfl
 have ne:∀b o,s.heap.get? b=some o->b≠s.heap.objs.size+1:=fun b o e=>S8 (Wb (S2 e))
 show wpAny _ _ _ _ _ {s with heap:=h5.push (seqObj "list" vs.toArray 0)};rw[zz];refine SM (UK (TU slot_list_sort ⟨_,hL,rfl⟩ entry_list_sort (hX (key:=key) (kd:=kd) hL Kz (fun h2 h' kk Q' q=>Jy h2 _ _ h' (fun b o e=>kk b o (ne b o e) (k5 b o e)) Q' q)
  (fun i j hi hj h' kk C q=>LH i j hi hj h' (fun b o e=>kk b o (ne b o e) (k5 b o e)) C q) fun p h' hp hs ⟨e,he⟩ kk=>⟨_,rfl,?_⟩) (args_list_sort _)))
 exact SQ ⟨_,rfl,h p h' e hp hs he fun b o q=>kk b o (ne b o q) (k5 b o q)⟩
end
def intO:KeyOrd where
 α:=Int
 blt a b:=decide (a<b)
 irrefl a:=by simp
 trans a b c h1 h2:=by simp only[S9] at *;lia
 negTrans a b c h:=by simp only[S9] at *;lia
 total a b h1 h2:=by simp only[TF] at *;lia
abbrev DK:KeyOrd:=strKind.toKeyOrd
noncomputable def oI:KeyOrd where
 α:=Key
 blt a b:=match a,b with
  | .inl i,.inl j=>decide (i<j)
  | .inr x,.inr y=>decide (x.cps.toList<y.cps.toList)
  | .inl _,.inr _=>true
  | .inr _,.inl _=>false
 irrefl a:=by
  cases a with
  |inl i=>simp
  |inr x=>simpa using List.lt_irrefl x.cps.toList
 trans a b c h1 h2:=by
  cases a <;> cases b <;> cases c <;> simp_all
  ·lia
  ·exact List.lt_trans h1 h2
 negTrans a b c h:=by
  cases a <;> cases b <;> cases c <;> simp_all
  ·lia
  ·rename_i x y z;by_cases q:x.cps.toList<y.cps.toList
   ·exact .inl q
   ·exact .inr (List.lt_of_le_of_lt (Wl.mp q) h)
 total a b h1 h2:=by
  cases a <;> cases b <;> simp_all
  ·lia
  ·rename_i x y;have e:x.cps.toList=y.cps.toList:=List.le_antisymm (by first|exact h2|exact Wl.mp h2) (by first|exact h1|exact Wl.mp h1);rw[<-mW x,<-mW y,e]
def di:List Key->List Key->Bool
 |[],[]=>false
 |[],_::_=>true
 |_::_,[]=>false
 |a::r,b::t=>if a=b then di r t else oI.blt a b
theorem gS:∀a:List Key,di a a=false
 |[]=>rfl
 |a::r=>by
  show(if a=a then di r r else _)=false;rw[S1 rfl];exact gS r
theorem zb{a b:Key}(h:oI.blt a b=true):a≠b:=by
 rintro rfl;have:=oI.irrefl a;rw[h]at this;cases this
theorem gq:∀a b c:List Key,di a b=true->di b c=true->di a c=true
 |[],[],_,h,_=>by cases h
 |[],_::_,[],_,h=>by cases h
 |[],_::_,_::_,_,_=>rfl
 |_::_,[],_,h,_=>by cases h
 |_::_,_::_,[],_,h=>by cases h
 |a::r,b::t,c::u,h1,h2=>by
  have h1:(if a=b then di r t else oI.blt a b)=true:=h1;have h2:(if b=c then di t u else oI.blt b c)=true:=h2;show(if a=c then di r u else oI.blt a c)=true;by_cases e1:a=b
  ·by_cases e2:b=c
   ·rw[S1 e1]at h1;rw[S1 e2]at h2;rw[S1 (e1.trans e2)];exact gq r t u h1 h2
   ·rw[S4 e2]at h2;rw[e1,S4 e2];exact h2
  ·rw[S4 e1]at h1;by_cases e2:b=c
   ·rw[<-e2,S4 e1];exact h1
   ·rw[S4 e2]at h2;have h3:=oI.trans a b c h1 h2;rw[S4 (zb h3)];exact h3
theorem gu:∀a b:List Key,di a b=false->di b a=false->a=b
 |[],[],_,_=>rfl
 |[],_::_,h,_=>by cases h
 |_::_,[],_,h=>by cases h
 |a::r,b::t,h1,h2=>by
  have h1:(if a=b then di r t else oI.blt a b)=false:=h1;have h2:(if b=a then di t r else oI.blt b a)=false:=h2;by_cases e:a=b
  ·rw[S1 e]at h1;rw[S1 e.symm]at h2;rw[e,gu r t h1 h2]
  ·rw[S4 e]at h1;rw[S4 (Ui e)]at h2;exact absurd (oI.total a b h1 h2) e
theorem wm(a b c:List Key)(h:di a c=true):di a b=true\/di b c=true:=by
 cases e:di a b with
 |true=>exact .inl rfl
 |false=>
  refine .inr ?_;cases e2:di b a with
  |true=>exact gq b a c e2 h
  |false=>
   rw[<-gu a b e e2];exact h
def DL:KeyOrd where
 α:=List Key
 blt:=di
 irrefl:=gS
 trans:=gq
 negTrans:=wm
 total:=gu
section
variable{O:KeyOrd}
def oJ(p:Array Nat)(xs:List V):List V:=p.toList.map fun i=>xs.getD i .non
theorem kG{α:Type}(xs:List α)(d:α):((List.range xs.length).map fun i=>xs.getD i d)=xs:=by
 apply U8;intro i;by_cases hi:i<xs.length
 ·simp[hi]
 ·simp[hi]
theorem hZ{α:Type}{p:Array Nat}{xs:List α}(d:α)(hp:POk xs.length p):(p.toList.map fun i=>xs.getD i d).Perm xs:=by
 have:=hp.perm.map (fun i=>xs.getD i d)
 rwa [kG]at this
theorem dZ{α:Type}{p:Array Nat}{xs:List α}(d:α)(key:α->O.α)(hp:POk xs.length p)(hs:aZ (O:=O) (fun i=>key (xs.getD i d)) p xs.length):(p.toList.map fun i=>xs.getD i d).Pairwise fun a b=>O.kle (key a) (key b):=by
 rw[V4];intro i j hi hj Lx;have hsz:=hp.size;have Mh:i<p.size:=by simpa using hi
 have NJ:j<p.size:=by simpa using hj
 have h:=hs i j (WE Lx) (by lia);unfold kk at h;simp only[List.getElem_map,Array.getElem_toList];have e1:p.getD i 0=p[i]:=by simp[Array.getD,Mh]
 have e2:p.getD j 0=p[j]:=by simp[Array.getD,NJ]
 rw[e1,e2]at h;exact h
theorem vals_pick{xs:List V}{us:List Value}(r:Vals xs us):∀l:List Nat,(∀i∈l,i<xs.length)->Vals (l.map fun i=>xs.getD i .non) (l.map fun i=>us.getD i .none)
 |[],_=>.nil
 |i::l,h=>by
  refine .cons ?_ (vals_pick r l fun j hj=>h j (SU _ hj));have hi:=h i SN;have e1:xs[i]?=some (xs.getD i .non):=by rw[aW _ _ _ hi];exact List.getElem?_eq_getElem hi
  obtain⟨u,hu,ru⟩:=r.get e1;have e2:us.getD i .none=u:=by rw[List.getD_eq_getElem?_getD,hu];rfl
  show L2.RelV (xs.getD i .non) (us.getD i .none);rw[e2];exact ru
theorem ia{xs:List V}{us:List Value}{p:Array Nat}(r:Vals xs us)(hp:POk xs.length p):Vals (oJ p xs) (p.toList.map fun i=>us.getD i .none):=
 vals_pick r _ fun i hi=>TB.mp (hp.perm.mem_iff.mp hi)
end
section
variable{X:Cx}
theorem fE{pr:List (Addr×Obj)}{s:Shared}{σ:L2.St}{H:Hp}{h':Heap}{ys:List V}{us:List Value}{e:Nat}{D:Addr}(I:Inv X pr σ H s)(kk:∀b o,s.heap.get? b=some o->h'.get? b=some o)(hD:s.heap.objs.size<=D)
  (ho:h'.get? D=some (seqObj "list" (List.toArray us) e)) (r:Vals ys us) (hz:ys.length<=sizeLine):Inv X pr σ (upd H D (.lst ys)) {s with heap:=h'}:=
 I.laid (t':=s.toks) kk hD ⟨hz,us,e,r,ho⟩
theorem jl(hc:X.calm=true):c6 X (.builtin "sorted") (fun vs H Q=>∃(p:Addr) (ns:List Int),vs=[.ref p]/\SqL X.K H p (ns.map V.int)/\ns.length<64/\∀(D:Addr) (ms:List Int),H D=none->ms.Perm ns->ms.Pairwise (·<=·)->Q (.ref D) (upd H D (.lst (ms.map V.int)))):=by
 intro pr s σ H vs us Q I r h;obtain⟨p,ns,rfl,hp,Kz,q⟩:=h;obtain⟨u,rfl,r1⟩:=fe r;cases r1;obtain⟨ws,rv,pl,hz⟩:=I.list hp;have hl:=rv.length;rw[SO]at hl;have isI:∀v∈ws,∃n t,v=.int n t:=fun v hv=>by
  obtain⟨i,hi⟩:=Ua.mp hv;obtain⟨t,e⟩:=gR rv hi;exact⟨_,t,e⟩
 refine iN (O:=intO) (key:=fun i=>ns.getD i 0) (kd:=oneType') pl.isList (by lia) (fun h2 A' E' h' kk Q' q'=>?_) (fun i j hi hj h' kk C q'=>?_) fun pp h' e IK hs he kk=>?_
 ·refine kas_kind h2 (T:=.type "int") (fun v hv=>?_) (by decide) (by decide) q';obtain⟨n,t,rfl⟩:=isI v hv;exact fun A Q E s _ q=>UU (WT s n t) q
 ·unfold kas_ask;have e1:ws[i]?=some (ws.getD i .none):=by rw[aW _ _ _ hi];exact List.getElem?_eq_getElem hi
  have e2:ws[j]?=some (ws.getD j .none):=by rw[aW _ _ _ hj];exact List.getElem?_eq_getElem hj
  obtain⟨t,Pb⟩:=gR rv e1;obtain⟨t',Pc⟩:=gR rv e2;rw[Pb,Pc];exact kat_lt_int q'
 ·rw[<-hl]at IK hs;have Mp:POk (ns.map V.int).length pp:=by rw[SO];exact IK
  have eo:oJ pp (ns.map V.int)=(pp.toList.map fun i=>ns.getD i 0).map V.int:=by
   unfold oJ;rw[Td];refine T6 fun i hi=>?_
   have hi:=TB.mp (IK.perm.mem_iff.mp hi);show(ns.map V.int).getD i .non=V.int (ns.getD i 0);rw[aW _ _ _ (by rw[SO];exact hi),aW _ _ _ hi];simp
  have hn:H (s.heap.objs.size+1)=none:=I.hok.fresh (U5 _);refine⟨.ref (s.heap.objs.size+1),_,fE I kk (U5 _) he (ia rv Mp) ?_,rfl,?_⟩
  ·show(oJ pp (ns.map V.int)).length<=sizeLine;rw[eo,SO,SO,IK.perm.length_eq,Tr,TQ];lia
  ·rw[eo];refine q _ _ hn (hZ 0 IK) ?_;have:=dZ (O:=intO) 0 (fun i:Int=>i) IK hs;refine this.imp fun{a b} LI=>?_
   have LI:decide (b<a)=false:=LI;have:=V0 LI;lia
theorem iO{ls:List (List Nat)}{us:List Value}(r:Vals (ls.map fun l=>V.str (S l)) us){i:Nat}{v:Value}(h:us[i]?=some v):∃t,v=.str (S (ls.getD i [])) t:=by
 have hl:=r.length;rw[SO]at hl;obtain⟨hi,_⟩:=List.getElem?_eq_some_iff.mp h;have e1:(ls.map fun l=>V.str (S l))[i]?=some (.str (S (ls.getD i []))):=by
  rw[List.getElem?_map,List.getElem?_eq_getElem (by lia),aW _ _ _ (by lia)];rfl
 obtain⟨u,hu,t,rfl⟩:=r.get e1;rw[h]at hu;exact⟨t,Tf hu⟩
theorem jm(hc:X.calm=true):c6 X (.builtin "sorted") (fun vs H Q=>∃(p:Addr) (ls:List (List Nat)),vs=[.ref p]/\SqL X.K H p (ls.map fun l=>V.str (S l))/\ls.length<64/\∀(D:Addr) (ms:List (List Nat)),H D=none->ms.Perm ls->ms.Pairwise (fun a b=>¬ b<a)->Q (.ref D) (upd H D (.lst (ms.map fun l=>V.str (S l))))):=by
 intro pr s σ H vs us Q I r h;obtain⟨p,ls,rfl,hp,Kz,q⟩:=h;obtain⟨u,rfl,r1⟩:=fe r;cases r1;obtain⟨ws,rv,pl,hz⟩:=I.list hp;have hl:=rv.length;rw[SO]at hl;refine iN (O:=DK) (key:=fun i=>ls.getD i []) (kd:=oneType') pl.isList (by lia) (fun h2 A' E' h' kk Q' q'=>?_) (fun i j hi hj h' kk C q'=>?_) fun pp h' e IK hs he kk=>?_
 ·refine kas_kind h2 (T:=.type "str") (fun v hv=>?_) (by decide) (by decide) q';obtain⟨i,hi⟩:=Ua.mp hv;obtain⟨t,rfl⟩:=iO rv hi;exact fun A Q E s _ q=>UU (V7 s _ t) q
 ·unfold kas_ask;have e1:ws[i]?=some (ws.getD i .none):=by rw[aW _ _ _ hi];exact List.getElem?_eq_getElem hi
  have e2:ws[j]?=some (ws.getD j .none):=by rw[aW _ _ _ hj];exact List.getElem?_eq_getElem hj
  obtain⟨t,Pb⟩:=iO rv e1;obtain⟨t',Pc⟩:=iO rv e2;rw[Pb,Pc];refine kas_lt_str ?_;rw[cN,cN];exact q'
 ·rw[<-hl]at IK hs;have Mp:POk (ls.map fun l=>V.str (S l)).length pp:=by rw[SO];exact IK
  have eo:oJ pp (ls.map fun l=>V.str (S l))=(pp.toList.map fun i=>ls.getD i []).map fun l=>V.str (S l):=by
   unfold oJ;rw[Td];refine T6 fun i hi=>?_
   have hi:=TB.mp (IK.perm.mem_iff.mp hi);show(ls.map fun l=>V.str (S l)).getD i .non=V.str (S (ls.getD i []));rw[aW _ _ _ (by rw[SO];exact hi),aW _ _ _ hi];simp
  have hn:H (s.heap.objs.size+1)=none:=I.hok.fresh (U5 _);refine⟨.ref (s.heap.objs.size+1),_,fE I kk (U5 _) he (ia rv Mp) ?_,rfl,?_⟩
  ·show(oJ pp (ls.map fun l=>V.str (S l))).length<=sizeLine;rw[eo,SO,SO,IK.perm.length_eq,Tr,TQ];lia
  ·rw[eo];refine q _ _ hn (hZ [] IK) ?_;have:=dZ (O:=DK) [] (fun l:List Nat=>l) IK hs;refine this.imp fun{a b} LI=>?_
   have LI:decide (b<a)=false:=LI;exact V0 LI
end
def kinds(k:List Key):List Bool:=k.map fun x=>x.isLeft
section
variable{prog:Program}{w:World}{A:Around}{s:Shared}
theorem tm(a b:Key):Q5 (kV a) (kV b)=decide (a=b):=by
 cases a <;> cases b <;> (rw[To];simp[kV,Q5])
theorem jz(a:Key):vW (kV a)=true:=by cases a <;> rfl
theorem BO{a b:Key}{u v:Value}{top:Bool}{Q:Bool->Shared->Prop}(ra:L2.RelV (kV a) u)(rb:L2.RelV (kV b) v)(hk:a.isLeft=b.isLeft)(q:Q (oI.blt a b) s):wpAny (model prog w) A (oneLt' top u v) Q (fun _ _=>False) s:=by
 cases a with
 |inl i=>
  cases b with
  |inr _=>cases hk
  |inl j=>
   obtain⟨t,rfl⟩:=ra;obtain⟨t',rfl⟩:=rb;cases top with
   |true=>exact kat_lt_int (E:=fun _ _=>False) q
   |false=>exact kat_one _ _ (lt_int q)
 |inr x=>
  cases b with
  |inl _=>cases hk
  |inr y=>
   obtain⟨t,rfl⟩:=ra;obtain⟨t',rfl⟩:=rb;cases top with
   |true=>exact oneLt_str q
   |false=>exact kat_one _ _ (lt_str q)
theorem jM{Q:Bool->Shared->Prop}:∀(k1 k2:List Key) (us ws:List Value) (i:Nat),Vals (k1.map kV) us->Vals (k2.map kV) ws->kinds k1=kinds k2->Q (di k1 k2) s->KatLex prog w A true false Q (us.zip ws) i s
 |[],[],_,_,_,.nil,.nil,_,q=>q
 |[],_::_,_,_,_,_,_,h,_=>by cases h
 |_::_,[],_,_,_,_,_,h,_=>by cases h
 |a::r,b::t,u::us,v::ws,i,.cons ru rus,.cons rv rvs,h,q=>by
  have h1:a.isLeft=b.isLeft:=(UY h).1;have h2:kinds r=kinds t:=(UY h).2;have q:Q (if a=b then di r t else oI.blt a b) s:=q;refine kat_cons (xQ (A:=A) (s:=s) ru rv (jz a) (jz b) prog w _ _ ?_);rw[tm];by_cases e:a=b
  ·rw[S1 e]at q;rw[Tv e];exact kat_yes (jM r t us ws (i+1) rus rvs h2 q)
  ·rw[S4 e]at q;rw[Tj e];exact kat_no (BO ru rv h1 q)
end
section
variable{X:Cx}{pr:List (Addr×Obj)}{σ:L2.St}{H:Hp}{s:Shared}
theorem m6(I:Inv X pr σ H s){a:Addr}{xs:List V}(h:SqT X.K H a xs):∃(us:List Value) (o:Obj) (n:Nat),Vals xs us/\s.heap.get? a=some o/\o.cls=.type "tuple"/\o.data=.seq us.toArray n:=by
 obtain⟨us,r,pl,_⟩:=I.tuple h;obtain⟨o,ho,oc,n,od⟩:=pl;exact⟨us,o,n,r,ho,oc,od⟩
theorem lJ{al:List (Addr×List Key)}{us:List Value}(r:Vals (al.map fun a=>V.ref a.1) us){i:Nat}(h:i<al.length):us.getD i .none=.ref (al.getD i (0,[])).1:=by
 have e1:(al.map fun a=>V.ref a.1)[i]?=some (.ref (al.getD i (0,[])).1):=by
  rw[List.getElem?_map,List.getElem?_eq_getElem h,aW _ _ _ h];rfl
 obtain⟨u,hu,ru⟩:=r.get e1;rw[List.getD_eq_getElem?_getD,hu];exact ru
theorem pO{al:List (Addr×List Key)}{us:List Value}{h':Heap}(I:Inv X pr σ H s)(kk:∀b o,s.heap.get? b=some o->h'.get? b=some o)(top:Bool):
  (r:Vals (al.map fun a=>V.ref a.1) us)->(∀a∈al,SqT X.K H a.1 (a.2.map kV)/\∃t,kinds a.2=top::t)->∃fs:List Value,KatTups h' us fs/\fs.length=al.length/\∀v∈fs,∀M:Model,Looks M h' (typeOf v) (.type (if top then "int" else "str")):=by
 induction al generalizing us with
 |nil=>
  intro r _;cases r;exact⟨[],trivial,rfl,fun v hv=>by cases hv⟩
 |cons a al ih=>
  intro r h;cases r with
  |cons ra rs=>
   cases ra;obtain⟨fs,t1,t2,t3⟩:=ih rs fun b hb=>h b (SU _ hb)
   obtain⟨ha,kt,hk⟩:=h a SN;obtain⟨ws,o,n,rv,ho,oc,od⟩:=m6 I ha;cases e2:a.2 with
   |nil=>rw[e2]at hk;cases hk
   |cons k ks=>
    rw[e2]at rv hk;have Sb:k.isLeft=top:=(UY hk).1;cases rv with
    | @cons _ f _ fr rf rfs=>
     refine⟨f::fs,KatTups.cons (kk _ _ ho) oc od (by simp) t1,by simp[t2],fun v hv M=>?_⟩;rcases S3.mp hv with rfl|hv
     ·cases k with
      |inl i=>
       obtain⟨t,rfl⟩:=rf;have:top=true:=Sb.symm;subst this;exact fun A Q E s _ q=>UU (WT s _ t) q
      |inr x=>
       obtain⟨t,rfl⟩:=rf;have:top=false:=Sb.symm;subst this;exact fun A Q E s _ q=>UU (V7 s _ t) q
     ·exact t3 v hv M
end
section
variable{X:Cx}
theorem jo(hc:X.calm=true):c6 X (.builtin "sorted") (fun vs H Q=>∃(p:Addr) (al:List (Addr×List Key)) (top:Bool) (t:List Bool),vs=[.ref p]/\SqL X.K H p (al.map fun a=>V.ref a.1)/\(∀a∈al,SqT X.K H a.1 (a.2.map kV)/\kinds a.2=top::t)/\al.length<64/\
  ∀(D:Addr) (ms:List (Addr×List Key)),H D=none->ms.Perm al->ms.Pairwise (fun a b=>di b.2 a.2=false)->Q (.ref D) (upd H D (.lst (ms.map fun a=>V.ref a.1)))):=by
 intro pr s σ H vs us Q I r h;obtain⟨p,al,top,kt,rfl,hp,Kf,Kz,q⟩:=h;obtain⟨u,rfl,r1⟩:=fe r;cases r1;obtain⟨ws,rv,pl,hz⟩:=I.list hp;have hl:=rv.length;rw[SO]at hl;refine iN (O:=DL) (key:=fun i=>(al.getD i (0,[])).2) (kd:=tuples' true) pl.isList (by lia) (fun h2 A' E' h' kk Q' q'=>?_) (fun i j hi hj h' kk C q'=>?_) fun pp h' e IK hs he kk=>?_
 ·obtain⟨fs,t1,t2,t3⟩:=pO I kk top rv fun a ha=>⟨(Kf a ha).1,kt,(Kf a ha).2⟩
  refine kat_kind (T:=.type (if top then "int" else "str")) t1 (by lia) (fun v hv=>t3 v hv _) (by simp) ?_;have:((Value.type (if top then "int" else "str")) != Value.type "tuple")=true:=by cases top <;> decide
  rw[this];exact q'
 ·unfold kas_ask;have Mh:i<al.length:=by lia
  have NJ:j<al.length:=by lia
  rw[lJ rv Mh,lJ rv NJ];have mi:al.getD i (0,[])∈al:=by rw[aW _ _ _ Mh];exact U0 _
  have mj:al.getD j (0,[])∈al:=by rw[aW _ _ _ NJ];exact U0 _
  obtain⟨u1,o1,n1,r1,g1,_,d1⟩:=m6 I (Kf _ mi).1;obtain⟨u2,o2,n2,r2,g2,_,d2⟩:=m6 I (Kf _ mj).1;have ek:kinds (al.getD i (0,[])).2=kinds (al.getD j (0,[])).2:=by rw[(Kf _ mi).2,(Kf _ mj).2]
  have el:u1.length=u2.length:=by
   have a1:=r1.length;have a2:=r2.length;have a3:=TY List.length ek;simp only[kinds,SO]at a1 a2 a3;lia
  refine kat_lt (kk _ _ g1) d1 (kk _ _ g2) d2 ?_;have ef:decide (u1.toArray.size<u2.toArray.size)=false:=by simp[el]
  rw[ef];exact jM _ _ _ _ 0 r1 r2 ek q'
 ·rw[<-hl]at IK hs;have Mp:POk (al.map fun a=>V.ref a.1).length pp:=by rw[SO];exact IK
  have eo:oJ pp (al.map fun a=>V.ref a.1)=(pp.toList.map fun i=>al.getD i (0,[])).map fun a=>V.ref a.1:=by
   unfold oJ;rw[Td];refine T6 fun i hi=>?_
   have hi:=TB.mp (IK.perm.mem_iff.mp hi);show(al.map fun a=>V.ref a.1).getD i .non=V.ref (al.getD i (0,[])).1;rw[aW _ _ _ (by rw[SO];exact hi),aW _ _ _ hi];simp
  have hn:H (s.heap.objs.size+1)=none:=I.hok.fresh (U5 _);refine⟨.ref (s.heap.objs.size+1),_,fE I kk (U5 _) he (ia rv Mp) ?_,rfl,?_⟩
  ·show(oJ pp (al.map fun a=>V.ref a.1)).length<=sizeLine;rw[eo,SO,SO,IK.perm.length_eq,Tr,TQ];lia
  ·rw[eo];refine q _ _ hn (hZ (0,[]) IK) ?_;exact dZ (O:=DL) (0,[]) (fun a:Addr×List Key=>a.2) IK hs
end
end NX
namespace L2
open PySem PySem.Spec PyProof.Rows
section
variable{κ:Type}[DecidableEq κ]
def m7(kvs:List (κ×V))(k:κ):Option V:=(kvs.find? fun kv=>decide (kv.1=k)).map (·.2)
def jq(kvs:List (κ×V))(k:κ)(v:V):List (κ×V):=
 if(kvs.any fun kv=>decide (kv.1=k))=true then kvs.map (fun kv=>if kv.1=k then(kv.1,v) else kv) else kvs++[(k,v)]
theorem lK{p:κ×V}{r:List (κ×V)}{k:κ}(e:p.1=k):m7 (p::r) k=some p.2:=by simp[m7,List.find?_cons,e]
theorem lM{p:κ×V}{r:List (κ×V)}{k:κ}(e:¬ p.1=k):m7 (p::r) k=m7 r k:=by simp[m7,List.find?_cons,e]
theorem pP(k:κ):∀kvs:List (κ×V),(kvs.any fun kv=>decide (kv.1=k))=(m7 kvs k).isSome
 |[]=>rfl
 |p::r=>by
  rw[Xg];by_cases e:p.1=k
  ·simp only[lK e,Tv e,Bool.true_or,Option.isSome_some]
  ·rw[lM e,Tj e,Bool.false_or];exact pP k r
theorem gT(kvs:List (κ×V))(k:κ)(v:V):(jq kvs k v).length<=kvs.length+1:=by
 unfold jq;split
 ·rw[SO];lia
 ·rw[Tq,S5,TL];lia
theorem RelO.isSome_eq{o:Option V}{u:Option Value}(r:RelO o u):o.isSome=u.isSome:=by
 cases o with
 |none=>cases u with
  |none=>rfl
  |some _=>exact(show False from r).elim
 |some _=>cases u with
  |none=>exact(show False from r).elim
  |some _=>rfl
theorem KV.val{kvs:List (κ×V)}{vs:List (κ×Value)}(r:KV kvs vs)(k:κ):RelO (m7 kvs k) (valueAt vs k):=by
 unfold KV at r;induction r with
 |nil=>exact True.intro
 | @cons p q ps qs h t ih=>
  obtain⟨h1,h2⟩:=h;by_cases e:p.1=k
  ·have e':q.1=k:=h1.symm.trans e;have b:valueAt (q::qs) k=some q.2:=by simp[valueAt,List.find?_cons,e']
   rw[lK e,b];exact h2
  ·have e':¬ q.1=k:=fun z=>e (h1.trans z)
   have b:valueAt (q::qs) k=valueAt qs k:=by simp[valueAt,List.find?_cons,e']
   rw[lM e,b];exact ih
theorem KV.any{kvs:List (κ×V)}{vs:List (κ×Value)}(r:KV kvs vs)(k:κ):(kvs.any fun kv=>decide (kv.1=k))=vs.any fun kv=>decide (kv.1=k):=by
 unfold KV at r;induction r with
 |nil=>rfl
 |cons h t ih=>rw[Xg,Xg,ih,h.1]
theorem KV.repl{kvs:List (κ×V)}{vs:List (κ×Value)}(r:KV kvs vs)(k:κ){y:V}{u:Value}(ry:RelV y u):
  KV (kvs.map fun kv=>if kv.1=k then(kv.1,y) else kv) (vs.map fun kv=>if kv.1=k then(kv.1,u) else kv):=by
 unfold KV at r ⊢;induction r with
 |nil=>exact .nil
 | @cons p q ps qs h t ih=>
  rw[S7,S7];refine .cons ?_ ih;obtain⟨h1,h2⟩:=h;by_cases e:p.1=k
  ·rw[S1 e,S1 (h1.symm.trans e)];exact⟨h1,ry⟩
  ·rw[S4 e,S4 (fun z=>e (h1.trans z))];exact⟨h1,h2⟩
theorem KV.put{kvs:List (κ×V)}{vs:List (κ×Value)}(r:KV kvs vs)(k:κ){y:V}{u:Value}(ry:RelV y u):KV (jq kvs k y) (stored vs k u):=by
 unfold jq stored;rw[r.any k];by_cases e:(vs.any fun kv=>decide (kv.1=k))=true
 ·rw[S1 e,S1 e];exact r.repl k ry
 ·rw[S4 e,S4 e];exact Paired.snoc r ⟨rfl,ry⟩
theorem KV.length{kvs:List (κ×V)}{vs:List (κ×Value)}(r:KV kvs vs):kvs.length=vs.length:=VJ r
end
theorem kV_is{P:Program}{w:World}{k:Key}{u:Value}(r:RelV (kV k) u):(mixKind P w).is k u=true:=by
 cases k with
 |inl i=>obtain⟨t,e⟩:=(show ∃t,u=Value.int i t from r);subst e;exact oO P w i t
 |inr x=>obtain⟨t,e⟩:=(show ∃t,u=Value.str x t from r);subst e;exact oP P w x t
theorem m9{P:Program}{w:World}:∀{ks:List Key}{us:List Value},Vals (ks.map kV) us->ItemsAre (mixKind P w) ks us
 |[],_,r=>by rw[TC]at r;cases r;exact .nil
 |k::ks,_,r=>by
  rw[S7]at r;cases r with
  |cons h t=>exact .cons (kV_is h) (m9 t)
abbrev KT(H:Hp):List (List Key×V)->List (List Key×Addr×Value)->Prop:=Paired fun p q=>p.1=q.1/\H q.2.1=some (.tup (p.1.map kV))/\RelV p.2 q.2.2
theorem KT.val{H:Hp}{kvs:List (List Key×V)}{xs:List (List Key×Addr×Value)}(r:KT H kvs xs)(k:List Key):RelO (m7 kvs k) ((atKey xs k).map (·.2)):=by
 induction r with
 |nil=>exact True.intro
 | @cons p q ps qs h t ih=>
  obtain⟨h1,_,h2⟩:=h;by_cases e:p.1=k
  ·have e':q.1=k:=h1.symm.trans e;have b:atKey (q::qs) k=some q.2:=by simp[atKey,List.find?_cons,e']
   rw[lK e,b];exact h2
  ·have e':¬ q.1=k:=fun z=>e (h1.trans z)
   have b:atKey (q::qs) k=atKey qs k:=by simp[atKey,List.find?_cons,e']
   rw[lM e,b];exact ih
theorem KT.repl{H:Hp}{kvs:List (List Key×V)}{xs:List (List Key×Addr×Value)}(r:KT H kvs xs)(k:List Key){y:V}{u:Value}(ry:RelV y u):
  KT H (kvs.map fun kv=>if kv.1=k then(kv.1,y) else kv) (xs.map (putAt k u)):=by
 induction r with
 |nil=>exact .nil
 | @cons p q ps qs h t ih=>
  rw[S7,S7];refine .cons ?_ ih;obtain⟨h1,h2,h3⟩:=h;unfold putAt;by_cases e:p.1=k
  ·rw[S1 e,S1 (h1.symm.trans e)];exact⟨h1,h2,ry⟩
  ·rw[S4 e,S4 (fun z=>e (h1.trans z))];exact⟨h1,h2,h3⟩
theorem KT.put{H:Hp}{kvs:List (List Key×V)}{xs:List (List Key×Addr×Value)}(r:KT H kvs xs)(k:List Key){b:Addr}{y:V}{u:Value}(hb:H b=some (.tup (k.map kV)))(ry:RelV y u):
  KT H (jq kvs k y) (storedH xs k b u):=by
 have e:(kvs.any fun kv=>decide (kv.1=k))=(atKey xs k).isSome:=by
  rw[pP,(r.val k).isSome_eq,Wc]
 unfold jq storedH;rw[e];by_cases q:(atKey xs k).isSome=true
 ·rw[S1 q,S1 q];exact r.repl k ry
 ·rw[S4 q,S4 q];exact Paired.snoc r ⟨rfl,hb,ry⟩
theorem KT.keeps{H H':Hp}{kvs:List (List Key×V)}{xs:List (List Key×Addr×Value)}(r:KT H kvs xs)(ht:∀b ys,H b=some (.tup ys)->H' b=some (.tup ys)):KT H' kvs xs:=
 Paired.mapP r fun _ _ z=>⟨z.1,ht _ _ z.2.1,z.2.2⟩
section
variable{P:Program}{w:World}{H:Hp}{h:Heap}{a:Addr}
theorem BP{u:HO}(ok:HOk P w H h)(e:Rd H a u):ObjOk P w H h a u:=e.ok ok
theorem rg{kvs:List (Key×V)}(ok:HOk P w H h)(e:Rd H a (.dK kvs)):kvs.length<=sizeLine/\(a==sysModules)=false/\∃vs,KV kvs vs/\h.DictOf (mixKind P w) a vs:=
 show ObjOk P w H h a (.dK kvs) from BP ok e
theorem BQ{kvs:List (Key×V)}(ok:HOk P w H h)(e:H a=some (.dK kvs)):kvs.length<=sizeLine/\(a==sysModules)=false/\∃vs,KV kvs vs/\h.DictOf (mixKind P w) a vs:=rg ok (.inl e)
theorem ng{ks:List Key}(ok:HOk P w H h)(e:H a=some (.tup (ks.map kV))):(tupleKind (mixKind P w)).is h ks a:=by
 obtain⟨_,GQ,r,o,h1,h2,⟨n,h3⟩,_⟩:=(show ObjOk P w H h a (.tup (ks.map kV)) from ok a _ e)
 exact⟨o,GQ.toArray,n,h1,h2,h3,by simpa using m9 r⟩
theorem tq{kvs:List (List Key×V)}(ok:HOk P w H h)(e:Rd H a (.dT kvs)):kvs.length<=sizeLine/\(a==sysModules)=false/\
  ∃xs,KT H kvs xs/\h.DictOfH (tupleKind (mixKind P w)) a xs:=by
 obtain⟨z,y,xs,r,o,es,ep,h1,h2,h3,h4,h5⟩:=(show ObjOk P w H h a (.dT kvs) from BP ok e)
 refine⟨z,y,xs,r,o,es,ep,h1,h2,h3,h4,fun x hx=>?_,h5⟩;have all:∀{l:List (List Key×V)}{m:List (List Key×Addr×Value)},KT H l m->∀x∈m,(tupleKind (mixKind P w)).is h x.1 x.2.1:=by
  intro l m q;induction q with
  |nil=>intro x hx;exact nomatch hx
  | @cons p q ps qs hq t ih=>
   intro x hx;rcases S3.mp hx with e|hx
   ·subst e;exact ng ok (by rw[<-hq.1];exact hq.2.1)
   ·exact ih x hx
 exact all r x hx
theorem Ek{kvs:List (List Key×V)}(ok:HOk P w H h)(e:H a=some (.dT kvs)):kvs.length<=sizeLine/\(a==sysModules)=false/\
  ∃xs,KT H kvs xs/\h.DictOfH (tupleKind (mixKind P w)) a xs:=tq ok (.inl e)
end
def DGet(H:Hp)(a:Addr)(y:V)(r:Option V):Prop:=
 (∃kvs k,Rd H a (.dK kvs)/\y=kV k/\r=m7 kvs k)\/∃kvs k b,Rd H a (.dT kvs)/\y=.ref b/\H b=some (.tup (k.map kV))/\r=m7 kvs k
def DPut(H:Hp)(a:Addr)(y v:V)(H':Hp):Prop:=
 (∃kvs k,H a=some (.dK kvs)/\y=kV k/\kvs.length<sizeLine/\H'=upd H a (.dK (jq kvs k v)))\/
 ∃kvs k b,H a=some (.dT kvs)/\y=.ref b/\H b=some (.tup (k.map kV))/\kvs.length<sizeLine/\H'=upd H a (.dT (jq kvs k v))
theorem DGet.k{H:Hp}{a:Addr}{kvs:List (Key×V)}{k:Key}(e:H a=some (.dK kvs)):DGet H a (kV k) (m7 kvs k):=.inl ⟨kvs,k,.inl e,rfl,rfl⟩
theorem DGet.t{H:Hp}{a b:Addr}{kvs:List (List Key×V)}{k:List Key}(e:H a=some (.dT kvs))(eb:H b=some (.tup (k.map kV))):DGet H a (.ref b) (m7 kvs k):=.inr ⟨kvs,k,b,.inl e,rfl,eb,rfl⟩
theorem DPut.k{H:Hp}{a:Addr}{kvs:List (Key×V)}{k:Key}{v:V}(e:H a=some (.dK kvs))(hl:kvs.length<sizeLine):DPut H a (kV k) v (upd H a (.dK (jq kvs k v))):=.inl ⟨kvs,k,e,rfl,hl,rfl⟩
theorem DPut.t{H:Hp}{a b:Addr}{kvs:List (List Key×V)}{k:List Key}{v:V}(e:H a=some (.dT kvs))(eb:H b=some (.tup (k.map kV)))(hl:kvs.length<sizeLine):
  DPut H a (.ref b) v (upd H a (.dT (jq kvs k v))):=.inr ⟨kvs,k,b,e,rfl,eb,hl,rfl⟩
section
variable{X:Cx}{pr:List (Addr×Obj)}{σ:St}{H:Hp}{s:Shared}{a:Addr}{y v:V}{u r:Value}{o:Option V}{A:Around}{E:Value->Shared->Prop}
theorem Inv.big(I:Inv X pr σ H s):sysModules<s.heap.objs.size:=by
 have h:mainGlobals<s.heap.objs.size:=(I.mod.glob.keeps I.bk).lt;exact Nat.lt_trans (by decide) h
theorem tu{Q:Value->Shared->Prop}(hu:A.units+1<cLine)(I:Inv X pr σ H s)(g:DGet H a y (some v))(ry:RelV y u)(h:∀w' s',Inv X pr σ H s'->RelV v w'->Q w' s'):
  wpAny (model X.prog X.w) A (getItem (.ref a) u) Q E s:=by
 rcases g with⟨kvs,k,e,ey,l⟩|⟨kvs,k,b,e,ey,eb,l⟩
 ·subst ey;obtain⟨z,hd,vs,rel,dd⟩:=rg I.hok e;obtain⟨w',hw,Lh⟩:=RelO.some_of (v:=v) (o:=valueAt vs k) (by rw[l];exact rel.val k);exact wpAny_getItem_of (kV_is ry) dd.mapOf hw (h w' _ (I.tok _) Lh)
 ·subst ey;cases(show u=Value.ref b from ry);obtain⟨z,hd,xs,rel,dd⟩:=tq I.hok e;obtain⟨w',hw,Lh⟩:=RelO.some_of (v:=v) (o:=(atKey xs k).map (·.2)) (by rw[l];exact rel.val k);obtain⟨p,hp,Pd⟩:=Tg.mp hw;refine wpAny_getItem_heap (Vq hu) (ng I.hok eb) dd hp ?_;rw[Pd];exact h w' _ (I.tok _) Lh
theorem Ge{Q:Value->Shared->Prop}(hu:A.units+1<cLine)(I:Inv X pr σ H s)(g:DGet H a y o)(ry:RelV y u)(h:∀s',Inv X pr σ H s'->Q (.bool o.isSome) s'):
  wpAny (model X.prog X.w) A (compareOp .In u (.ref a)) Q E s:=by
 rcases g with⟨kvs,k,e,ey,l⟩|⟨kvs,k,b,e,ey,eb,l⟩
 ·subst ey;obtain⟨z,hd,vs,rel,dd⟩:=rg I.hok e;refine wpAny_in_of (kV_is ry) hd dd.mapOf ?_;rw[<-(rel.val k).isSome_eq,<-l];exact h _ (I.tok _)
 ·subst ey;cases(show u=Value.ref b from ry);obtain⟨z,hd,xs,rel,dd⟩:=tq I.hok e;refine wpAny_in_heap (Vq hu) (ng I.hok eb) hd dd ?_;have q:=(rel.val k).isSome_eq;rw[Wc]at q;rw[<-q,<-l];exact h _ (I.tok _)
theorem zc{Q:Value->Shared->Prop}(hu:A.units+1<cLine)(I:Inv X pr σ H s)(g:DGet H a y o)(ry:RelV y u)(h:∀s',Inv X pr σ H s'->Q (.bool (!o.isSome)) s'):
  wpAny (model X.prog X.w) A (compareOp .NotIn u (.ref a)) Q E s:=by
 rcases g with⟨kvs,k,e,ey,l⟩|⟨kvs,k,b,e,ey,eb,l⟩
 ·subst ey;obtain⟨z,hd,vs,rel,dd⟩:=rg I.hok e;refine wpAny_notIn_of (kV_is ry) hd dd.mapOf ?_;rw[<-(rel.val k).isSome_eq,<-l];exact h _ (I.tok _)
 ·subst ey;cases(show u=Value.ref b from ry);obtain⟨z,hd,xs,rel,dd⟩:=tq I.hok e;refine wpAny_notIn_heap (Vq hu) (ng I.hok eb) hd dd ?_;have q:=(rel.val k).isSome_eq;rw[Wc]at q;rw[<-q,<-l];exact h _ (I.tok _)
theorem oU{h':Heap}{t':Nat}{ob:HO}(I:Inv X pr σ H s)(mu:OV (H a))(hs:Heap.SameBut a s.heap h')(he:∃q,h'.get? a=some q)(new:ObjOk X.prog X.w (upd H a ob) h' a ob):
  Inv X pr σ (upd H a ob) {s with heap:=h',toks:=t'}:=
 I.write (x:=a) (e:=a) mu (.inl rfl) (fun b q hb z=>(hs.2 b hb).trans z) he new
theorem xY{P:Program}{w:World}{H':Hp}{h':Heap}{kvs:List (Key×V)}{vs:List (Key×Value)}(z:kvs.length<=sizeLine)(hd:(a==sysModules)=false)(rel:KV kvs vs)(dd:h'.DictOf (mixKind P w) a vs):
  ObjOk P w H' h' a (.dK kvs):=⟨z,hd,vs,rel,dd⟩
theorem tw{H':Hp}{Q:Unit->Shared->Prop}(hu:A.units+1<cLine)(I:Inv X pr σ H s)(g:DPut H a y v H')(ry:RelV y u)(rv:RelV v r)(h:∀s',Inv X pr σ H' s'->Q () s'):
  wpAny (model X.prog X.w) A (setItem (.ref a) u r) Q E s:=by
 rcases g with⟨kvs,k,e,ey,l,eH⟩|⟨kvs,k,b,e,ey,eb,l,eH⟩
 ·subst ey eH;obtain⟨z,hd,vs,rel,dd⟩:=BQ I.hok e;have hz:vs.length<=sizeLine:=by rw[<-rel.length];exact z
  have hl:(jq kvs k v).length<=sizeLine:=by have:=gT kvs k v;lia
  refine wpAny_setItem_pairs (hsz:=hz) (kV_is ry) dd fun h' Mq hs=>h _ ?_
  have he:∃q,h'.get? a=some q:=let⟨q,_,_,hq,_⟩:=Mq;⟨q,hq⟩
  exact oU I (by rw[e];exact True.intro) hs he (xY hl hd (rel.put k rv) Mq)
 ·subst ey eH;cases(show u=Value.ref b from ry);obtain⟨z,hd,xs,rel,dd⟩:=Ek I.hok e;have hz:xs.length<=sizeLine:=by rw[<-VJ rel];exact z
  have hl:(jq kvs k v).length<=sizeLine:=by have:=gT kvs k v;lia
  refine wpAny_setItem_heap (hsz:=hz) (Vq hu) (ng I.hok eb) dd fun h' Mq hs=>h _ ?_
  obtain⟨q,es,ep,hq,h2,h3,h4,_,h5⟩:=Mq;refine oU I (by rw[e];exact True.intro) hs ⟨q,hq⟩ ⟨hl,hd,_,(rel.put k eb rv).keeps fun c ys ec=>?_,q,es,ep,hq,h2,h3,h4,h5⟩;rw[az (DQ ec e (fun z=>nomatch z))];exact ec
end
section
variable{X:Cx}{pr:List (Addr×Obj)}{σ:St}{H:Hp}{s:Shared}{a:Addr}{kvs:List (Key×V)}{k:Key}{u:Value}{A:Around}{E:Value->Shared->Prop}
end
def NoSl(i:Expr):Prop:=∀ov iv,subscripted i false ov iv=operate [ov,iv] (getItem ov iv)
theorem ze{prog:Program}{w:World}{A:Around}{E:Value->Shared->Prop}{s:Shared}{env:Env}{value slice:Expr}{pos:Pos}{T id:String}{Q:Value->Shared->Prop}
  (hl:typeLookup (.type T) "__getitem__" = pure (some (.builtin id))) (hs:NoSl slice)
  (h:wpAny (model prog w) A (eval value env) (fun o s₁=>wpAny (model prog w) A (eval slice env) (fun i s₂=>s₂.TypeIs o T/\wpAny (model prog w) A (getItem o i) Q E s₂) E s₁) E s):
  wpAny (model prog w) A (eval (.Subscript value slice pos) env) Q E s:=by
 refine Subscript_ (TZ h (fun o s₁ h₁=>TZ h₁ (fun i s₂ h₂=>?_) fun _ _ x=>x) fun _ _ x=>x);obtain⟨hT,h₂⟩:=h₂;unfold subscriptTail;refine SM ?_;rw[getitemInPython_of_ne hT.not_modules];refine SM (wpAny_specialOf hT hl ?_);have fin:wpAny (model prog w) A (subscripted slice false o i) (fun r s₃=>wpAny (model prog w) A (letTemporaryGo value o r >>= fun _=>pure r) Q E s₃) E s₂:=by
  rw[hs o i];exact wpAny_operating (TZ h₂ (fun r s₃ h₃=>SM (wpAny_letTemporaryGo (SQ h₃))) fun _ _ x=>x)
 first
  |exact SQ (SM fin)
  |exact SM (SQ (SM fin))
  |exact SM fin
theorem oV{X:Cx}{pr:List (Addr×Obj)}{σ:St}{H:Hp}{s:Shared}{a:Addr}{y:V}{o:Option V}(I:Inv X pr σ H s)(g:DGet H a y o):s.TypeIs (.ref a) "dict":=by
 rcases g with⟨kvs,k,e,_,_⟩|⟨kvs,k,b,e,_,_,_⟩
 ·obtain⟨_,_,vs,_,dd⟩:=rg I.hok e;exact dd.typeIs
 ·obtain⟨_,_,xs,_,dd⟩:=tq I.hok e;exact dd.typeIs
def El(td ty:TE):TE:=fun σ H Q=>td σ H fun x H1=>ty σ H1 fun y H2=>∃a v,x=.ref a/\DGet H2 a y (some v)/\Q v H2
def Em(td ty tv:TE):TS:=fun D σ H=>tv σ H fun v H1=>td σ H1 fun x H2=>ty σ H2 fun y H3=>∃a H4,x=.ref a/\DPut H3 a y v H4/\D.nx σ H4
section
variable{X:Cx}{o i e value:Expr}{pos pos' Kc:Pos}{td ty tv:TE}
theorem zf(hu:X.A.units+1<cLine)(ho:PE X o td)(hi:PE X i ty)(hs:NoSl i):PE X (.Subscript o i pos) (El td ty):=by
 intro pr s σ H Q I h;refine ze PySem.F.slot_dict_getitem.lookup hs (He (ho pr s σ H _ I h) fun u s1 ⟨x,H1,I1,rx,q1⟩=>He (hi pr s1 σ H1 _ I1 q1) fun iv s2 Hh=>?_);obtain⟨y,H2,I2,ry,a,v,ex,g,q2⟩:=Hh;subst ex;obtain rfl:u=Value.ref a:=rx;exact⟨oV I2 g,tu hu I2 g ry fun w' s3 I3 Lh=>⟨v,H2,I3,Lh,q2⟩⟩
theorem zg(hu:X.A.units+1<cLine)(ho:PE X o td)(hi:PE X i ty)(hv:PE X value tv)(hs:swapsWith value (some (.Subscript o i pos')) pos.line X.env=pure false):
  PS X (.Assign [.Subscript o i pos'] value pos) (Em td ty tv):=by
 intro pr s σ H D I h;refine wpAny_Assign_Subscript (He (hv pr s σ H _ I h) fun r s1 ⟨v,H1,I1,rv,q1⟩=>He (ho pr s1 σ H1 _ I1 q1) fun u s2 ⟨x,H2,I2,rx,q2⟩=>He (hi pr s2 σ H2 _ I2 q2) fun iv s3 ⟨y,H3,I3,ry,a,H4,ex,g,q3⟩=>?_) hs;subst ex;obtain rfl:u=Value.ref a:=rx;exact tw hu I3 g ry rv fun s4 I4=>⟨σ,H4,I4,q3⟩
end
theorem dk_empty{P:Program}{w:World}{H:Hp}(h:Heap)(hb:sysModules<h.objs.size):ObjOk P w H (h.push {cls:=.type "dict",data:=.dict #[]}) h.objs.size (.dK []):=
 ⟨Tw _,T4.mpr (Ui (S8 hb)),[],.nil,Heap.DictOf.new h⟩
section
variable{X:Cx}{pos:Pos}
end
def tPairs:List (TE×TE)->St->Hp->(List (V×V)->Hp->Prop)->Prop
 |[],_,H,Q=>Q [] H
 |(tk,tv)::r,σ,H,Q=>tk σ H fun x H1=>tv σ H1 fun y H2=>tPairs r σ H2 fun ps H3=>Q ((x,y)::ps) H3
abbrev VV:List (V×V)->List (Value×Value)->Prop:=Paired fun p q=>RelV p.1 q.1/\RelV p.2 q.2
def Qs(X:Cx)(pos:Pos)(keys:List (Option Expr))(values:List Expr)(Mr:List (TE×TE)):Prop:=
 ∀(pr:List (Addr×Obj)) (s:Shared) (σ:St) (H:Hp) (Q:List (V×V)->Hp->Prop),Inv X pr σ H s->tPairs Mr σ H Q->
  wpAny (model X.prog X.w) X.A (evalPairs (pairTrees keys values X.env pos)) (fun vs s'=>∃ps H',Inv X pr σ H' s'/\VV ps vs/\Q ps H') X.xe s
theorem zh{X:Cx}{pos:Pos}:Qs X pos [] [] []:=fun pr s σ H Q I h=>pairTrees_nil_walk ⟨[],H,I,.nil,h⟩
theorem wo{X:Cx}{pos:Pos}{k v:Expr}{ks:List (Option Expr)}{vs:List Expr}{tk tv:TE}{Mr:List (TE×TE)}(hk:PE X k tk)(hv:PE X v tv)(hr:Qs X pos ks vs Mr):
  Qs X pos (some k::ks) (v::vs) ((tk,tv)::Mr):=fun pr s σ H Q I h=>
 pairTrees_cons_walk (He (hk pr s σ H _ I h) fun u s1 ⟨x,H1,I1,rx,q1⟩=>He (hv pr s1 σ H1 _ I1 q1) fun w2 s2 ⟨y,H2,I2,ry,q2⟩=>
  He (hr pr s2 σ H2 _ I2 q2) fun ws s3 ⟨ps,H3,I3,rel,q3⟩=>⟨(x,y)::ps,H3,I3,.cons ⟨rx,ry⟩ rel,q3⟩)
def nh(kvs more:List (Key×V)):List (Key×V):=more.foldl (fun acc kv=>jq acc kv.1 kv.2) kvs
theorem KV.merge:∀{more:List (Key×V)}{rs:List (Key×Value)}{kvs:List (Key×V)}{vs:List (Key×Value)},KV more rs->KV kvs vs->KV (nh kvs more) (merged vs rs):=by
 intro more rs kvs vs r;unfold KV at r;induction r generalizing kvs vs with
 |nil=>intro q;exact q
 | @cons p q ps qs h t ih=>
  intro r0;have e:KV (jq kvs p.1 p.2) (stored vs q.1 q.2):=by
   have:=r0.put p.1 h.2;rw[<-h.1];exact this
  exact ih e
theorem ib:∀(more kvs:List (Key×V)),(nh kvs more).length<=kvs.length+more.length
 |[],kvs=>by show kvs.length<=kvs.length+0;lia
 |p::r,kvs=>by
  have h1:=ib r (jq kvs p.1 p.2);have h2:=gT kvs p.1 p.2;show(nh (jq kvs p.1 p.2) r).length<=_;rw[S5];lia
theorem kR{P:Program}{w:World}:∀{kvs:List (Key×V)}{ws:List (Value×Value)},VV (kvs.map fun kv=>(kV kv.1,kv.2)) ws->∃rs,Carries (mixKind P w) ws rs/\KV kvs rs
 |[],_,r=>by rw[TC]at r;cases r;exact⟨[],True.intro,.nil⟩
 |p::kvs,_,r=>by
  rw[S7]at r;cases r with
  | @cons a b as bs h t=>
   obtain⟨rs,c,q⟩:=kR (P:=P) (w:=w) t;obtain⟨b1,b2⟩:=b;exact⟨(p.1,b2)::rs,⟨kV_is h.1,rfl,c⟩,.cons ⟨rfl,h.2⟩ q⟩
def En(Mr:List (TE×TE)):TE:=fun σ H Q=>∀p,H p=none->tPairs Mr σ (upd H p (.dK [])) fun ps H2=>H2 p=some (.dK [])/\∃kvs:List (Key×V),ps=kvs.map (fun kv=>(kV kv.1,kv.2))/\kvs.length<=15/\Q (.ref p) (upd H2 p (.dK (nh [] kvs)))
theorem zi{X:Cx}{pos:Pos}{keys:List (Option Expr)}{values:List Expr}{Mr:List (TE×TE)}(h:Qs X pos keys values Mr)(LC:keys.all (·.isSome)=true)(hl:keys.length=values.length)(h0:keys≠[])
  (h15:keys.length<=15):PE X (.Dict keys values pos) (En Mr):=by
 intro pr s σ H Q I q;have hn:=I.hok.fresh (SV s.heap.objs.size);have I1:=I.laid (a:=s.heap.objs.size) (o:=.dK []) (h':=s.heap.push {cls:=.type "dict",data:=.dict #[]}) (t':=s.toks) (fun _ _ q=>Heap.get?_push_of_some _ q) (SV _) (dk_empty s.heap I.big);refine wpAny_Dict_walk (knd:=mixKind X.prog X.w) LC hl h0 h15 (He (h pr _ σ _ _ I1 (q _ hn)) fun ws s2 Hh=>?_);obtain⟨ps,H2,I2,rel,e,kvs,ep,lk,q2⟩:=Hh;subst ep;obtain⟨rs,c,rk⟩:=kR (P:=X.prog) (w:=X.w) rel;obtain⟨z,hd,vs0,r0,dd⟩:=BQ I2.hok e;cases r0;refine⟨rs,c,dd,fun h' Mq hs=>⟨.ref s.heap.objs.size,_,?_,rfl,q2⟩⟩;have hz:(nh [] kvs).length<=sizeLine:=by
  have h1:=ib kvs [];rw[TL]at h1;rw[TQ];lia
 have he:∃q,h'.get? s.heap.objs.size=some q:=let⟨q,_,_,hq,_⟩:=Mq;⟨q,hq⟩
 exact oU I2 (by rw[e];exact True.intro) hs he (xY hz hd (rk.merge .nil) Mq)
section
variable{X:Cx}{pr:List (Addr×Obj)}{σ:St}{H:Hp}{s:Shared}{a:Addr}{y d:V}{u r:Value}{o:Option V}{A:Around}{E:Value->Shared->Prop}
end
section
variable{X:Cx}{o e f:Expr}{apos Hd:Pos}{td ty tx:TE}
end
section
variable{X:Cx}{pr:List (Addr×Obj)}{σ:St}{H:Hp}{s:Shared}{a:Addr}{kvs:List (Key×V)}{A:Around}{E:Value->Shared->Prop}
end
section
variable{X:Cx}{pr:List (Addr×Obj)}{σ:St}{H:Hp}{s:Shared}{a:Addr}{y:V}{u:Value}{A:Around}{E:Value->Shared->Prop}
end
section
variable{κ:Type}[DecidableEq κ]
end
end L2
namespace NX
open PySem PySem.Spec PyProof.Rows L2
def RawD(h:Heap)(d:Addr)(es:Array DictEntry)(ep:Nat):Prop:=∃o,h.get? d=some o/\o.ExactDict/\o.data=.dict es ep
theorem RawD.at{h h':Heap}{d:Addr}{es:Array DictEntry}{ep:Nat}(x:RawD h d es ep)(e:∀o,h.get? d=some o->h'.get? d=some o):RawD h' d es ep:=by
 obtain⟨o,g,r⟩:=x;exact⟨o,e o g,r⟩
section
variable{prog:Program}{w:World}{A:Around}{E:Value->Shared->Prop}{s:Shared}{d it:Addr}{es:Array DictEntry}{ep i:Nat}
theorem jA(x:RawD s.heap d es ep):s.TypeIs (.ref d) "dict":=by
 obtain⟨o,g,ex,_⟩:=x;exact⟨o,g,ex.1⟩
theorem wq{Q:Value->Shared->Prop}(nm:(d==sysModules)=false)(x:RawD s.heap d es ep)
  (q:Q (.ref s.heap.objs.size) {s with heap:=s.heap.push {cls:=.type "dict_keyiterator",data:=.fields #[.ref d,.int 0 0,.int es.size 0,.int ep 0]}}):wpAny (model prog w) A (pyIter (.ref d)) Q E s:=by
 have ty:=jA x;obtain⟨o,g,ex,dat⟩:=x;refine wpAny_pyIter_slot ty F.slot_dict_iter (TU F.slot_dict_iter ty F.entry_dict_iter (SM ?_) (F.args_dict_iter_1 _));refine SM (wpAny_notOrdered_dict ty (SQ ?_));show wpAny _ _ (Builtin.Dict.showsAll d >>= fun _=>_) _ _ s;have ns:Builtin.Dict.showsAll d=pure ():=by
  unfold Builtin.Dict.showsAll;rw[nm];rfl
 rw[ns];refine SM (SQ (SM (Vx g dat (SM (WM g dat (SM (TM (SQ ⟨_,rfl,"dict_keyiterator",_,⟨_,Heap.get?_push_size _ rfl,rfl⟩,F.slot_dict_keyiterator_next.lookup,?_⟩))))))));exact q
theorem wt{Q:Option Value->Shared->Prop}{e:DictEntry}(hit:s.heap.IsKeyIter it d i es.size ep)(x:RawD s.heap d es ep)(hx:es[i]?=some e)
  (q:∀h',h'.IsKeyIter it d (i+1) es.size ep->Heap.SameBut it s.heap h'->Q (some e.key) {s with heap:=h'}):wpAny (model prog w) A (pyNext (.ref it)) Q E s:=by
 have ti:=hit.typeIs;obtain⟨o,g,oc,od⟩:=hit;obtain⟨ob,gd,_,dat⟩:=x;have HC:i<es.size:=(Array.getElem?_eq_some_iff.mp hx).1;unfold pyNext;refine SM (VN (wpAny_callSpecial?_slot (name:=Str.ofString "__next__") ti Ut (TU Ut ti VD
  (SM (SQ (SM (SM ?_)))) (VA _))))
 refine SM (Ur ti (SQ (SM (wpAny_fieldsOf g od ?_))));have Lc:Builtin.Dict_items.ownsTuple "dict_keyiterator" = false:=by decide
 simp only[Lc,Um,VL];show wpAny _ _ (if(Value.ref d==Value.none)=true then _ else _) _ _ s;have nz:¬ ((Value.ref d==Value.none)=true):=SX;rw[S4 nz];refine SM (SQ (SM (Vx gd dat ?_)));rw[S4 (by simp)];refine SM (SQ (SM (WM gd dat ?_)));rw[S4 (by simp)];refine SQ ?_;simp only[S4 (show ¬ ((i:Int)<0) by lia),T8,hx];refine SM (SM (Ur ti (SQ (SM (wpAny_isOneOf_keyiter ti ?_)))));show wpAny _ _ (setField (.ref it) 1 (rawInt ((i:Int)+1)) >>= fun _=>_) _ _ s;refine SM (V3 g od (by simp) ?_);have nx:(s.heap.update it (Obj.mapFields fun y=>y.setIfInBounds 1 (rawInt ((i:Int)+1)))).IsKeyIter it d (i+1) es.size ep:=
  ⟨_,Heap.get?_update_self _ g (Obj.isFreed_of_fields (Vp od _)),(Obj.cls_mapFields ..).trans oc,(Vp od _).trans (by simp[rawInt])⟩
 refine SM (UK (SM (wpAny_isOneOf_keyiter (s:={s with heap:=s.heap.update it (Obj.mapFields fun y=>y.setIfInBounds 1 (rawInt ((i:Int)+1)))}) nx.typeIs ?_)));show wpAny _ _ (pure e.key) _ _ _;exact SQ (SQ ⟨_,rfl,SQ (q _ nx (Vh ..))⟩)
theorem zj{Q:Option Value->Shared->Prop}(hh:A.handled=none)(hit:s.heap.IsKeyIter it d i es.size ep)(x:RawD s.heap d es ep)(hx:es[i]?=none)
  (q:∀h',Heap.ExtBut it s.heap h'->Q none {s with heap:=h'}):wpAny (model prog w) A (pyNext (.ref it)) Q E s:=by
 have ti:=hit.typeIs;obtain⟨o,g,oc,od⟩:=hit;obtain⟨ob,gd,_,dat⟩:=x;unfold pyNext;refine SM (VN (wpAny_callSpecial?_slot (name:=Str.ofString "__next__") ti Ut (TU Ut ti VD
  (SM (SQ (SM (SM ?_)))) (VA _))))
 refine SM (Ur ti (SQ (SM (wpAny_fieldsOf g od ?_))));have Lc:Builtin.Dict_items.ownsTuple "dict_keyiterator" = false:=by decide
 simp only[Lc,Um,VL];show wpAny _ _ (if(Value.ref d==Value.none)=true then _ else _) _ _ s;have nz:¬ ((Value.ref d==Value.none)=true):=SX;rw[S4 nz];refine SM (SQ (SM (Vx gd dat ?_)));rw[S4 (by simp)];refine SM (SQ (SM (WM gd dat ?_)));rw[S4 (by simp)];refine SQ ?_;simp only[S4 (show ¬ ((i:Int)<0) by lia),T8,hx];refine SM (SM (Ur ti (SQ ?_)));show wpAny _ _ (setField (.ref it) 0 .none >>= fun _=>_) _ _ s;refine SM (V3 g od (by simp) ?_);show wpAny _ _ (newExc (.type "StopIteration") [] >>= fun _=>_) _ _ _;refine SM ?_;simp only[newExc,newTuple];refine SM (TM (SM (m:=firstArgMember _ _) (wpAny_of_eq (a:=Value.none) (by first|rfl|(simp only[firstArgMember];rfl)) (TM ?_ (by size_fits)))) (by size_fits));simp only[raiseNew];refine SM (wpAny_handled ?_);rw[show A.in1.handled=none from hh];refine SM (SQ (wpAny_throw ?_));refine SM (wpAny_isInstance (b:=true) (T:="StopIteration") ⟨_,Heap.get?_push_size _ rfl,rfl⟩ isSubtype_stop ?_);exact SQ (q _ (((Vh ..).extBut.push _).push _))
theorem tF(hh:A.handled=none)(I:Addr)(ne:d≠I):Walks prog w A I [I,d] [I] es.size (fun i v=>∃e,es[i]?=some e/\v=e.key) (fun i h=>h.IsKeyIter I d i es.size ep/\RawD h d es ep) where
 sub:=fun b hb=>by
  rw[Te]at hb;rw[hb];exact SN
 frame:=fun _ _ _ st hk=>⟨st.1.at fun o e=>hk I SN o e,st.2.at fun o e=>hk d (SU _ SN) o e⟩
 item:=fun i s Q E hi st hQ=>by
  refine wt st.1 st.2 (Array.getElem?_eq_getElem hi) fun h' it' sb=>?_
  exact hQ _ h' s.toks ⟨_,Array.getElem?_eq_getElem hi,rfl⟩ ⟨it',st.2.at fun o e=>sb.extBut d o ne e⟩ fun b o hb e=>sb.extBut b o (fun z=>hb (by rw[z];exact SN)) e
 done:=fun s Q E st hQ=>zj hh st.1 st.2 (Array.getElem?_eq_none (SV _)) fun h' ext=>hQ h' s.toks fun b o hb e=>ext b o (fun z=>hb (by rw[z];exact SN)) e
 self:=fun _ _ _ _ st hQ=>wpAny_pyIter_keyiter st.1 hQ
theorem zk(nm:(d==sysModules)=false):PySem.W.KdlSrc prog w "dict" d d es.size (fun i v=>∃e,es[i]?=some e/\v=e.key) (fun h=>RawD h d es ep) where
 type:=fun _ x=>jA x
 there:=fun _ x=>by
  obtain⟨o,g,_⟩:=x;exact⟨S2 g,S2 g⟩
 keep:=fun _ _ x hk=>x.at fun o e=>hk d (.inl rfl) o e
 notList:=by decide
 notTuple:=by decide
 hint:=fun _ _ _ _ x q=>PySem.W.kdl_hint_dict (jA x) q
 iter:=fun _ s hh x=>⟨_,_,(fun _ _ q=>wq nm x q),tF hh _ (by obtain⟨o,g,_⟩:=x;exact S8 (S2 g)),⟨⟨_,Heap.get?_push_size _ rfl,rfl,rfl⟩,x.at fun o e=>Heap.get?_push_of_some _ e⟩⟩
end
end NX
namespace NX
open PySem PySem.W PySem.Spec PyProof.Rows L2
section
variable{prog:Program}{w:World}{A:Around}{E:Value->Shared->Prop}{s:Shared}
theorem kS{O:KeyOrd}{key:Nat->O.α}{kd:SortKind}{l:Addr}{vs:List Value}{Q:Value->Shared->Prop}
  (hcol:∀Q':List Value->Shared->Prop,(∀h' tk,(∀b o,s.heap.get? b=some o->h'.get? b=some o)->Q' vs {s with heap:=h',toks:=tk})->wpAny (model prog w) A.in1 (collect (.ref l)) Q' E s) (Kz:vs.length<64)
  (Jy:2<=vs.length->∀(A':Around) (E':Value->Shared->Prop) (s':Shared),(∀b o,s.heap.get? b=some o->s'.heap.get? b=some o)->∀Q:SortKind->Shared->Prop,Q kd s'->wpAny (model prog w) A' (keyKind' vs.toArray) Q E' s')
  (LH:∀i j,i<vs.length->j<vs.length->∀s':Shared,(∀b o,s.heap.get? b=some o->s'.heap.get? b=some o)->∀C:Bool->Shared->Prop,C (O.blt (key i) (key j)) s'->kas_ask prog w A.in1.in1 kd vs i j C s')
  (h:∀(p:Array Nat) (h5 h':Heap) (tk e:Nat),POk vs.length p->aZ key p vs.length->(∀b o,s.heap.get? b=some o->h5.get? b=some o)->(∀b o,h5.get? b=some o->h'.get? b=some o)->h'.get? h5.objs.size=some (seqObj "list" (List.toArray (p.toList.map fun i=>vs.getD i .none)) e)->Q (.ref h5.objs.size) {s with heap:=h',toks:=tk}):
  wpAny (model prog w) A (call (.builtin "sorted") [.ref l]) Q E s:=by
 refine Vc kind_sorted plain_sorted entry_sorted (args_sorted1 _) ?_;unfold Builtin.«sorted»;refine SM (m:=checkCount "sorted" 1 1 _) (SQ (SM (hcol _ fun h5 tk k5=>?_)));refine SM (Wj ?_ (by rw[TQ];lia));have k6:∀b o,s.heap.get? b=some o->(h5.push (seqObj "list" vs.toArray 0)).get? b=some o:=fun b o e=>Heap.get?_push_of_some _ (k5 b o e)
 have hL:(h5.push (seqObj "list" vs.toArray 0)).get? h5.objs.size=some (seqObj "list" vs.toArray 0):=Heap.get?_push_size _ rfl;have Sd:∀b o,s.heap.get? b=some o->b<h5.objs.size:=fun b o e=>S2 (k5 b o e)
 show wpAny _ _ _ _ _ {s with heap:=h5.push (seqObj "list" vs.toArray 0),toks:=tk};refine SM (UK (TU slot_list_sort ⟨_,hL,rfl⟩ entry_list_sort (hX (key:=key) (kd:=kd) hL Kz (fun h2 h' kk Q' q=>Jy h2 _ _ _ (fun b o e=>kk b o (S8 (Sd b o e)) (k6 b o e)) Q' q)
  (fun i j hi hj h' kk C q=>LH i j hi hj _ (fun b o e=>kk b o (S8 (Sd b o e)) (k6 b o e)) C q) fun p h' hp hs ⟨e,he⟩ kk=>⟨_,rfl,?_⟩) (args_list_sort _)))
 exact SQ ⟨_,rfl,h p h5 h' tk e hp hs k5 (fun b o q=>kk b o (S8 (S2 q)) (Heap.get?_push_of_some _ q)) he⟩
end
section
variable{X:Cx}{pr:List (Addr×Obj)}{σ:L2.St}{H:Hp}{s:Shared}
theorem zl{H:Hp}{kvs:List (List Key×V)}{xs:List (List Key×Addr×Value)}(r:KT H kvs xs):xs.map (·.1)=kvs.map (·.1):=by
 induction r with
 |nil=>rfl
 |cons hq _ ih=>rw[S7,S7,ih,hq.1]
theorem Eo{H:Hp}{kvs:List (List Key×V)}{xs:List (List Key×Addr×Value)}(r:KT H kvs xs):∀y∈xs,H y.2.1=some (.tup (y.1.map kV)):=by
 induction r with
 |nil=>exact fun y hy=>nomatch hy
 |cons hq _ ih=>
  intro y hy;rcases S3.mp hy with rfl|hy
  ·rw[<-hq.1];exact hq.2.1
  ·exact ih y hy
theorem zm(I:Inv X pr σ H s){a:Addr}{kvs:List (List Key×V)}(h:Rd H a (.dT kvs)):(a==sysModules)=false/\∃(al:List (Addr×List Key)) (es:Array DictEntry) (ep:Nat),
  RawD s.heap a es ep/\es.toList.map (·.key)=al.map (fun x=>Value.ref x.1)/\al.map (·.2)=kvs.map (·.1)/\∀x∈al,H x.1=some (.tup (x.2.map kV)):=by
 obtain⟨_,nm,xs,r,o,es,ep,h1,h2,h3,h4,_⟩:=h.ok I.hok;refine⟨nm,xs.map fun x=>(x.2.1,x.1),es,ep,⟨o,h1,h2,h3⟩,?_,?_,?_⟩
 ·rw[h4,Td,Td];rfl
 ·rw[Td];exact zl r
 ·intro x hx;obtain⟨y,hy,rfl⟩:=T9.mp hx;exact Eo r y hy
theorem kH(hc:X.calm=true):c6 X (.builtin "sorted") (fun vs H Q=>∃(p:Addr) (kvs:List (List Key×V)) (top:Bool) (t:List Bool),vs=[.ref p]/\Rd H p (.dT kvs)/\(∀kv∈kvs,kinds kv.1=top::t)/\kvs.length<64/\
  ∀(D:Addr) (ms:List (Addr×List Key)),H D=none->(∀a∈ms,H a.1=some (.tup (a.2.map kV)))->(ms.map (·.2)).Perm (kvs.map (·.1))->ms.Pairwise (fun a b=>di b.2 a.2=false)->Q (.ref D) (upd H D (.lst (ms.map fun a=>V.ref a.1)))):=by
 intro pr s σ H vs us Q I r h;obtain⟨p,kvs,top,kt,rfl,hp,hk,Kz,q⟩:=h;obtain⟨u,rfl,r1⟩:=fe r;cases r1;obtain⟨nm,al,es,ep,raw,LJ,Qt,NK⟩:=zm I hp;have LC:al.length=kvs.length:=by
  have:=TY List.length Qt;simpa using this
 have Kf:∀a∈al,SqT X.K H a.1 (a.2.map kV)/\kinds a.2=top::kt:=fun a ha=>by
  refine⟨SqT.of (NK a ha),?_⟩;have:a.2∈kvs.map (·.1):=by rw[<-Qt];exact T9.mpr ⟨a,ha,rfl⟩
  obtain⟨kv,Jt,e⟩:=T9.mp this;rw[<-e];exact hk kv Jt
 have rv:Vals (al.map fun a=>V.ref a.1) (al.map fun a=>Value.ref a.1):=by
  clear LJ Qt NK LC Kf;induction al with
  |nil=>exact .nil
  |cons a al ih=>exact .cons rfl ih
 have hl:(al.map fun a=>Value.ref a.1).length=al.length:=SO ..;refine kS (O:=DL) (key:=fun i=>(al.getD i (0,[])).2) (kd:=tuples' true) (vs:=al.map fun a=>Value.ref a.1) (fun Q' hq=>?_) (by lia) (fun h2 A' E' s' kk Q' q'=>?_) (fun i j hi hj s' kk C q'=>?_) fun pp h5 h' tk e IK hs k5 k' he=>?_
 ·refine kdu_collect (zk nm) (I.ok.hd hc) raw (by have:=TY List.length LJ;simp only[SO,T5]at this;rw[TQ];lia) fun h' tk acc kk Kx=>?_
  have ea:acc.toList=al.map fun a=>Value.ref a.1:=by
   rw[<-LJ];apply U8;intro j;rw[List.getElem?_map,Array.getElem?_toList,Array.getElem?_toList];cases hj:acc[j]? with
   |none=>
    have:es[j]?=none:=by
     rw[Array.getElem?_eq_none_iff]at hj ⊢;rw[<-Kx.1];exact hj
    rw[this];rfl
   |some v=>
    obtain⟨en,h1,h2⟩:=Kx.2 j v hj;rw[h1,h2];rfl
  have:=hq h' tk kk;rw[<-ea]at this;exact this
 ·obtain⟨fs,t1,t2,t3⟩:=pO (h':=s'.heap) I kk top rv fun a ha=>⟨(Kf a ha).1,kt,(Kf a ha).2⟩
  refine kat_kind (T:=.type (if top then "int" else "str")) t1 (by lia) (fun v hv=>t3 v hv _) (by simp) ?_;have:((Value.type (if top then "int" else "str")) != Value.type "tuple")=true:=by cases top <;> decide
  rw[this];exact q'
 ·unfold kas_ask;have Mh:i<al.length:=by lia
  have NJ:j<al.length:=by lia
  rw[lJ rv Mh,lJ rv NJ];have mi:al.getD i (0,[])∈al:=by rw[aW _ _ _ Mh];exact U0 _
  have mj:al.getD j (0,[])∈al:=by rw[aW _ _ _ NJ];exact U0 _
  obtain⟨u1,o1,n1,r1,g1,_,d1⟩:=m6 I (Kf _ mi).1;obtain⟨u2,o2,n2,r2,g2,_,d2⟩:=m6 I (Kf _ mj).1;have ek:kinds (al.getD i (0,[])).2=kinds (al.getD j (0,[])).2:=by rw[(Kf _ mi).2,(Kf _ mj).2]
  have el:u1.length=u2.length:=by
   have a1:=r1.length;have a2:=r2.length;have a3:=TY List.length ek;simp only[kinds,SO]at a1 a2 a3;lia
  refine kat_lt (kk _ _ g1) d1 (kk _ _ g2) d2 ?_;have ef:decide (u1.toArray.size<u2.toArray.size)=false:=by simp[el]
  rw[ef];exact jM _ _ _ _ 0 r1 r2 ek q'
 ·rw[hl]at IK hs;have Mp:POk (al.map fun a=>V.ref a.1).length pp:=by rw[SO];exact IK
  have eo:oJ pp (al.map fun a=>V.ref a.1)=(pp.toList.map fun i=>al.getD i (0,[])).map fun a=>V.ref a.1:=by
   unfold oJ;rw[Td];refine T6 fun i hi=>?_
   have hi:=TB.mp (IK.perm.mem_iff.mp hi);show(al.map fun a=>V.ref a.1).getD i .non=V.ref (al.getD i (0,[])).1;rw[aW _ _ _ (by rw[SO];exact hi),aW _ _ _ hi];simp
  have I5:Inv X pr σ H {s with heap:=h5,toks:=tk}:=I.kept k5;have hn:H h5.objs.size=none:=I5.hok.fresh (SV _);refine⟨.ref h5.objs.size,_,fE (s:={s with heap:=h5,toks:=tk}) I5 k' (SV _) he (ia rv Mp) ?_,rfl,?_⟩
  ·show(oJ pp (al.map fun a=>V.ref a.1)).length<=sizeLine;rw[eo,SO,SO,IK.perm.length_eq,Tr,TQ];lia
  ·rw[eo];have pm:=hZ (0,[]) IK;refine q _ _ hn (fun a ha=>NK a (pm.mem_iff.mp ha)) ?_ ?_
   ·rw[<-Qt];exact pm.map _
   ·exact dZ (O:=DL) (0,[]) (fun a:Addr×List Key=>a.2) IK hs
end
end NX
namespace NX
open PySem PySem.Spec PyProof.Rows L2
section
open PySem.SeqAt
open PySem.AutoSeq1 (wpAny_loadPart')
open PySem.MeetsSeq PySem.MeetsSeq2 PySem.MeetsSeq3
theorem pQ{A:Around}{s:Shared}{a c:Key}{u v:Value}(ra:RelV (kV a) u)(rc:RelV (kV c) v):EqAt A s u v (decide (a=c)):=by
 have h:=xQ (A:=A) (s:=s) ra rc (jz a) (jz c);rw[tm]at h;exact h
theorem wu{prog:Program}{w:World}{A:Around}{E:Value->Shared->Prop}{s:Shared}{Q:Value->Shared->Prop}{a c:Key}{u v:Value}(ra:RelV (kV a) u)(rc:RelV (kV c) v)(hk:a.isLeft=c.isLeft)(h:Q (.bool (oI.blt a c)) s):
  wpAny (model prog w) A (richCompare .Lt u v) Q E s:=by
 cases a with
 |inl i=>
  cases c with
  |inr _=>cases hk
  |inl j=>
   obtain⟨t,rfl⟩:=ra;obtain⟨t',rfl⟩:=rc;exact(PyProof.Rows.lt_int h:wpAny (model prog w) A (compareOp .Lt (.int i t) (.int j t')) Q E s)
 |inr x=>
  cases c with
  |inl _=>cases hk
  |inr y=>
   obtain⟨t,rfl⟩:=ra;obtain⟨t',rfl⟩:=rc;exact(PyProof.Rows.lt_str h:wpAny (model prog w) A (compareOp .Lt (.str x t) (.str y t')) Q E s)
theorem wx{prog:Program}{w:World}{A:Around}{E:Value->Shared->Prop}{s:Shared}{Q:Value->Shared->Prop}{a c:Key}{u v:Value}(ra:RelV (kV a) u)(rc:RelV (kV c) v)(hk:a.isLeft=c.isLeft)(h:Q (.bool (!oI.blt a c)) s):
  wpAny (model prog w) A (richCompare .GtE u v) Q E s:=by
 cases a with
 |inl i=>
  cases c with
  |inr _=>cases hk
  |inl j=>
   obtain⟨t,rfl⟩:=ra;obtain⟨t',rfl⟩:=rc;refine(PyProof.Rows.ge_int ?_:wpAny (model prog w) A (compareOp .GtE (.int i t) (.int j t')) Q E s);have e:(!oI.blt (.inl i) (.inl j))=decide (j<=i):=by
    show(!decide (i<j))=decide (j<=i);rw[To];simp
   rw[e]at h;exact h
 |inr x=>
  cases c with
  |inl _=>cases hk
  |inr y=>
   obtain⟨t,rfl⟩:=ra;obtain⟨t',rfl⟩:=rc;exact(PySem.P.ge_str h:wpAny (model prog w) A (compareOp .GtE (.str x t) (.str y t')) Q E s)
theorem ni(a c:Key)(r t:List Key):di (a::r) (c::t)=if a=c then di r t else oI.blt a c:=rfl
theorem lN(l b:Addr)(items HR:Array Value)(n n2:Nat)(dd K2:Option Addr)(sl K3:Array (Option Value))(ks js:List Key)(hi:Vals (ks.map kV) items.toList)(hj:Vals (js.map kV) HR.toList)(hk:kinds ks=kinds js):
  Meets (Builtin.«tuple.__lt__» ⟨[.ref l,.ref b],[]⟩)
   (fun _ R s=>s.heap.get? l=some {cls:=.type "tuple",dict:=dd,data:=.seq items n,slots:=sl}/\s.heap.get? b=some {cls:=.type "tuple",dict:=K2,data:=.seq HR n2,slots:=K3}/\R (.ok (.ret (.bool (di ks js)))) s):=
 .of_wp fun prog w A R s h=>by
  obtain⟨hp,g,d,tk,os⟩:=s;obtain⟨hl,hb,h⟩:=h;have f2:=Wd;have z1:items.size=ks.length:=by have:=hi.length;simp at this;lia
  have z2:HR.size=js.length:=by have:=hj.length;simp at this;lia
  have z3:ks.length=js.length:=by have:=TY List.length hk;simpa[kinds] using this
  wp_walk using wpAny_loadPart' hl,wpAny_loadPart' hb,Ws _ (fun cT b s'=>b.1=none/\s'=⟨hp,g,d,tk,os⟩/\∃(vs ws:List Value) (IM Jm:List Key),cT=vs.zip ws/\
   Vals (IM.map kV) vs/\Vals (Jm.map kV) ws/\kinds IM=kinds Jm/\R (.ok (.ret (.bool (di IM Jm)))) ⟨hp,g,d,tk,os⟩) _
  case turn=>
   rintro⟨y,x⟩ cT b s' ⟨NL,rfl,vs,ws,IM,Jm,hz,Ms,NM,KA,hR⟩;cases IM with
   |nil=>
    cases Ms;rw[List.zip_nil_left]at hz;cases hz
   |cons a IM=>
    cases Jm with
    |nil=>cases KA
    |cons c Jm=>
     cases Ms with
     | @cons _ va _ JP ra hvi'=>
      cases NM with
      | @cons _ vc _ LK rc hwi'=>
       rw[Uo]at hz;injection hz with hyx hrest;injection hyx with hy hx;subst hy hx;have Rj:a.isLeft=c.isLeft:=(UY KA).1;have Qu:kinds IM=kinds Jm:=(UY KA).2;rw[ni]at hR;have he:=pQ (A:=A.in1) (s:=⟨hp,g,d,tk,os⟩) ra rc;refine SM (he prog w _ _ ?_);by_cases hac:a=c
       ·rw[S1 hac]at hR;rw[Tv hac]
        wp_walk
        exact⟨rfl,rfl,_,_,_,_,hrest,hvi',hwi',Qu,hR⟩
       ·rw[S4 hac]at hR;rw[Tj hac];have Rk:=fun E Q=>wu (prog:=prog) (w:=w) (A:=A.in1) (E:=E) (s:=⟨hp,g,d,tk,os⟩) (Q:=Q) ra rc Rj
        wp_walk using Rk
        exact⟨_,rfl,by simpa using hR⟩
  case fin=>
   rintro⟨b1,b2⟩ s' ⟨NL,rfl,vs,ws,IM,Jm,hz,Ms,NM,KA,hR⟩;simp only at NL;subst NL;have hv:di IM Jm=decide (items.size<HR.size):=by
    cases IM with
    |nil=>
     cases Jm with
     |nil=>exact(Tj (by lia)).symm
     |cons c Jm=>cases KA
    |cons a IM=>
     cases Jm with
     |nil=>cases KA
     |cons c Jm=>
      cases Ms;cases NM;rw[Uo]at hz;cases hz
   rw[hv]at hR
   wp_walk
   exact⟨_,rfl,by simpa[Builtin.Tuple.tupleCompareSizes] using hR⟩
  case h=>
   exact⟨rfl,rfl,items.toList,HR.toList,ks,js,rfl,hi,hj,hk,h⟩
theorem lO(l b:Addr)(items HR:Array Value)(n n2:Nat)(dd K2:Option Addr)(sl K3:Array (Option Value))(ks js:List Key)(hi:Vals (ks.map kV) items.toList)(hj:Vals (js.map kV) HR.toList)(hk:kinds ks=kinds js):
  Meets (Builtin.«tuple.__ge__» ⟨[.ref l,.ref b],[]⟩)
   (fun _ R s=>s.heap.get? l=some {cls:=.type "tuple",dict:=dd,data:=.seq items n,slots:=sl}/\s.heap.get? b=some {cls:=.type "tuple",dict:=K2,data:=.seq HR n2,slots:=K3}/\R (.ok (.ret (.bool (!di ks js)))) s):=
 .of_wp fun prog w A R s h=>by
  obtain⟨hp,g,d,tk,os⟩:=s;obtain⟨hl,hb,h⟩:=h;have f2:=Wd;have z1:items.size=ks.length:=by have:=hi.length;simp at this;lia
  have z2:HR.size=js.length:=by have:=hj.length;simp at this;lia
  have z3:ks.length=js.length:=by have:=TY List.length hk;simpa[kinds] using this
  wp_walk using wpAny_loadPart' hl,wpAny_loadPart' hb,Ws _ (fun cT b s'=>b.1=none/\s'=⟨hp,g,d,tk,os⟩/\∃(vs ws:List Value) (IM Jm:List Key),cT=vs.zip ws/\
   Vals (IM.map kV) vs/\Vals (Jm.map kV) ws/\kinds IM=kinds Jm/\R (.ok (.ret (.bool (!di IM Jm)))) ⟨hp,g,d,tk,os⟩) _
  case turn=>
   rintro⟨y,x⟩ cT b s' ⟨NL,rfl,vs,ws,IM,Jm,hz,Ms,NM,KA,hR⟩;cases IM with
   |nil=>
    cases Ms;rw[List.zip_nil_left]at hz;cases hz
   |cons a IM=>
    cases Jm with
    |nil=>cases KA
    |cons c Jm=>
     cases Ms with
     | @cons _ va _ JP ra hvi'=>
      cases NM with
      | @cons _ vc _ LK rc hwi'=>
       rw[Uo]at hz;injection hz with hyx hrest;injection hyx with hy hx;subst hy hx;have Rj:a.isLeft=c.isLeft:=(UY KA).1;have Qu:kinds IM=kinds Jm:=(UY KA).2;rw[ni]at hR;have he:=pQ (A:=A.in1) (s:=⟨hp,g,d,tk,os⟩) ra rc;refine SM (he prog w _ _ ?_);by_cases hac:a=c
       ·rw[S1 hac]at hR;rw[Tv hac]
        wp_walk
        exact⟨rfl,rfl,_,_,_,_,hrest,hvi',hwi',Qu,hR⟩
       ·rw[S4 hac]at hR;rw[Tj hac];have Rk:=fun E Q=>wx (prog:=prog) (w:=w) (A:=A.in1) (E:=E) (s:=⟨hp,g,d,tk,os⟩) (Q:=Q) ra rc Rj
        wp_walk using Rk
        exact⟨_,rfl,by simpa using hR⟩
  case fin=>
   rintro⟨b1,b2⟩ s' ⟨NL,rfl,vs,ws,IM,Jm,hz,Ms,NM,KA,hR⟩;simp only at NL;subst NL;have hv:(!di IM Jm)=decide (HR.size<=items.size):=by
    cases IM with
    |nil=>
     cases Jm with
     |nil=>exact(Tv (by lia)).symm
     |cons c Jm=>cases KA
    |cons a IM=>
     cases Jm with
     |nil=>cases KA
     |cons c Jm=>
      cases Ms;cases NM;rw[Uo]at hz;cases hz
   rw[hv]at hR
   wp_walk
   exact⟨_,rfl,by simpa[Builtin.Tuple.tupleCompareSizes] using hR⟩
  case h=>
   exact⟨rfl,rfl,items.toList,HR.toList,ks,js,rfl,hi,hj,hk,h⟩
end
section
variable{X:Cx}
def Fl(K:W.Frag)(neg:Bool):R2:=fun x y H Q=>∃a b ks js,x=.ref a/\y=.ref b/\SqT K H a (ks.map kV)/\SqT K H b (js.map kV)/\kinds ks=kinds js/\Q (.bl (if neg then !di ks js else di ks js)) H
theorem BR(hu:X.A.units<cLine):HI X (compareOp .Lt) (Fl X.K false):=by
 intro pr s σ H x y v u Q I rx ry h;obtain⟨a,b,ks,js,rfl,rfl,ha,hb,hk,q⟩:=h;cases rx;cases ry;obtain⟨GQ,r1,p1,_⟩:=I.tuple ha;obtain⟨Kv,r2,p2,_⟩:=I.tuple hb;obtain⟨⟨cls,dd,data,sl⟩,ho,hc,n,hd⟩:=id p1;obtain⟨⟨Mk,K2,data2,K3⟩,Jk,Ke,n2,hd2⟩:=id p2;simp only at hc hd Ke hd2;subst hc hd Ke hd2;exact richCompare_meets_room (op:=.Lt) ⟨_,ho,rfl⟩ ⟨_,Jk,rfl⟩ PySem.F.slot_tuple_lt PySem.F.entry_tuple_lt (PySem.F.args_tuple_lt_2 _ _) (lN a b _ _ n n2 dd K2 sl K3 ks js (by simpa using r1) (by simpa using r2) hk)
  ⟨ho,Jk,show Value.bool (di ks js)≠Value.notImplemented/\EP X pr σ Q (.bool (di ks js)) s from⟨(fun x=>nomatch x),⟨.bl (di ks js),H,I,rfl,q⟩⟩⟩ hu
theorem BU(hu:X.A.units<cLine):HI X (compareOp .GtE) (Fl X.K true):=by
 intro pr s σ H x y v u Q I rx ry h;obtain⟨a,b,ks,js,rfl,rfl,ha,hb,hk,q⟩:=h;cases rx;cases ry;obtain⟨GQ,r1,p1,_⟩:=I.tuple ha;obtain⟨Kv,r2,p2,_⟩:=I.tuple hb;obtain⟨⟨cls,dd,data,sl⟩,ho,hc,n,hd⟩:=id p1;obtain⟨⟨Mk,K2,data2,K3⟩,Jk,Ke,n2,hd2⟩:=id p2;simp only at hc hd Ke hd2;subst hc hd Ke hd2;exact richCompare_meets_room (op:=.GtE) ⟨_,ho,rfl⟩ ⟨_,Jk,rfl⟩ PySem.F.slot_tuple_ge PySem.F.entry_tuple_ge (PySem.F.args_tuple_ge_2 _ _) (lO a b _ _ n n2 dd K2 sl K3 ks js (by simpa using r1) (by simpa using r2) hk)
  ⟨ho,Jk,show Value.bool (!di ks js)≠Value.notImplemented/\EP X pr σ Q (.bool (!di ks js)) s from⟨(fun x=>nomatch x),⟨.bl (!di ks js),H,I,rfl,q⟩⟩⟩ hu
end
section
variable{prog:Program}{w:World}{A:Around}{E:Value->Shared->Prop}{s:Shared}
end
section
variable{X:Cx}{pr:List (Addr×Obj)}{σ:L2.St}{H:Hp}{s:Shared}{scope:Scope}{N:List Str}{ix:List (Option Nat)}{fp:List Addr}
end
section
variable{X:Cx}{scope:Scope}{N:List Str}{ix:List (Option Nat)}{tg iter elt:Expr}{ifs:List Expr}{pos:Pos}{wi:TI}{g:TG}{tc:TT}{te:TE}
end
theorem ook_get{P:Program}{w:World}{H:Hp}{h:Heap}{a:Addr}{o:HO}(x:ObjOk P w H h a o):∃u,h.get? a=some u:=by
 cases o with
 |lst xs=>obtain⟨_,_,_,_,e⟩:=x;exact⟨_,e⟩
 |tup xs=>obtain⟨_,_,_,_,e,_⟩:=x;exact⟨_,e⟩
 |dK kvs=>obtain⟨_,_,_,_,_,_,_,e,_⟩:=x;exact⟨_,e⟩
 |dT kvs=>obtain⟨_,_,_,_,_,_,_,e,_⟩:=x;exact⟨_,e⟩
 |set S n=>obtain⟨_,_,_,_,e,_⟩:=x;exact⟨_,e⟩
 |ins C dx fs=>obtain⟨_,_,_,e,_⟩:=x;exact⟨_,e⟩
 |own y=>exact x
 |xd fs=>obtain⟨_,⟨_,_,_,e,_⟩,_⟩:=x;exact⟨_,e⟩
 |rng lo hi=>obtain⟨_,_,_,e⟩:=x;exact⟨_,e⟩
 |frz ob u=>obtain⟨e,_⟩:=x;exact⟨_,e⟩
 |tbl ps=>exact⟨_,x⟩
 |met f y=>exact⟨_,x⟩
 |ext φ=>obtain⟨_,e,_⟩:=x;exact e
def NN(mg:Str->Option Value)(base:Heap)(x:Str)(C:Addr):Prop:=∃B newId initId bm,ExcBaseFacts B newId initId bm/\OwnCls x C bm newId mg base
theorem BV{K:W.Frag}{h:Heap}{mg:Str->Option Value}{x:Str}{C:Addr}{mB:List Value}{nw:String}(X:K.In h)(G:h.Ns mainGlobals mg)(e:PySem.W.nsIn K mainGlobals x=some (some (.ref C)))(q:PySem.W.excIn K C mB nw=true):OwnCls x C mB nw mg h:=by
 refine⟨Ud X G e,?_⟩;unfold PySem.W.excIn at q;split at q
 ·rename_i zd cd sl ho;split at q
  ·rename_i C' mro z0 z1 z2 z3 z4 z5 hm hs;rw[SY,SY,SY,SY,SY]at q;obtain⟨⟨⟨⟨⟨q1,q2⟩,q3⟩,q4⟩,q5⟩,q6⟩:=q;have d1:=Tu.mp q1;have d2:=Tu.mp q2;have d6:=Tu.mp q6;have d3:cd.hasDel=false:=by revert q3;cases cd.hasDel <;> decide
   clear q1 q2 q3 q6;subst d1;subst d2;cases cd;dsimp only at hm d3 q5 d6;subst hm;subst d3;have ez:sl = #[z0,z1,z2,z3,some (.builtin z4),z5]:=by
    cases sl;dsimp only at hs;rw[hs]
   subst ez;exact⟨_,_,_,_,_,_,_,_,_,_,_,_,_,_,_,_,_,X _ _ ho,.of_isNs (PySem.W.isNs_of_in X q5),PySem.W.nsMap_none_of_in X q5 d6,PySem.W.tail_of_in X q4⟩
  ·cases q
 ·cases q
noncomputable def OO(P:Program)(w:World)(base:Heap)(C:Addr):Lf:=fun outer H s E e s'=>
 ∃(a t:Addr) (B:Heap) (H':Hp),e=.ref a/\s'.os=s.os/\AllBare s'.gens/\Un (Jb outer) [] H H' s.heap s'.heap/\HOk P w H' s'.heap/\Heap.FlyingW B outer a (.ref C) (.ref t) s'.heap/\
  (∀b u,s'.heap.get? b=some u->(H' b≠none\/∃o,s.heap.get? b=some o)->b∉Jb outer->B.get? b=some u)/\E (.ref C) none H'
def Acc(X:Cx)(C:Addr)(Ww:Hp->Prop):Prop:=∀(pr:List (Addr×Obj)) (σ:L2.St) (H:Hp) (s:Shared) (h':Heap) (a:Addr) (args:List Value),Inv X pr σ H s->Ww H->Heap.MadeExcOf s.heap h' a (.ref C) args->X.xe (.ref a) {s with heap:=h'}
theorem BW{P:Program}{w:World}{K:W.Frag}{mg:Str->Option Value}{base:Heap}{N:List Str}{qual:Str}{scope:Scope}{f C:Addr}{cd:Value}{A:Around}{outer:List Env}{s:Shared}{H:Hp}{E:XK}:
  Acc (qS (OO P w base C) P w K mg base N qual scope f cd A outer s H E) C (fun H'=>E (.ref C) none H'):=by
 intro pr σ H1 s1 h' a args I hW hm;have hfs:∀b,b∈Jb (envOfC qual scope s.heap.objs.size f cd::outer)->b∈s.heap.objs.size::Jb outer:=I.stkSub;have nl:∀b o,s.heap.get? b=some o->b∉Jb outer->b∉Jb (envOfC qual scope s.heap.objs.size f cd::outer):=fun b o e n z=>by
  rcases S3.mp (hfs b z) with r|r
  ·exact absurd (S2 e) (by rw[r];exact UH _)
  ·exact n r
 have nt:∀b,H1 b≠none->b∉Jb (envOfC qual scope s.heap.objs.size f cd::outer):=fun b n z=>n (I.stkFree b z)
 refine wpAny_leaves_madeW (base:=PySem.W.hideAll s1.heap (Jb (envOfC qual scope s.heap.objs.size f cd::outer))) (L:=s.heap.objs.size) I.ok.frames rfl (fun b o q=>Xa _ q) (PySem.W.funFrames_hide I.stack fun env he b hb=>Vn.mpr ⟨env,he,hb⟩) hm fun h2 t Np _ _ sm=>?_
 have k:∀b u,s1.heap.get? b=some u->b∉Jb (envOfC qual scope s.heap.objs.size f cd::outer)->h2.get? b=some u:=fun b u q n=>Np.1 b u (VP _ q n)
 have sl:∀b u,s1.heap.get? b=some u->b∈Jb outer->∃z,h2.get? b=some {u with slots:=z}:=fun b u q n=>by
  obtain⟨_,o,ho,hd⟩:=I.funs.mem n;rw[q]at ho;cases ho;exact sm b u (hm.keeps b u q) hd
 have there:∀b o,s.heap.get? b=some o->∃o',s1.heap.get? b=some o':=fun b o q=>I.base.there b o q (fun z=>nomatch z)
 refine⟨a,t,_,H1,rfl,I.os,I.bare,⟨fun b o q n hb hx=>k b o (I.base.keep b o q n hb hx) (nl b o q hb),fun b o q n hb hx=>?_,I.base.free,fun b o q hx=>?_,I.base.tups,I.base.frzs,I.base.tbls⟩,fun b o e=>?_,Np,fun b u q hb n=>?_,hW⟩
 ·obtain⟨z,e⟩:=I.base.slot b o q n hb hx;obtain⟨z',e'⟩:=sl b _ e hb;exact⟨z',e'⟩
 ·obtain⟨o',e⟩:=there b o q;by_cases hb:b∈Jb outer
  ·obtain⟨z,e'⟩:=sl b o' e hb;exact⟨_,e'⟩
  ·exact⟨o',k b o' e (nl b o q hb)⟩
 ·refine(I.hok b o e).stay (fun c u hc q=>k c u q (nt c ?_)) (fun _ q=>q) fun _ _ q=>q
  rcases hc with rfl|hc
  ·rw[e];exact fun z=>nomatch z
  ·rw[hc];exact fun z=>nomatch z
 ·have h1:∃u0,s1.heap.get? b=some u0/\b∉Jb (envOfC qual scope s.heap.objs.size f cd::outer):=by
   rcases hb with hb|⟨o,ho⟩
   ·cases hq:H1 b with
    |none=>exact absurd hq hb
    |some ho=>
     obtain⟨u0,e0⟩:=ook_get (I.hok b ho hq);exact⟨u0,e0,nt b hb⟩
   ·obtain⟨o',e⟩:=there b o ho;exact⟨o',e,nl b o ho n⟩
  obtain⟨u0,e0,n0⟩:=h1;have:=k b u0 e0 n0;rw[show h2.get? b=some u from q]at this;cases this;exact VP _ e0 n0
def PX(X:Cx)(st:List Stmt)(t:L2.St->Hp->Prop):Prop:=
 ∀(pr:List (Addr×Obj)) (s:Shared) (σ:L2.St) (H:Hp),Inv X pr σ H s->t σ H->wpAny (model X.prog X.w) X.A (execs st X.env) (fun _ _=>False) X.xe s
section
variable{X:Cx}{st:Stmt}{cT:List Stmt}{t:TS}{u u':L2.St->Hp->Prop}{e:Expr}{es:List Expr}{x:Str}{C:Addr}{Ww:Hp->Prop}{np Hd pos:Pos}
theorem wy{ta:TA}(O:NN X.mg X.base x C)(acc:Acc X C Ww)(hc:X.calm=true)(hg:Gl X x)(ha:PA X (e::es) ta)(Ie:(x==("__debug__" : Str))=false:=by decide)
  (he:starEach (e::es) X.env=(false,eval e X.env)::starEach es X.env:=by rfl) (Ic:(backTo Hd (starEach es X.env)).any (·.1)=false:=by rfl):
  PX X (.Raise (some (.Call (.Name x np) (e::es) [] Hd)) none pos::cT) (fun σ H=>ta σ H fun vs H1=>vs.length<=sizeLine/\Ww H1):=by
 intro pr s σ H I h;obtain⟨B,nw,ini,bm,FB,O⟩:=O;obtain⟨tl,N,nm,q,bs,hdct,sn,sub,ab,col,dd,k0,k1,k2,k3,k5,mN,hC,hN,Pe,T⟩:=O.obj;refine Vf (wpAny_Raise_call_subT (C:=C) (nm:=nm) (q:=q) (N:=N) (bs:=bs) (bm:=tl) (hdct:=hdct) (sn:=sn) (sub:=sub) (ab:=ab) (col:=col) (dd:=dd) (k0:=k0) (k1:=k1) (k2:=k2) (k3:=k3) (k5:=k5) FB (mN:=mN) (T.hasType FB.hasBase) (I.ok.hd hc) (by rw[he];show(false||(backTo Hd (starEach es X.env)).any (·.1))=false;rw[Ic];rfl) Pe (jG I hg O.bound ⟨rfl,?_⟩ Ie));have z:=ha Hd pr s σ H _ I h;rw[he]at z ⊢;exact VE (TZ z (fun us s2 ⟨vs,H1,I1,r,hl,hw⟩=>⟨rfl,by rw[<-r.length];exact hl,I1.bk _ _ hC,hN.keeps I1.bk,T.keeps I1.bk,fun h' a hm=>acc pr σ H1 s2 h' a us I1 hw hm⟩) fun _ _ y=>y)
theorem Ep{c:Expr}{a b:List Stmt}{tc:TT}(hc:PT X c tc)(ha:PX X a u):PX X (.If c a b pos::cT) (fun σ H=>tc σ H fun bb H1=>bb=true/\u σ H1):=by
 intro pr s σ H I h;refine Vf (wpAny_If (He (hc pr s σ H _ I h) fun d s1 Hh=>?_));obtain⟨H1,I1,e,q⟩:=Hh;subst e;exact TZ (ha pr s1 σ H1 I1 q) (fun _ _ z=>z.elim) fun _ _ z=>z
theorem xZ(h:PX X cT u)(k:∀σ H,u' σ H->u σ H):PX X cT u':=fun pr s σ H I z=>h pr s σ H I (k σ H z)
theorem BX(h:PX X cT u):PSs X cT (fun _ σ H=>u σ H):=fun pr s σ H _ I z=>TZ (h pr s σ H I z) (fun _ _ z=>z.elim) fun _ _ z=>z
theorem BY{t:TA}(h:PA X.nox es t):PA X es t:=fun p pr s σ H Q I hw=>TZ (h p pr s σ H Q (I.wish _) hw) (fun _ _ ⟨v,H',I',r,q⟩=>⟨v,H',I'.unwish,r,q⟩) fun _ _ z=>False.elim z
end
def CtX(P:Program)(w:World)(K:W.Frag)(mg:Str->Option Value)(base:Heap)(x:Str)(k:Nat)(C:Addr)(sp:Sp):Prop:=
 ∃f fd ps,FnOk P w K mg base (OO P w base C) k f fd ps sp/\mg x=some (.ref f)/\PySem.W.keepIn K (.ref f)=true/\Binds K fd ps []
theorem zo{P:Program}{w:World}{K:W.Frag}{mg:Str->Option Value}{base:Heap}{x qual:Str}{st:Stmt}{f C:Addr}{fd:FuncData}{N ps:List Str}{k:Nat}{sp:Sp}(F:Fun K x qual st f fd)(S:FnScope N ps (defScope st))(len:∀vs H Q E,sp vs H Q E->vs.length=ps.length)
  (Kd:∀(Hf:Value) (A:Around) (outer:List Env) (s:Shared) (H:Hp) (vs:List V) (Q:VK) (E:XK),Room k (A.deeper (envOfC qual (defScope st) s.heap.objs.size f Hf))->sp vs H Q E->
   ∃t,PX (qS (OO P w base C) P w K mg base N qual (defScope st) f Hf A outer s H E) (bU st) t/\t (hJ N vs) H):FnOk P w K mg base (OO P w base C) (k+1) f fd ps sp:=by
 obtain⟨oc,od,kV,doc,pm,an,Hf,ct,LA,rfl,lk,Le⟩:=F.ex;refine Bz lk Le S len fun A outer s H vs Q E hr K1=>?_
 obtain⟨t,h,q⟩:=Kd Hf A outer s H vs Q E hr K1;exact⟨_,BX h,q⟩
def XP(X:Cx)(pr:List (Addr×Obj))(σ:L2.St)(C:Addr)(Ww:Hp->Prop)(e:Value)(s':Shared):Prop:=∃(s1:Shared) (H1:Hp),Inv X pr σ H1 s1/\OO X.prog X.w X.base C X.stack H1 s1 (fun _ _ H'=>Ww H') e s'
abbrev TX:=L2.St->Hp->(Hp->Prop)->Prop
def Rl(X:Cx)(e:Expr)(C:Addr)(t:TX):Prop:=∀(pr:List (Addr×Obj)) (s:Shared) (σ:L2.St) (H:Hp) (Ww:Hp->Prop),Inv X pr σ H s->t σ H Ww->wpAny (model X.prog X.w) X.A (eval e X.env) (fun _ _=>False) (XP X pr σ C Ww) s
def Ro(X:Cx)(st:List Stmt)(C:Addr)(t:TX):Prop:=∀(pr:List (Addr×Obj)) (s:Shared) (σ:L2.St) (H:Hp) (Ww:Hp->Prop),Inv X pr σ H s->t σ H Ww->wpAny (model X.prog X.w) X.A (execs st X.env) (fun _ _=>False) (XP X pr σ C Ww) s
section
variable{X:Cx}{st:Stmt}{cT:List Stmt}{tx:TX}{e a b:Expr}{es:List Expr}{x:Str}{C:Addr}{k:Nat}{sp:Sp}{p pos:Pos}
theorem wz{t:TA}(c:CtX X.prog X.w X.K X.mg X.base x k C sp)(hr:Room k X.A)(hg:Gl X x)(ha:PA X.nox (e::es) t)(Ie:(x==("__debug__" : Str))=false:=by decide)
  (he:starEach (e::es) X.env=(false,eval e X.env)::starEach es X.env:=by rfl) (Ic:(backTo pos (starEach es X.env)).any (·.1)=false:=by rfl):
  Rl X (.Call (.Name x p) (e::es) [] pos) C (fun σ H Ww=>t σ H fun vs H1=>sp vs H1 (fun _ _=>False) fun _ _ H'=>Ww H'):=by
 intro pr s σ H Ww I h;obtain⟨f,fd,ps,F,m,kp,b⟩:=c;refine UJ (jG I hg m ?_ Ie);refine Xb (h₀:=X.base) I.ok.mod.kin kp (TZ (ha pos pr s σ H _ (I.wish _) h) (fun us s1 ⟨vs,H1,I1,r,q⟩=>⟨I1.kIn,?_⟩) fun _ _ z=>z.elim) he Ic;have I1:=I1.unwish;have hl:us.length=ps.length:=by rw[<-r.length];exact F.len _ _ _ _ q
 have hb:BindsTo s1 fd ⟨us,[]⟩ (ps.zip us):=by
  have:=b s1 us I1.kIn (by rw[Ta];exact hl);rw[Ta]at this;exact this
 refine wpAny_call (WH (F.run X.A X.stack s1 H1 ⟨us,[]⟩ us vs _ _ hr I1.env0 hb r q) fun r s' hq=>?_);cases r with
 |error e=>exact⟨s1,H1,I1,hq⟩
 |ok fl=>
  cases fl with
  |ret u=>obtain⟨_,_,_,_,_,_,_,z⟩:=hq;exact z.elim
  |next=>exact False.elim hq
  |brk=>exact False.elim hq
  |cont=>exact False.elim hq
theorem wA(h:Rl X e C tx)(hs:swapsWith e none pos.line X.env=pure false:=by rfl):Ro X (.Expr e pos::cT) C tx:=fun pr s σ H Ww I z=>
 Vf (wpAny_Expr_any (TZ (h pr s σ H Ww I z) (fun _ _ z=>z.elim) fun _ _ z=>z) I.quiet hs)
end
abbrev handX(X:Cx)(a:Addr):Cx:={X with A:=X.A.mark (some (.ref a)),calm:=false,xe:=fun _ _=>False}
theorem wB{X:Cx}{pr:List (Addr×Obj)}{σ:L2.St}{H:Hp}{s:Shared}(I:Inv X pr σ H s)(a:Addr):Inv (handX X a) pr σ H s:=
 ⟨⟨I.ok.mod,I.ok.kind,I.ok.glob,I.ok.blt,I.ok.above,I.ok.inj,I.ok.has,I.ok.cab,(fun z=>nomatch z),I.ok.frames,I.ok.stk,I.ok.exf,I.ok.bs,I.ok.bsz,I.ok.noex,I.ok.exfs,I.ok.funs,I.ok.frf⟩,I.os,I.bare,I.base,I.loc,I.cell,I.free,I.freeC,I.pin,I.hok,I.len⟩
open PySem.Builtin.ObjectAttr PySem.Builtin.Getset_descriptor
def ExAt(x D:Addr)(h:Heap):Prop:=∃o vs,h.get? x=some o/\o.cls=.ref D/\o.data=.fields vs
structure Asks(K:W.Frag)(D:Addr):Prop where
 ga:PySem.W.findIn K (.ref D) "__getattribute__" = some (some (.builtin "BaseException.__getattribute__"))
 gn:PySem.W.findIn K (.ref D) "__getattr__" = some none
 hc:PySem.W.hasDictIn K D=true
 fi:PySem.W.findIn K (.ref D) "__class__" = some (some (.builtin "object.__class__"))
 sp:PySem.W.specialIn K (.builtin "object.__class__") "__get__" = some (some (.builtin "getset_descriptor.__get__"))
 tk:PySem.W.takesIn K (.builtin "object.__class__")=some true
 mo:PySem.W.mroIn K D (.type "object")=some true
 mb:PySem.W.mroIn K D (.type "BaseException")=some true
theorem Asks.cls{K:W.Frag}{D:Addr}(k:Asks K D):∃cd,PySem.W.clsIn K D=some cd:=by
 obtain⟨cd,e,_⟩:=PySem.W.any_some k.hc;exact⟨cd,e⟩
section
variable{prog:Program}{w:World}{A:Around}{E:Value->Shared->Prop}{s:Shared}{K:W.Frag}{x D:Addr}
theorem ExAt.ty{M:Model}{h:Heap}(I:ExAt x D h):PySem.W.Looks M h (typeOf (.ref x)) (.ref D):=by
 obtain⟨o,vs,e,c,_⟩:=I;exact c▸(PySem.W.Looks.ld e).andThen .now
theorem wC{M:Model}{h:Heap}(k:Asks K D)(X:K.In h):PySem.W.Looks M h (find (.ref x) (.ref D) "__class__") (.bind (.builtin "getset_descriptor.__get__") (.builtin "object.__class__")):=by
 have T:=PySem.W.looks_takesIn (M:=M) X k.tk;have T':PySem.W.Looks M h (dataDescriptor? (some (.builtin "object.__class__")) (some (.builtin "getset_descriptor.__get__"))) (some (.builtin "getset_descriptor.__get__",.builtin "object.__class__")):=T.andThen .now;exact(VI X k.fi).andThen ((show PySem.W.Looks M h (getOf (some (.builtin "object.__class__"))) (some (.builtin "getset_descriptor.__get__")) from PySem.W.looks_specialIn X k.sp).andThen (T'.andThen (PySem.W.Looks.tag .now)))
theorem zp{R:Result->Shared->Prop}{tp:Value}(k:Asks K D)(X:K.In s.heap)(I:ExAt x D s.heap)(h:R (.ok (.ret (.ref D))) s):
  codeAny (model prog w) A (.call (.builtin "getset_descriptor.__get__") ⟨[.builtin "object.__class__",.ref x,tp],[]⟩) R s:=by
 obtain⟨hp,gs,dr,tt,oo⟩:=s;have Ty:=I.ty (M:=model prog w);have Mo:=W5 (M:=model prog w) X k.mo;refine VG PySem.W.KF.slot_gs.plain PySem.W.KF.entry_gs (PySem.W.KF.slot_gs.check _ _ _ _ _ _ _ _ PySem.W.KF.type_class (PySem.W.KF.args_gs _ _ _) ?_);unfold Builtin.«getset_descriptor.__get__» descrGet;rw[PySem.W.dga_obj];refine SM (SQ ?_);unfold descrGetter descrCheckInstance descrNameAndClass isInstance;simp only[PySem.W.KF.owner_class];repeat lk
 refine⟨Code.quiet_builtin _ (by decide +kernel),U6 PySem.W.KF.entry_class ?_⟩;unfold Builtin.«object.__class__» shownTypeOf;repeat lk
 exact h
theorem tG{tk:Tok}{Q:PySem.Fin->Shared->Prop}(k:Asks K D)(X:K.In s.heap)(I:ExAt x D s.heap)(h:Q (.done (.ret (.ref D))) s):
  wpAny (model prog w) A (Builtin.«object.__getattribute__» ⟨[.ref x,.str "__class__" tk],[]⟩) Q E s:=by
 obtain⟨hp,gs,dr,tt,oo⟩:=s;have Ty:=I.ty (M:=model prog w);have Fd:=wC (M:=model prog w) (x:=x) k X;unfold Builtin.«object.__getattribute__»;repeat (any_goals (first|assumption|with_reducible refine Ty.at ?_|with_reducible refine Fd.at ?_|wp_step))
 refine zp k X I ?_;repeat (any_goals (first|assumption|wp_step))
theorem tH{M:Model}{nv:Value}{Q:Unit->Shared->Prop}(k:Asks K D)(X:K.In s.heap)(I:ExAt x D s.heap)(h:Q () s):wpAny M A (checkBuiltinCall "BaseException.__getattribute__" ⟨[.ref x,nv],[]⟩) Q E s:=by
 obtain⟨hp,gs,dr,tt,oo⟩:=s;have z1:builtinKind "BaseException.__getattribute__" = some .slot:=by decide +kernel
 have z2:splitId "BaseException.__getattribute__" = some ("BaseException","__getattribute__"):=by decide +kernel
 have z3:=F.args_bexc_ga (.ref x) nv;have Ty:=I.ty (M:=M);have Mb:=W5 (M:=M) X k.mb;simp only[checkBuiltinCall,z1,z2];refine SM ?_;unfold isInstance;repeat (any_goals (first|assumption|with_reducible refine Ty.at ?_|with_reducible refine Mb.at ?_|wp_step))
theorem BZ{tk:Tok}{fill ex:Bool}{Q:Value->Shared->Prop}(k:Asks K D)(X:K.In s.heap)(I:ExAt x D s.heap)(h:Q (.ref D) s):wpAny (model prog w) A (getAttrBy (.ref x) (.str "__class__" tk) fill ex) Q E s:=by
 obtain⟨hp,gs,dr,tt,oo⟩:=s;have Ty:=I.ty (M:=model prog w);have G1:=VI (M:=model prog w) X k.ga;have G2:=VI (M:=model prog w) X k.gn;have z0:(ex&&onTheHeap (Value.builtin "BaseException.__getattribute__"))=false:=by cases ex <;> rfl
 have z2:(Value.builtin "BaseException.__getattribute__" == Value.builtin "object.__getattribute__")=false:=by decide +kernel
 have z1:(onTheHeap (Value.ref D)&&Value.builtin "BaseException.__getattribute__" == Value.builtin "object.__getattribute__")=false:=by rw[z2];rfl
 have z3:=F.attr_ValueError.ga.bind (.ref x);repeat (any_goals (first|assumption|with_reducible refine Ty.at ?_|with_reducible refine G1.at ?_|with_reducible refine G2.at ?_|wp_step))
 refine VG F.attr_ValueError.ga.plain F.entry_bexc_ga (tH k X I (tG k X I ?_));repeat (any_goals (first|assumption|wp_step))
theorem tI(k:Asks K D)(X:K.In s.heap)(I:ExAt x D s.heap){Q:Option Value->Shared->Prop}(h:Q (some (.ref D)) {s with toks:=s.toks+1}):wpAny (model prog w) A (getAttr? (.ref x) "__class__") Q E s:=by
 unfold getAttr? getAttrBy?;refine SM (wpAny_mkText (SM (VN (BZ (s:={s with toks:=s.toks+1}) k X I (SQ h)))))
theorem oW(k:Asks K D):PySem.W.KitX K (.ref x) (.ref D) (ExAt x D) where
 ty:=fun _ _ _ I=>I.ty
 it:=fun M h X _=>by
  obtain⟨cd,e⟩:=k.cls;unfold PySem.W.clsIn at e;split at e
  ·rename_i ho;intro A' Q' E' s' kk q;unfold isType loadHead;exact SM (wpAny_loadPart (kk _ _ (X _ _ ho)) (SQ q))
  ·cases e
 ne:=fun h tp dd GQ n sl X Rp=>by
  obtain⟨cd,e⟩:=k.cls;refine Bool.eq_false_iff.mpr fun q=>?_
  cases Value.ref.inj (Tu.mp q);unfold PySem.W.clsIn at e;split at e
  ·rename_i ho;cases(X _ _ ho).symm.trans Rp
  ·cases e
 ca:=fun X I h=>tI k X I h
end
abbrev asX(X:Cx)(a:Addr)(o:Obj):Cx:={X with A:=X.A.mark (some (.ref a)),calm:=false,xe:=fun _ _=>False,pn:=(a,o)::X.pn}
section
variable{X:Cx}{pr:List (Addr×Obj)}{σ:L2.St}{H:Hp}{s:Shared}{a:Addr}{o:Obj}
theorem B0(I:Inv X pr σ H s)(h1:s.heap.get? a=some o)(h2:H a=none)(h3:a≠X.env.locals)(h4:a∉X.fs)(h5:∀v,o.data≠.cell v):Inv (asX X a o) pr σ H s:=
 ⟨⟨I.ok.mod,I.ok.kind,I.ok.glob,I.ok.blt,I.ok.above,I.ok.inj,I.ok.has,I.ok.cab,(fun z=>nomatch z),I.ok.frames,I.ok.stk,I.ok.exf,I.ok.bs,I.ok.bsz,I.ok.noex,I.ok.exfs,I.ok.funs,I.ok.frf⟩,I.os,I.bare,I.base,I.loc,I.cell,I.free,I.freeC,fun p hp=>by
  rcases S3.mp (show p∈(a,o)::(X.pn++pr) from hp) with rfl|hp
  ·exact⟨h1,h2,h3,h4,h5⟩
  ·exact I.pin p hp,I.hok,I.len⟩
theorem wF(ok:X.Ok)(I:Inv (asX X a o) pr σ H s):Inv X pr σ H s:=⟨ok,I.os,I.bare,I.base,I.loc,I.cell,I.free,I.freeC,fun p hp=>I.pin p (SU _ hp),I.hok,I.len⟩
theorem wG{i:Nat}{x:Str}{m:Str->Option Value}{v:Option Value}{h':Heap}{t':Nat}(I:Inv X pr σ H s)(hN:X.N.Nodup)(hi:X.N[i]?=some x)(hm:s.heap.Ns X.env.locals m)
  (hn:h'.Ns X.env.locals (fun y=>if y=x then v else m y)) (hs:Heap.SameBut X.env.locals s.heap h'):Inv X pr (σ.set i none) H {s with heap:=h',toks:=t'}:=by
 have Rq:∀b o,X.s₀.heap.get? b=some o->b≠X.env.locals:=fun b o e=>S8 (S6 (S2 e) I.ok.above)
 have hl:i<σ.length:=by rw[I.len];exact(List.getElem?_eq_some_iff.mp hi).1
 refine⟨I.ok,I.os,I.bare,⟨fun b o e n hb hx=>?_,fun b o e n hb hx=>?_,I.base.free,fun b o e hx=>?_,I.base.tups,I.base.frzs,I.base.tbls⟩,⟨_,hn,fun j y v' e1 e2 e3=>?_⟩,fun y c e=>?_,I.free,I.freeC,fun p hp=>?_,fun b ob e=>?_,by rw[Tz];exact I.len⟩
 ·rw[hs.2 b (Rq b o e)];exact I.base.keep b o e n hb hx
 ·rw[hs.2 b (Rq b o e)];exact I.base.slot b o e n hb hx
 ·rw[hs.2 b (Rq b o e)];exact I.base.there b o e hx
 ·have hj:j≠i:=fun z=>by
   subst z;rw[List.getElem?_set_self hl]at e2;cases e2
  rw[List.getElem?_set_ne (Ui hj)]at e2;obtain⟨m',hm',Rr⟩:=I.loc;obtain⟨u',r',q⟩:=Rr j y v' e1 e2 e3;refine⟨u',r',?_⟩;rcases q with⟨kk,e⟩|⟨kk,c,e,z⟩
  ·refine .inl ⟨kk,?_⟩;have ne:y≠x:=fun e=>hj (lx hN e1 (e▸hi))
   dsimp only;rw[S4 ne];obtain⟨o1,Rt,Se,a1,b1,c1,d1⟩:=hm;obtain⟨o2,OP,Sg,a2,b2,c2,d2⟩:=hm';rw[a1]at a2;cases a2;rw[b1]at b2;cases b2;rw[<-d1 y,d2 y];exact e
  ·exact .inr ⟨kk,c,e,z.sameBut hs (I.cne y c e)⟩
 ·obtain⟨w',z⟩:=I.cell y c e;exact⟨w',z.sameBut hs (I.cne y c e)⟩
 ·obtain⟨e,n,ne,nf,d⟩:=I.pin p hp;exact⟨(hs.2 p.1 ne).trans e,n,ne,nf,d⟩
 ·refine(I.hok b ob e).stay (fun c w' hc q=>(hs.2 c ?_).trans q) (fun _ q=>q) fun _ _ q=>q
  rintro rfl;rcases hc with rfl|hc
  ·rw[I.free]at e;cases e
  ·rw[I.free]at hc;cases hc
end
def goneE(i:Nat)(D:Ends):Ends:={nx:=fun σ H=>D.nx (σ.set i none) H,rt:=D.rt,bk:=fun σ H=>D.bk (σ.set i none) H,ct:=fun σ H=>D.ct (σ.set i none) H}
theorem wH{X:Cx}{body Kg:List Stmt}{b0:Stmt}{x n:Str}{i:Nat}{C:Addr}{np Mt pos:Pos}{t:TS}{th:Addr->TS}{tx:TX}(O:NN X.mg X.base x C)(hg:Gl X x)(hn:PSs X.nox body t)(hx:Ro X body C tx)
  (hh:∀a o vs,o.cls=.ref C->o.data=.fields vs->PSs (asX X a o) (b0::Kg) (th a)) (hN:X.N.Nodup) (hi:X.N[i]?=some n) (hl:X.env.kindOf n=some .local) (Qv:X.env.scope.names.lookup n=some .local)
  (hs:X.stack=X.env::X.outer:=by rfl) (hf:X.env.frame=some X.env.locals:=by rfl) (Ie:(x==("__debug__" : Str))=false:=by decide):
  PS X (.Try body [.ExceptHandler (some (.Name x np)) (some n) (b0::Kg) Mt] [] [] pos) (fun D σ H=>t D σ H\/tx σ H fun H'=>∀a,th a (goneE i D) (σ.set i (some (.ref a))) H'):=by
 intro pr s σ H D I h;rcases h with h|h
 ·refine wpAny_Try_except (TZ (hn pr s σ H D (I.wish _) h) (fun f s1 q=>?_) fun _ _ z=>z.elim);have q:=q.unwish;cases f with
  |next=>exact Vm q
  |ret v=>exact q
  |brk=>exact q
  |cont=>exact q
 refine wpAny_Try_except (TZ (hx pr s σ H _ I h) (fun _ _ z=>z.elim) fun e s1 z=>?_);obtain⟨s0,H1,I1,a,tt,B,H',rfl,K4,hgen,un,hok,Np,Qw,hW⟩:=z;have nt:∀b,H' b≠none->b∉Jb X.stack:=fun b n z=>by
  obtain⟨_,o,ho,_⟩:=I1.stack.mem z;exact n (un.free b o ho (I1.stkFree b z) fun z=>nomatch z)
 have key:∀h6:Heap,Heap.FlyingW B X.stack a (.ref C) (.ref tt) h6->s1.heap.UpToSlots h6->Inv X pr σ H' {s1 with heap:=h6}:=fun h6 f6 sm=>by
  have sl:∀b u,s1.heap.get? b=some u->b∈Jb X.stack->∃z,h6.get? b=some {u with slots:=z}:=fun b u q n=>by
   obtain⟨_,o,ho,hd⟩:=Np.2.2.1.mem n;rw[q]at ho;cases ho;exact sm b u q hd
  refine I1.call' (ch:=[]) K4 ⟨fun b o q n hb hx=>?_,fun b o q n hb hx=>?_,un.free,fun b o q hx=>?_,un.tups,un.frzs,un.tbls⟩ (fun b o e=>?_) hgen fun b z=>nomatch z
  ·have:=un.keep b o q n hb hx;exact f6.1 b o (Qw b o this (.inr ⟨o,q⟩) hb)
  ·obtain⟨z,e⟩:=un.slot b o q n hb hx;obtain⟨z',e'⟩:=sl b _ e hb;exact⟨z',e'⟩
  ·obtain⟨o',e⟩:=un.there b o q hx;by_cases hb:b∈Jb X.stack
   ·obtain⟨z,e'⟩:=sl b o' e hb;exact⟨_,e'⟩
   ·exact⟨o',f6.1 b o' (Qw b o' e (.inr ⟨o,q⟩) hb)⟩
  ·refine(hok b o e).stay (fun c u hc q=>?_) (fun _ q=>q) fun _ _ q=>q
   have hc:H' c≠none:=by
    rcases hc with rfl|hc
    ·rw[e];exact fun z=>nomatch z
    ·rw[hc];exact fun z=>nomatch z
   exact f6.1 c u (Qw c u q (.inl hc) (nt c hc))
 have Ru:a∉Jb X.stack:=fun z=>by
  obtain⟨_,o,ho,hd⟩:=Np.2.2.1.mem z;obtain⟨_,_,_,oe,vs,T,oT,ts,he,_,hv,_⟩:=Np;rw[he]at ho;cases ho;exact hd vs hv
 have naH:H' a=none:=by
  cases hq:H' a with
  |none=>rfl
  |some u=>
   exfalso;obtain⟨ob,e⟩:=ook_get (hok a u hq);have:=Qw a ob e (.inl (by rw[hq];exact fun z=>nomatch z)) Ru;rw[Np.2.1]at this;cases this
 have naL:a≠X.env.locals:=fun z=>Ru (by
  unfold Jb;rw[hs,UX,hf,z];exact SN)
 have naF:a∉X.fs:=fun z=>Ru (by
  have z:a∈X.outer.filterMap (·.frame):=z;unfold Jb;rw[hs,UX,hf];exact SU _ z)
 have fl:Heap.FlyingW B (X.env::X.outer) a (.ref C) (.ref tt) s1.heap:=by rw[<-hs];exact Np
 refine wpAny_looks_onW (by rw[<-hs];exact I1.ok.frames) hf fl fun h4 Pf sm4=>?_
 refine wpAny_landsW Pf fun h5 NO sm5=>?_
 have Pg:=sm4.trans sm5;have I5:=wB (key h5 (by rw[hs];exact NO) Pg) a;obtain⟨ob,NP,hobc⟩:=NO.there;refine wpAny_handleBy_cons (codeAny_handlers_test (jG I5 hg (show(handX X a).mg x=some (.ref C) from by obtain⟨_,_,_,_,_,O⟩:=O;exact O.bound) ?_ Ie)) (by intro q;cases q);obtain⟨_,_,_,bm,FB,O⟩:=O;obtain⟨tl,N,nm,q,bs,hdct,sn,sub,ab,col,dd,k0,k1,k2,k3,k5,mN,hC,hNN,Pe,T⟩:=O.obj;refine wpAny_excMatches_sub_self (I5.bk _ _ hC) NP hobc (T.hasType FB.hasBase) (codeAny_handlers_suite_as ?_);refine lands_againW NO fun h6 Ph sm6=>?_
 have I6:=key h6 (by rw[hs];exact Ph) (Pg.trans sm6);obtain⟨_,_,_,oe,vs,_,_,_,he,JO,hv,_⟩:=id Ph;have I7:=B0 (a:=a) (o:=oe) I6 he naH naL naF fun v z=>by rw[hv]at z;cases z
 refine ly (X:=asX X a oe) (x:=n) (i:=i) (v:=.ref a) I7 hN hi (.inl Qv) rfl (fun s2 I2=>?_) (.inr Qv);refine TZ (hh a oe vs JO.1 hv pr s2 _ H' (goneE i D) I2 (hW a)) (fun f s3 q=>?_) fun _ _ z=>z.elim
 have go:∀{σ':L2.St}{NQ:Hp},Inv (asX X a oe) pr σ' NQ s3->∀{Q:Unit->Shared->Prop}{A':Around}{E':Value->Shared->Prop},(∀s4,Inv X pr (σ'.set i none) NQ s4->Q () s4)->wpAny (model X.prog X.w) A' (do bindName X.env n .none;unbindBehindTheSuite X.env n Mt) Q E' s3:=fun{σ' NQ} I8 {Q A' E'} kk=>by
  have I9:=wF I6.ok I8;obtain⟨m,hm,_⟩:=id I9.loc;exact wpAny_nameGoes_keeps hl hm (by rw[I9.ok.kind];rfl) fun h' v QV sb=>kk _ (wG I9 hN hi hm QV sb)
 cases f with
 |next=>obtain⟨σ',NQ,I8,q⟩:=q;exact go I8 fun s4 I9=>⟨_,_,I9,q⟩
 |brk=>obtain⟨σ',NQ,I8,q⟩:=q;exact go I8 fun s4 I9=>⟨_,_,I9,q⟩
 |cont=>obtain⟨σ',NQ,I8,q⟩:=q;exact go I8 fun s4 I9=>⟨_,_,I9,q⟩
 |ret u=>obtain⟨v,σ',NQ,I8,r,q⟩:=q;exact go I8 fun s4 I9=>⟨v,_,_,I9,r,q⟩
end NX
namespace NX
open PySem PySem.W PySem.Spec PyProof.Rows L2
section
variable{prog:Program}{w:World}{A:Around}{E:Value->Shared->Prop}{s:Shared}
theorem oX{l:Addr}{vs:List Value}{Q:List Value->Shared->Prop}(pl:IsTup s.heap l vs.toArray)
  (go:∀h' tk,(∀b o,s.heap.get? b=some o->h'.get? b=some o)->Q vs {s with heap:=h',toks:=tk}) (hz:vs.length<=sizeLine):wpAny (model prog w) A (collect (.ref l)) Q E s:=by
 obtain⟨ob,eo,ec,nn,ed⟩:=pl;have e1:(s.heap.push (seqObj "list" #[] 0)).get? l=some ob:=Heap.get?_push_of_some _ eo;have e2:=Heap.get?_push_size s.heap (o:=seqObj "list" #[] 0) rfl;unfold collect;refine SM (wpAny_runValue (U6 entry_proto_collect' ?_));show wpAny _ _ (do again (.builtin "list.__iadd__" ⟨[<-newList [],.ref l],[]⟩)) _ _ s;refine SM (Wj (SQ ⟨Code.quiet_builtin _ (by decide +kernel),U6 entry_list_iadd' ?_⟩));show wpAny _ _ (Builtin.List.listExtendWith (.ref s.heap.objs.size) (.ref l) (.ref s.heap.objs.size)) _ _ {s with heap:=s.heap.push (seqObj "list" #[] 0)};unfold Builtin.List.listExtendWith;refine SM (UU (T:="tuple") ⟨ob,e1,ec⟩ ?_);rw[S1 (by rw[VR];exact .inr (by decide))];refine SM (listItems_at e1 ed (SM (listItems_at (xs:=#[]) (n:=0) e2 rfl ?_)));rw[S4 (by simp)];refine SM (Wi (xs:=#[]) (n:=0) e2 rfl (SQ ?_) (Tw _) (by rw[Array.size_append,SR];simp only[SR,TL];lia));refine SM (wpAny_load (get?_update_seq e2 _) ?_);show wpAny _ _ (pure ((#[]:Array Value)++vs.toArray).toList) Q E _;rw[show((#[]:Array Value)++vs.toArray).toList=vs by simp];exact SQ (go _ s.toks fun b o e=>(Heap.get?_update_other _ _ (Ui (S8 (S2 e)))).trans (Heap.get?_push_of_some _ e))
end
section
variable{X:Cx}
theorem nj(hc:X.calm=true):c6 X (.builtin "sorted") (fun vs H Q=>∃(p:Addr) (ls:List (List Nat)),vs=[.ref p]/\SqT X.K H p (ls.map fun l=>V.str (S l))/\ls.length<64/\∀(D:Addr) (ms:List (List Nat)),H D=none->ms.Perm ls->ms.Pairwise (fun a b=>¬ b<a)->Q (.ref D) (upd H D (.lst (ms.map fun l=>V.str (S l))))):=by
 intro pr s σ H vs us Q I r h;obtain⟨p,ls,rfl,hp,Kz,q⟩:=h;obtain⟨u,rfl,r1⟩:=fe r;cases r1;obtain⟨ws,rv,pl,hz⟩:=I.tuple hp;have hl:=rv.length;rw[SO]at hl;refine kS (O:=DK) (key:=fun i=>ls.getD i []) (kd:=oneType') (vs:=ws) (fun Q' hq=>oX pl hq (by rw[TQ];lia)) (by lia) (fun h2 A' E' s' kk Q' q'=>?_) (fun i j hi hj s' kk C q'=>?_) fun pp h5 h' tk e IK hs k5 k' he=>?_
 ·refine kas_kind h2 (T:=.type "str") (fun v hv=>?_) (by decide) (by decide) q';obtain⟨i,hi⟩:=Ua.mp hv;obtain⟨t,rfl⟩:=iO rv hi;exact fun A Q E s _ q=>UU (V7 s _ t) q
 ·unfold kas_ask;have e1:ws[i]?=some (ws.getD i .none):=by rw[aW _ _ _ hi];exact List.getElem?_eq_getElem hi
  have e2:ws[j]?=some (ws.getD j .none):=by rw[aW _ _ _ hj];exact List.getElem?_eq_getElem hj
  obtain⟨t,Pb⟩:=iO rv e1;obtain⟨t',Pc⟩:=iO rv e2;rw[Pb,Pc];refine kas_lt_str ?_;rw[cN,cN];exact q'
 ·rw[<-hl]at IK hs;have Mp:POk (ls.map fun l=>V.str (S l)).length pp:=by rw[SO];exact IK
  have eo:oJ pp (ls.map fun l=>V.str (S l))=(pp.toList.map fun i=>ls.getD i []).map fun l=>V.str (S l):=by
   unfold oJ;rw[Td];refine T6 fun i hi=>?_
   have hi:=TB.mp (IK.perm.mem_iff.mp hi);show(ls.map fun l=>V.str (S l)).getD i .non=V.str (S (ls.getD i []));rw[aW _ _ _ (by rw[SO];exact hi),aW _ _ _ hi];simp
  have I5:Inv X pr σ H {s with heap:=h5,toks:=tk}:=I.kept k5;have hn:H h5.objs.size=none:=I5.hok.fresh (SV _);refine⟨.ref h5.objs.size,_,fE (s:={s with heap:=h5,toks:=tk}) I5 k' (SV _) he (ia rv Mp) ?_,rfl,?_⟩
  ·show(oJ pp (ls.map fun l=>V.str (S l))).length<=sizeLine;rw[eo,SO,SO,IK.perm.length_eq,Tr,TQ];lia
  ·rw[eo];refine q _ _ hn (hZ [] IK) ?_;refine(dZ (O:=DK) [] (fun l:List Nat=>l) IK hs).imp fun{a b} LI=>?_
   have LI:decide (b<a)=false:=LI;exact V0 LI
end
end NX
namespace PV
open PySem L2 NX
inductive D where
 |non|bl (b:Bool)|int (i:Int)|str (l:List Nat)|tup (ds:List D)|lst (ds:List D)|dct (tk:Bool) (ks vs:List D)
inductive O where
 |f|l (c:O)|t (cs:List O)|d|pin (p:Addr) (c:O)
abbrev R:=O×D
abbrev Env:=List (Option R)
inductive Res(α:Type) where
 |ok (a:α)|exc (c:List Nat)|bad
def kD:Key->D
 | .inl i=>.int i
 | .inr x=>.str x.cps.toList
def isM:HO->Bool
 | .lst _=>true
 | .dK _=>true
 | .dT _=>true
 |_=>false
def isT:HO->Bool
 | .tup _=>true
 | .frz _ (.tup _)=>true
 |_=>false
def rh:Key->Prop
 | .inl _=>True
 | .inr x=>x.cps.toList.length<=sizeLine
def DictO(o:HO)(tk:Bool)(ks:List D)(xs:List V):Prop:=match tk with
 |true=>∃kvs:List (List Key×V),o=.dT kvs/\ks=kvs.map (fun kv=>D.tup (kv.1.map kD))/\xs=kvs.map (·.2)/\∀kv∈kvs,∀k∈kv.1,rh k
 |false=>∃kvs:List (Key×V),o=.dK kvs/\ks=kvs.map (fun kv=>kD kv.1)/\xs=kvs.map (·.2)/\∀kv∈kvs,rh kv.1
mutual
noncomputable def Rep(K:W.Frag)(G:Hp):D->V->Prop
 | .non,v=>v=.non
 | .bl b,v=>v=.bl b
 | .int i,v=>v=.int i
 | .str l,v=>v=.str (S l)/\l.length<=sizeLine
 | .tup ds,v=>∃p xs,v=.ref p/\G p=some (.tup xs)/\Reps K G ds xs
 | .lst ds,v=>∃p xs,v=.ref p/\SqL K G p xs/\Reps K G ds xs
 | .dct tk ks vs,v=>∃p xs o,v=.ref p/\Rd G p o/\DictO o tk ks xs/\Reps K G vs xs
noncomputable def Reps(K:W.Frag)(G:Hp):List D->List V->Prop
 |[],xs=>xs=[]
 |d::ds,xs=>∃y ys,xs=y::ys/\Rep K G d y/\Reps K G ds ys
end
def AllO(P:D->V->List Addr->Prop):List D->List V->List Addr->Prop
 |[],xs,fp=>xs=[]/\fp=[]
 |d::ds,xs,fp=>∃y ys a b,xs=y::ys/\fp=a++b/\P d y a/\AllO P ds ys b
mutual
noncomputable def RepO(K:W.Frag)(G H:Hp):O->D->V->List Addr->Prop
 | .f,d,v,fp=>Rep K G d v/\fp=[]
 | .l c,.lst ds,v,fp=>∃p xs GS,v=.ref p/\H p=some (.lst xs)/\fp=p::GS/\AllO (RepO K G H c) ds xs GS
 | .t cs,.tup ds,v,fp=>∃p xs,v=.ref p/\G p=some (.tup xs)/\RepT K G H cs ds xs fp
 | .d,.dct tk ks vs,v,fp=>∃p xs o,v=.ref p/\H p=some o/\DictO o tk ks xs/\fp=[p]/\Reps K G vs xs
 | .pin p c,d,v,fp=>v=.ref p/\RepO K G H c d v fp
 |_,_,_,_=>False
noncomputable def RepT(K:W.Frag)(G H:Hp):List O->List D->List V->List Addr->Prop
 |[],[],xs,fp=>xs=[]/\fp=[]
 |c::cs,d::ds,xs,fp=>∃y ys a b,xs=y::ys/\fp=a++b/\RepO K G H c d y a/\RepT K G H cs ds ys b
 |_,_,_,_=>False
end
section
variable{K:W.Frag}{G G' H H':Hp}
theorem Rd.mono{p:Addr}{u:HO}(h:Same G G')(r:Rd G p u):Rd G' p u:=by
 rcases r with r|⟨o,r⟩
 ·exact .inl (h _ _ r)
 ·exact .inr ⟨o,h _ _ r⟩
theorem gv{p:Addr}{xs:List V}(h:Same G G')(r:SqL K G p xs):SqL K G' p xs:=r.elim (fun r=>.inl (Rd.mono h r)) .inr
theorem bF{p:Addr}{xs:List V}(h:Same G G')(r:SqT K G p xs):SqT K G' p xs:=r.elim (fun r=>.inl (Rd.mono h r)) .inr
mutual
theorem Rep.mono(h:Same G G'):∀{d:D}{v:V},Rep K G d v->Rep K G' d v
 | .non,_,r=>by simpa only[Rep] using r
 | .bl _,_,r=>by simpa only[Rep] using r
 | .int _,_,r=>by simpa only[Rep] using r
 | .str _,_,r=>by simpa only[Rep] using r
 | .tup ds,_,r=>by
  simp only[Rep]at r ⊢;obtain⟨p,xs,e,q,rs⟩:=r;exact⟨p,xs,e,h _ _ q,Reps.mono h rs⟩
 | .lst ds,_,r=>by
  simp only[Rep]at r ⊢;obtain⟨p,xs,e,q,rs⟩:=r;exact⟨p,xs,e,gv h q,Reps.mono h rs⟩
 | .dct tk ks vs,_,r=>by
  simp only[Rep]at r ⊢;obtain⟨p,xs,o,e,q,dd,rs⟩:=r;exact⟨p,xs,o,e,Rd.mono h q,dd,Reps.mono h rs⟩
theorem Reps.mono(h:Same G G'):∀{ds:List D}{xs:List V},Reps K G ds xs->Reps K G' ds xs
 |[],_,r=>by simpa only[Reps] using r
 |d::ds,_,r=>by
  simp only[Reps]at r ⊢;obtain⟨y,ys,e,r1,r2⟩:=r;exact⟨y,ys,e,Rep.mono h r1,Reps.mono h r2⟩
end
theorem AllO.imp{P P':D->V->List Addr->Prop}:∀{ds:List D}{xs:List V}{fp:List Addr},(∀d v a,(∀p∈a,p∈fp)->P d v a->P' d v a)->AllO P ds xs fp->AllO P' ds xs fp
 |[],_,_,_,r=>r
 |d::ds,xs,fp,h,r=>by
  obtain⟨y,ys,a,b,e1,e2,p,q⟩:=r;subst e2;exact⟨y,ys,a,b,e1,rfl,h _ _ _ (fun p hp=>SW _ hp) p,AllO.imp (fun d v c hc=>h d v c fun p hp=>SS _ (hc p hp)) q⟩
mutual
theorem RepO.step(h:Same G G'):∀{o:O}{d:D}{v:V}{fp:List Addr},(∀p∈fp,H' p=H p)->RepO K G H o d v fp->RepO K G' H' o d v fp
 | .f,d,v,fp,hk,r=>by
  simp only[RepO]at r ⊢;exact⟨Rep.mono h r.1,r.2⟩
 | .pin p c,d,v,fp,hk,r=>by
  simp only[RepO]at r ⊢;exact⟨r.1,RepO.step h hk r.2⟩
 | .l c,.lst ds,v,fp,hk,r=>by
  simp only[RepO]at r ⊢;obtain⟨p,xs,GS,e,q,e2,a⟩:=r;subst e2;exact⟨p,xs,GS,e,(hk p SN).trans q,rfl,AllO.imp (fun d v c hc=>RepO.step h fun z hz=>hk z (SU _ (hc z hz))) a⟩
 | .t cs,.tup ds,v,fp,hk,r=>by
  simp only[RepO]at r ⊢;obtain⟨p,xs,e,q,a⟩:=r;exact⟨p,xs,e,h _ _ q,RepT.step h hk a⟩
 | .d,.dct tk ks vs,v,fp,hk,r=>by
  simp only[RepO]at r ⊢;obtain⟨p,xs,o,e,q,dd,e2,rs⟩:=r;subst e2;exact⟨p,xs,o,e,(hk p SN).trans q,dd,rfl,Reps.mono h rs⟩
 | .l _,.non,_,_,_,r | .l _,.bl _,_,_,_,r | .l _,.int _,_,_,_,r | .l _,.str _,_,_,_,r | .l _,.tup _,_,_,_,r | .l _,.dct _ _ _,_,_,_,r=>by simp only[RepO]at r
 | .t _,.non,_,_,_,r | .t _,.bl _,_,_,_,r | .t _,.int _,_,_,_,r | .t _,.str _,_,_,_,r | .t _,.lst _,_,_,_,r | .t _,.dct _ _ _,_,_,_,r=>by simp only[RepO]at r
 | .d,.non,_,_,_,r | .d,.bl _,_,_,_,r | .d,.int _,_,_,_,r | .d,.str _,_,_,_,r | .d,.tup _,_,_,_,r | .d,.lst _,_,_,_,r=>by simp only[RepO]at r
theorem RepT.step(h:Same G G'):∀{cs:List O}{ds:List D}{xs:List V}{fp:List Addr},(∀p∈fp,H' p=H p)->RepT K G H cs ds xs fp->RepT K G' H' cs ds xs fp
 |[],[],_,_,_,r=>by simpa only[RepT] using r
 |c::cs,d::ds,xs,fp,hk,r=>by
  simp only[RepT]at r ⊢;obtain⟨y,ys,a,b,e1,e2,r1,r2⟩:=r;subst e2;exact⟨y,ys,a,b,e1,rfl,RepO.step h (fun p hp=>hk p (SW _ hp)) r1,RepT.step h (fun p hp=>hk p (SS _ hp)) r2⟩
 |[],_::_,_,_,_,r=>by simp only[RepT]at r
 |_::_,[],_,_,_,r=>by simp only[RepT]at r
end
theorem AllO.frozen{P:D->V->List Addr->Prop}:∀{ds:List D}{xs:List V}{fp:List Addr},(∀d v a,(∀p∈a,p∈fp)->P d v a->Rep K G' d v)->AllO P ds xs fp->Reps K G' ds xs
 |[],_,_,_,r=>by simp only[Reps];exact r.1
 |d::ds,xs,fp,h,r=>by
  obtain⟨y,ys,a,b,e1,e2,p,q⟩:=r;subst e2;simp only[Reps];exact⟨y,ys,e1,h _ _ _ (fun p hp=>SW _ hp) p,AllO.frozen (fun d v c hc=>h d v c fun p hp=>SS _ (hc p hp)) q⟩
mutual
theorem RepO.frozen(h:Same G G'):∀{o:O}{d:D}{v:V}{fp:List Addr},(∀p∈fp,∀u,H p=some u->G' p=some u)->RepO K G H o d v fp->Rep K G' d v
 | .f,d,v,fp,hk,r=>by
  simp only[RepO]at r;exact Rep.mono h r.1
 | .pin p c,d,v,fp,hk,r=>by
  simp only[RepO]at r;exact RepO.frozen h hk r.2
 | .l c,.lst ds,v,fp,hk,r=>by
  simp only[RepO]at r;simp only[Rep];obtain⟨p,xs,GS,e,q,e2,a⟩:=r;subst e2;exact⟨p,xs,e,SqL.of (hk p SN _ q),AllO.frozen (fun d v c hc=>RepO.frozen h fun z hz=>hk z (SU _ (hc z hz))) a⟩
 | .t cs,.tup ds,v,fp,hk,r=>by
  simp only[RepO]at r;simp only[Rep];obtain⟨p,xs,e,q,a⟩:=r;exact⟨p,xs,e,h _ _ q,RepT.frozen h hk a⟩
 | .d,.dct tk ks vs,v,fp,hk,r=>by
  simp only[RepO]at r;simp only[Rep];obtain⟨p,xs,o,e,q,dd,e2,rs⟩:=r;subst e2;exact⟨p,xs,o,e,.inl (hk p SN _ q),dd,Reps.mono h rs⟩
 | .l _,.non,_,_,_,r | .l _,.bl _,_,_,_,r | .l _,.int _,_,_,_,r | .l _,.str _,_,_,_,r | .l _,.tup _,_,_,_,r | .l _,.dct _ _ _,_,_,_,r=>by simp only[RepO]at r
 | .t _,.non,_,_,_,r | .t _,.bl _,_,_,_,r | .t _,.int _,_,_,_,r | .t _,.str _,_,_,_,r | .t _,.lst _,_,_,_,r | .t _,.dct _ _ _,_,_,_,r=>by simp only[RepO]at r
 | .d,.non,_,_,_,r | .d,.bl _,_,_,_,r | .d,.int _,_,_,_,r | .d,.str _,_,_,_,r | .d,.tup _,_,_,_,r | .d,.lst _,_,_,_,r=>by simp only[RepO]at r
theorem RepT.frozen(h:Same G G'):∀{cs:List O}{ds:List D}{xs:List V}{fp:List Addr},(∀p∈fp,∀u,H p=some u->G' p=some u)->RepT K G H cs ds xs fp->Reps K G' ds xs
 |[],[],_,_,_,r=>by simp only[RepT]at r;simp only[Reps];exact r.1
 |c::cs,d::ds,xs,fp,hk,r=>by
  simp only[RepT]at r;simp only[Reps];obtain⟨y,ys,a,b,e1,e2,r1,r2⟩:=r;subst e2;exact⟨y,ys,e1,RepO.frozen h (fun p hp=>hk p (SW _ hp)) r1,RepT.frozen h (fun p hp=>hk p (SS _ hp)) r2⟩
 |[],_::_,_,_,_,r=>by simp only[RepT]at r
 |_::_,[],_,_,_,r=>by simp only[RepT]at r
end
theorem AllO.live{P:D->V->List Addr->Prop}:∀{ds:List D}{xs:List V}{fp:List Addr},(∀d v a,P d v a->∀p∈a,∃u,H p=some u)->AllO P ds xs fp->∀p∈fp,∃u,H p=some u
 |[],_,_,_,r=>by rw[r.2];intro p hp;cases hp
 |d::ds,xs,fp,h,r=>by
  obtain⟨y,ys,a,b,e1,e2,p,q⟩:=r;subst e2;intro z hz;rcases Tn.mp hz with hz|hz
  ·exact h _ _ _ p z hz
  ·exact AllO.live h q z hz
mutual
theorem RepO.live:∀{o:O}{d:D}{v:V}{fp:List Addr},RepO K G H o d v fp->∀p∈fp,∃u,H p=some u
 | .f,d,v,fp,r=>by
  simp only[RepO]at r;rw[r.2];intro p hp;cases hp
 | .pin p c,d,v,fp,r=>by
  simp only[RepO]at r;exact RepO.live r.2
 | .l c,.lst ds,v,fp,r=>by
  simp only[RepO]at r;obtain⟨p,xs,GS,e,q,e2,a⟩:=r;subst e2;intro z hz;rcases S3.mp hz with rfl|hz
  ·exact⟨_,q⟩
  ·exact AllO.live (fun d v a=>RepO.live) a z hz
 | .t cs,.tup ds,v,fp,r=>by
  simp only[RepO]at r;obtain⟨p,xs,e,q,a⟩:=r;exact RepT.live a
 | .d,.dct tk ks vs,v,fp,r=>by
  simp only[RepO]at r;obtain⟨p,xs,o,e,q,dd,e2,rs⟩:=r;subst e2;intro z hz;rw[Te]at hz;exact⟨_,hz▸q⟩
 | .l _,.non,_,_,r | .l _,.bl _,_,_,r | .l _,.int _,_,_,r | .l _,.str _,_,_,r | .l _,.tup _,_,_,r | .l _,.dct _ _ _,_,_,r=>by simp only[RepO]at r
 | .t _,.non,_,_,r | .t _,.bl _,_,_,r | .t _,.int _,_,_,r | .t _,.str _,_,_,r | .t _,.lst _,_,_,r | .t _,.dct _ _ _,_,_,r=>by simp only[RepO]at r
 | .d,.non,_,_,r | .d,.bl _,_,_,r | .d,.int _,_,_,r | .d,.str _,_,_,r | .d,.tup _,_,_,r | .d,.lst _,_,_,r=>by simp only[RepO]at r
theorem RepT.live:∀{cs:List O}{ds:List D}{xs:List V}{fp:List Addr},RepT K G H cs ds xs fp->∀p∈fp,∃u,H p=some u
 |[],[],_,_,r=>by
  simp only[RepT]at r;rw[r.2];intro p hp;cases hp
 |c::cs,d::ds,xs,fp,r=>by
  simp only[RepT]at r;obtain⟨y,ys,a,b,e1,e2,r1,r2⟩:=r;subst e2;intro z hz;rcases Tn.mp hz with hz|hz
  ·exact RepO.live r1 z hz
  ·exact RepT.live r2 z hz
 |[],_::_,_,_,r=>by simp only[RepT]at r
 |_::_,[],_,_,r=>by simp only[RepT]at r
end
theorem DictO.isM{o:HO}{tk:Bool}{ks:List D}{xs:List V}(h:DictO o tk ks xs):PV.isM o=true:=by
 cases tk with
 |true=>
  obtain⟨kvs,e,_⟩:=h;rw[e];rfl
 |false=>
  obtain⟨kvs,e,_⟩:=h;rw[e];rfl
theorem AllO.mut{P:D->V->List Addr->Prop}:∀{ds:List D}{xs:List V}{fp:List Addr},(∀d v a,P d v a->∀p∈a,∃u,H p=some u/\isM u=true)->AllO P ds xs fp->∀p∈fp,∃u,H p=some u/\isM u=true
 |[],_,_,_,r=>by rw[r.2];intro p hp;cases hp
 |d::ds,xs,fp,h,r=>by
  obtain⟨y,ys,a,b,e1,e2,p,q⟩:=r;subst e2;intro z hz;rcases Tn.mp hz with hz|hz
  ·exact h _ _ _ p z hz
  ·exact AllO.mut h q z hz
mutual
theorem RepO.mut:∀{o:O}{d:D}{v:V}{fp:List Addr},RepO K G H o d v fp->∀p∈fp,∃u,H p=some u/\isM u=true
 | .f,d,v,fp,r=>by
  simp only[RepO]at r;rw[r.2];intro p hp;cases hp
 | .pin p c,d,v,fp,r=>by
  simp only[RepO]at r;exact RepO.mut r.2
 | .l c,.lst ds,v,fp,r=>by
  simp only[RepO]at r;obtain⟨p,xs,GS,e,q,e2,a⟩:=r;subst e2;intro z hz;rcases S3.mp hz with rfl|hz
  ·exact⟨_,q,rfl⟩
  ·exact AllO.mut (fun d v a=>RepO.mut) a z hz
 | .t cs,.tup ds,v,fp,r=>by
  simp only[RepO]at r;obtain⟨p,xs,e,q,a⟩:=r;exact RepT.mut a
 | .d,.dct tk ks vs,v,fp,r=>by
  simp only[RepO]at r;obtain⟨p,xs,o,e,q,dd,e2,rs⟩:=r;subst e2;intro z hz;rw[Te]at hz;exact⟨_,hz▸q,dd.isM⟩
 | .l _,.non,_,_,r | .l _,.bl _,_,_,r | .l _,.int _,_,_,r | .l _,.str _,_,_,r | .l _,.tup _,_,_,r | .l _,.dct _ _ _,_,_,r=>by simp only[RepO]at r
 | .t _,.non,_,_,r | .t _,.bl _,_,_,r | .t _,.int _,_,_,r | .t _,.str _,_,_,r | .t _,.lst _,_,_,r | .t _,.dct _ _ _,_,_,r=>by simp only[RepO]at r
 | .d,.non,_,_,r | .d,.bl _,_,_,r | .d,.int _,_,_,r | .d,.str _,_,_,r | .d,.tup _,_,_,r | .d,.lst _,_,_,r=>by simp only[RepO]at r
theorem RepT.mut:∀{cs:List O}{ds:List D}{xs:List V}{fp:List Addr},RepT K G H cs ds xs fp->∀p∈fp,∃u,H p=some u/\isM u=true
 |[],[],_,_,r=>by
  simp only[RepT]at r;rw[r.2];intro p hp;cases hp
 |c::cs,d::ds,xs,fp,r=>by
  simp only[RepT]at r;obtain⟨y,ys,a,b,e1,e2,r1,r2⟩:=r;subst e2;intro z hz;rcases Tn.mp hz with hz|hz
  ·exact RepO.mut r1 z hz
  ·exact RepT.mut r2 z hz
 |[],_::_,_,_,r=>by simp only[RepT]at r
 |_::_,[],_,_,r=>by simp only[RepT]at r
end
noncomputable def RepE(K:W.Frag)(G H:Hp):Env->List (Option V)->List Addr->Prop
 |[],vs,fp=>vs=[]/\fp=[]
 |e::es,vs,fp=>∃y ys,vs=y::ys/\match e with
  |none=>RepE K G H es ys fp
  |some r=>∃v a b,y=some v/\fp=a++b/\RepO K G H r.1 r.2 v a/\RepE K G H es ys b
theorem RepE.step(h:Same G G'):∀{es:Env}{vs:List (Option V)}{fp:List Addr},(∀p∈fp,H' p=H p)->RepE K G H es vs fp->RepE K G' H' es vs fp
 |[],_,_,_,r=>r
 |none::es,vs,fp,hk,r=>by
  obtain⟨y,ys,e,r⟩:=r;exact⟨y,ys,e,RepE.step h hk r⟩
 |some r::es,vs,fp,hk,q=>by
  obtain⟨y,ys,e,v,a,b,e1,e2,r1,r2⟩:=q;subst e2;exact⟨y,ys,e,v,a,b,e1,rfl,RepO.step h (fun p hp=>hk p (SW _ hp)) r1,RepE.step h (fun p hp=>hk p (SS _ hp)) r2⟩
theorem RepE.live:∀{es:Env}{vs:List (Option V)}{fp:List Addr},RepE K G H es vs fp->∀p∈fp,∃u,H p=some u
 |[],_,_,r=>by
  rw[r.2];intro p hp;cases hp
 |none::es,vs,fp,r=>by
  obtain⟨y,ys,e,r⟩:=r;exact RepE.live r
 |some r::es,vs,fp,q=>by
  obtain⟨y,ys,e,v,a,b,e1,e2,r1,r2⟩:=q;subst e2;intro z hz;rcases Tn.mp hz with hz|hz
  ·exact r1.live z hz
  ·exact RepE.live r2 z hz
theorem RepE.mut:∀{es:Env}{vs:List (Option V)}{fp:List Addr},RepE K G H es vs fp->∀p∈fp,∃u,H p=some u/\isM u=true
 |[],_,_,r=>by
  rw[r.2];intro p hp;cases hp
 |none::es,vs,fp,r=>by
  obtain⟨y,ys,e,r⟩:=r;exact RepE.mut r
 |some r::es,vs,fp,q=>by
  obtain⟨y,ys,e,v,a,b,e1,e2,r1,r2⟩:=q;subst e2;intro z hz;rcases Tn.mp hz with hz|hz
  ·exact r1.mut z hz
  ·exact RepE.mut r2 z hz
theorem RepE.length:∀{es:Env}{vs:List (Option V)}{fp:List Addr},RepE K G H es vs fp->vs.length=es.length
 |[],_,_,r=>by rw[r.1];rfl
 |none::es,vs,fp,r=>by
  obtain⟨y,ys,e,r⟩:=r;rw[e,S5,S5,RepE.length r]
 |some r::es,vs,fp,q=>by
  obtain⟨y,ys,e,v,a,b,e1,e2,r1,r2⟩:=q;rw[e,S5,S5,RepE.length r2]
theorem RepE.take:∀{es:Env}{vs:List (Option V)}{fp:List Addr}{i:Nat}{r:R},RepE K G H es vs fp->es[i]?=some (some r)->
  ∃v a b,vs[i]?=some (some v)/\RepO K G H r.1 r.2 v a/\RepE K G H (es.set i none) vs b/\fp.Perm (a++b)
 |[],_,_,_,_,_,e=>by simp at e
 |none::es,vs,fp,0,r,q,e=>by simp at e
 |some r'::es,vs,fp,0,r,q,e=>by
  obtain⟨y,ys,e0,v,a,b,e1,e2,r1,r2⟩:=q;simp at e;subst e;subst e0;subst e1;exact⟨v,a,b,rfl,r1,⟨some v,ys,rfl,r2⟩,by rw[e2]⟩
 |none::es,vs,fp,i+1,r,q,e=>by
  obtain⟨y,ys,e0,q⟩:=q;obtain⟨v,a,b,g1,g2,g3,g4⟩:=RepE.take q (i:=i) (r:=r) (by simpa using e);subst e0;exact⟨v,a,b,by simpa using g1,g2,⟨y,ys,rfl,g3⟩,g4⟩
 |some r'::es,vs,fp,i+1,r,q,e=>by
  obtain⟨y,ys,e0,v',a',b',e1,e2,r1,r2⟩:=q;obtain⟨v,a,b,g1,g2,g3,g4⟩:=RepE.take r2 (i:=i) (r:=r) (by simpa using e);subst e0;refine⟨v,a,a'++b,by simpa using g1,g2,⟨y,ys,rfl,v',a',b,e1,rfl,r1,g3⟩,?_⟩;rw[e2];refine(WO a' g4).trans ?_;rw[<-Tx,<-Tx];exact WB b WQ
theorem RepE.put:∀{es:Env}{vs:List (Option V)}{b:List Addr}{i:Nat}{r:R}{v:V}{a:List Addr},RepE K G H es vs b->es[i]?=some none->RepO K G H r.1 r.2 v a->
  ∃fp,RepE K G H (es.set i (some r)) (vs.set i (some v)) fp/\fp.Perm (a++b)
 |[],_,_,_,_,_,_,_,e,_=>by simp at e
 |none::es,vs,b,0,r,v,a,q,e,ro=>by
  obtain⟨y,ys,e0,q⟩:=q;subst e0;exact⟨a++b,⟨some v,ys,rfl,v,a,b,rfl,rfl,ro,q⟩,.refl _⟩
 |some r'::es,vs,b,0,r,v,a,q,e,ro=>by simp at e
 |none::es,vs,b,i+1,r,v,a,q,e,ro=>by
  obtain⟨y,ys,e0,q⟩:=q;obtain⟨fp,g1,g2⟩:=RepE.put q (i:=i) (r:=r) (by simpa using e) ro;subst e0;exact⟨fp,⟨y,_,rfl,g1⟩,g2⟩
 |some r'::es,vs,b,i+1,r,v,a,q,e,ro=>by
  obtain⟨y,ys,e0,v',a',b',e1,e2,r1,r2⟩:=q;obtain⟨fp,g1,g2⟩:=RepE.put r2 (i:=i) (r:=r) (by simpa using e) ro;subst e0;refine⟨a'++fp,⟨y,_,rfl,v',a',fp,e1,rfl,r1,g1⟩,?_⟩;rw[e2];refine(WO a' g2).trans ?_;rw[<-Tx,<-Tx];exact WB b' WQ
theorem RepE.any:∀{es:Env}{vs:List (Option V)}{fp:List Addr}{i:Nat}{y:Option V},RepE K G H es vs fp->(es[i]?=some none\/es.length<=i)->RepE K G H es (vs.set i y) fp
 |[],_,_,_,_,q,_=>by
  rw[q.1,q.2];exact⟨rfl,rfl⟩
 |none::es,vs,fp,0,y,q,e=>by
  obtain⟨y',ys,e0,q⟩:=q;subst e0;exact⟨y,ys,rfl,q⟩
 |some r'::es,vs,fp,0,y,q,e=>by simp at e
 |none::es,vs,fp,i+1,y,q,e=>by
  obtain⟨y',ys,e0,q⟩:=q;subst e0;exact⟨y',ys.set i y,rfl,RepE.any q (by simpa using e)⟩
 |some r'::es,vs,fp,i+1,y,q,e=>by
  obtain⟨y',ys,e0,v',a',b',e1,e2,r1,r2⟩:=q;subst e0;exact⟨y',ys.set i y,rfl,v',a',b',e1,e2,r1,RepE.any r2 (by simpa using e)⟩
structure Rel(K:W.Frag)(G H:Hp)(es:Env)(vs:List (Option V))(fp:List Addr):Prop where
 rep:RepE K G H es vs fp
 nd:fp.Nodup
 gn:∀p∈fp,G p=none
 gh:Same G H
structure Step(G H:Hp)(fp:List Addr)(G' H':Hp)(GS:List Addr):Prop where
 gg:Same G G'
 keep:∀q u,H q=some u->q∉fp->H' q=some u
 fpn:∀q∈GS,q∈fp\/H q=none
 gnew:∀q u,G' q=some u->G q=some u\/q∈fp\/H q=none\/isT u=true/\H q=some u
 there:∀q u,H q=some u->∃u',H' q=some u'
theorem Step.refl{fp:List Addr}:Step G H fp G H fp:=⟨.refl _,fun _ _ h _=>h,fun _ h=>.inl h,fun _ _ h=>.inl h,fun _ u h=>⟨u,h⟩⟩
theorem Step.trans{G1 H1 G2 H2:Hp}{fp Hi Hv:List Addr}(a:Step G H fp G1 H1 Hi)(b:Step G1 H1 Hi G2 H2 Hv):Step G H fp G2 H2 Hv:=by
 refine⟨a.gg.trans b.gg,fun q u h n=>?_,fun q hq=>?_,fun q u hq=>?_,fun q u h=>?_⟩
 ·refine b.keep q u (a.keep q u h n) fun hq=>?_
  rcases a.fpn q hq with z|z
  ·exact n z
  ·rw[z]at h;cases h
 ·rcases b.fpn q hq with z|z
  ·exact a.fpn q z
  ·cases e:H q with
   |none=>exact .inr rfl
   |some u=>
    obtain⟨u',e'⟩:=a.there q u e;rw[z]at e';cases e'
 ·rcases b.gnew q u hq with z|z|z|⟨t,z⟩
  ·exact a.gnew q u z
  ·exact .inr ((a.fpn q z).imp_right .inl)
  ·cases e:H q with
   |none=>exact .inr (.inr (.inl rfl))
   |some u=>
    obtain⟨u',e'⟩:=a.there q u e;rw[z]at e';cases e'
  ·cases e:H q with
   |none=>exact .inr (.inr (.inl rfl))
   |some u2=>
    by_cases hf:q∈fp
    ·exact .inr (.inl hf)
    ·rw[a.keep q u2 e hf]at z;cases z;exact .inr (.inr (.inr ⟨t,rfl⟩))
 ·obtain⟨u',h'⟩:=a.there q u h;exact b.there q u' h'
theorem Step.perm{fp fq GS Pj:List Addr}(a:Step G H fp G' H' GS)(h:∀q,q∈fp<->q∈fq)(h':∀q∈Pj,q∈GS):Step G H fq G' H' Pj:=
 ⟨a.gg,fun q u e n=>a.keep q u e fun z=>n ((h q).mp z),fun q hq=>(a.fpn q (h' q hq)).imp_left (h q).mp,fun q u e=>(a.gnew q u e).imp_right (Or.imp_left (h q).mp),a.there⟩
theorem Step.wide{fp fq GS Pj:List Addr}(a:Step G H fp G' H' GS)(h:∀q∈fp,q∈fq)(h':∀q∈Pj,q∈GS\/q∈fq):Step G H fq G' H' Pj:=
 ⟨a.gg,fun q u e n=>a.keep q u e fun z=>n (h q z),fun q hq=>(h' q hq).elim (fun z=>(a.fpn q z).imp_left (h q)) .inl,fun q u e=>(a.gnew q u e).imp_right (Or.imp_left (h q)),a.there⟩
theorem Rel.perm{es:Env}{vs:List (Option V)}{fp fq:List Addr}(r:RepE K G H es vs fq)(nd:fp.Nodup)(gn:∀p∈fp,G p=none)(gh:Same G H)(h:fp.Perm fq):Rel K G H es vs fq:=
 ⟨r,h.nodup_iff.mp nd,fun p hp=>gn p (h.mem_iff.mpr hp),gh⟩
theorem Rel.frame{r:R}{v:V}{es:Env}{vs:List (Option V)}{fp:List Addr}(q:Rel K G H (some r::es) (some v::vs) fp):
  ∃a b,fp=a++b/\RepO K G H r.1 r.2 v a/\Rel K G H es vs b/\∀(G' H':Hp) (Kb:Env) (JP:List (Option V)) (b':List Addr),Step G H b G' H' b'->Rel K G' H' Kb JP b'->
   Rel K G' H' (some r::Kb) (some v::JP) (a++b')/\Step G H (a++b) G' H' (a++b'):=by
 obtain⟨y,ys,e,v',a,b,e1,e2,r1,r2⟩:=q.rep;cases e;cases e1;subst e2;have nd:=Th.mp q.nd;refine⟨a,b,rfl,r1,⟨r2,nd.2.1,fun p hp=>q.gn p (SS _ hp),q.gh⟩,fun G' H' Kb JP b' st k=>?_⟩;have nb:∀p∈a,p∉b:=fun p hp hb=>nd.2.2 p hp p hb rfl
 have same:∀p∈a,H' p=H p:=fun p hp=>by
  obtain⟨u,hu⟩:=r1.live p hp;rw[hu];exact st.keep p u hu (nb p hp)
 refine⟨⟨⟨some v,JP,rfl,v,a,b',rfl,rfl,r1.step st.gg same,k.rep⟩,?_,fun p hp=>?_,k.gh⟩,st.wide (fun p hp=>SS _ hp) fun p hp=>?_⟩
 ·rw[Th];refine⟨nd.1,k.nd,fun p hp z hz e=>?_⟩;subst e;obtain⟨u,hu⟩:=r1.live p hp;rcases st.fpn p hz with z|z
  ·exact nb p hp z
  ·rw[z]at hu;cases hu
 ·rcases Tn.mp hp with hp|hp
  ·cases e:G' p with
   |none=>rfl
   |some u=>
    exfalso;obtain⟨u',hu⟩:=r1.live p hp;rcases st.gnew p u e with z|z|z|⟨t,z⟩
    ·rw[q.gn p (SW _ hp)]at z;cases z
    ·exact nb p hp z
    ·rw[z]at hu;cases hu
    ·obtain⟨u2,h2,hm⟩:=r1.mut p hp;rw[z]at h2;cases h2;cases u with
     |tup _=>cases hm
     |frz _ _=>cases hm
     |_=>cases t
  ·exact k.gn p hp
 ·rcases Tn.mp hp with hp|hp
  ·exact .inr (SW _ hp)
  ·exact .inl hp
theorem Rel.freeze{r:R}{v:V}{es:Env}{vs:List (Option V)}{fp:List Addr}(q:Rel K G H (some r::es) (some v::vs) fp):
  ∃G' b,Rep K G' r.2 v/\Rel K G' H es vs b/\Step G H fp G' H b:=by
 obtain⟨y,ys,e,v',a,b,e1,e2,r1,r2⟩:=q.rep;cases e;cases e1;subst e2;have nd:=Th.mp q.nd;have nb:∀p∈a,p∉b:=fun p hp hb=>nd.2.2 p hp p hb rfl
 have hg:Same G (fun p=>if p∈a then H p else G p):=fun p u e=>by
  show(if p∈a then H p else G p)=some u;by_cases hp:p∈a
  ·rw[S1 hp];exact q.gh p u e
  ·rw[S4 hp];exact e
 refine⟨fun p=>if p∈a then H p else G p,b,r1.frozen hg fun p hp u e=>?_,⟨r2.step hg fun _ _=>rfl,nd.2.1,fun p hp=>?_,fun p u e=>?_⟩,⟨hg,fun _ _ e _=>e,fun p hp=>.inl (SS _ hp),fun p u e=>?_,fun _ u e=>⟨u,e⟩⟩⟩
 ·show(if p∈a then H p else G p)=some u;rw[S1 hp];exact e
 ·show(if p∈a then H p else G p)=none;rw[S4 (fun z=>nb p z hp)];exact q.gn p (SS _ hp)
 ·have e:(if p∈a then H p else G p)=some u:=e;by_cases hp:p∈a
  ·rw[S1 hp]at e;exact e
  ·rw[S4 hp]at e;exact q.gh p u e
 ·have e:(if p∈a then H p else G p)=some u:=e;by_cases hp:p∈a
  ·exact .inr (.inl (SW _ hp))
  ·rw[S4 hp]at e;exact .inl e
end
section
variable{K:W.Frag}{G G' H H':Hp}{es:Env}{vs:List (Option V)}{fp:List Addr}
theorem pR:∀{ds:List D}{xs:List V}{fp:List Addr},AllO (RepO K G H .f) ds xs fp<->Reps K G ds xs/\fp=[]
 |[],xs,fp=>by simp only[AllO,Reps]
 |d::ds,xs,fp=>by
  simp only[AllO,Reps,RepO];constructor
  ·rintro⟨y,ys,a,b,e1,e2,⟨r,e3⟩,q⟩;obtain⟨q1,q2⟩:=pR.mp q;subst e3;subst q2;exact⟨⟨y,ys,e1,r,q1⟩,e2⟩
  ·rintro⟨⟨y,ys,e1,r,q1⟩,e⟩;exact⟨y,ys,[],[],e1,e,⟨r,rfl⟩,pR.mpr ⟨q1,rfl⟩⟩
theorem fF{d:D}{v:V}{a:List Addr}:RepO K G H .f d v a<->Rep K G d v/\a=[]:=by simp only[RepO]
theorem jN{ds:List D}{v:V}{a:List Addr}:RepO K G H (.l .f) (.lst ds) v a<->∃p xs,v=.ref p/\H p=some (.lst xs)/\a=[p]/\Reps K G ds xs:=by
 rw[RepO];constructor
 ·rintro⟨p,xs,b,e,q,e2,r⟩;obtain⟨r',eb⟩:=pR.mp r;subst eb;exact⟨p,xs,e,q,e2,r'⟩
 ·rintro⟨p,xs,e,q,e2,r⟩;exact⟨p,xs,[],e,q,e2,pR.mpr ⟨r,rfl⟩⟩
theorem Reps.length:∀{ds:List D}{xs:List V},Reps K G ds xs->xs.length=ds.length
 |[],xs,r=>by simp only[Reps]at r;rw[r];rfl
 |d::ds,xs,r=>by
  simp only[Reps]at r;obtain⟨y,ys,e,_,q⟩:=r;rw[e,S5,S5,Reps.length q]
theorem Reps.get:∀{ds:List D}{xs:List V}{i:Nat}{d:D},Reps K G ds xs->ds[i]?=some d->∃v,xs[i]?=some v/\Rep K G d v
 |[],_,_,_,_,e=>by simp at e
 |d'::ds,xs,0,d,r,e=>by
  simp only[Reps]at r;obtain⟨y,ys,e1,q,_⟩:=r;simp at e;subst e;exact⟨y,by rw[e1];rfl,q⟩
 |d'::ds,xs,i+1,d,r,e=>by
  simp only[Reps]at r;obtain⟨y,ys,e1,_,q⟩:=r;obtain⟨v,a,b⟩:=Reps.get q (i:=i) (d:=d) (by simpa using e);exact⟨v,by rw[e1];simpa using a,b⟩
theorem Reps.app:∀{ds es:List D}{xs ys:List V},Reps K G ds xs->Reps K G es ys->Reps K G (ds++es) (xs++ys)
 |[],_,_,_,r,q=>by simp only[Reps]at r;rw[r];exact q
 |d::ds,es,xs,ys,r,q=>by
  simp only[Reps]at r;obtain⟨z,zs,e,r1,r2⟩:=r;rw[e];simp only[UG,Reps];exact⟨z,_,rfl,r1,r2.app q⟩
theorem Reps.one{d:D}{v:V}(r:Rep K G d v):Reps K G [d] [v]:=by
 simp only[Reps];exact⟨v,[],rfl,r,rfl⟩
theorem Reps.nil:Reps K G [] []:=by simp only[Reps]
theorem Reps.cons{d:D}{v:V}{ds:List D}{xs:List V}(r:Rep K G d v)(q:Reps K G ds xs):Reps K G (d::ds) (v::xs):=by
 simp only[Reps];exact⟨v,xs,rfl,r,q⟩
theorem Reps.cons_iff{d:D}{v:V}{ds:List D}{xs:List V}:Reps K G (d::ds) (v::xs)<->Rep K G d v/\Reps K G ds xs:=by
 simp only[Reps];constructor
 ·rintro⟨y,ys,e,r,q⟩;cases e;exact⟨r,q⟩
 ·rintro⟨r,q⟩;exact⟨v,xs,rfl,r,q⟩
theorem Reps.take:∀{ds:List D}{xs:List V}(n:Nat),Reps K G ds xs->Reps K G (ds.take n) (xs.take n)
 |_,_,0,_=>by rw[W0,W0];exact Reps.nil
 |[],xs,n+1,r=>by simp only[Reps]at r;rw[r];exact Reps.nil
 |d::ds,xs,n+1,r=>by
  simp only[Reps]at r;obtain⟨y,ys,e,r1,r2⟩:=r;rw[e,W6,W6];exact .cons r1 (r2.take n)
theorem Reps.drop:∀{ds:List D}{xs:List V}(n:Nat),Reps K G ds xs->Reps K G (ds.drop n) (xs.drop n)
 |_,_,0,r=>r
 |[],xs,n+1,r=>by simp only[Reps]at r;rw[r];exact Reps.nil
 |d::ds,xs,n+1,r=>by
  simp only[Reps]at r;obtain⟨y,ys,e,r1,r2⟩:=r;rw[e,W7,W7];exact r2.drop n
theorem Reps.set:∀{ds:List D}{xs:List V}(n:Nat) {d:D}{v:V},Reps K G ds xs->Rep K G d v->Reps K G (ds.set n d) (xs.set n v)
 |[],xs,n,d,v,r,q=>by simp only[Reps]at r;rw[r];exact Reps.nil
 |d'::ds,xs,0,d,v,r,q=>by
  simp only[Reps]at r;obtain⟨y,ys,e,r1,r2⟩:=r;rw[e];exact .cons q r2
 |d'::ds,xs,n+1,d,v,r,q=>by
  simp only[Reps]at r;obtain⟨y,ys,e,r1,r2⟩:=r;rw[e];exact .cons r1 (r2.set n q)
theorem Reps.ofAll{ds:List D}{xs:List V}(hl:xs.length=ds.length)(h:∀(i:Nat) (d:D) (v:V),ds[i]?=some d->xs[i]?=some v->Rep K G d v):Reps K G ds xs:=by
 induction ds generalizing xs with
 |nil=>simp only[Reps];exact TK hl
 |cons d ds ih=>
  cases xs with
  |nil=>simp at hl
  |cons v xs=>exact .cons (h 0 d v rfl rfl) (ih (by simpa using hl) fun i d v a b=>h (i+1) d v (by simpa using a) (by simpa using b))
theorem Step.cut{fq:List Addr}(h:∀q∈fq,q∈fp):Step G H fp G H fq:=⟨.refl _,fun _ _ e _=>e,fun q hq=>.inl (h q hq),fun _ _ e=>.inl e,fun _ u e=>⟨u,e⟩⟩
theorem Rel.drop{r:R}{y:Option V}(q:Rel K G H (some r::es) (y::vs) fp):∃b,Rel K G H es vs b/\Step G H fp G H b:=by
 obtain⟨y,ys,e,v',a,b,e1,e2,r1,r2⟩:=q.rep;cases e;cases e1;subst e2;have nd:=Th.mp q.nd;exact⟨b,⟨r2,nd.2.1,fun p hp=>q.gn p (SS _ hp),q.gh⟩,Step.cut fun p hp=>SS _ hp⟩
theorem Rel.top{r:R}{v:V}(q:Rel K G H (some r::es) (some v::vs) fp):Rep K H r.2 v:=by
 obtain⟨y,ys,e,v',a,b,e1,e2,r1,r2⟩:=q.rep;cases e;cases e1;exact r1.frozen q.gh fun p hp u e=>e
theorem Rel.out{i:Nat}{r:R}(q:Rel K G H es vs fp)(e:es[i]?=some (some r)):∃v fq,vs[i]?=some (some v)/\Rel K G H (some r::es.set i none) (some v::vs) fq/\Step G H fp G H fq/\Step G H fq G H fp:=by
 obtain⟨v,a,b,e1,r1,r2,pm⟩:=q.rep.take e;exact⟨v,a++b,e1,Rel.perm ⟨some v,vs,rfl,v,a,b,rfl,rfl,r1,r2⟩ q.nd q.gn q.gh pm,Step.cut fun p hp=>pm.mem_iff.mpr hp,Step.cut fun p hp=>pm.mem_iff.mp hp⟩
theorem Rel.view{i:Nat}{r:R}(q:Rel K G H es vs fp)(e:es[i]?=some (some r)):∃v,vs[i]?=some (some v)/\Rep K H r.2 v:=by
 obtain⟨v,fq,e1,r1,_⟩:=q.out e;exact⟨v,e1,r1.top⟩
theorem lP{α:Type}{l:List α}{i:Nat}{x:α}(h:l[i]?=some x):l.set i x=l:=by
 apply U8;intro j;by_cases e:i=j
 ·subst e;rw[List.getElem?_set_self (List.getElem?_eq_some_iff.mp h).1,h]
 ·rw[List.getElem?_set_ne e]
theorem Rel.store{i:Nat}{r:R}{v:V}(q:Rel K G H (some r::es) (some v::vs) fp)(hi:i<es.length):∃fq,Rel K G H (es.set i (some r)) (vs.set i (some v)) fq/\Step G H fp G H fq:=by
 obtain⟨y,ys,e,v',a,b,e1,e2,r1,r2⟩:=q.rep;cases e;cases e1;subst e2;obtain⟨c,hc⟩:∃c,es[i]?=some c:=⟨_,List.getElem?_eq_getElem hi⟩
 have nd:=Th.mp q.nd;have key:∃b',RepE K G H (es.set i none) vs b'/\(∀p∈b',p∈b)/\b'.Nodup:=by
  cases c with
  |none=>exact⟨b,by rw[lP hc];exact r2,fun _ h=>h,nd.2.1⟩
  |some r'=>
   obtain⟨v2,a2,b2,_,_,g,pm⟩:=r2.take hc;refine⟨b2,g,fun p hp=>pm.mem_iff.mpr (SS _ hp),?_⟩;exact(Th.mp (pm.nodup_iff.mp nd.2.1)).2.1
 obtain⟨b',g,sub,ndb⟩:=key;obtain⟨fq,g2,pm⟩:=g.put (i:=i) (r:=r) (v:=v) (by rw[List.getElem?_set_self hi]) r1;rw[UM]at g2;have NR:(a++b').Nodup:=by
  rw[Th];exact⟨nd.1,ndb,fun p hp z hz=>nd.2.2 p hp z (sub z hz)⟩
 refine⟨fq,Rel.perm g2 NR (fun p hp=>?_) q.gh pm.symm,Step.cut fun p hp=>?_⟩
 ·refine q.gn p ?_;rcases Tn.mp hp with hp|hp
  ·exact SW _ hp
  ·exact SS _ (sub p hp)
 ·rcases Tn.mp (pm.mem_iff.mp hp) with hp|hp
  ·exact SW _ hp
  ·exact SS _ (sub p hp)
theorem Rel.back{i:Nat}{r:R}{v:V}(q:Rel K G H (some r::es) (some v::vs) fp)(hi:i<es.length)(hv:vs[i]?=some (some v)):∃fq,Rel K G H (es.set i (some r)) vs fq/\Step G H fp G H fq:=by
 obtain⟨fq,g,st⟩:=q.store hi;rw[lP hv]at g;exact⟨fq,g,st⟩
theorem Rel.any{i:Nat}{y:Option V}(q:Rel K G H es vs fp)(h:es[i]?=some none\/es.length<=i):Rel K G H es (vs.set i y) fp:=⟨q.rep.any h,q.nd,q.gn,q.gh⟩
theorem Rel.freezeAt{i:Nat}{r:R}(q:Rel K G H es vs fp)(e:es[i]?=some (some r)):∃v G' fq,vs[i]?=some (some v)/\Rep K G' r.2 v/\Rel K G' H (es.set i (some (.f,r.2))) vs fq/\Step G H fp G' H fq:=by
 obtain⟨v,fq,ev,g,st,_⟩:=q.out e;obtain⟨G',b,rv,g2,GW⟩:=g.freeze;have g3:Rel K G' H (some (.f,r.2)::es.set i none) (some v::vs) b:=by
  refine⟨⟨some v,vs,rfl,v,[],b,rfl,rfl,?_,g2.rep⟩,g2.nd,g2.gn,g2.gh⟩;exact fF.mpr ⟨rv,rfl⟩
 obtain⟨fz,g4,Ij⟩:=g3.back (i:=i) (by rw[Tz];exact(List.getElem?_eq_some_iff.mp e).1) ev;rw[UM]at g4;exact⟨v,G',fz,ev,rv,g4,st.trans (GW.trans Ij)⟩
theorem Rel.push{d:D}{v:V}(q:Rel K G H es vs fp)(r:Rep K G d v):Rel K G H (some (.f,d)::es) (some v::vs) fp:=by
 refine⟨⟨some v,vs,rfl,v,[],fp,rfl,rfl,?_,q.rep⟩,q.nd,q.gn,q.gh⟩;exact fF.mpr ⟨r,rfl⟩
theorem Rel.newF{p:Addr}{u:HO}(q:Rel K G H es vs fp)(hp:H p=none):Rel K (upd G p u) (upd H p u) es vs fp/\Step G H fp (upd G p u) (upd H p u) fp:=by
 have gp:G p=none:=by
  cases e:G p with
  |none=>rfl
  |some o=>rw[q.gh p o e]at hp;cases hp
 have np:p∉fp:=fun z=>by
  obtain⟨u,e⟩:=q.rep.live p z;rw[hp]at e;cases e
 have sg:Same G (upd G p u):=fun b o e=>by rw[az (aU e gp)];exact e
 have sh:Same H (upd H p u):=fun b o e=>by rw[az (aU e hp)];exact e
 refine⟨⟨q.rep.step sg fun z hz=>az fun e=>np (e▸hz),q.nd,fun z hz=>?_,fun b o e=>?_⟩,⟨sg,fun b o e _=>sh b o e,fun _ h=>.inl h,fun b o e=>?_,fun b o e=>⟨o,sh b o e⟩⟩⟩
 ·have:z≠p:=fun e=>np (e▸hz)
  rw[az this];exact q.gn z hz
 ·by_cases hb:b=p
  ·subst hb;rw[aP]at e ⊢;exact e
  ·rw[az hb]at e ⊢;exact q.gh b o e
 ·by_cases hb:b=p
  ·subst hb;exact .inr (.inr (.inl hp))
  ·rw[az hb]at e;exact .inl e
theorem Rel.newL{p:Addr}{ds:List D}{xs:List V}(q:Rel K G H es vs fp)(hp:H p=none)(r:Reps K G ds xs):
  Rel K G (upd H p (.lst xs)) (some (.l .f,.lst ds)::es) (some (.ref p)::vs) (p::fp)/\Step G H fp G (upd H p (.lst xs)) (p::fp):=by
 have gp:G p=none:=by
  cases e:G p with
  |none=>rfl
  |some o=>rw[q.gh p o e]at hp;cases hp
 have np:p∉fp:=fun z=>by
  obtain⟨u,e⟩:=q.rep.live p z;rw[hp]at e;cases e
 have sh:Same H (upd H p (.lst xs)):=fun b o e=>by rw[az (aU e hp)];exact e
 refine⟨⟨⟨some (.ref p),vs,rfl,.ref p,[p],fp,rfl,rfl,jN.mpr ⟨p,xs,rfl,aP,rfl,r⟩,q.rep.step (.refl _) fun z hz=>az fun e=>np (e▸hz)⟩,Tt.mpr ⟨np,q.nd⟩,fun z hz=>?_,fun b o e=>?_⟩,
  ⟨.refl _,fun b o e _=>sh b o e,fun b hb=>?_,fun b o e=>.inl e,fun b o e=>⟨o,sh b o e⟩⟩⟩
 ·rcases S3.mp hz with rfl|hz
  ·exact gp
  ·exact q.gn z hz
 ·exact sh b o (q.gh b o e)
 ·rcases S3.mp hb with rfl|hb
  ·exact .inr hp
  ·exact .inl hb
theorem Rel.chg{i:Nat}{ds ds':List D}(q:Rel K G H es vs fp)(e:es[i]?=some (some (.l .f,.lst ds))):∃p xs,vs[i]?=some (some (.ref p))/\H p=some (.lst xs)/\Reps K G ds xs/\
  ∀IJ,Reps K G ds' IJ->∃fq,Rel K G (upd H p (.lst IJ)) (es.set i (some (.l .f,.lst ds'))) vs fq/\Step G H fp G (upd H p (.lst IJ)) fq:=by
 obtain⟨v,fq,ev,g,st,Jl⟩:=q.out e;obtain⟨y,ys,e0,v',a,b,e1,e2,r1,r2⟩:=g.rep;cases e0;cases e1;obtain⟨p,xs,e3,hp,e4,rs⟩:=jN.mp r1;subst e3;subst e4;subst e2;have nd:=Tt.mp (show(p::b).Nodup from g.nd);refine⟨p,xs,ev,hp,rs,fun IJ Ju=>?_⟩;have g2:Rel K G (upd H p (.lst IJ)) (some (.l .f,.lst ds')::es.set i none) (some (.ref p)::vs) (p::b):=by
  refine⟨⟨some (.ref p),vs,rfl,.ref p,[p],b,rfl,rfl,jN.mpr ⟨p,IJ,rfl,aP,rfl,Ju⟩,r2.step (.refl _) fun z hz=>az fun e=>nd.1 (e▸hz)⟩,g.nd,g.gn,fun z o ez=>?_⟩;have:z≠p:=fun w=>by
   subst w;rw[g.gn z SN]at ez;cases ez
  rw[az this];exact g.gh z o ez
 have Rv:Step G H (p::b) G (upd H p (.lst IJ)) (p::b):=by
  refine⟨.refl _,fun z o ez nz=>?_,fun z hz=>.inl hz,fun z o ez=>.inl ez,fun z o ez=>?_⟩
  ·have:z≠p:=fun w=>nz (by rw[w];exact SN)
   rw[az this];exact ez
  ·by_cases w:z=p
   ·subst w;exact⟨_,aP⟩
   ·exact⟨o,by rw[az w];exact ez⟩
 obtain⟨fz,g3,Hs⟩:=g2.back (i:=i) (by rw[Tz];exact(List.getElem?_eq_some_iff.mp e).1) ev;rw[UM]at g3;exact⟨fz,g3,st.trans (Rv.trans Hs)⟩
end
mutual
noncomputable def flatD:D->Bool
 | .tup ds=>flatDs ds
 | .lst _=>false
 | .dct _ _ _=>false
 |_=>true
noncomputable def flatDs:List D->Bool
 |[]=>true
 |d::ds=>flatD d&&flatDs ds
end
mutual
noncomputable def aM:O->D->Bool
 | .f,d=>flatD d
 | .l c,.lst ds=>ds.all (aM c)
 | .t cs,.tup ds=>nq cs ds
 | .d,.dct _ _ vs=>flatDs vs
 | .pin _ c,d=>aM c d
 |_,_=>false
noncomputable def nq:List O->List D->Bool
 |[],[]=>true
 |c::cs,d::ds=>aM c d&&nq cs ds
 |_,_=>false
end
def frz:Option R->Option R:=Option.map fun r=>(.f,r.2)
theorem ck:∀ds,flatDs ds=ds.all flatD
 |[]=>rfl
 |d::ds=>by rw[flatDs,U9,ck ds]
section
variable{K:W.Frag}{G G' G2 G3 H H' H2:Hp}{es:Env}{vs:List (Option V)}{fp:List Addr}
mutual
theorem Rep.flat(h:∀p u,isT u=true->G2 p=some u->G3 p=some u):∀{d:D}{v:V},flatD d=true->Rep K G2 d v->Rep K G3 d v
 | .non,_,_,r=>by simpa only[Rep] using r
 | .bl _,_,_,r=>by simpa only[Rep] using r
 | .int _,_,_,r=>by simpa only[Rep] using r
 | .str _,_,_,r=>by simpa only[Rep] using r
 | .tup ds,_,e,r=>by
  simp only[Rep]at r ⊢;simp only[flatD]at e;obtain⟨p,xs,ev,q,rs⟩:=r;exact⟨p,xs,ev,h _ _ rfl q,Reps.flat h e rs⟩
 | .lst ds,_,e,r=>by simp only[flatD]at e;cases e
 | .dct _ _ _,_,e,r=>by simp only[flatD]at e;cases e
theorem Reps.flat(h:∀p u,isT u=true->G2 p=some u->G3 p=some u):∀{ds:List D}{xs:List V},flatDs ds=true->Reps K G2 ds xs->Reps K G3 ds xs
 |[],_,_,r=>by simpa only[Reps] using r
 |d::ds,_,e,r=>by
  simp only[Reps]at r ⊢;simp only[flatDs,SY]at e;obtain⟨y,ys,ev,r1,r2⟩:=r;exact⟨y,ys,ev,Rep.flat h e.1 r1,Reps.flat h e.2 r2⟩
end
theorem AllO.clean{P P':D->V->List Addr->Prop}{c:D->Bool}:∀{ds:List D}{xs:List V}{fp:List Addr},(∀d v a,c d=true->P d v a->P' d v a)->ds.all c=true->AllO P ds xs fp->AllO P' ds xs fp
 |[],_,_,_,_,r=>r
 |d::ds,xs,fp,h,e,r=>by
  obtain⟨y,ys,a,b,e1,e2,p,q⟩:=r;rw[U9,SY]at e;exact⟨y,ys,a,b,e1,e2,h _ _ _ e.1 p,AllO.clean h e.2 q⟩
mutual
theorem RepO.clean(h:∀p u,isT u=true->G2 p=some u->G3 p=some u):∀{o:O}{d:D}{v:V}{fp:List Addr},aM o d=true->RepO K G2 H o d v fp->RepO K G3 H o d v fp
 | .f,d,v,fp,e,r=>by
  simp only[RepO]at r ⊢;simp only[aM]at e;exact⟨r.1.flat h e,r.2⟩
 | .pin p c,d,v,fp,e,r=>by
  simp only[RepO]at r ⊢;simp only[aM]at e;exact⟨r.1,RepO.clean h e r.2⟩
 | .l c,.lst ds,v,fp,e,r=>by
  rw[RepO]at r ⊢;rw[aM]at e;obtain⟨p,xs,GS,ev,q,e2,a⟩:=r;exact⟨p,xs,GS,ev,q,e2,AllO.clean (fun d v a=>RepO.clean h) e a⟩
 | .t cs,.tup ds,v,fp,e,r=>by
  rw[RepO]at r ⊢;rw[aM]at e;obtain⟨p,xs,ev,q,a⟩:=r;exact⟨p,xs,ev,h _ _ rfl q,RepT.clean h e a⟩
 | .d,.dct tk ks vs,v,fp,e,r=>by
  rw[RepO]at r ⊢;rw[aM]at e;obtain⟨p,xs,o,ev,q,dd,e2,rs⟩:=r;exact⟨p,xs,o,ev,q,dd,e2,rs.flat h e⟩
 | .l _,.non,_,_,_,r | .l _,.bl _,_,_,_,r | .l _,.int _,_,_,_,r | .l _,.str _,_,_,_,r | .l _,.tup _,_,_,_,r | .l _,.dct _ _ _,_,_,_,r=>by simp only[RepO]at r
 | .t _,.non,_,_,_,r | .t _,.bl _,_,_,_,r | .t _,.int _,_,_,_,r | .t _,.str _,_,_,_,r | .t _,.lst _,_,_,_,r | .t _,.dct _ _ _,_,_,_,r=>by simp only[RepO]at r
 | .d,.non,_,_,_,r | .d,.bl _,_,_,_,r | .d,.int _,_,_,_,r | .d,.str _,_,_,_,r | .d,.tup _,_,_,_,r | .d,.lst _,_,_,_,r=>by simp only[RepO]at r
theorem RepT.clean(h:∀p u,isT u=true->G2 p=some u->G3 p=some u):∀{cs:List O}{ds:List D}{xs:List V}{fp:List Addr},nq cs ds=true->RepT K G2 H cs ds xs fp->RepT K G3 H cs ds xs fp
 |[],[],_,_,_,r=>by simpa only[RepT] using r
 |c::cs,d::ds,xs,fp,e,r=>by
  rw[RepT]at r ⊢;rw[nq,SY]at e;obtain⟨y,ys,a,b,e1,e2,r1,r2⟩:=r;exact⟨y,ys,a,b,e1,e2,RepO.clean h e.1 r1,RepT.clean h e.2 r2⟩
 |[],_::_,_,_,_,r=>by simp only[RepT]at r
 |_::_,[],_,_,_,r=>by simp only[RepT]at r
end
theorem RepE.frz(h:Same G G'):∀{es:Env}{vs:List (Option V)}{fp:List Addr},(∀p∈fp,∀u,H p=some u->G' p=some u)->RepE K G H es vs fp->RepE K G' H' (es.map PV.frz) vs []
 |[],_,_,_,r=>⟨r.1,rfl⟩
 |none::es,vs,fp,hk,r=>by
  obtain⟨y,ys,e,r⟩:=r;exact⟨y,ys,e,RepE.frz h hk r⟩
 |some r::es,vs,fp,hk,q=>by
  obtain⟨y,ys,e,v,a,b,e1,e2,r1,r2⟩:=q;subst e2;exact⟨y,ys,e,v,[],[],e1,rfl,fF.mpr ⟨r1.frozen h (fun p hp=>hk p (SW _ hp)),rfl⟩,RepE.frz h (fun p hp=>hk p (SS _ hp)) r2⟩
theorem RepE.rep(h:Same G G'):∀{es:Env}{vs:List (Option V)}{fp:List Addr}{i:Nat}{r:R}{v:V},(∀p∈fp,∀u,H p=some u->G' p=some u)->RepE K G H es vs fp->es[i]?=some (some r)->vs[i]?=some (some v)->Rep K G' r.2 v:=fun{es vs fp i r v} hk q e ev=>by
 obtain⟨v',a,b,e1,r1,_,pm⟩:=q.take e;rw[ev]at e1;cases e1;exact r1.frozen h fun p hp=>hk p (pm.mem_iff.mpr (SW _ hp))
theorem Rel.lend(q:Rel K G H es vs fp):∃G1,Same G G1/\Same G1 H/\(∀(i:Nat) (r:R) (v:V),es[i]?=some (some r)->vs[i]?=some (some v)->Rep K G1 r.2 v)/\
  RepE K G1 H (es.map PV.frz) vs []/\
  ∀(H2 G2:Hp) (Hv:List Addr) (r:R) (v:V),Step G1 H [] G2 H2 Hv->Rel K G2 H2 [some r] [some v] Hv->
   (aM r.1 r.2=true->∃G3 Iz,Step G H fp G3 H2 Iz/\Rel K G3 H2 (some r::es) (some v::vs) Iz)/\
   ∃G3 Iz,Step G H fp G3 H2 Iz/\Rel K G3 H2 (some r::es.map PV.frz) (some v::vs) Iz:=by
 have hg:Same G (fun p=>if p∈fp then H p else G p):=fun p u e=>by
  show(if p∈fp then H p else G p)=some u;by_cases hp:p∈fp
  ·rw[S1 hp];exact q.gh p u e
  ·rw[S4 hp];exact e
 have hh:Same (fun p=>if p∈fp then H p else G p) H:=fun p u e=>by
  have e:(if p∈fp then H p else G p)=some u:=e;by_cases hp:p∈fp
  ·rw[S1 hp]at e;exact e
  ·rw[S4 hp]at e;exact q.gh p u e
 have hk:∀p∈fp,∀u,H p=some u->(fun p=>if p∈fp then H p else G p) p=some u:=fun p hp u e=>by
  show(if p∈fp then H p else G p)=some u;rw[S1 hp];exact e
 refine⟨fun p=>if p∈fp then H p else G p,hg,hh,fun i r v e ev=>q.rep.rep hg hk e ev,q.rep.frz hg hk,fun H2 G2 Hv r v st k=>?_⟩;obtain⟨y,ys,e0,v',a,b,e1,e2,r1,r2⟩:=k.rep;cases e0;cases e1;obtain⟨_,e3⟩:=r2;subst e3;rw[Ta]at e2;subst e2;have fresh:∀p∈Hv,H p=none:=fun p hp=>by
  rcases st.fpn p hp with z|z
  ·cases z
  ·exact z
 have kept:∀p∈fp,H2 p=H p:=fun p hp=>by
  obtain⟨u,hu⟩:=q.rep.live p hp;rw[hu];exact st.keep p u hu (by simp)
 refine⟨fun cl=>?_,⟨G2,Hv,⟨hg.trans st.gg,fun p u e n=>st.keep p u e (by simp),fun p hp=>.inr (fresh p hp),fun p u e=>?_,st.there⟩,?_⟩⟩
 ·have apart:∀p∈Hv,p∉fp:=fun p hp hf=>by
   obtain⟨u,hu⟩:=q.rep.live p hf;rw[fresh p hp]at hu;cases hu
  have g3:Same G (fun p=>if p∈fp then none else G2 p):=fun p u e=>by
   show(if p∈fp then none else G2 p)=some u;rw[S4 (fun z=>by rw[q.gn p z]at e;cases e)];exact st.gg p u (hg p u e)
  refine⟨fun p=>if p∈fp then none else G2 p,Hv++fp,⟨g3,fun p u e n=>st.keep p u e (by simp),fun p hp=>?_,fun p u e=>?_,st.there⟩,⟨⟨some v,vs,rfl,v,Hv,fp,rfl,rfl,r1.clean (fun p u t e=>?_) cl,q.rep.step g3 kept⟩,?_,fun p hp=>?_,fun p u e=>?_⟩⟩
  ·rcases Tn.mp hp with hp|hp
   ·exact .inr (fresh p hp)
   ·exact .inl hp
  ·have e:(if p∈fp then none else G2 p)=some u:=e;by_cases hp:p∈fp
   ·rw[S1 hp]at e;cases e
   ·rw[S4 hp]at e;rcases st.gnew p u e with z|z|z
    ·have z:(if p∈fp then H p else G p)=some u:=z;rw[S4 hp]at z;exact .inl z
    ·cases z
    ·exact .inr (.inr z)
  ·show(if p∈fp then none else G2 p)=some u;by_cases hp:p∈fp
   ·exfalso;obtain⟨u',hu,hm⟩:=q.rep.mut p hp;have:=st.gg p u' (hk p hp u' hu);rw[e]at this;cases this;cases u with
    |lst _=>cases t
    |dK _=>cases t
    |dT _=>cases t
    |_=>cases hm
   ·rw[S4 hp];exact e
  ·rw[Th];exact⟨k.nd,q.nd,fun p hp z hz e=>apart p hp (e▸hz)⟩
  ·show(if p∈fp then none else G2 p)=none;by_cases hf:p∈fp
   ·rw[S1 hf]
   ·rw[S4 hf];rcases Tn.mp hp with hp|hp
    ·exact k.gn p hp
    ·exact absurd hp hf
  ·have e:(if p∈fp then none else G2 p)=some u:=e;by_cases hp:p∈fp
   ·rw[S1 hp]at e;cases e
   ·rw[S4 hp]at e;exact k.gh p u e
 ·rcases st.gnew p u e with z|z|z
  ·have z:(if p∈fp then H p else G p)=some u:=z;by_cases hp:p∈fp
   ·exact .inr (.inl hp)
   ·rw[S4 hp]at z;exact .inl z
  ·cases z
  ·exact .inr (.inr z)
 ·refine⟨⟨some v,vs,rfl,v,Hv,[],rfl,(Ta _).symm,r1,q.rep.frz (hg.trans st.gg) fun p hp u e=>st.gg p u (hk p hp u e)⟩,k.nd,k.gn,k.gh⟩
end
end PV
namespace PV
open PySem PySem.Spec PyProof.Rows L2 NX
def Res.bind{α β:Type}:Res α->(α->Res β)->Res β
 | .ok a,f=>f a
 | .exc c,_=>.exc c
 | .bad,_=>.bad
inductive BindOk{α β:Type}(x:Res α)(f:α->Res β)(b:β):Prop
 |mk (a:α) (h:x=.ok a) (k:f a=.ok b):BindOk x f b
theorem ai{α β:Type}{x:Res α}{f:α->Res β}{b:β}(h:x.bind f=.ok b):BindOk x f b:=by
 cases x with
 |ok a=>exact⟨a,rfl,h⟩
 |exc c=>cases h
 |bad=>cases h
inductive Opd where
 |val (d:D)|var (i:Nat)
def OpdOk(K:W.Frag)(G:Hp)(σ:L2.St):Opd->V->Prop
 | .val d,v=>Rep K G d v
 | .var i,v=>σ[i]?=some (some v)
theorem OpdOk.mono{K:W.Frag}{G G':Hp}{σ:L2.St}{o:Opd}{v:V}(h:Same G G')(r:OpdOk K G σ o v):OpdOk K G' σ o v:=by
 cases o with
 |val d=>exact Rep.mono h r
 |var i=>exact r
def jO(K:W.Frag)(G:Hp)(σ:L2.St):List Opd->List V->Prop
 |[],vs=>vs=[]
 |o::os,vs=>∃y ys,vs=y::ys/\OpdOk K G σ o y/\jO K G σ os ys
def wI:O->Bool
 | .f=>true
 | .l .f=>true
 | .d=>true
 | .pin _ .f=>true
 | .pin _ (.l .f)=>true
 | .pin _ .d=>true
 |_=>false
def Iu(env:PV.Env):Opd->Res D
 | .val d=>.ok d
 | .var i=>match env[i]? with
  |some (some r)=>if wI r.1 then .ok r.2 else .bad
  |_=>.bad
def rV(env:PV.Env):Opd->Res D
 | .val d=>.ok d
 | .var i=>match env[i]? with
  |some (some r)=>.ok r.2
  |_=>.bad
def oK(env:PV.Env):List Opd->Res (List D)
 |[]=>.ok []
 |o::os=>(Iu env o).bind fun d=>(oK env os).bind fun ds=>.ok (d::ds)
def gD(env:PV.Env):List Opd->Res (List D)
 |[]=>.ok []
 |o::os=>(rV env o).bind fun d=>(gD env os).bind fun ds=>.ok (d::ds)
def Vw(K:W.Frag)(G H:Hp):D->V->Prop
 | .lst ds,v=>∃p xs,v=.ref p/\SqL K H p xs/\Reps K G ds xs
 | .dct tk ks vs,v=>∃p xs o,v=.ref p/\Rd H p o/\DictO o tk ks xs/\Reps K G vs xs
 |d,v=>Rep K G d v
def Nq(K:W.Frag)(G H:Hp):List D->List V->Prop
 |[],vs=>vs=[]
 |d::ds,vs=>∃y ys,vs=y::ys/\Vw K G H d y/\Nq K G H ds ys
section
variable{K:W.Frag}{G G' H H':Hp}{es:PV.Env}{σ:L2.St}{fp:List Addr}
theorem Vw.of{d:D}{v:V}(gh:Same G H)(r:Rep K G d v):Vw K G H d v:=by
 cases d with
 |lst ds=>
  rw[Rep]at r;obtain⟨p,xs,e,q,rs⟩:=r;exact⟨p,xs,e,gv gh q,rs⟩
 |dct tk ks vs=>
  rw[Rep]at r;obtain⟨p,xs,o,e,q,dd,rs⟩:=r;exact⟨p,xs,o,e,PV.Rd.mono gh q,dd,rs⟩
 |_=>exact r
theorem Vw.rep{d:D}{v:V}(gh:Same G H)(r:Vw K G H d v):Rep K H d v:=by
 cases d with
 |lst ds=>
  obtain⟨p,xs,e,q,rs⟩:=r;rw[Rep];exact⟨p,xs,e,q,rs.mono gh⟩
 |dct tk ks vs=>
  obtain⟨p,xs,o,e,q,dd,rs⟩:=r;rw[Rep];exact⟨p,xs,o,e,q,dd,rs.mono gh⟩
 |non=>exact Rep.mono gh r
 |bl b=>exact Rep.mono gh r
 |int i=>exact Rep.mono gh r
 |str l=>exact Rep.mono gh r
 |tup ds=>exact Rep.mono gh r
theorem RepO.vw0{o:O}{d:D}{v:V}{a:List Addr}(gh:Same G H)(hs:o=.f\/o=.l .f\/o=.d)(r:RepO K G H o d v a):Vw K G H d v:=by
 rcases hs with rfl|rfl|rfl
 ·exact Vw.of gh (fF.mp r).1
 ·cases d with
  |lst ds=>
   obtain⟨p,xs,e,q,_,rs⟩:=jN.mp r;exact⟨p,xs,e,SqL.of q,rs⟩
  |_=>simp only[RepO]at r
 ·cases d with
  |dct tk ks vs=>
   rw[RepO]at r;obtain⟨p,xs,o,e,q,dd,_,rs⟩:=r;exact⟨p,xs,o,e,.inl q,dd,rs⟩
  |_=>simp only[RepO]at r
theorem RepO.vw{o:O}{d:D}{v:V}{a:List Addr}(gh:Same G H)(hs:wI o=true)(r:RepO K G H o d v a):Vw K G H d v:=by
 unfold wI at hs;split at hs
 ·exact r.vw0 gh (.inl rfl)
 ·exact r.vw0 gh (.inr (.inl rfl))
 ·exact r.vw0 gh (.inr (.inr rfl))
 ·rw[RepO]at r;exact r.2.vw0 gh (.inl rfl)
 ·rw[RepO]at r;exact r.2.vw0 gh (.inr (.inl rfl))
 ·rw[RepO]at r;exact r.2.vw0 gh (.inr (.inr rfl))
 ·cases hs
theorem Rel.vw{o:Opd}{v:V}{d:D}(q:Rel K G H es σ fp)(k:OpdOk K G σ o v)(e:Iu es o=.ok d):Vw K G H d v:=by
 cases o with
 |val d'=>
  cases e;exact Vw.of q.gh k
 |var i=>
  unfold Iu at e;dsimp only at e;split at e
  ·rename_i r hr;split at e
   ·rename_i hs;cases e;obtain⟨v',a,b,ev,r1,_⟩:=q.rep.take hr;have k:σ[i]?=some (some v):=k;rw[k]at ev;cases ev;exact r1.vw q.gh hs
   ·cases e
  ·cases e
theorem Rel.vwA{o:Opd}{v:V}{d:D}(q:Rel K G H es σ fp)(k:OpdOk K G σ o v)(e:rV es o=.ok d):Rep K H d v:=by
 cases o with
 |val d'=>
  cases e;exact Rep.mono q.gh k
 |var i=>
  unfold rV at e;dsimp only at e;split at e
  ·rename_i r hr;cases e;obtain⟨v',ev,r1⟩:=q.view hr;have k:σ[i]?=some (some v):=k;rw[k]at ev;cases ev;exact r1
  ·cases e
theorem Rel.vws(q:Rel K G H es σ fp):∀{os:List Opd}{vs:List V}{ds:List D},jO K G σ os vs->oK es os=.ok ds->Nq K G H ds vs
 |[],_,_,k,e=>by
  cases e;exact k
 |o::os,_,_,⟨y,ys,e0,k1,k2⟩,e=>by
  unfold oK at e;obtain⟨d,e1,e⟩:=ai e;obtain⟨ds,e2,e⟩:=ai e;cases e;exact⟨y,ys,e0,q.vw k1 e1,Rel.vws q k2 e2⟩
theorem fG{G1:Hp}(gg:Same G G1)(ht:∀(i:Nat) (r:R) (v:V),es[i]?=some (some r)->σ[i]?=some (some v)->Rep K G1 r.2 v):∀{os:List Opd}{vs:List V}{ds:List D},jO K G σ os vs->gD es os=.ok ds->Reps K G1 ds vs
 |[],_,_,k,e=>by
  cases e;have k:_=_:=k;rw[k];exact Reps.nil
 |o::os,_,_,⟨y,ys,e0,k1,k2⟩,e=>by
  unfold gD at e;obtain⟨d,e1,e⟩:=ai e;obtain⟨ds,e2,e⟩:=ai e;cases e;rw[e0];refine .cons ?_ (fG gg ht k2 e2);cases o with
  |val d'=>
   cases e1;exact Rep.mono gg k1
  |var i=>
   unfold rV at e1;dsimp only at e1;split at e1
   ·rename_i r hr;cases e1;exact ht i r y hr k1
   ·cases e1
end
abbrev FX:=PV.Env->Res (R×PV.Env)
abbrev FO:=PV.Env->Res (Opd×PV.Env)
abbrev FOs:=PV.Env->Res (List Opd×PV.Env)
abbrev FT:=PV.Env->Res (Bool×PV.Env)
inductive Out where
 |nx (env:PV.Env)|rt (r:R)|bk (env:PV.Env)|ct (env:PV.Env)
abbrev FS:=PV.Env->Res Out
inductive tQ(K:W.Frag)(f:FX)(σ:L2.St)(H:Hp)(Q:VK):Prop
 |mk:∀G env fp r env',Rel K G H env σ fp->f env=.ok (r,env')->(∀v H' G' GS,Step G H fp G' H' GS->Rel K G' H' (some r::env') (some v::σ) GS->Q v H')->tQ K f σ H Q
inductive tO(K:W.Frag)(f:FO)(σ:L2.St)(H:Hp)(Q:VK):Prop
 |mk:∀G env fp o env',Rel K G H env σ fp->f env=.ok (o,env')->(∀v H' G' GS,Step G H fp G' H' GS->Rel K G' H' env' σ GS->OpdOk K G' σ o v->Q v H')->tO K f σ H Q
inductive tOs(K:W.Frag)(f:FOs)(σ:L2.St)(H:Hp)(Q:List V->Hp->Prop):Prop
 |mk:∀G env fp o env',Rel K G H env σ fp->f env=.ok (o,env')->(∀v H' G' GS,Step G H fp G' H' GS->Rel K G' H' env' σ GS->jO K G' σ o v->Q v H')->tOs K f σ H Q
inductive tQT(K:W.Frag)(f:FT)(σ:L2.St)(H:Hp)(Q:Bool->Hp->Prop):Prop
 |mk:∀G env fp b env',Rel K G H env σ fp->f env=.ok (b,env')->(∀H' G' GS,Step G H fp G' H' GS->Rel K G' H' env' σ GS->Q b H')->tQT K f σ H Q
inductive Mode where
 |plain|mut
def Fm(md:Mode)(K:W.Frag)(G H:Hp)(r:R)(v:V)(fp:List Addr):Prop:=match md with
 | .plain=>Rel K G H [some r] [some v] fp
 | .mut=>∃o d p c d0,r=(.t [o,.pin p c],.tup [d,d0])/\Rel K G H [some (o,d),some (.pin p c,d0)] [some v,some (.ref p)] fp
noncomputable def OutOk{md:Mode}(K:W.Frag)(G H:Hp)(fp:List Addr)(Dd:Ends):Res Out->Prop
 | .ok (.nx env')=>∀σ' H' G' GS,Step G H fp G' H' GS->Rel K G' H' env' σ' GS->Dd.nx σ' H'
 | .ok (.bk env')=>∀σ' H' G' GS,Step G H fp G' H' GS->Rel K G' H' env' σ' GS->Dd.bk σ' H'
 | .ok (.ct env')=>∀σ' H' G' GS,Step G H fp G' H' GS->Rel K G' H' env' σ' GS->Dd.ct σ' H'
 | .ok (.rt r)=>∀v H' G' GS,Step G H fp G' H' GS->Fm md K G' H' r v GS->Dd.rt v H'
 |_=>False
inductive tQS{md:Mode}(K:W.Frag)(g:FS)(Dd:Ends)(σ:L2.St)(H:Hp):Prop
 |mk:∀G env fp,Rel K G H env σ fp->OutOk (md:=md) K G H fp Dd (g env)->tQS (md:=md) K g Dd σ H
def QE(X:Cx)(e:Expr)(f:FX):Prop:=PE X e (tQ X.K f)
def QO(X:Cx)(e:Expr)(f:FO):Prop:=PE X e (tO X.K f)
def KC(X:Cx)(es:List Expr)(f:FOs):Prop:=PA X es (tOs X.K f)
def QT(X:Cx)(e:Expr)(f:FT):Prop:=PT X e (tQT X.K f)
def QW(X:Cx)(e:Expr)(f:FT):Prop:=PW X e (tQT X.K f)
def QS{md:Mode}(X:Cx)(st:Stmt)(g:FS):Prop:=PS X st (tQS (md:=md) X.K g)
def K7{md:Mode}(X:Cx)(st:List Stmt)(g:FS):Prop:=PSs X st (tQS (md:=md) X.K g)
theorem a7{X:Cx}{e:Expr}{t t':TE}(h:PE X e t)(k:∀σ H Q,t' σ H Q->t σ H Q):PE X e t':=fun pr s σ H Q I w=>h pr s σ H Q I (k σ H Q w)
theorem pS{X:Cx}{e:Expr}{t t':TT}(h:PT X e t)(k:∀σ H Q,t' σ H Q->t σ H Q):PT X e t':=fun pr s σ H Q I w=>h pr s σ H Q I (k σ H Q w)
theorem x3{X:Cx}{e:Expr}{t t':TT}(h:PW X e t)(k:∀σ H Q,t' σ H Q->t σ H Q):PW X e t':=fun wh pr s σ H Q I w=>h wh pr s σ H Q I (k σ H Q w)
theorem kU{X:Cx}{e:List Expr}{t t':TA}(h:PA X e t)(k:∀σ H Q,t' σ H Q->t σ H Q):PA X e t':=fun pos pr s σ H Q I w=>h pos pr s σ H Q I (k σ H Q w)
theorem dF{X:Cx}{e:Stmt}{t t':TS}(h:PS X e t)(k:∀D σ H,t' D σ H->t D σ H):PS X e t':=fun pr s σ H D I w=>h pr s σ H D I (k D σ H w)
theorem oY{X:Cx}{e:List Stmt}{t t':TS}(h:PSs X e t)(k:∀D σ H,t' D σ H->t D σ H):PSs X e t':=fun pr s σ H D I w=>h pr s σ H D I (k D σ H w)
theorem OutOk.imp{md:Mode}{K:W.Frag}{G H G1 H1:Hp}{fp Hi:List Addr}{Dd Pk:Ends}{r:Res Out}(st:Step G H fp G1 H1 Hi)(h:OutOk (md:=md) K G H fp Dd r)(n:∀σ H,Dd.nx σ H->Pk.nx σ H)(b:∀σ H,Dd.bk σ H->Pk.bk σ H)(c:∀σ H,Dd.ct σ H->Pk.ct σ H)(t:∀v H,Dd.rt v H->Pk.rt v H):OutOk (md:=md) K G1 H1 Hi Pk r:=by
 match r,h with
 | .ok (.nx env'),h=>exact fun σ' H' G' GS s q=>n _ _ (h σ' H' G' GS (st.trans s) q)
 | .ok (.bk env'),h=>exact fun σ' H' G' GS s q=>b _ _ (h σ' H' G' GS (st.trans s) q)
 | .ok (.ct env'),h=>exact fun σ' H' G' GS s q=>c _ _ (h σ' H' G' GS (st.trans s) q)
 | .ok (.rt r),h=>exact fun v H' G' GS s q=>t _ _ (h v H' G' GS (st.trans s) q)
theorem OutOk.after{md:Mode}{K:W.Frag}{G H G1 H1:Hp}{fp Hi:List Addr}{Dd:Ends}{r:Res Out}(st:Step G H fp G1 H1 Hi)(h:OutOk (md:=md) K G H fp Dd r):OutOk (md:=md) K G1 H1 Hi Dd r:=h.imp st (fun _ _ z=>z) (fun _ _ z=>z) (fun _ _ z=>z) fun _ _ z=>z
def aF(d:D):FX:=fun env=>.ok ((.f,d),env)
def fz:O->O
 | .pin p .f=>.pin p .f
 |_=>.f
def aH(i:Nat):FX:=fun env=>match env[i]? with
 |some (some r)=>.ok ((.f,r.2),env.set i (some (fz r.1,r.2)))
 |_=>.bad
def lQ(i:Nat):FX:=fun env=>match env[i]? with
 |some (some r)=>.ok (r,env.set i none)
 |_=>.bad
def aq(f:FX):FO:=fun env=>(f env).bind fun p=>.ok (.val p.1.2,p.2)
def av(i:Nat):FO:=fun env=>match env[i]? with
 |some (some _)=>.ok (.var i,env)
 |_=>.bad
def aE:FOs:=fun env=>.ok ([],env)
def ag(f:FO)(g:FOs):FOs:=fun env=>(f env).bind fun p=>(g p.2).bind fun q=>.ok (p.1::q.1,q.2)
section
variable{X:Cx}
theorem pT{e:Expr}{v:V}{d:D}(h:PE X e (tC v))(r:∀G,Rep X.K G d v):QE X e (aF d):=a7 h fun σ H Q G9=>by
 obtain⟨G,env,fp,rr,env',rel,e,k⟩:=G9;cases e;exact k v H G fp .refl (rel.push (r G))
theorem aj{i j pos}:QE X (.Constant (.int i) j pos) (aF (.int i)):=pT Ba fun G=>by rw[Rep]
theorem zq{i j pos}:QE X (.Constant (.bool i) j pos) (aF (.bl i)):=pT DR fun G=>by rw[Rep]
theorem eZ{j pos}:QE X (.Constant .none j pos) (aF .non):=pT Bb fun G=>by rw[Rep]
theorem d4{x j pos}{l:List Nat}(h:x=S l)(hl:l.length<=1000):QE X (.Constant (.str x) j pos) (aF (.str l)):=pT Bc fun G=>by
 rw[Rep,h];exact⟨rfl,by rw[line_eq];lia⟩
theorem ax{i:Nat}{e:Expr}(h:PE X e (pG i)):QE X e (aH i):=a7 h fun σ H Q G9=>by
 obtain⟨G,env,fp,rr,env',rel,e,k⟩:=G9;unfold aH at e;split at e
 ·rename_i r hr;cases e;by_cases hf:fz r.1=.f
  ·obtain⟨v,G',fq,ev,rv,Hq,st⟩:=rel.freezeAt hr;rw[hf]at k;exact⟨v,ev,k v H G' fq st (Hq.push rv)⟩
  ·have hp:∃p,r.1=.pin p .f:=by
    unfold fz at hf;split at hf
    ·rename_i p hp;exact⟨p,hp⟩
    ·exact absurd rfl hf
   obtain⟨p,hp⟩:=hp;obtain⟨v,a,b,ev,r1,_,_⟩:=rel.rep.take hr;rw[hp,RepO]at r1;have es:env.set i (some (fz r.1,r.2))=env:=by
    refine lP ?_;rw[hr,hp];show some (some r)=some (some (.pin p .f,r.2));rw[<-hp]
   rw[es]at k;exact⟨v,ev,k v H G fp .refl (rel.push (fF.mp r1.2).1)⟩
 ·cases e
theorem iP{i:Nat}{e:Expr}(h:PE X e (pG i)):QE X e (lQ i):=a7 h fun σ H Q G9=>by
 obtain⟨G,env,fp,rr,env',rel,e,k⟩:=G9;unfold lQ at e;split at e
 ·rename_i r hr;cases e;obtain⟨v,fq,ev,Hq,st,_⟩:=rel.out hr;exact⟨v,ev,k v H G fq st Hq⟩
 ·cases e
theorem aa{e:Expr}{f:FX}(h:QE X e f):QO X e (aq f):=a7 h fun σ H Q G9=>by
 obtain⟨G,env,fp,o,env',rel,e,k⟩:=G9;obtain⟨⟨r,GN⟩,e1,e⟩:=ai e;cases e;refine⟨G,env,fp,r,GN,rel,e1,fun v H' G' GS st Hq=>?_⟩;obtain⟨G2,b,rv,GO,GW⟩:=Hq.freeze;exact k v H' G2 b (st.trans GW) GO rv
theorem ae{i:Nat}{e:Expr}(h:PE X e (pG i)):QO X e (av i):=a7 h fun σ H Q G9=>by
 obtain⟨G,env,fp,o,env',rel,e,k⟩:=G9;unfold av at e;split at e
 ·rename_i r hr;cases e;obtain⟨v,ev,_⟩:=rel.view hr;exact⟨v,ev,k v H G fp .refl rel ev⟩
 ·cases e
theorem au:KC X [] aE:=kU i4 fun σ H Q G9=>by
 obtain⟨G,env,fp,o,env',rel,e,k⟩:=G9;cases e;exact k [] H G fp .refl rel rfl
theorem af{e:Expr}{es:List Expr}{f:FO}{g:FOs}(h:QO X e f)(hs:KC X es g)(Lw:starEach (e::es) X.env=(false,eval e X.env)::starEach es X.env:=by rfl):KC X (e::es) (ag f g):=
 kU (cU h hs Lw) fun σ H Q G9=>by
  obtain⟨G,env,fp,o,env',rel,e,k⟩:=G9;obtain⟨⟨o1,GN⟩,e1,e⟩:=ai e;obtain⟨⟨os,GY⟩,e2,e⟩:=ai e;cases e;exact⟨G,env,fp,o1,GN,rel,e1,fun v H1 G1 Hi Hc GP Iw=>⟨G1,GN,Hi,os,GY,GP,e2,fun vs H2 G2 Hv GW GO Lk=>k _ H2 G2 Hv (Hc.trans GW) GO ⟨v,vs,rfl,Iw.mono GW.gg,Lk⟩⟩⟩
def aD(g:D->D->Res R)(fa fb:FO):FX:=fun env=>(fa env).bind fun p=>(fb p.2).bind fun q=>(Iu q.2 p.1).bind fun a=>(Iu q.2 q.1).bind fun b=>(g a b).bind fun r=>.ok (r,q.2)
def bI(g:D->D->Res R)(fa fb:FO):FX:=fun env=>(fa env).bind fun p=>(fb p.2).bind fun q=>(rV q.2 p.1).bind fun a=>(rV q.2 q.1).bind fun b=>(g a b).bind fun r=>.ok (r,q.2)
structure Goes(K:W.Frag)(H:Hp)(G:Hp)(fp:List Addr)(es:PV.Env)(vs:L2.St)(r:R)(Q:VK):Prop where
 rel:Rel K G H es vs fp
 jx:∀v H' G' GS,Step G H fp G' H' GS->Rel K G' H' (some r::es) (some v::vs) GS->Q v H'
inductive rG(K:W.Frag)(g:D->D->Res R)(x:V)(y:V)(H:Hp)(Q:VK):Prop
 |mk:∀G fp es vs a b r,Goes K H G fp es vs r Q->Vw K G H a x->Vw K G H b y->g a b=.ok r->rG K g x y H Q
inductive rGA(K:W.Frag)(g:D->D->Res R)(x:V)(y:V)(H:Hp)(Q:VK):Prop
 |mk:∀G fp es vs a b r,Goes K H G fp es vs r Q->Rep K H a x->Rep K H b y->g a b=.ok r->rGA K g x y H Q
variable{a b c:Expr}{fa fb fc:FO}{pos:Pos}{g g':D->D->Res R}
theorem pU{σ:L2.St}{H:Hp}{Q:VK}(h:tQ X.K (aD g fa fb) σ H Q):OI (rG X.K g) (tO X.K fa) (tO X.K fb) σ H Q:=by
 obtain⟨G,env,fp,r,env',rel,e,k⟩:=h;obtain⟨⟨oa,e1⟩,ha,e⟩:=ai e;obtain⟨⟨ob,e2⟩,hb,e⟩:=ai e;obtain⟨da,Mu,e⟩:=ai e;obtain⟨db,Ie,e⟩:=ai e;obtain⟨r',hr,e⟩:=ai e;cases e;exact⟨G,env,fp,oa,e1,rel,ha,fun x H1 G1 Hi Hc GP Iw=>⟨G1,e1,Hi,ob,e2,GP,hb,fun y H2 G2 Hv GW GO Lk=>
  ⟨G2,Hv,e2,σ,da,db,r,⟨GO,fun v H' G' GS st Hq=>k v H' G' GS (Hc.trans (GW.trans st)) Hq⟩,GO.vw (Iw.mono GW.gg) Mu,GO.vw Lk Ie,hr⟩⟩⟩
theorem tJ{σ:L2.St}{H:Hp}{Q:VK}(h:tQ X.K (bI g fa fb) σ H Q):OI (rGA X.K g) (tO X.K fa) (tO X.K fb) σ H Q:=by
 obtain⟨G,env,fp,r,env',rel,e,k⟩:=h;obtain⟨⟨oa,e1⟩,ha,e⟩:=ai e;obtain⟨⟨ob,e2⟩,hb,e⟩:=ai e;obtain⟨da,Mu,e⟩:=ai e;obtain⟨db,Ie,e⟩:=ai e;obtain⟨r',hr,e⟩:=ai e;cases e;exact⟨G,env,fp,oa,e1,rel,ha,fun x H1 G1 Hi Hc GP Iw=>⟨G1,e1,Hi,ob,e2,GP,hb,fun y H2 G2 Hv GW GO Lk=>
  ⟨G2,Hv,e2,σ,da,db,r,⟨GO,fun v H' G' GS st Hq=>k v H' G' GS (Hc.trans (GW.trans st)) Hq⟩,GO.vwA (Iw.mono GW.gg) Mu,GO.vwA Lk Ie,hr⟩⟩⟩
theorem aI{op:Operator}(ho:HI X (binaryOp op) (rG X.K g))(ha:QO X a fa)(hb:QO X b fb):QE X (.BinOp a op b pos) (aD g fa fb):=a7 (D3 ho ha hb) fun _ _ _=>pU
theorem B1{op:CmpOp}(ho:HI X (compareOp op) (rG X.K g))(ha:QO X a fa)(hb:QO X b fb)(hm:behindInMarks op b=false):QE X (.Compare a [op] [b] pos) (aD g fa fb):=a7 (sy ho ha hb hm) fun _ _ _=>pU
theorem zr{op:CmpOp}(ho:HI X (compareOp op) (rGA X.K g))(ha:QO X a fa)(hb:QO X b fb)(hm:behindInMarks op b=false):QE X (.Compare a [op] [b] pos) (bI g fa fb):=a7 (sy ho ha hb hm) fun _ _ _=>tJ
def HA(f:FX):FT:=fun env=>(f env).bind fun p=>match p.1.2 with
 | .bl k=>.ok (k,p.2)
 |_=>.bad
theorem zt{f:FX}{σ:L2.St}{H:Hp}{Q:Bool->Hp->Prop}(h:tQT X.K (HA f) σ H Q):tQ X.K f σ H fun x H'=>∃k,x=.bl k/\Q k H':=by
 obtain⟨G,env,fp,k,env',rel,e,q⟩:=h;obtain⟨⟨⟨o,d⟩,GN⟩,e1,e⟩:=ai e;dsimp only at e;split at e
 ·cases e;refine⟨G,env,fp,_,_,rel,e1,fun v H' G' GS st Hq=>?_⟩;have hv:=Hq.top;rw[show((o,D.bl k):R).2=D.bl k from rfl,Rep]at hv;obtain⟨b,GO,GW⟩:=Hq.drop;exact⟨k,hv,q H' G' b (st.trans GW) GO⟩
 ·cases e
theorem pV{e:Expr}{f:FX}(h:QE X e f)(he:∀whole,isTrue e X.env whole=(do let v <-whole;standAt e.pos;holding [v] (truthy v)):=by intro _;rfl):QT X e (HA f):=pS (Bd h he) fun _ _ _=>zt
theorem kW{op:CmpOp}(ho:HI X (compareOp op) (rG X.K g))(ha:QO X a fa)(hb:QO X b fb)(hm:behindInMarks op b=false):QT X (.Compare a [op] [b] pos) (HA (aD g fa fb)):=
 pS (sH ho ha hb hm) fun _ _ _ h=>pU (zt h)
theorem aY{op:CmpOp}(ho:HI X (compareOp op) (rGA X.K g))(ha:QO X a fa)(hb:QO X b fb)(hm:behindInMarks op b=false):QT X (.Compare a [op] [b] pos) (HA (bI g fa fb)):=
 pS (sH ho ha hb hm) fun _ _ _ h=>tJ (zt h)
def rW(f g:FT):FT:=fun env=>(f env).bind fun p=>if p.1 then g p.2 else .ok (false,p.2)
def Rw(f g:FT):FT:=fun env=>(f env).bind fun p=>if p.1 then .ok (true,p.2) else g p.2
def AY(f:FT):FT:=fun env=>(f env).bind fun p=>.ok (!p.1,p.2)
variable{ga gb:FT}{cT:List Expr}
theorem jP(h:QT X a ga):QW X (.BoolOp .And [a] pos) ga:=yD h
theorem B2(h:QT X a ga):QW X (.BoolOp .Or [a] pos) ga:=Be h
theorem kX(h:QT X a ga)(h2:QW X (.BoolOp .And (b::cT) pos) gb):QW X (.BoolOp .And (a::b::cT) pos) (rW ga gb):=x3 (Bf h h2) fun σ H Q G9=>by
 obtain⟨G,env,fp,k,env',rel,e,q⟩:=G9;obtain⟨⟨k1,GN⟩,e1,e⟩:=ai e;refine⟨G,env,fp,k1,GN,rel,e1,fun H1 G1 Hi Hc GP=>?_⟩;dsimp only at e;cases k1 with
 |true=>exact⟨G1,GN,Hi,k,env',GP,e,fun H2 G2 Hv GW GO=>q H2 G2 Hv (Hc.trans GW) GO⟩
 |false=>
  cases e;exact q H1 G1 Hi Hc GP
theorem Er(h:QT X a ga)(h2:QW X (.BoolOp .Or (b::cT) pos) gb):QW X (.BoolOp .Or (a::b::cT) pos) (Rw ga gb):=x3 (DS h h2) fun σ H Q G9=>by
 obtain⟨G,env,fp,k,env',rel,e,q⟩:=G9;obtain⟨⟨k1,GN⟩,e1,e⟩:=ai e;refine⟨G,env,fp,k1,GN,rel,e1,fun H1 G1 Hi Hc GP=>?_⟩;dsimp only at e;cases k1 with
 |false=>exact⟨G1,GN,Hi,k,env',GP,e,fun H2 G2 Hv GW GO=>q H2 G2 Hv (Hc.trans GW) GO⟩
 |true=>
  cases e;exact q H1 G1 Hi Hc GP
theorem QW.qt{e:Expr}{f:FT}(h:QW X e f):QT X e f:=h.pt
theorem pW(h:QT X a ga):QT X (.UnaryOp .Not a pos) (AY ga):=pS (Bg h) fun σ H Q G9=>by
 obtain⟨G,env,fp,k,env',rel,e,q⟩:=G9;obtain⟨⟨k1,GN⟩,e1,e⟩:=ai e;cases e;exact⟨G,env,fp,k1,GN,rel,e1,fun H1 G1 Hi Hc GP=>q H1 G1 Hi Hc GP⟩
def GC(f g:FX):FX:=fun env=>(f env).bind fun p=>match p.1.2 with
 | .bl true=>g p.2
 | .bl false=>.ok ((.f,.bl false),p.2)
 |_=>.bad
def eOr(f g:FX):FX:=fun env=>(f env).bind fun p=>match p.1.2 with
 | .bl true=>.ok ((.f,.bl true),p.2)
 | .bl false=>g p.2
 |_=>.bad
def GD(f:FX):FX:=fun env=>(f env).bind fun p=>match p.1.2 with
 | .bl k=>.ok ((.f,.bl (!k)),p.2)
 |_=>.bad
def eIf(c:FT)(f g:FX):FX:=fun env=>(c env).bind fun p=>if p.1 then f p.2 else g p.2
variable{ea eb:FX}
theorem cy{K:W.Frag}{G:Hp}(k:Bool):Rep K G (.bl k) (.bl k):=by rw[Rep]
theorem bD{K:W.Frag}{G:Hp}(k:Int):Rep K G (.int k) (.int k):=by rw[Rep]
theorem lR{K:W.Frag}{G:Hp}:Rep K G .non .non:=by rw[Rep]
theorem fH{K:W.Frag}{G:Hp}{l:List Nat}(h:l.length<=sizeLine):Rep K G (.str l) (.str (S l)):=by
 rw[Rep];exact⟨rfl,h⟩
theorem c7{K:W.Frag}{G:Hp}{k:Bool}{v:V}(h:Rep K G (.bl k) v):v=.bl k:=by rw[Rep]at h;exact h
theorem bx{K:W.Frag}{G:Hp}{k:Int}{v:V}(h:Rep K G (.int k) v):v=.int k:=by rw[Rep]at h;exact h
theorem bZ{K:W.Frag}{G:Hp}{v:V}(h:Rep K G .non v):v=.non:=by rw[Rep]at h;exact h
theorem ba{K:W.Frag}{G:Hp}{l:List Nat}{v:V}(h:Rep K G (.str l) v):v=.str (S l)/\l.length<=sizeLine:=by rw[Rep]at h;exact h
inductive OfT(K:W.Frag)(G:Hp)(l:List D)(v:V):Prop
 |mk (p:Addr) (xs:List V) (e:v=.ref p) (q:SqT K G p xs) (r:Reps K G l xs):OfT K G l v
inductive OfL(K:W.Frag)(G:Hp)(l:List D)(v:V):Prop
 |mk (p:Addr) (xs:List V) (e:v=.ref p) (q:SqL K G p xs) (r:Reps K G l xs):OfL K G l v
theorem bc{K:W.Frag}{G:Hp}{l:List D}{v:V}(h:Rep K G (.tup l) v):OfT K G l v:=by
 rw[Rep]at h;obtain⟨p,xs,e,q,r⟩:=h;exact⟨p,xs,e,SqT.of q,r⟩
theorem tL{K:W.Frag}{G:Hp}{l:List D}{v:V}(h:Rep K G (.tup l) v):∃p xs,v=.ref p/\G p=some (.tup xs)/\Reps K G l xs:=by rw[Rep]at h;exact h
theorem bp{K:W.Frag}{G:Hp}{l:List D}{v:V}(h:Rep K G (.lst l) v):OfL K G l v:=by
 rw[Rep]at h;obtain⟨p,xs,e,q,r⟩:=h;exact⟨p,xs,e,q,r⟩
theorem bz{K:W.Frag}{G H:Hp}{k:Int}{v:V}(h:Vw K G H (.int k) v):v=.int k:=bx (K:=K) (G:=G) h
theorem e7{K:W.Frag}{G H:Hp}{l:List Nat}{v:V}(h:Vw K G H (.str l) v):v=.str (S l)/\l.length<=sizeLine:=ba (K:=K) (G:=G) h
theorem gG{K:W.Frag}{G H:Hp}{l:List D}{v:V}(h:Vw K G H (.tup l) v):OfT K G l v:=bc (K:=K) (G:=G) h
noncomputable def Fn(g g':D->D->Res R)(fa fb fc:FO):FX:=fun env=>(fa env).bind fun p=>(fb p.2).bind fun q=>(Iu q.2 p.1).bind fun a=>(Iu q.2 q.1).bind fun b=>(g a b).bind fun r=>match r with
 |(.f,.bl true)=>(fc q.2).bind fun t=>(Iu t.2 q.1).bind fun b=>(Iu t.2 t.1).bind fun c=>(g' b c).bind fun r=>.ok (r,t.2)
 |(.f,.bl false)=>.ok ((.f,.bl false),q.2)
 |_=>.bad
inductive rC(K:W.Frag)(g:List D->Res R)(xs:List V)(H:Hp)(Q:VK):Prop
 |mk:∀G fp es vs ds r,Goes K H G fp es vs r Q->Nq K G H ds xs->g ds=.ok r->rC K g xs H Q
def bo(g:List D->Res R)(fs:FOs):FX:=fun env=>(fs env).bind fun p=>(oK p.2 p.1).bind fun ds=>(g ds).bind fun r=>.ok (r,p.2)
theorem tM{gg:List D->Res R}{fs:FOs}{σ:L2.St}{H:Hp}{Q:VK}(h:tQ X.K (bo gg fs) σ H Q):Q3 (rC X.K gg) (tOs X.K fs) σ H Q:=by
 obtain⟨G,env,fp,r,env',rel,e,k⟩:=h;obtain⟨⟨os,e1⟩,ha,e⟩:=ai e;obtain⟨ds,hd,e⟩:=ai e;obtain⟨r',hr,e⟩:=ai e;cases e;exact⟨G,env,fp,os,e1,rel,ha,fun vs H1 G1 Hi Hc GP Iw=>⟨G1,Hi,e1,σ,ds,r,⟨GP,fun v H' G' GS st Hq=>k v H' G' GS (Hc.trans st) Hq⟩,GP.vws Iw hd,hr⟩⟩
variable{x:Str}{p:Pos}{e:Expr}{es:List Expr}{gg:List D->Res R}{fs:FOs}{id T:String}
theorem bA(hc:c6 X (.builtin id) (rC X.K gg))(hg:Gl X x)(hm:X.mg x=none)(hv:bootBuiltins x=some (.builtin id))(ha:KC X (e::es) fs)(hn:x≠"__name__":=by decide)(Ie:(x==("__debug__" : Str))=false:=by decide)
  (he:starEach (e::es) X.env=(false,eval e X.env)::starEach es X.env:=by rfl) (Ic:(backTo pos (starEach es X.env)).any (·.1)=false:=by rfl):QE X (.Call (.Name x p) (e::es) [] pos) (bo gg fs):=
 a7 (jy hc hg hm hv ha hn Ie he Ic) fun _ _ _=>tM
theorem bG(hc:c6 X (.type T) (rC X.K gg))(hg:Gl X x)(hm:X.mg x=none)(hv:bootBuiltins x=some (.type T))(ha:KC X (e::es) fs)(hn:x≠"__name__":=by decide)(Ie:(x==("__debug__" : Str))=false:=by decide)
  (he:starEach (e::es) X.env=(false,eval e X.env)::starEach es X.env:=by rfl) (Ic:(backTo pos (starEach es X.env)).any (·.1)=false:=by rfl):QE X (.Call (.Name x p) (e::es) [] pos) (bo gg fs):=
 a7 (sN hc hg hm hv ha hn Ie he Ic) fun _ _ _=>tM
inductive spF(K:W.Frag)(F:List D->Res R)(vs:List V)(H:Hp)(Q:VK)(zz:XK):Prop
 |mk:∀G ds r,Same G H->Reps K G ds vs->F ds=.ok r->(∀v H' G' GS,Step G H [] G' H' GS->Rel K G' H' [some r] [some v] GS->Q v H')->spF K F vs H Q zz
def dD(F:List D->Res R)(fs:FOs):FX:=fun env=>(fs env).bind fun p=>(gD p.2 p.1).bind fun ds=>(F ds).bind fun r=>.ok (r,if aM r.1 r.2 then p.2 else p.2.map frz)
theorem aV{F:List D->Res R}{k:Nat}(C:Ct X.prog X.w X.K X.mg X.base x k (spF X.K F))(hr:Room k X.A)(hg:Gl X x)(ha:KC X (e::es) fs)(Ie:(x==("__debug__" : Str))=false:=by decide)
  (he:starEach (e::es) X.env=(false,eval e X.env)::starEach es X.env:=by rfl) (Ic:(backTo pos (starEach es X.env)).any (·.1)=false:=by rfl):QE X (.Call (.Name x p) (e::es) [] pos) (dD F fs):=
 a7 (yW C hr hg ha Ie he Ic) fun σ H Q G9=>by
  obtain⟨G,env,fp,r,env',rel,e,k⟩:=G9;obtain⟨⟨os,e1⟩,ha,e⟩:=ai e;obtain⟨ds,hd,e⟩:=ai e;obtain⟨r',hr,e⟩:=ai e;refine⟨G,env,fp,os,e1,rel,ha,fun vs H1 G1 Hi Hc GP Iw=>?_⟩;show spF X.K F (vs++[]) H1 Q _;rw[Ta];obtain⟨G2,LM,Mv,Jd,_,Je⟩:=GP.lend;refine⟨G2,ds,r',Mv,fG LM Jd Iw hd,hr,fun v H' G' GS st Hq=>?_⟩;obtain⟨k1,k2⟩:=Je H' G' GS r' v st Hq;by_cases hc:aM r'.1 r'.2=true
  ·rw[S1 hc]at e;cases e;obtain⟨G3,Iz,Hs,Hk⟩:=k1 hc;exact k v H' G3 Iz (Hc.trans Hs) Hk
  ·rw[S4 hc]at e;cases e;obtain⟨G3,Iz,Hs,Hk⟩:=k2;exact k v H' G3 Iz (Hc.trans Hs) Hk
end
def sSeq(g1 g2:FS):FS:=fun env=>(g1 env).bind fun o=>match o with
 | .nx e=>g2 e
 |o=>.ok o
def dn:FS:=fun env=>.ok (.nx env)
def x4:FS:=fun _=>.bad
def cx(i:Nat)(f:FX):FS:=fun env=>(f env).bind fun p=>if i<p.2.length then .ok (.nx (p.2.set i (some p.1))) else .bad
def jr(f:FX):FS:=fun env=>(f env).bind fun p=>.ok (.nx p.2)
def fg(f:FX):FS:=fun env=>(f env).bind fun p=>.ok (.rt p.1)
def Jr(c:FT)(g h:FS):FS:=fun env=>(c env).bind fun p=>if p.1 then g p.2 else h p.2
section
variable{md:Mode}{X:Cx}{st:Stmt}{Nr:List Stmt}{g h:FS}{f:FX}{c:FT}{pos:Pos}{e:Expr}
theorem bq:K7 (md:=md) X [] dn:=oY sf fun D σ H ⟨G,env,fp,rel,k⟩=>k σ H G fp .refl rel
theorem aB(a:QS (md:=md) X st g):K7 (md:=md) X [st] g:=yE a
theorem ah(a:QS (md:=md) X st g)(b:K7 (md:=md) X Nr h):K7 (md:=md) X (st::Nr) (sSeq g h):=oY (pH a b) fun D σ H G9=>by
 obtain⟨G,env,fp,rel,k⟩:=G9;refine⟨G,env,fp,rel,?_⟩;have k:OutOk X.K G H fp D ((g env).bind fun o=>match o with | .nx e=>h e|o=>.ok o):=k;match q:g env,k with
 | .ok (.nx GN),k=>exact fun σ1 H1 G1 Hi Hc GP=>⟨G1,GN,Hi,GP,OutOk.after Hc k⟩
 | .ok (.bk GN),k=>exact k
 | .ok (.ct GN),k=>exact k
 | .ok (.rt r),k=>exact k
theorem wJ:QS (md:=md) X st x4:=dF vO fun D σ H ⟨G,env,fp,rel,k⟩=>k
theorem tN{K:W.Frag}{G H:Hp}{fp:List Addr}{D:Ends}{i:Nat}{env:PV.Env}{σ:L2.St}(rel:Rel K G H env σ fp)(k:OutOk (md:=md) K G H fp D (cx i f env)):tQ K f σ H fun v H'=>D.nx (σ.set i (some v)) H':=by
 unfold cx at k;match q:f env,k with
 | .ok (r,GN),k=>
  have k:OutOk K G H fp D (if i<GN.length then .ok (.nx (GN.set i (some r))) else .bad):=k;by_cases hi:i<GN.length
  ·rw[S1 hi]at k;refine⟨G,env,fp,r,GN,rel,q,fun v H1 G1 Hi Hc GP=>?_⟩;obtain⟨fq,GO,GW⟩:=GP.store hi;exact k _ H1 G1 fq (Hc.trans GW) GO
  ·rw[S4 hi]at k;exact k.elim
theorem aK{i:Nat}{x:Str}{pos':Pos}(hN:X.N.Nodup)(hi:X.N[i]?=some x)(hx:Loc X.env.scope x)(he:QE X e f)(hs:swapsWith e (some (.Name x pos')) pos.line X.env=pure false:=by rfl)(hf:X.fn x=true\/X.env.scope.names.lookup x=some .local:=by first|exact .inl rfl|exact .inr rfl|assumption):
  QS (md:=md) X (.Assign [.Name x pos'] e pos) (cx i f):=dF (xN (i:=i) hN hi hx he hs hf) fun D σ H ⟨G,env,fp,rel,k⟩=>tN rel k
theorem eI(he:QE X e f)(hs:swapsWith e none pos.line X.env=pure false:=by rfl):QS (md:=md) X (.Expr e pos) (jr f):=dF (yF he hs) fun D σ H G9=>by
 obtain⟨G,env,fp,rel,k⟩:=G9;unfold jr at k;match q:f env,k with
 | .ok (r,GN),k=>
  refine⟨G,env,fp,r,GN,rel,q,fun v H1 G1 Hi Hc GP=>?_⟩;obtain⟨b,GO,GW⟩:=GP.drop;exact k _ H1 G1 b (Hc.trans GW) GO
theorem Rel.only{K:W.Frag}{G H:Hp}{r:R}{v:V}{es:PV.Env}{vs:L2.St}{fp:List Addr}(q:Rel K G H (some r::es) (some v::vs) fp):∃a,Rel K G H [some r] [some v] a/\Step G H fp G H a:=by
 obtain⟨y,ys,e,v',a,b,e1,e2,r1,r2⟩:=q.rep;cases e;cases e1;subst e2;have nd:=Th.mp q.nd;exact⟨a,⟨⟨some v,[],rfl,v,a,[],rfl,(Ta _).symm,r1,rfl,rfl⟩,nd.1,fun p hp=>q.gn p (SW _ hp),q.gh⟩,Step.cut fun p hp=>SW _ hp⟩
theorem bg(he:QE X e f):QS (md:=.plain) X (.Return (some e) pos) (fg f):=dF (xM he) fun D σ H G9=>by
 obtain⟨G,env,fp,rel,k⟩:=G9;unfold fg at k;match q:f env,k with
 | .ok (r,GN),k=>
  refine⟨G,env,fp,r,GN,rel,q,fun v H1 G1 Hi Hc GP=>?_⟩;obtain⟨b,GO,GW⟩:=GP.only;exact k _ H1 G1 b (Hc.trans GW) GO
theorem Rel.nilF{K:W.Frag}{G H:Hp}{es:PV.Env}{vs:L2.St}{fp:List Addr}(q:Rel K G H es vs fp):Rel K G H [] [] []:=⟨⟨rfl,rfl⟩,Uu,(fun _ h=>nomatch h),q.gh⟩
theorem du{a b:List Stmt}{ct:Expr}(hc:QT X ct c)(ha:K7 (md:=md) X a g)(hb:K7 (md:=md) X b h):QS (md:=md) X (.If ct a b pos) (Jr c g h):=dF (DX hc ha hb) fun D σ H G9=>by
 obtain⟨G,env,fp,rel,k⟩:=G9;unfold Jr at k;match q:c env,k with
 | .ok (true,GN),k=>exact⟨G,env,fp,true,GN,rel,q,fun H1 G1 Hi Hc GP=>DJ ⟨G1,GN,Hi,GP,OutOk.after Hc k⟩⟩
 | .ok (false,GN),k=>exact⟨G,env,fp,false,GN,rel,q,fun H1 G1 Hi Hc GP=>iteF ⟨G1,GN,Hi,GP,OutOk.after Hc k⟩⟩
def c9(c:FT)(g:FS):Nat->FS
 | 0,_=>.bad
 |n+1,env=>(c env).bind fun p=>if p.1 then(g p.2).bind fun o=>match o with
  | .nx e=>c9 c g n e
  | .ct e=>c9 c g n e
  | .bk e=>.ok (.nx e)
  | .rt r=>.ok (.rt r)
  else .ok (.nx p.2)
theorem pX{ct:Expr}{body:List Stmt}(n:Nat)(hp:PassesOwn (model X.prog X.w) X.A X.env X.xe)(hc:QT X ct c)(hb:K7 (md:=md) X body g):QS (md:=md) X (.While ct body [] pos) (c9 c g n):=
 dF (vQ hp hc hb) fun D σ H G9=>by
  obtain⟨G,env,fp,rel,k⟩:=G9;refine⟨fun m σ' H'=>∃G' env' GS,Rel X.K G' H' env' σ' GS/\OutOk X.K G' H' GS D (c9 c g m env'),⟨n,G,env,fp,rel,k⟩,?_⟩;rintro m σ1 H1 ⟨G1,GN,Hi,GP,k1⟩;cases m with
  |zero=>exact k1.elim
  |succ m=>
   unfold c9 at k1;match q:c GN,k1 with
   | .ok (false,GY),k1=>exact⟨G1,GN,Hi,false,GY,GP,q,fun H2 G2 Hv GW GO=>iteF (k1 _ H2 G2 Hv GW GO)⟩
   | .ok (true,GY),k1=>
    refine⟨G1,GN,Hi,true,GY,GP,q,fun H2 G2 Hv GW GO=>DJ ?_⟩;refine⟨fun σ' H'=>∃G' env' GS,Rel X.K G' H' env' σ' GS/\OutOk X.K G' H' GS D (c9 c g m env'),fun σ' H' z=>⟨m,UZ _,z⟩,G2,GY,Hv,GO,?_⟩;have k2:OutOk X.K G1 H1 Hi D ((g GY).bind fun o=>match o with | .nx e=>c9 c g m e | .ct e=>c9 c g m e | .bk e=>.ok (.nx e) | .rt r=>.ok (.rt r)):=k1;match q2:g GY,k2 with
    | .ok (.nx e),k2=>exact fun σ' H' G' GS st rel=>⟨G',e,GS,rel,OutOk.after (GW.trans st) k2⟩
    | .ok (.ct e),k2=>exact fun σ' H' G' GS st rel=>⟨G',e,GS,rel,OutOk.after (GW.trans st) k2⟩
    | .ok (.bk e),k2=>exact fun σ' H' G' GS st rel=>k2 σ' H' G' GS (GW.trans st) rel
    | .ok (.rt r),k2=>exact fun v H' G' GS st rel=>k2 v H' G' GS (GW.trans st) rel
def Walk(K:W.Frag)(G:Hp)(J:It)(ds:List D):Prop:=∀G' H' es vs fp,Same G G'->Rel K G' H' es vs fp->∀i:Nat,
 (∀d,ds[i]?=some d->J.go i H'/\∀x H2,J.yld i H' x H2->∃G2,Rep K G2 d x/\Rel K G2 H2 es vs fp/\Step G' H' fp G2 H2 fp)/\(i=ds.length->J.stop i H')
abbrev FI:=PV.Env->Res (List D×PV.Env)
inductive tQI(K:W.Frag)(f:FI)(σ:L2.St)(H:Hp)(R:It->Hp->Prop):Prop
 |mk:∀G env fp ds env',Rel K G H env σ fp->f env=.ok (ds,env')->(∀J H' G' GS,Step G H fp G' H' GS->Rel K G' H' env' σ GS->Walk K G' J ds->R J H')->tQI K f σ H R
def QI(X:Cx)(tg e:Expr)(f:FI):Prop:=PI X tg e (tQI X.K f)
theorem jQ{X:Cx}{tg e:Expr}{t t':TI}(h:PI X tg e t)(k:∀σ H R,t' σ H R->t σ H R):PI X tg e t':=fun pr s σ H R I w=>h pr s σ H R I (k σ H R w)
abbrev FG:=D->PV.Env->Res PV.Env
inductive tQG(K:W.Frag)(a:FG)(v:V)(σ:L2.St)(H:Hp)(Q:L2.St->Hp->Prop):Prop
 |mk:∀G env fp d env',Rel K G H env σ fp->Rep K G d v->a d env=.ok env'->(∀σ' G' GS,Step G H fp G' H GS->Rel K G' H env' σ' GS->Q σ' H)->tQG K a v σ H Q
def QG(X:Cx)(tg:Expr)(a:FG):Prop:=PG X tg (tQG X.K a)
def aG(i:Nat):FG:=fun d env=>if i<env.length then .ok (env.set i (some (.f,d))) else .bad
theorem x5{X:Cx}{tg:Expr}{t t':TG}(h:PG X tg t)(k:∀v σ H Q,t' v σ H Q->t v σ H Q):PG X tg t':=fun pr s σ H v u Q I r w=>h pr s σ H v u Q I r (k v σ H Q w)
theorem tP{X:Cx}{tg:List Expr}{t t':Nk}(h:Nz X tg t)(k:∀v σ H Q,t' v σ H Q->t v σ H Q):Nz X tg t':=fun pr s σ H v u Q I r w=>h pr s σ H v u Q I r (k v σ H Q w)
theorem aN{i:Nat}{x:Str}(hN:X.N.Nodup)(hi:X.N[i]?=some x)(hx:Loc X.env.scope x)(hf:X.fn x=true\/X.env.scope.names.lookup x=some .local:=by first|exact .inl rfl|exact .inr rfl|assumption):QG X (.Name x pos) (aG i):=
 x5 (yG (i:=i) hN hi hx hf) fun v σ H Q G9=>by
  obtain⟨G,env,fp,d,env',rel,r,e,k⟩:=G9;unfold aG at e;split at e
  ·rename_i hl;cases e;obtain⟨fq,GO,GW⟩:=(rel.push r).store hl;exact k _ G fq GW GO
  ·cases e
abbrev Mw:=List D->PV.Env->Res PV.Env
inductive tQGs(K:W.Frag)(a:Mw)(vs:List V)(σ:L2.St)(H:Hp)(Q:L2.St->Hp->Prop):Prop
 |mk:∀G env fp ds env',Rel K G H env σ fp->Reps K G ds vs->a ds env=.ok env'->(∀σ' G' GS,Step G H fp G' H GS->Rel K G' H env' σ' GS->Q σ' H)->tQGs K a vs σ H Q
def Qx(X:Cx)(tg:List Expr)(a:Mw):Prop:=Nz X tg (tQGs X.K a)
def fA:Mw:=fun ds env=>match ds with
 |[]=>.ok env
 |_=>.bad
def aS(a:FG)(b:Mw):Mw:=fun ds env=>match ds with
 |d::ds=>(a d env).bind fun e=>b ds e
 |_=>.bad
theorem fI:Qx X [] fA:=tP yH fun vs σ H Q G9=>by
 obtain⟨G,env,fp,ds,env',rel,r,e,k⟩:=G9;cases ds with
 |nil=>
  cases e;rw[Reps]at r;exact⟨r,k σ G fp .refl rel⟩
 |cons d ds=>cases e
theorem a8{tg:Expr}{Ll:List Expr}{a:FG}{b:Mw}(h1:QG X tg a)(h2:Qx X Ll b)(hs:(assignEach (tg::Ll) X.env).map (·.2)=assign tg X.env::(assignEach Ll X.env).map (·.2):=by rfl):Qx X (tg::Ll) (aS a b):=
 tP (vP h1 h2 hs) fun vs σ H Q G9=>by
  obtain⟨G,env,fp,ds,env',rel,r,e,k⟩:=G9;cases ds with
  |nil=>cases e
  |cons d ds=>
   rw[Reps]at r;obtain⟨y,ys,ev,r1,r2⟩:=r;obtain⟨GN,e1,e2⟩:=ai e;exact⟨y,ys,ev,G,env,fp,d,GN,rel,r1,e1,fun σ1 G1 Hi Hc GP=>⟨G1,GN,Hi,ds,env',GP,r2.mono Hc.gg,e2,fun σ2 G2 Hv GW GO=>k σ2 G2 Hv (Hc.trans GW) GO⟩⟩
def lS(n:Nat)(a:Mw):FG:=fun d env=>match d with
 | .tup ds=>if ds.length=n then a ds env else .bad
 |_=>.bad
theorem i7{Ll:List Expr}{k n:Nat}{a:Mw}(hc:X.calm=true)(h:Qx X Ll a)(hn:(assignEach Ll X.env).length=n:=by rfl)(Lw:(assignEach Ll X.env).findIdx? (·.1)=none:=by rfl):QG X (.Tuple Ll k pos) (lS n a):=
 x5 (Bm hc h hn Lw) fun v σ H Q G9=>by
  obtain⟨G,env,fp,d,env',rel,r,e,k⟩:=G9;unfold lS at e;split at e
  ·rename_i ds;split at e
   ·rename_i hl;obtain⟨p,xs,ev,sq,rs⟩:=bc r;exact⟨p,xs,ev,bF rel.gh sq,rs.length.trans hl,G,env,fp,ds,env',rel,rs,e,k⟩
   ·cases e
  ·cases e
def dW(a:FG)(g:FS):List D->FS
 |[],env=>.ok (.nx env)
 |d::ds,env=>(a d env).bind fun e=>(g e).bind fun o=>match o with
  | .nx e=>dW a g ds e
  | .ct e=>dW a g ds e
  | .bk e=>.ok (.nx e)
  | .rt r=>.ok (.rt r)
def tR(f:FI)(a:FG)(g:FS):FS:=fun env=>(f env).bind fun p=>dW a g p.1 p.2
theorem i8{tg iter:Expr}{body:List Stmt}{fi:FI}{a:FG}(hp:PassesOwn (model X.prog X.w) X.A X.env X.xe)(hc:X.calm=true)(hi:QI X tg iter fi)(hg:QG X tg a)(hb:K7 (md:=md) X body g)(hs:∀x,foldedSetIterable iter X.env x=pure x:=by intro _;rfl):QS (md:=md) X (.For tg iter body [] pos) (tR fi a g):=
 dF (xO hp hc hi hg hb hs) fun D σ H G9=>by
  obtain⟨G,env,fp,rel,k⟩:=G9;unfold tR at k;match q:fi env,k with
  | .ok (ds,GN),k=>
   refine⟨G,env,fp,ds,GN,rel,q,fun J H1 G1 Hi Hc GP wk=>?_⟩;have k:OutOk X.K G H fp D (dW a g ds GN):=k;refine⟨fun i m σ' H'=>m=ds.length-i/\i<=ds.length/\∃G' env' GS,Same G1 G'/\Rel X.K G' H' env' σ' GS/\OutOk X.K G' H' GS D (dW a g (ds.drop i) env'),⟨_,rfl,Tw _,G1,GN,Hi,.refl _,GP,OutOk.after Hc k⟩,?_⟩;rintro i m σ2 H2 ⟨rfl,hi,G2,GY,Hv,gg,GO,k2⟩;obtain⟨w1,w2⟩:=wk G2 H2 _ _ _ gg GO i;by_cases HC:i<ds.length
   ·have hd:ds[i]?=some ds[i]:=List.getElem?_eq_getElem HC;obtain⟨go,yl⟩:=w1 _ hd;rw[Vd HC]at k2;refine .inr ⟨go,fun σ' H'=>∃G' env' GS,Same G1 G'/\Rel X.K G' H' env' σ' GS/\OutOk X.K G' H' GS D (dW a g (ds.drop (i+1)) env'),fun σ' H' z=>⟨ds.length-(i+1),by lia,rfl,HC,z⟩,fun x H3 y=>?_⟩;obtain⟨G3,rx,Hk,Hs⟩:=yl x H3 y;unfold dW at k2;match q3:a ds[i] GY,k2 with
    | .ok HE,k2=>
     refine⟨G3,GY,Hv,ds[i],HE,Hk,rx,q3,fun σ4 G4 NT Ij HK=>⟨G4,HE,NT,HK,?_⟩⟩;have k3:OutOk X.K G2 H2 Hv D ((g HE).bind fun o=>match o with | .nx e=>dW a g (ds.drop (i+1)) e | .ct e=>dW a g (ds.drop (i+1)) e | .bk e=>.ok (.nx e) | .rt r=>.ok (.rt r)):=k2;match q4:g HE,k3 with
     | .ok (.nx e),k3=>exact fun σ' H' G' GS st rel=>⟨G',e,GS,gg.trans (Hs.gg.trans (Ij.gg.trans st.gg)),rel,OutOk.after (Hs.trans (Ij.trans st)) k3⟩
     | .ok (.ct e),k3=>exact fun σ' H' G' GS st rel=>⟨G',e,GS,gg.trans (Hs.gg.trans (Ij.gg.trans st.gg)),rel,OutOk.after (Hs.trans (Ij.trans st)) k3⟩
     | .ok (.bk e),k3=>exact fun σ' H' G' GS st rel=>k3 σ' H' G' GS (Hs.trans (Ij.trans st)) rel
     | .ok (.rt r),k3=>exact fun v H' G' GS st rel=>k3 v H' G' GS (Hs.trans (Ij.trans st)) rel
   ·have e:i=ds.length:=by lia
    subst e;rw[Wt]at k2;exact .inl ⟨w2 rfl,k2 σ2 H2 G2 Hv .refl GO⟩
def B3(f:FX):FI:=fun env=>(f env).bind fun p=>match p.1.2 with
 | .lst ds=>.ok (ds,p.2)
 |_=>.bad
def gU(f:FX):FI:=fun env=>(f env).bind fun p=>match p.1.2 with
 | .tup ds=>.ok (ds,p.2)
 |_=>.bad
variable{tg l:Expr}
theorem nr{K:W.Frag}{G:Hp}{a:Addr}{xs:List V}{ds:List D}(sq:SqL K G a xs)(rs:Reps K G ds xs):Walk K G (OH K a) ds:=by
 intro G' H' es vs fp gg rel i;have IP:SqL K H' a xs:=gv rel.gh (gv gg sq);refine⟨fun d hd=>?_,fun e=>⟨xs,IP,by rw[rs.length];lia⟩⟩;obtain⟨x,hx,rx⟩:=rs.get hd;refine⟨⟨xs,x,IP,hx⟩,fun y H2 ⟨e,hy⟩=>?_⟩;subst e;have:=hy xs IP;rw[hx]at this;cases this;exact⟨G',Rep.mono gg rx,rel,.refl⟩
theorem wK{K:W.Frag}{G:Hp}{a:Addr}{xs:List V}{ds:List D}(sq:SqT K G a xs)(rs:Reps K G ds xs):Walk K G (QY K a) ds:=by
 intro G' H' es vs fp gg rel i;have IP:SqT K H' a xs:=bF rel.gh (bF gg sq);refine⟨fun d hd=>?_,fun e=>⟨xs,IP,by rw[rs.length];lia⟩⟩;obtain⟨x,hx,rx⟩:=rs.get hd;refine⟨⟨xs,x,IP,hx⟩,fun y H2 ⟨e,hy⟩=>?_⟩;subst e;have:=hy xs IP;rw[hx]at this;cases this;exact⟨G',Rep.mono gg rx,rel,.refl⟩
theorem zu(h:QE X l f):QI X tg l (B3 f):=jQ (sk h) fun σ H R G9=>by
 obtain⟨G,env,fp,ds,env',rel,e,k⟩:=G9;obtain⟨⟨⟨o,d⟩,GN⟩,e1,e⟩:=ai e;dsimp only at e;split at e
 ·cases e;refine⟨G,env,fp,_,_,rel,e1,fun v H1 G1 Hi Hc GP=>?_⟩;obtain⟨G2,b,rv,GO,GW⟩:=GP.freeze;obtain⟨p,xs,ev,sq,rs⟩:=bp rv;exact⟨p,ev,⟨xs,gv GO.gh sq⟩,k _ H1 G2 b (Hc.trans GW) GO (nr sq rs)⟩
 ·cases e
theorem i9(h:QE X l f):QI X tg l (gU f):=jQ (Bp h) fun σ H R G9=>by
 obtain⟨G,env,fp,ds,env',rel,e,k⟩:=G9;obtain⟨⟨⟨o,d⟩,GN⟩,e1,e⟩:=ai e;dsimp only at e;split at e
 ·cases e;refine⟨G,env,fp,_,_,rel,e1,fun v H1 G1 Hi Hc GP=>?_⟩;obtain⟨G2,b,rv,GO,GW⟩:=GP.freeze;obtain⟨p,xs,ev,sq,rs⟩:=bc rv;exact⟨p,ev,⟨xs,bF GO.gh sq⟩,k _ H1 G2 b (Hc.trans GW) GO (wK sq rs)⟩
 ·cases e
def gW(f:FX):FI:=fun env=>(f env).bind fun p=>match p.1.2 with
 | .str l=>.ok (l.map fun c=>.str [c],p.2)
 |_=>.bad
theorem ja(h:QE X l f):QI X tg l (gW f):=jQ (BJ h) fun σ H R G9=>by
 obtain⟨G,env,fp,ds,env',rel,e,k⟩:=G9;obtain⟨⟨⟨o,d⟩,GN⟩,e1,e⟩:=ai e;dsimp only at e;split at e
 ·rename_i cs;cases e;refine⟨G,env,fp,_,_,rel,e1,fun v H1 G1 Hi Hc GP=>?_⟩;obtain⟨G2,b,rv,GO,GW⟩:=GP.freeze;obtain⟨ev,hl⟩:=ba rv;refine⟨cs,ev,k _ H1 G2 b (Hc.trans GW) GO fun G' H' es vs GS gg Hq i=>⟨fun d hd=>?_,fun e=>?_⟩⟩
  ·rw[List.getElem?_map]at hd;cases hc:cs[i]? with
   |none=>rw[hc]at hd;cases hd
   |some c=>
    rw[hc]at hd;cases hd;refine⟨(List.getElem?_eq_some_iff.mp hc).1,fun x H2 ⟨e1,e2⟩=>?_⟩;subst e1;refine⟨G',?_,Hq,.refl⟩;rw[e2];show Rep X.K G' (.str [c]) (.str (S [cs.getD i 0]));rw[List.getD_eq_getElem?_getD,hc];exact fH (by rw[line_eq];simp)
  ·rw[SO]at e;exact e
 ·cases e
def dv(f:FO):FI:=fun env=>(f env).bind fun p=>(Iu p.2 p.1).bind fun d=>match d with
 | .int j=>if -4611686018427387904<=j/\j<4611686018427387904 then .ok ((List.range j.toNat).map fun(k:Nat)=>D.int (k:Int),p.2) else .bad
 |_=>.bad
theorem rj{K:W.Frag}{G:Hp}(lo:Int)(n:Nat):Walk K G (Qn lo n) ((List.range n).map fun(k:Nat)=>D.int (lo+(k:Int))):=by
 intro G' H' es vs fp gg rel i;refine⟨fun d hd=>?_,fun e=>?_⟩
 ·rw[List.getElem?_map]at hd;cases hc:(List.range n)[i]? with
  |none=>rw[hc]at hd;cases hd
  |some c=>
   rw[hc]at hd;cases hd;obtain⟨h1,h2⟩:=List.getElem?_eq_some_iff.mp hc;rw[Tr]at h1;rw[Xi]at h2;subst h2;refine⟨h1,fun x H2 ⟨e1,e2⟩=>?_⟩;subst e1;exact⟨G',by rw[e2];exact bD _,rel,.refl⟩
 ·rw[SO,Tr]at e;exact Nat.le_of_eq e.symm
theorem d5{a:Expr}{fa:FO}{p pos:Pos}(hg:Gl X "range")(hm:X.mg "range" = none)(ha:QO X a fa)(hs:starEach [a] X.env=[(false,eval a X.env)]:=by rfl):QI X tg (.Call (.Name "range" p) [a] [] pos) (dv fa):=
 jQ (so hg hm (af ha au hs) hs) fun σ H R G9=>by
  obtain⟨G,env,fp,ds,env',rel,e,k⟩:=G9;obtain⟨⟨o,GN⟩,e1,e⟩:=ai e;obtain⟨d,e2,e⟩:=ai e;dsimp only at e;split at e
  ·rename_i j;split at e
   ·rename_i hj;cases e;refine⟨G,env,fp,[o],_,rel,by show(fa env).bind _=_;rw[e1];rfl,fun vs H1 G1 Hi Hc GP Iw=>?_⟩;obtain⟨y,ys,ev,k1,k2⟩:=Iw;have k2:ys=[]:=k2;subst k2;have hv:=bz (GP.vw k1 e2);subst hv;refine⟨j,ev,by lia,by lia,k _ H1 G1 Hi Hc GP ?_⟩;have w:=rj (K:=X.K) (G:=G1) 0 j.toNat
    simpa using w
   ·cases e
  ·cases e
noncomputable def Es(fs:FOs):FI:=fun env=>(fs env).bind fun p=>(oK p.2 p.1).bind fun d=>match d with
 |[.int i,.int j]=>if(-4611686018427387904<=i/\i<4611686018427387904)/\-4611686018427387904<=j/\j<4611686018427387904 then .ok ((List.range (j-i).toNat).map fun(k:Nat)=>D.int (i+(k:Int)),p.2) else .bad
 |_=>.bad
def iQ(k:Bool):D->Res (List D)
 | .lst ds=>if k then .ok ds else .bad
 | .tup ds=>if k then .bad else .ok ds
 |_=>.bad
def rq(k1 k2:Bool)(fs:FOs):FI:=fun env=>(fs env).bind fun p=>match p.1 with
 |[.val d1,.val d2]=>(iQ k1 d1).bind fun a=>(iQ k2 d2).bind fun b=>.ok ((a.zip b).map fun z=>D.tup [z.1,z.2],p.2)
 |_=>.bad
theorem pY{K:W.Frag}{G:Hp}{k:Bool}{d:D}{ds:List D}{v:V}(e:iQ k d=.ok ds)(r:Rep K G d v):∃p xs,v=.ref p/\(if k then SqL K G p xs else SqT K G p xs)/\Reps K G ds xs:=by
 cases d with
 |lst es=>
  cases k with
  |true=>
   cases e;obtain⟨p,xs,e1,q,rs⟩:=bp r;exact⟨p,xs,e1,q,rs⟩
  |false=>cases e
 |tup es=>
  cases k with
  |true=>cases e
  |false=>
   cases e;obtain⟨p,xs,e1,q,rs⟩:=bc r;exact⟨p,xs,e1,q,rs⟩
 |_=>cases e
theorem lT{K:W.Frag}{G G':Hp}{k:Bool}{p:Addr}{xs:List V}(h:Same G G')(r:if k then SqL K G p xs else SqT K G p xs):if k then SqL K G' p xs else SqT K G' p xs:=by
 cases k with
 |true=>exact gv h r
 |false=>exact bF h r
theorem wL{K:W.Frag}{G:Hp}{k1 k2:Bool}{p1 p2:Addr}{xs ys:List V}{as bs:List D}(s1:if k1 then SqL K G p1 xs else SqT K G p1 xs)(s2:if k2 then SqL K G p2 ys else SqT K G p2 ys)(r1:Reps K G as xs)(r2:Reps K G bs ys):
  Walk K G (Rc K k1 k2 p1 p2) ((as.zip bs).map fun z=>D.tup [z.1,z.2]):=by
 intro G' H' es vs fp gg rel i;have g1:=lT (gg.trans rel.gh) s1;have g2:=lT (gg.trans rel.gh) s2;refine⟨fun d hd=>?_,fun e=>⟨xs,ys,g1,g2,?_⟩⟩
 ·rw[List.getElem?_map]at hd;cases hz:(as.zip bs)[i]? with
  |none=>rw[hz]at hd;cases hd
  |some z=>
   rw[hz]at hd;cases hd;obtain⟨h1,h2⟩:=List.getElem?_zip_eq_some.mp hz;obtain⟨x,hx,rx⟩:=r1.get h1;obtain⟨y,hy,ry⟩:=r2.get h2;refine⟨⟨xs,ys,x,y,g1,g2,hx,hy⟩,fun v H2 ⟨T,hT,ev,hh⟩=>?_⟩;have e2:=hh xs ys x y g1 g2 hx hy;subst e2;obtain⟨GO,GW⟩:=rel.newF (u:=.tup [x,y]) hT;refine⟨_,?_,GO,GW⟩;rw[Rep];exact⟨T,[x,y],ev,aP,.cons (Rep.mono (gg.trans GW.gg) rx) (.one (Rep.mono (gg.trans GW.gg) ry))⟩
 ·rw[SO,Vr]at e;rw[r1.length,r2.length];exact e
theorem pZ(k1 k2:Bool){Ll:List Expr}{kt:Nat}{pt:Pos}{e1 e2:Expr}{fs:FOs}{p pos:Pos}(hg:Gl X "zip")(hm:X.mg "zip" = none)(ha:KC X [e1,e2] fs)(he:starEach [e1,e2] X.env=(false,eval e1 X.env)::starEach [e2] X.env:=by rfl)(Ic:(backTo pos (starEach [e2] X.env)).any (·.1)=false:=by rfl):
  QI X (.Tuple Ll kt pt) (.Call (.Name "zip" p) [e1,e2] [] pos) (rq k1 k2 fs):=
 jQ (BN k1 k2 hg hm ha he Ic) fun σ H R G9=>by
  obtain⟨G,env,fp,ds,env',rel,e,k⟩:=G9;obtain⟨⟨o,GN⟩,e1,e⟩:=ai e;dsimp only at e;split at e
  ·rename_i d1 d2;obtain⟨a,ea,e⟩:=ai e;obtain⟨b,eb,e⟩:=ai e;cases e;refine⟨G,env,fp,_,_,rel,e1,fun vs H1 G1 Hi Hc GP Iw=>?_⟩;obtain⟨y,ys,ev,v1,z,zs,ev2,v2,e3⟩:=Iw;have e3:zs=[]:=e3;subst e3;obtain⟨p1,xs1,Se,q1,r1⟩:=pY ea v1;obtain⟨p2,OQ,Sg,q2,r2⟩:=pY eb v2;subst Se;subst Sg;subst ev2;exact⟨p1,p2,xs1,OQ,ev,lT GP.gh q1,lT GP.gh q2,k _ H1 G1 Hi Hc GP (wL q1 q2 r1 r2)⟩
  ·cases e
end
def fBody(np nn:Nat)(g:FS):List D->Res R:=fun ds=>if ds.length=np then(g (ds.map (fun d=>some (O.f,d))++List.replicate nn none)).bind fun o=>match o with
 | .rt r=>.ok r
 | .nx _=>.ok (.f,.non)
 |_=>.bad
 else .bad
theorem d7{K:W.Frag}{G H:Hp}(n:Nat):∀{ds:List D}{vs:List V},Reps K G ds vs->RepE K G H (ds.map (fun d=>some (O.f,d))++List.replicate n none) (vs.map some++List.replicate n none) []
 |[],vs,r=>by
  rw[Reps]at r;subst r;show RepE K G H (List.replicate n none) (List.replicate n none) [];induction n with
  |zero=>exact⟨rfl,rfl⟩
  |succ n ih=>exact⟨none,_,rfl,ih⟩
 |d::ds,vs,r=>by
  rw[Reps]at r;obtain⟨y,ys,e,r1,r2⟩:=r;subst e;exact⟨some y,_,rfl,y,[],[],rfl,rfl,fF.mpr ⟨r1,rfl⟩,d7 n r2⟩
theorem d9{P:Program}{w:World}{K:W.Frag}{mg:Str->Option Value}{base:Heap}{x:Str}{st:Stmt}{N ps:List Str}{k:Nat}{g:FS}(Df:Def K mg x st)(sc:FnScope N ps (defScope st))
  (hb:∀(kV doc pm:Value) (an:Option Addr) (Hf ct:Value) (us:List Value),us.length=ps.length->bindArgs (PySem.W.fnOf x x (dt st) (bU st) (defScope st) .none kV doc pm an Hf ct) ⟨us,[]⟩=pure (ps.zip us))
  (body:∀(f:Addr) (Hf:Value) (A:Around) (outer:List PySem.Env) (s:Shared) (H:Hp) (E:XK),Room k (A.deeper (envOfC x (defScope st) s.heap.objs.size f Hf))->K7 (md:=.plain) (qS Li P w K mg base N x (defScope st) f Hf A outer s H E).nox (bU st) g):
  Ct P w K mg base x (k+1) (spF K (fBody ps.length (N.length-ps.length) g)):=by
 obtain⟨f,fd,F,m⟩:=Df;refine⟨f,fd,ps,F.ok sc (fun vs H Q E h=>?_) (fun Hf A outer s H vs Q E hr h=>?_),m,F.kp,F.binds hb⟩
 ·obtain⟨G,ds,r,_,rs,e,_⟩:=h;unfold fBody at e;split at e
  ·rename_i hl;rw[rs.length,hl]
  ·cases e
 ·obtain⟨G,ds,r,gh,rs,e,q⟩:=h;unfold fBody at e;split at e
  ·rename_i hl;refine⟨_,body f Hf A outer s H E hr,G,ds.map (fun d=>some (O.f,d))++List.replicate (N.length-ps.length) none,[],⟨?_,Uu,(fun _ h=>nomatch h),gh⟩,?_⟩
   ·have:=d7 (K:=K) (G:=G) (H:=H) (N.length-ps.length) rs;unfold L2.hJ;rw[rs.length,hl];exact this
   ·obtain⟨o,eo,e⟩:=ai e;rw[eo];cases o with
    |rt r'=>
     cases e;exact fun v H' G' GS st rel=>q v H' G' GS st rel
    |nx env'=>
     cases e;exact fun σ' H' G' GS st rel=>q .non H' G' [] (st.trans (Step.cut fun _ h=>nomatch h)) (rel.nilF.push lR)
    |bk env'=>cases e
    |ct env'=>cases e
  ·cases e
def dw(ix:List (Option Nat))(env:PV.Env):PV.Env:=ix.map fun j=>j.bind fun j=>match env[j]? with
 |some (some r)=>some (O.f,r.2)
 |_=>none
def gH:FT:=fun env=>.ok (true,env)
def cV(a:FG)(c:FT)(f:FX):List D->PV.Env->Res (List D)
 |[],_=>.ok []
 |d::ds,env=>(a d env).bind fun e=>(c e).bind fun p=>if p.1 then(f p.2).bind fun q=>(cV a c f ds q.2).bind fun rs=>.ok (q.1.2::rs) else cV a c f ds p.2
def dy(fi:FI)(ix:List (Option Nat))(a:FG)(c:FT)(f:FX):FX:=fun env=>(fi env).bind fun p=>(cV a c f p.1 (dw ix p.2)).bind fun ds=>if ds.length<=sizeLine then .ok ((.l .f,.lst ds),if flatDs ds then p.2 else p.2.map frz) else .bad
theorem lU:∀ds,ds.all (aM .f)=flatDs ds
 |[]=>rfl
 |d::ds=>by rw[U9,flatDs,lU ds,aM]
theorem fJ{K:W.Frag}{G1 H:Hp}{es:PV.Env}{σ:L2.St}(ht:∀(i:Nat) (r:R) (v:V),es[i]?=some (some r)->σ[i]?=some (some v)->Rep K G1 r.2 v)(hv:∀(i:Nat) (r:R),es[i]?=some (some r)->∃v,σ[i]?=some (some v)):
  ∀ix:List (Option Nat),RepE K G1 H (dw ix es) (kP ix σ) []
 |[]=>⟨rfl,rfl⟩
 |none::ix=>⟨none,_,rfl,fJ ht hv ix⟩
 |some j::ix=>by
  show RepE K G1 H ((match es[j]? with|some (some r)=>some (O.f,r.2)|_=>none)::dw ix es) ((σ[j]?).bind id::kP ix σ) [];cases e:es[j]? with
  |none=>exact⟨_,_,rfl,fJ ht hv ix⟩
  |some r=>
   cases r with
   |none=>exact⟨_,_,rfl,fJ ht hv ix⟩
   |some r=>
    obtain⟨v,ev⟩:=hv j r e;refine⟨_,_,rfl,v,[],[],?_,rfl,fF.mpr ⟨ht j r v e ev,rfl⟩,fJ ht hv ix⟩;rw[ev];rfl
section
variable{md:Mode}{X:Cx}{scope:Scope}{N:List Str}{tg iter elt:Expr}{ifs:List Expr}{pos:Pos}{fi:FI}{a:FG}{c:FT}{f:FX}
def Qy(X:Cx)(ifs:List Expr)(c:FT):Prop:=OM X ifs (tQT X.K c)
theorem cO:Qy X [] gH:=fun pr s σ H Q I G9=>by
 obtain⟨G,env,fp,b,env',rel,e,k⟩:=G9;cases e;exact yZ pr s σ H Q I (k H G fp .refl rel)
theorem oZ{t:Expr}(h:QT X t c):Qy X [t] c:=y0 h
end
section
variable{X:Cx}
inductive rCatS(K:W.Frag)(x:V)(y:V)(H:Hp)(Q:VK):Prop
 |mk:∀l b xs zs,x=.ref l->y=.ref b->SqL K H l xs->SqL K H b zs->xs.length+zs.length<=sizeLine->(∀p,H p=none->Q (.ref p) (upd H p (.lst (xs++zs))))->rCatS K x y H Q
theorem zv:HI X (binaryOp .Add) (rCatS X.K):=by
 intro pr s σ H x y v u Q I rx ry h;obtain⟨l,b,xs,zs,rfl,rfl,hH,hB,hz,q⟩:=h;cases rx;cases ry;obtain⟨GQ,r1,p1,_⟩:=I.list hH;obtain⟨Kv,r2,p2,_⟩:=I.list hB;have l1:=r1.length;have l2:=r2.length;obtain⟨⟨cls,dd,data,sl⟩,ho,hc,n,hd⟩:=id p1.isList;obtain⟨⟨Mk,K2,data2,K3⟩,Jk,Ke,n2,hd2⟩:=id p2.isList;simp only at hc hd Ke hd2;subst hc hd Ke hd2;have e:GQ.toArray++Kv.toArray=(GQ++Kv).toArray:=by simp
 refine WI ⟨_,ho,rfl⟩ ⟨_,Jk,rfl⟩ noFill_list_add seq_list_add PySem.F.slot_list_add PySem.F.entry_list_add (PySem.F.args_list_add_2 _ _) (list_addW l b GQ.toArray Kv.toArray n n2 dd K2 sl K3 (by rw[SR,SR];lia)) ⟨ho,Jk,?_⟩;rw[e];exact⟨.ref _,_,I.lnew (t':=s.toks) (r1.append r2) (by rw[Tq];lia),rfl,q _ I.fresh⟩
end
noncomputable def addD:D->D->Res R
 | .int i,.int j=>.ok (.f,.int (i+j))
 | .str a,.str b=>if a.length+b.length<=sizeLine then .ok (.f,.str (a++b)) else .bad
 | .lst a,.lst b=>if a.length+b.length<=sizeLine then .ok (.l .f,.lst (a++b)) else .bad
 | .tup a,.tup b=>if a≠[]/\a.length+b.length<=sizeLine then .ok (.f,.tup (a++b)) else .bad
 |_,_=>.bad
section
variable{X:Cx}
theorem lV{K:W.Frag}{G H:Hp}{fp:List Addr}{es:PV.Env}{vs:L2.St}{ds:List D}{xs:List V}{p:Addr}(rel:Rel K G H es vs fp)(hp:H p=none)(r:Reps K G ds xs):
  ∃G',Rel K G' (upd H p (.tup xs)) (some (.f,.tup ds)::es) (some (.ref p)::vs) fp/\Step G H fp G' (upd H p (.tup xs)) fp:=by
 obtain⟨GO,GW⟩:=rel.newF (u:=.tup xs) hp;refine⟨_,GO.push ?_,GW⟩;rw[Rep];exact⟨p,xs,rfl,aP,r.mono GW.gg⟩
theorem B4:HI X (binaryOp .Add) (rG X.K addD):=by
 rintro pr s σ H x y v u Q I rx ry ⟨G,fp,es,vs,a,b,r,⟨rel,k⟩,va,vb,e⟩;unfold addD at e;split at e
 ·rename_i i j;cases e;cases bz va;cases bz vb;exact Bq pr s σ H _ _ v u Q I rx ry ⟨i,j,rfl,rfl,k _ H G fp .refl (rel.push (bD _))⟩
 ·rename_i i j;split at e
  ·rename_i hl;cases e;obtain⟨e1,h1⟩:=e7 va;obtain⟨e2,h2⟩:=e7 vb;subst e1;subst e2;refine qR pr s σ H _ _ v u Q I rx ry ⟨_,_,rfl,rfl,by rw[kF,kF];exact hl,?_⟩;rw[Ef];exact k _ H G fp .refl (rel.push (fH (by rw[Tq];exact hl)))
  ·cases e
 ·rename_i i j;split at e
  ·rename_i hl;cases e;obtain⟨p,xs,e1,h1,r1⟩:=va;obtain⟨p2,OQ,e2,h2,r2⟩:=vb;subst e1;subst e2;refine zv pr s σ H _ _ v u Q I rx ry ⟨p,p2,xs,OQ,rfl,rfl,h1,h2,by rw[r1.length,r2.length];exact hl,fun q hq=>?_⟩;obtain⟨GO,GW⟩:=rel.newL hq (r1.app r2);exact k _ _ G _ GW GO
  ·cases e
 ·rename_i i j;split at e
  ·rename_i hl;cases e;obtain⟨p,xs,e1,h1,r1⟩:=gG va;obtain⟨p2,OQ,e2,h2,r2⟩:=gG vb;subst e1;subst e2;have hx:xs≠[]:=fun z=>hl.1 (TK (by rw[<-r1.length,z];rfl))
   refine yP pr s σ H _ _ v u Q I rx ry ⟨p,p2,xs,OQ,rfl,rfl,bF rel.gh h1,bF rel.gh h2,hx,by rw[r1.length,r2.length];exact hl.2,fun z=>?_,fun z q hq=>?_⟩
   ·have:j=[]:=TK (by rw[<-r2.length,z];rfl);subst this;rw[Ta]at k;exact k _ H G fp .refl (rel.push va)
   ·obtain⟨G',GO,GW⟩:=lV rel hq (r1.app r2);exact k _ _ G' _ GW GO
  ·cases e
 ·cases e
def wM:D->D->Res R
 | .int i,.int j=>.ok (.f,.int (i-j))
 |_,_=>.bad
theorem nu:HI X (binaryOp .Sub) (rG X.K wM):=by
 rintro pr s σ H x y v u Q I rx ry ⟨G,fp,es,vs,a,b,r,⟨rel,k⟩,va,vb,e⟩;unfold wM at e;split at e
 ·rename_i i j;cases e;cases bz va;cases bz vb;exact Br pr s σ H _ _ v u Q I rx ry ⟨i,j,rfl,rfl,k _ H G fp .refl (rel.push (bD _))⟩
 ·cases e
def dk(i:Int):Bool:=decide (-(2 ^ 64)<i/\i<2 ^ 64)
def Et:D->D->Res R
 | .int i,.int j=>if dk i||dk j then .ok (.f,.int (i*j)) else .bad
 |_,_=>.bad
theorem B5:HI X (binaryOp .Mult) (rG X.K Et):=by
 rintro pr s σ H x y v u Q I rx ry ⟨G,fp,es,vs,a,b,r,⟨rel,k⟩,va,vb,e⟩;unfold Et at e;split at e
 ·rename_i i j;split at e
  ·rename_i hc;cases e;cases bz va;cases bz vb;have hc:CMul i j:=by
    rw[VR]at hc;exact hc.imp Uy Uy
   exact Bs pr s σ H _ _ v u Q I rx ry ⟨i,j,rfl,rfl,hc,k _ H G fp .refl (rel.push (bD _))⟩
  ·cases e
 ·cases e
def fB:D->D->Res R
 | .int i,.int j=>if 0<j/\j<1073741824 then .ok (.f,.int (i / j)) else .bad
 |_,_=>.bad
theorem dj:HI X (binaryOp .FloorDiv) (rG X.K fB):=by
 rintro pr s σ H x y v u Q I rx ry ⟨G,fp,es,vs,a,b,r,⟨rel,k⟩,va,vb,e⟩;unfold fB at e;split at e
 ·rename_i i j;split at e
  ·rename_i hc;cases e;cases bz va;cases bz vb;exact yI pr s σ H _ _ v u Q I rx ry ⟨i,j,rfl,rfl,hc,k _ H G fp .refl (rel.push (bD _))⟩
  ·cases e
 ·cases e
def gE:D->D->Res R
 | .int i,.int j=>if 0<j then .ok (.f,.int (i%j)) else .bad
 |_,_=>.bad
theorem b5:HI X (binaryOp .Mod) (rG X.K gE):=by
 rintro pr s σ H x y v u Q I rx ry ⟨G,fp,es,vs,a,b,r,⟨rel,k⟩,va,vb,e⟩;unfold gE at e;split at e
 ·rename_i i j;split at e
  ·rename_i hc;cases e;cases bz va;cases bz vb;exact Bt pr s σ H _ _ v u Q I rx ry ⟨i,j,rfl,rfl,hc,k _ H G fp .refl (rel.push (bD _))⟩
  ·cases e
 ·cases e
def rX:D->D->Res R
 | .int i,.int j=>if 0<=j/\j<=1000000/\i.natAbs<2 ^ 64 then .ok (.f,.int (i ^ j.toNat)) else .bad
 |_,_=>.bad
theorem tS:HI X (binaryOp .Pow) (rG X.K rX):=by
 rintro pr s σ H x y v u Q I rx ry ⟨G,fp,es,vs,a,b,r,⟨rel,k⟩,va,vb,e⟩;unfold rX at e;split at e
 ·rename_i i j;split at e
  ·rename_i hc;cases e;cases bz va;cases bz vb;exact Bu pr s σ H _ _ v u Q I rx ry ⟨i,j,rfl,rfl,hc,k _ H G fp .refl (rel.push (bD _))⟩
  ·cases e
 ·cases e
def ON:D->D->Res R
 | .int i,.int j=>.ok (.f,.bl (decide (i<j)))
 | .str a,.str b=>.ok (.f,.bl (decide (a<b)))
 |_,_=>.bad
theorem Eu:HI X (compareOp .Lt) (rG X.K ON):=by
 rintro pr s σ H x y v u Q I rx ry ⟨G,fp,es,vs,a,b,r,⟨rel,k⟩,va,vb,e⟩;unfold ON at e;split at e
 ·rename_i i j;cases e;cases bz va;cases bz vb;exact D6 pr s σ H _ _ v u Q I rx ry ⟨i,j,rfl,rfl,k _ H G fp .refl (rel.push (cy _))⟩
 ·rename_i i j;cases e;obtain⟨e1,h1⟩:=e7 va;obtain⟨e2,h2⟩:=e7 vb;subst e1;subst e2;refine sv pr s σ H _ _ v u Q I rx ry ⟨_,_,rfl,rfl,?_⟩;rw[cN,cN];exact k _ H G fp .refl (rel.push (cy _))
 ·cases e
def leD:D->D->Res R
 | .int i,.int j=>.ok (.f,.bl (decide (i<=j)))
 | .str a,.str b=>.ok (.f,.bl (!decide (b<a)))
 |_,_=>.bad
def Pm:D->D->Res R
 | .int i,.int j=>.ok (.f,.bl (decide (j<i)))
 |_,_=>.bad
theorem B6:HI X (compareOp .Gt) (rG X.K Pm):=by
 rintro pr s σ H x y v u Q I rx ry ⟨G,fp,es,vs,a,b,r,⟨rel,k⟩,va,vb,e⟩;unfold Pm at e;split at e
 ·rename_i i j;cases e;cases bz va;cases bz vb;exact D7 pr s σ H _ _ v u Q I rx ry ⟨i,j,rfl,rfl,k _ H G fp .refl (rel.push (cy _))⟩
 ·cases e
def Rx:D->D->Res R
 | .int i,.int j=>.ok (.f,.bl (decide (j<=i)))
 |_,_=>.bad
theorem Ew:HI X (compareOp .GtE) (rG X.K Rx):=by
 rintro pr s σ H x y v u Q I rx ry ⟨G,fp,es,vs,a,b,r,⟨rel,k⟩,va,vb,e⟩;unfold Rx at e;split at e
 ·rename_i i j;cases e;cases bz va;cases bz vb;exact D8 pr s σ H _ _ v u Q I rx ry ⟨i,j,rfl,rfl,k _ H G fp .refl (rel.push (cy _))⟩
 ·cases e
end
abbrev FDs:=PV.Env->Res (List D×PV.Env)
inductive tDs(K:W.Frag)(f:FDs)(σ:L2.St)(H:Hp)(Q:List V->Hp->Prop):Prop
 |mk:∀G env fp ds env',Rel K G H env σ fp->f env=.ok (ds,env')->(∀vs H' G' GS,Step G H fp G' H' GS->Rel K G' H' env' σ GS->Reps K G' ds vs->Q vs H')->tDs K f σ H Q
def Pn(X:Cx)(es:List Expr)(f:FDs):Prop:=PA X es (tDs X.K f)
def bj:FDs:=fun env=>.ok ([],env)
def aA(f:FX)(g:FDs):FDs:=fun env=>(f env).bind fun p=>(g p.2).bind fun q=>.ok (p.1.2::q.1,q.2)
section
variable{X:Cx}
theorem aJ:Pn X [] bj:=kU i4 fun σ H Q G9=>by
 obtain⟨G,env,fp,o,env',rel,e,k⟩:=G9;cases e;exact k [] H G fp .refl rel .nil
theorem ao{e:Expr}{es:List Expr}{f:FX}{g:FDs}(h:QE X e f)(hs:Pn X es g)(Lw:starEach (e::es) X.env=(false,eval e X.env)::starEach es X.env:=by rfl):Pn X (e::es) (aA f g):=
 kU (cU h hs Lw) fun σ H Q G9=>by
  obtain⟨G,env,fp,o,env',rel,e,k⟩:=G9;obtain⟨⟨r,GN⟩,e1,e⟩:=ai e;obtain⟨⟨ds,GY⟩,e2,e⟩:=ai e;cases e;refine⟨G,env,fp,r,GN,rel,e1,fun v H1 G1 Hi Hc GP=>?_⟩;obtain⟨G2,b,rv,GO,GW⟩:=GP.freeze;exact⟨G2,GN,b,ds,GY,GO,e2,fun vs H3 G3 Iz Hs Hk rs=>k _ H3 G3 Iz (Hc.trans (GW.trans Hs)) Hk (.cons (Rep.mono Hs.gg rv) rs)⟩
def fK(fs:FDs):FX:=fun env=>(fs env).bind fun p=>if p.1.length<=1000 then .ok ((.f,.tup p.1),p.2) else .bad
def o4(fs:FDs):FX:=fun env=>(fs env).bind fun p=>if p.1.length<=1000 then .ok ((.l .f,.lst p.1),p.2) else .bad
variable{es:List Expr}{fs:FDs}{pos:Pos}
theorem bB{x1}(h:Pn X es fs):QE X (.Tuple es x1 pos) (fK fs):=a7 (sJ h) fun σ H Q G9=>by
 obtain⟨G,env,fp,r,env',rel,e,k⟩:=G9;obtain⟨⟨ds,GN⟩,e1,e⟩:=ai e;dsimp only at e;split at e
 ·rename_i hl;cases e;refine⟨G,env,fp,ds,env',rel,e1,fun vs H1 G1 Hi Hc GP rs=>⟨by rw[rs.length,line_eq];lia,fun p hp=>?_⟩⟩;obtain⟨G2,GO,GW⟩:=lV GP hp rs;exact k _ _ G2 _ (Hc.trans GW) GO
 ·cases e
theorem eg(h:Pn X es fs):QE X (.List es pos) (o4 fs):=a7 (Bw h) fun σ H Q G9=>by
 obtain⟨G,env,fp,r,env',rel,e,k⟩:=G9;obtain⟨⟨ds,GN⟩,e1,e⟩:=ai e;dsimp only at e;split at e
 ·rename_i hl;cases e;refine⟨G,env,fp,ds,env',rel,e1,fun vs H1 G1 Hi Hc GP rs=>⟨by rw[rs.length,line_eq];lia,fun p hp=>?_⟩⟩;obtain⟨GO,GW⟩:=GP.newL hp rs;exact k _ _ G1 _ (Hc.trans GW) GO
 ·cases e
noncomputable def Hj:D->D->Res R
 | .lst ds,.int i=>match IU ds i with
  |some d=>.ok (.f,d)
  |none=>.bad
 | .tup ds,.int i=>match IU ds i with
  |some d=>.ok (.f,d)
  |none=>.bad
 | .str l,.int i=>match IU l i with
  |some c=>.ok (.f,.str [c])
  |none=>.bad
 |_,_=>.bad
theorem p3{K:W.Frag}{G:Hp}{ds:List D}{xs:List V}{i:Int}{d:D}(r:Reps K G ds xs)(e:IU ds i=some d):∃v,IU xs i=some v/\Rep K G d v:=by
 unfold IU at e ⊢;rw[r.length];cases hn:ixN ds.length i with
 |none=>rw[hn]at e;cases e
 |some j=>
  rw[hn]at e;exact r.get e
theorem Ex:O2 X (rG X.K Hj):=by
 rintro value slice pr s σ H x y v u Q I rx ry ⟨G,fp,es,vs,a,b,r,⟨rel,k⟩,va,vb,e⟩ hs;unfold Hj at e;split at e
 ·rename_i ds i;split at e
  ·rename_i d hd;cases e;obtain⟨p,xs,ev,sq,rs⟩:=va;subst ev;cases bz vb;obtain⟨w',hw,Lh⟩:=p3 rs hd;exact yQ value slice pr s σ H _ _ v u Q I rx ry ⟨p,xs,i,w',rfl,rfl,sq,hw,k _ H G fp .refl (rel.push Lh)⟩ hs
  ·cases e
 ·rename_i ds i;split at e
  ·rename_i d hd;cases e;obtain⟨p,xs,ev,sq,rs⟩:=gG va;subst ev;cases bz vb;obtain⟨w',hw,Lh⟩:=p3 rs hd;exact BB value slice pr s σ H _ _ v u Q I rx ry ⟨p,xs,i,w',rfl,rfl,bF rel.gh sq,hw,k _ H G fp .refl (rel.push Lh)⟩ hs
  ·cases e
 ·rename_i l i;split at e
  ·rename_i c hc;cases e;obtain⟨ev,hl⟩:=e7 va;subst ev;cases bz vb;refine BC value slice pr s σ H _ _ v u Q I rx ry ⟨_,i,c,rfl,rfl,by rw[kF];exact hl,by rw[cN];exact hc,?_⟩ hs;exact k _ H G fp .refl (rel.push (fH (l:=[c]) (by rw[line_eq];simp)))
  ·cases e
 ·cases e
variable{a b:Expr}{fa fb:FO}
theorem a9(ha:QO X a fa)(hb:QO X b fb)(hs:sR b:=by exact fun _ _=>rfl):QE X (.Subscript a b pos) (aD Hj fa fb):=a7 (Ec Ex ha hb hs) fun _ _ _=>pU
abbrev FP:=PV.Env->Res (Option Int×PV.Env)
inductive tQP(K:W.Frag)(f:FP)(σ:L2.St)(H:Hp)(Q:Option Int->Hp->Prop):Prop
 |mk:∀G env fp i env',Rel K G H env σ fp->f env=.ok (i,env')->(∀H' G' GS,Step G H fp G' H' GS->Rel K G' H' env' σ GS->Q i H')->tQP K f σ H Q
def QP(X:Cx)(e:Option Expr)(f:FP):Prop:=PO X e (tQP X.K f)
def rA:FP:=fun env=>.ok (none,env)
def jR(f:FX):FP:=fun env=>(f env).bind fun p=>match p.1.2 with
 | .int i=>.ok (some i,p.2)
 |_=>.bad
theorem x6{X:Cx}{e:Option Expr}{t t':TO}(h:PO X e t)(k:∀σ H Q,t' σ H Q->t σ H Q):PO X e t':=fun pr s σ H Q I w=>h pr s σ H Q I (k σ H Q w)
theorem lW:QP X none rA:=x6 yN fun σ H Q G9=>by
 obtain⟨G,env,fp,i,env',rel,e,k⟩:=G9;cases e;exact k H G fp .refl rel
theorem eJ{e:Expr}{f:FX}(h:QE X e f):QP X (some e) (jR f):=x6 (yO h) fun σ H Q G9=>by
 obtain⟨G,env,fp,i,env',rel,e,k⟩:=G9;obtain⟨⟨⟨o,d⟩,GN⟩,e1,e⟩:=ai e;dsimp only at e;split at e
 ·rename_i j;cases e;refine⟨G,env,fp,_,_,rel,e1,fun v H1 G1 Hi Hc GP=>?_⟩;have hv:=GP.top;obtain⟨b,GO,GW⟩:=GP.drop;exact⟨j,bx hv,k H1 G1 b (Hc.trans GW) GO⟩
 ·cases e
def gI{α:Type}(xs:List α)(lo hi:Option Int):List α:=(xs.drop (HT.sIx xs.length 0 lo)).take (HT.sIx xs.length xs.length hi-HT.sIx xs.length 0 lo)
noncomputable def OR(k:D)(lo hi:Option Int):Res R:=match k with
 | .lst ds=>.ok (.l .f,.lst (gI ds lo hi))
 | .tup ds=>if ¬ (HT.sIx ds.length 0 lo=0/\HT.sIx ds.length ds.length hi=ds.length) then .ok (.f,.tup (gI ds lo hi)) else .bad
 | .str l=>.ok (.f,.str (gI l lo hi))
 |_=>.bad
def eSl(fa:FO)(lo hi:FP):FX:=fun env=>(fa env).bind fun p=>(lo p.2).bind fun q=>(hi q.2).bind fun t=>(Iu t.2 p.1).bind fun d=>(OR d q.1 t.1).bind fun r=>.ok (r,t.2)
theorem p4{K:W.Frag}{G:Hp}{ds:List D}{xs:List V}{lo hi:Option Int}(r:Reps K G ds xs):Reps K G (gI ds lo hi) (xP xs lo hi):=by
 unfold gI xP;rw[r.length];exact(r.drop _).take _
theorem zw{α:Type}(xs:List α)(lo hi:Option Int):(gI xs lo hi).length<=xs.length:=by
 unfold gI;rw[TJ,Up];lia
inductive rSl(K:W.Frag)(x:V)(lo:Option Int)(hi:Option Int)(H:Hp)(Q:VK):Prop
 |mk:∀G fp es vs d r,Goes K H G fp es vs r Q->Vw K G H d x->OR d lo hi=.ok r->rSl K x lo hi H Q
theorem B7:NC X (rSl X.K):=by
 rintro pr s σ H x v vl vu lo hi sl Q I rx hs pl pu ⟨G,fp,es,vs,d,r,⟨rel,k⟩,vd,e⟩;unfold OR at e;split at e
 ·rename_i ds;cases e;obtain⟨p,xs,ev,sq,rs⟩:=vd;subst ev;refine yR pr s σ H _ v vl vu lo hi sl Q I rx hs pl pu ⟨p,xs,rfl,sq,fun q hq=>?_⟩;obtain⟨GO,GW⟩:=rel.newL hq (p4 (lo:=lo) (hi:=hi) rs);exact k _ _ G _ GW GO
 ·rename_i ds;split at e
  ·rename_i hw;cases e;obtain⟨p,xs,ev,sq,rs⟩:=gG vd;subst ev;refine BA pr s σ H _ v vl vu lo hi sl Q I rx hs pl pu ⟨p,xs,rfl,bF rel.gh sq,by rw[rs.length];exact hw,fun q hq=>?_⟩;obtain⟨G2,GO,GW⟩:=lV rel hq (p4 (lo:=lo) (hi:=hi) rs);exact k _ _ G2 _ GW GO
  ·cases e
 ·rename_i l;cases e;obtain⟨ev,hl⟩:=e7 vd;subst ev;exact BI pr s σ H _ v vl vu lo hi sl Q I rx hs pl pu ⟨l,rfl,hl,k _ H G fp .refl (rel.push (fH (l:=BH l lo hi) (Tp (zw l lo hi) hl)))⟩
 ·cases e
def tU(env:PV.Env)(i:Nat):Bool:=match env[i]? with
 |some (some (_,.lst _))=>true
 |_=>false
theorem wN{K:W.Frag}{G H:Hp}{es:PV.Env}{σ:L2.St}{fp:List Addr}{i:Nat}(rel:Rel K G H es σ fp)(h:tU es i=true):∃v,σ[i]?=some (some v)/\Q6 K "list" v H:=by
 unfold tU at h;split at h
 ·rename_i o ds hr;obtain⟨v,ev,rv⟩:=rel.view hr;obtain⟨p,xs,e,sq,_⟩:=bp rv;subst e;exact⟨_,ev,.inl ⟨rfl,xs,sq⟩⟩
 ·cases h
def tV(i:Nat)(f:FX):FX:=fun env=>if tU env i then(f env).bind fun p=>match p.2[i]? with
 |some (some (.l .f,.lst ds))=>if ds.length<sizeLine then .ok ((.f,.non),p.2.set i (some (.l .f,.lst (ds++[p.1.2])))) else .bad
 |_=>.bad
 else .bad
theorem de{i:Nat}{o e:Expr}{f:FX}{apos Hd:Pos}(ho:PE X o (pG i))(he:QE X e f)
  (IA:attributeBase o "append" X.env (eval o X.env)=eval o X.env:=by rfl)
  (Jz:((backTo Hd (starEach [e] X.env)).all (fun x=>!x.1)&&(backToKw Hd (keywordEach [] X.env)).all (fun x=>x.1.isSome)&&decide ([e].length+([]:List Keyword).length+(if([]:List Keyword).isEmpty then 0 else 1)<30))=true:=by rfl)
  (IB:(apos.endLine==Hd.line)=true:=by rfl) (hs:starEach [e] X.env=(false,eval e X.env)::starEach [] X.env:=by rfl) (HQ:(backTo Hd (starEach [] X.env)).any (·.1)=false:=by rfl):
  QE X (.Call (.Attribute o "append" apos) [e] [] Hd) (tV i f):=by
 refine a7 (yS Wm PySem.F.slot_list_append PySem.F.type_list_append mU ho (ao he aJ hs) IA Jz IB hs HQ) fun σ H Q Hh=>?_
 obtain⟨G,env,fp,r,env',rel,e,k⟩:=Hh;unfold tV at e;split at e
 ·rename_i Po;obtain⟨v,ev,ty⟩:=wN rel Po;obtain⟨⟨r1,GN⟩,e1,e⟩:=ai e;dsimp only at e;split at e
  ·rename_i ds NB;split at e
   ·rename_i hl;cases e;refine⟨v,ev,ty,G,env,fp,[r1.2],GN,rel,by show(f env).bind _=_;rw[e1];rfl,fun vs H1 G1 Hi Hc GP rs=>?_⟩;rw[Reps]at rs;obtain⟨y,ys,eys,ry,rn⟩:=rs;rw[Reps]at rn;subst rn;obtain⟨p,xs,ep,hp,Pp,cg⟩:=GP.chg (ds':=ds++[r1.2]) NB;rw[ev]at ep;cases ep;obtain⟨fq,GO,GW⟩:=cg (xs++[y]) (Pp.app (.one ry));exact⟨p,xs,y,rfl,eys,hp,by rw[Pp.length];exact hl,k _ _ G1 fq (Hc.trans GW) (GO.push lR)⟩
   ·cases e
  ·cases e
 ·cases e
def Ey:List D->Res R
 |[.lst ds]=>.ok (.f,.int ds.length)
 |[.tup ds]=>.ok (.f,.int ds.length)
 |[.str l]=>.ok (.f,.int l.length)
 |_=>.bad
theorem mH{K:W.Frag}{G H:Hp}{d:D}{xs:List V}(h:Nq K G H [d] xs):∃v,xs=[v]/\Vw K G H d v:=by
 obtain⟨y,ys,e,v1,e2⟩:=h;have e2:ys=[]:=e2;subst e2;exact⟨y,e,v1⟩
theorem Gf{K:W.Frag}{G H:Hp}{d d':D}{xs:List V}(h:Nq K G H [d,d'] xs):∃v w,xs=[v,w]/\Vw K G H d v/\Vw K G H d' w:=by
 obtain⟨y,ys,e,v1,h2⟩:=h;obtain⟨z,e2,v2⟩:=mH h2;subst e2;exact⟨y,z,e,v1,v2⟩
theorem B8:c6 X (.builtin "len") (rC X.K Ey):=by
 rintro pr s σ H xs us Q I rx ⟨G,fp,es,vs,ds,r,⟨rel,k⟩,vd,e⟩;unfold Ey at e;split at e
 ·rename_i ds;cases e;obtain⟨v,ev,p,ys,ep,sq,rs⟩:=mH vd;subst ev;subst ep;refine i5 pr s σ H _ us Q I rx ⟨p,ys,rfl,.inl sq,?_⟩;rw[rs.length];exact k _ H G fp .refl (rel.push (bD _))
 ·rename_i ds;cases e;obtain⟨v,ev,vt⟩:=mH vd;obtain⟨p,ys,ep,sq,rs⟩:=gG vt;subst ev;subst ep;refine i5 pr s σ H _ us Q I rx ⟨p,ys,rfl,.inr (bF rel.gh sq),?_⟩;rw[rs.length];exact k _ H G fp .refl (rel.push (bD _))
 ·rename_i l;cases e;obtain⟨v,ev,vt⟩:=mH vd;obtain⟨ep,hl⟩:=e7 vt;subst ev;subst ep;refine mS pr s σ H _ us Q I rx ⟨S l,rfl,by rw[kF];exact hl,?_⟩;rw[kF];exact k _ H G fp .refl (rel.push (bD _))
 ·cases e
def zx:List D->Res R
 |[.lst ds]=>.ok (.l .f,.lst ds)
 |[.tup ds]=>.ok (.l .f,.lst ds)
 |_=>.bad
theorem zy:c6 X (.type "list") (rC X.K zx):=by
 rintro pr s σ H xs us Q I rx ⟨G,fp,es,vs,ds,r,⟨rel,k⟩,vd,e⟩;unfold zx at e;split at e
 ·rename_i ds;cases e;obtain⟨v,ev,p,ys,ep,sq,rs⟩:=mH vd;subst ev;subst ep;refine i6 pr s σ H _ us Q I rx ⟨p,ys,rfl,.inl sq,fun q hq=>?_⟩;obtain⟨GO,GW⟩:=rel.newL hq rs;exact k _ _ G _ GW GO
 ·rename_i ds;cases e;obtain⟨v,ev,vt⟩:=mH vd;obtain⟨p,ys,ep,sq,rs⟩:=gG vt;subst ev;subst ep;refine i6 pr s σ H _ us Q I rx ⟨p,ys,rfl,.inr (bF rel.gh sq),fun q hq=>?_⟩;obtain⟨GO,GW⟩:=rel.newL hq rs;exact k _ _ G _ GW GO
 ·cases e
def df:List D->Res R
 |[.lst ds]=>.ok (.f,.tup ds)
 |[.tup ds]=>.ok (.f,.tup ds)
 |_=>.bad
theorem cC:c6 X (.type "tuple") (rC X.K df):=by
 rintro pr s σ H xs us Q I rx ⟨G,fp,es,vs,ds,r,⟨rel,k⟩,vd,e⟩;unfold df at e;split at e
 ·rename_i ds;cases e;obtain⟨v,ev,p,ys,ep,sq,rs⟩:=mH vd;subst ev;subst ep;refine hU pr s σ H _ us Q I rx ⟨p,ys,rfl,.inl ⟨sq,fun q hq=>?_⟩⟩;obtain⟨G2,GO,GW⟩:=lV rel hq rs;exact k _ _ G2 _ GW GO
 ·rename_i ds;cases e;obtain⟨v,ev,vt⟩:=mH vd;obtain⟨p,ys,ep,sq,rs⟩:=gG vt;subst ev;subst ep;exact hU pr s σ H _ us Q I rx ⟨p,ys,rfl,.inr ⟨bF rel.gh sq,k _ H G fp .refl (rel.push vt)⟩⟩
 ·cases e
def ny:List D->Option (List Bool)
 |[]=>some []
 | .bl b::ds=>(ny ds).map (b:: ·)
 |_=>none
def dm:List D->Option (List Int)
 |[]=>some []
 | .int b::ds=>(dm ds).map (b:: ·)
 |_=>none
theorem kY{K:W.Frag}{G:Hp}:∀{ds:List D}{bs:List Bool}{xs:List V},ny ds=some bs->Reps K G ds xs->xs=bs.map V.bl
 |[],_,_,e,r=>by
  cases e;rw[Reps]at r;exact r
 | .bl b::ds,_,_,e,r=>by
  rw[ny,Tg]at e;obtain⟨bs,e1,e2⟩:=e;subst e2;rw[Reps]at r;obtain⟨y,ys,e3,r1,r2⟩:=r;rw[e3,c7 r1,kY e1 r2];rfl
 | .non::_,_,_,e,_ | .int _::_,_,_,e,_ | .str _::_,_,_,e,_ | .tup _::_,_,_,e,_ | .lst _::_,_,_,e,_ | .dct _ _ _::_,_,_,e,_=>by simp[ny]at e
theorem gX{K:W.Frag}{G:Hp}:∀{ds:List D}{bs:List Int}{xs:List V},dm ds=some bs->Reps K G ds xs->xs=bs.map V.int
 |[],_,_,e,r=>by
  cases e;rw[Reps]at r;exact r
 | .int b::ds,_,_,e,r=>by
  rw[dm,Tg]at e;obtain⟨bs,e1,e2⟩:=e;subst e2;rw[Reps]at r;obtain⟨y,ys,e3,r1,r2⟩:=r;rw[e3,bx r1,gX e1 r2];rfl
 | .non::_,_,_,e,_ | .bl _::_,_,_,e,_ | .str _::_,_,_,e,_ | .tup _::_,_,_,e,_ | .lst _::_,_,_,e,_ | .dct _ _ _::_,_,_,e,_=>by simp[dm]at e
theorem rB(ns:List Int):dm (ns.map D.int)=some ns:=by
 induction ns with
 |nil=>rfl
 |cons n ns ih=>rw[S7,dm,ih];rfl
theorem tW(ns:List Bool):ny (ns.map D.bl)=some ns:=by
 induction ns with
 |nil=>rfl
 |cons n ns ih=>rw[S7,ny,ih];rfl
def nE:D->Option (List D)
 | .lst ds=>some ds
 | .tup ds=>some ds
 |_=>none
theorem tY{K:W.Frag}{G H:Hp}{d:D}{ds:List D}{v:V}(gh:Same G H)(e:nE d=some ds)(h:Vw K G H d v):∃p xs,v=.ref p/\(SqL K H p xs\/SqT K H p xs)/\Reps K G ds xs:=by
 cases d with
 |lst es=>
  cases e;obtain⟨p,xs,ev,sq,rs⟩:=h;exact⟨p,xs,ev,.inl sq,rs⟩
 |tup es=>
  cases e;obtain⟨p,xs,ev,sq,rs⟩:=bc h;exact⟨p,xs,ev,.inr (bF gh sq),rs⟩
 |_=>cases e
def B9:List D->Res R
 |[d]=>match(nE d).bind ny with
  |some bs=>.ok (.f,.bl (bs.all id))
  |none=>.bad
 |_=>.bad
theorem wO(bs:List Bool):(bs.map V.bl).all Eg=true:=by
 rw[Uv,Ti];intro b _;rfl
theorem zH(bs:List Bool):(bs.map V.bl).all BK=bs.all id:=by
 rw[Uv];rfl
theorem Ca(hc:X.calm=true):c6 X (.builtin "all") (rC X.K B9):=by
 rintro pr s σ H xs us Q I rx ⟨G,fp,es,vs,ds,r,⟨rel,k⟩,vd,e⟩;unfold B9 at e;split at e
 ·rename_i d;split at e
  ·rename_i bs hb;cases e;obtain⟨l,hl,hb⟩:=TH.mp hb;obtain⟨v,ev,vt⟩:=mH vd;obtain⟨p,ys,ep,sq,rs⟩:=tY rel.gh hl vt;have:=kY hb rs;subst this;subst ev;subst ep;refine wb hc pr s σ H _ us Q I rx ⟨p,_,rfl,sq,wO bs,?_⟩;rw[zH];exact k _ H G fp .refl (rel.push (cy _))
  ·cases e
 ·cases e
def maxD:List D->Res R
 |[d]=>match(nE d).bind dm with
  |some (n::ns)=>.ok (.f,.int (qW (n::ns)))
  |_=>.bad
 |[.int i,.int j]=>.ok (.f,.int (if i<j then j else i))
 |_=>.bad
theorem nF{K:W.Frag}{G H:Hp}{d:D}{ns:List Int}{v:V}(gh:Same G H)(hb:(nE d).bind dm=some ns)(vt:Vw K G H d v):∃p,v=.ref p/\(SqL K H p (ns.map V.int)\/SqT K H p (ns.map V.int)):=by
 obtain⟨l,hl,hb⟩:=TH.mp hb;obtain⟨p,ys,ep,sq,rs⟩:=tY gh hl vt;have:=gX hb rs;subst this;exact⟨p,ep,sq⟩
end
mutual
noncomputable def GU:D->D->Bool
 | .non,.non=>true
 | .bl a,.bl b=>a==b
 | .bl a,.int j=>(if a then 1 else 0)==j
 | .int i,.bl b=>i==(if b then 1 else 0)
 | .int i,.int j=>i==j
 | .str a,.str b=>a==b
 | .tup a,.tup b=>iJ a b
 | .lst a,.lst b=>iJ a b
 |_,_=>false
noncomputable def iJ:List D->List D->Bool
 |[],[]=>true
 |a::as,b::bs=>GU a b&&iJ as bs
 |_,_=>false
end
mutual
noncomputable def plainD:Nat->D->Bool
 |n+1,.tup ds=>plainDs n ds
 |n+1,.lst ds=>plainDs n ds
 | 0,.tup _=>false
 | 0,.lst _=>false
 |_,.dct _ _ _=>false
 |_,_=>true
noncomputable def plainDs:Nat->List D->Bool
 |_,[]=>true
 |n,d::ds=>plainD n d&&plainDs n ds
end
theorem plainDs_mem:∀{n:Nat}{ds:List D},plainDs n ds=true->∀{i:Nat}{d:D},ds[i]?=some d->plainD n d=true
 |_,[],_,_,_,e=>by simp at e
 |n,a::ds,h,0,d,e=>by
  rw[plainDs,SY]at h;simp at e;rw[<-e];exact h.1
 |n,a::ds,h,i+1,d,e=>by
  rw[plainDs,SY]at h;exact plainDs_mem h.2 (i:=i) (by simpa using e)
theorem ic:∀{a b:List D},a.length≠b.length->iJ a b=false
 |[],[],h=>absurd rfl h
 |[],_::_,_=>by simp only[iJ]
 |_::_,[],_=>by simp only[iJ]
 |x::xs,y::ys,h=>by
  rw[iJ,ic (fun e=>h (by simp[e])),V5]
theorem eh:∀{a b:List D},a.length=b.length->(List.range a.length).all (fun j=>GU (a.getD j .non) (b.getD j .non))=iJ a b
 |[],[],_=>rfl
 |[],_::_,h=>by simp at h
 |_::_,[],h=>by simp at h
 |x::xs,y::ys,h=>by
  rw[iJ,<-eh (a:=xs) (b:=ys) (by simpa using h),S5,List.range_succ_eq_map,U9,Uv];rfl
section
variable{X:Cx}{pr:List (Addr×Obj)}{σ:L2.St}{H:Hp}{s:Shared}
theorem jS(I:Inv X pr σ H s){p:Addr}{xs ys:List V}(h:SqL X.K H p xs)(h':SqT X.K H p ys):False:=by
 obtain⟨us,_,p1,_⟩:=I.list h;obtain⟨ws,_,p2,_⟩:=I.tuple h';exact SeqAt.ne_of_list_tuple p1.isList (show s.heap.IsTuple p ws.toArray from p2) rfl
mutual
theorem jT(I:Inv X pr σ H s):∀(d e:D) (x:V) (n:Nat),plainD n d=true->Rep X.K H d x->Rep X.K H e x->d=e
 | .non,e,x,n,_,r,q=>by
  cases bZ r;cases e with
  |non=>rfl
  |bl b=>cases c7 q
  |int i=>cases bx q
  |str l=>cases(ba q).1
  |tup l=>obtain⟨p,xs,ev,_⟩:=bc q;cases ev
  |lst l=>obtain⟨p,xs,ev,_⟩:=bp q;cases ev
  |dct tk ks vs=>rw[Rep]at q;obtain⟨p,xs,o,ev,_⟩:=q;cases ev
 | .bl b,e,x,n,_,r,q=>by
  cases c7 r;cases e with
  |non=>cases bZ q
  |bl b=>cases c7 q;rfl
  |int i=>cases bx q
  |str l=>cases(ba q).1
  |tup l=>obtain⟨p,xs,ev,_⟩:=bc q;cases ev
  |lst l=>obtain⟨p,xs,ev,_⟩:=bp q;cases ev
  |dct tk ks vs=>rw[Rep]at q;obtain⟨p,xs,o,ev,_⟩:=q;cases ev
 | .int i,e,x,n,_,r,q=>by
  cases bx r;cases e with
  |non=>cases bZ q
  |bl b=>cases c7 q
  |int i=>cases bx q;rfl
  |str l=>cases(ba q).1
  |tup l=>obtain⟨p,xs,ev,_⟩:=bc q;cases ev
  |lst l=>obtain⟨p,xs,ev,_⟩:=bp q;cases ev
  |dct tk ks vs=>rw[Rep]at q;obtain⟨p,xs,o,ev,_⟩:=q;cases ev
 | .str l,e,x,n,_,r,q=>by
  have hr:=(ba r).1;subst hr;cases e with
  |non=>cases bZ q
  |bl b=>cases c7 q
  |int i=>cases bx q
  |str l'=>
   have hq:=(ba q).1;injection hq with hq;rw[S_inj hq]
  |tup l=>obtain⟨p,xs,ev,_⟩:=bc q;cases ev
  |lst l=>obtain⟨p,xs,ev,_⟩:=bp q;cases ev
  |dct tk ks vs=>rw[Rep]at q;obtain⟨p,xs,o,ev,_⟩:=q;cases ev
 | .tup l,e,x,n,h,r,q=>by
  obtain⟨p,xs,ev,sq,rs⟩:=bc r;subst ev;cases e with
  |non=>cases bZ q
  |bl b=>cases c7 q
  |int i=>cases bx q
  |str l=>cases(ba q).1
  |tup l'=>
   obtain⟨p',IJ,Jn,IP,Ju⟩:=bc q;cases Jn;have:=I.tuple_inj sq IP;subst this;cases n with
   |zero=>simp only[plainD]at h;cases h
   |succ n=>
    simp only[plainD]at h;rw[lX I l l' xs n h rs Ju]
  |lst l'=>
   obtain⟨p',IJ,Jn,IP,Ju⟩:=bp q;cases Jn;exact(jS I IP sq).elim
  |dct tk ks vs=>
   exfalso;rw[Rep]at q;obtain⟨p',IJ,o,Jn,rd,dd,_⟩:=q;cases Jn;obtain⟨GQ,_,ip,_⟩:=I.tuple sq;obtain⟨ob,ho,hc,_⟩:=ip;have NP:=rd.ok I.hok;cases tk with
   |true=>
    obtain⟨kvs,eo,_⟩:=dd;subst eo;obtain⟨_,_,_,_,o2,_,_,Jk,ex,_⟩:=NP;rw[ho]at Jk;cases Jk;rw[ex.1]at hc;exact absurd hc (by decide)
   |false=>
    obtain⟨kvs,eo,_⟩:=dd;subst eo;obtain⟨_,_,_,_,o2,_,_,Jk,ex,_⟩:=NP;rw[ho]at Jk;cases Jk;rw[ex.1]at hc;exact absurd hc (by decide)
 | .lst l,e,x,n,h,r,q=>by
  obtain⟨p,xs,ev,sq,rs⟩:=bp r;subst ev;cases e with
  |non=>cases bZ q
  |bl b=>cases c7 q
  |int i=>cases bx q
  |str l=>cases(ba q).1
  |tup l'=>
   obtain⟨p',IJ,Jn,IP,Ju⟩:=bc q;cases Jn;exact(jS I sq IP).elim
  |lst l'=>
   obtain⟨p',IJ,Jn,IP,Ju⟩:=bp q;cases Jn;have:=I.list_inj sq IP;subst this;cases n with
   |zero=>simp only[plainD]at h;cases h
   |succ n=>
    simp only[plainD]at h;rw[lX I l l' xs n h rs Ju]
  |dct tk ks vs=>
   exfalso;rw[Rep]at q;obtain⟨p',IJ,o,Jn,rd,dd,_⟩:=q;cases Jn;obtain⟨GQ,_,ip,_⟩:=I.list sq;obtain⟨ob,_,ho,hc,_⟩:=ip;have NP:=rd.ok I.hok;cases tk with
   |true=>
    obtain⟨kvs,eo,_⟩:=dd;subst eo;obtain⟨_,_,_,_,o2,_,_,Jk,ex,_⟩:=NP;rw[ho]at Jk;cases Jk;rw[ex.1]at hc;exact absurd hc (by decide)
   |false=>
    obtain⟨kvs,eo,_⟩:=dd;subst eo;obtain⟨_,_,_,_,o2,_,_,Jk,ex,_⟩:=NP;rw[ho]at Jk;cases Jk;rw[ex.1]at hc;exact absurd hc (by decide)
 | .dct _ _ _,_,_,n,h,_,_=>by cases n <;> (simp only[plainD]at h;cases h)
theorem lX(I:Inv X pr σ H s):∀(ds es:List D) (xs:List V) (n:Nat),plainDs n ds=true->Reps X.K H ds xs->Reps X.K H es xs->ds=es
 |[],es,xs,n,_,r,q=>by
  rw[Reps]at r;subst r;cases es with
  |nil=>rfl
  |cons e es=>
   rw[Reps]at q;obtain⟨y,ys,ev,_⟩:=q;cases ev
 |d::ds,es,xs,n,h,r,q=>by
  rw[Reps]at r;obtain⟨y,ys,ev,r1,r2⟩:=r;subst ev;rw[plainDs,SY]at h;cases es with
  |nil=>
   rw[Reps]at q;cases q
  |cons e es=>
   rw[Reps]at q;obtain⟨y',ys',ev,q1,q2⟩:=q;cases ev;rw[jT I d e y n h.1 r1 q1,lX I ds es ys n h.2 r2 q2]
end
mutual
theorem ie:∀(d:D) (n:Nat),plainD n d=true->GU d d=true
 | .non,_,_=>by simp only[GU]
 | .bl _,_,_=>by simp only[GU,Uq]
 | .int _,_,_=>by simp only[GU,Uq]
 | .str _,_,_=>by simp only[GU,Uq]
 | .tup ds,0,h=>by simp only[plainD]at h;cases h
 | .tup ds,n+1,h=>by simp only[plainD]at h;simp only[GU];exact jU ds n h
 | .lst ds,0,h=>by simp only[plainD]at h;cases h
 | .lst ds,n+1,h=>by simp only[plainD]at h;simp only[GU];exact jU ds n h
 | .dct _ _ _,n,h=>by cases n <;> (simp only[plainD]at h;cases h)
theorem jU:∀(ds:List D) (n:Nat),plainDs n ds=true->iJ ds ds=true
 |[],_,_=>by simp only[iJ]
 |d::ds,n,h=>by
  rw[plainDs,SY]at h;rw[iJ,ie d n h.1,jU ds n h.2];rfl
end
open PySem.SeqAt
theorem bC{n:Nat}{tk:Bool}{ks vs:List D}(h:plainD n (.dct tk ks vs)=true):False:=by cases n <;> (simp only[plainD]at h;cases h)
mutual
theorem zI(I:Inv X pr σ H s):∀(d e:D) (x y:V) (v u:Value) (A:Around) (n:Nat),plainD n d=true->plainD n e=true->A.units+n<cLine->Rep X.K H d x->Rep X.K H e y->RelV x v->RelV y u->EqAt A s v u (GU d e)
 | .non,e,x,y,v,u,A,n,h,h',hu,r,q,rx,ry=>by
  cases bZ r;cases rx;cases e with
  |non=>cases bZ q;cases ry;simp only[GU];exact .same _
  |bl b=>cases c7 q;cases ry;simp only[GU];exact .none_bool _
  |int i=>cases bx q;obtain⟨t,rfl⟩:=ry;simp only[GU];exact .none_int _ _
  |str l=>cases(ba q).1;obtain⟨t,rfl⟩:=ry;simp only[GU];exact .none_str _ _
  |tup l=>obtain⟨p,xs,rfl,sq,_⟩:=bc q;cases ry;obtain⟨GQ,_,ip,_⟩:=I.tuple sq;simp only[GU];exact .none_tuple (show s.heap.IsTuple p GQ.toArray from ip) (by lia)
  |lst l=>obtain⟨p,xs,rfl,sq,_⟩:=bp q;cases ry;obtain⟨GQ,_,ip,_⟩:=I.list sq;simp only[GU];exact .none_list ip.isList (by lia)
  |dct tk ks vs=>exact(bC h').elim
 | .bl b,e,x,y,v,u,A,n,h,h',hu,r,q,rx,ry=>by
  cases c7 r;cases rx;cases e with
  |non=>cases bZ q;cases ry;simp only[GU];exact .bool_none _
  |bl b=>cases c7 q;cases ry;simp only[GU];exact .bool_bool _ _
  |int i=>cases bx q;obtain⟨t,rfl⟩:=ry;simp only[GU];exact .bool_int _ _ _
  |str l=>cases(ba q).1;obtain⟨t,rfl⟩:=ry;simp only[GU];exact .bool_str _ _ _
  |tup l=>obtain⟨p,xs,rfl,sq,_⟩:=bc q;cases ry;obtain⟨GQ,_,ip,_⟩:=I.tuple sq;simp only[GU];exact .bool_tuple _ (show s.heap.IsTuple p GQ.toArray from ip) (by lia)
  |lst l=>obtain⟨p,xs,rfl,sq,_⟩:=bp q;cases ry;obtain⟨GQ,_,ip,_⟩:=I.list sq;simp only[GU];exact .bool_list _ ip.isList (by lia)
  |dct tk ks vs=>exact(bC h').elim
 | .int b,e,x,y,v,u,A,n,h,h',hu,r,q,rx,ry=>by
  cases bx r;obtain⟨t0,rfl⟩:=rx;cases e with
  |non=>cases bZ q;cases ry;simp only[GU];exact .int_none _ _
  |bl b=>cases c7 q;cases ry;simp only[GU];exact .int_bool _ _ _
  |int i=>cases bx q;obtain⟨t,rfl⟩:=ry;simp only[GU];exact .int_int _ _ _ _
  |str l=>cases(ba q).1;obtain⟨t,rfl⟩:=ry;simp only[GU];exact .int_str _ _ _ _
  |tup l=>obtain⟨p,xs,rfl,sq,_⟩:=bc q;cases ry;obtain⟨GQ,_,ip,_⟩:=I.tuple sq;simp only[GU];exact .int_tuple _ _ (show s.heap.IsTuple p GQ.toArray from ip) (by lia)
  |lst l=>obtain⟨p,xs,rfl,sq,_⟩:=bp q;cases ry;obtain⟨GQ,_,ip,_⟩:=I.list sq;simp only[GU];exact .int_list _ _ ip.isList (by lia)
  |dct tk ks vs=>exact(bC h').elim
 | .str b,e,x,y,v,u,A,n,h,h',hu,r,q,rx,ry=>by
  have hr:=(ba r).1;subst hr;obtain⟨t0,rfl⟩:=rx;cases e with
  |non=>cases bZ q;cases ry;simp only[GU];exact .str_none _ _
  |bl b=>cases c7 q;cases ry;simp only[GU];exact .str_bool _ _ _
  |int i=>cases bx q;obtain⟨t,rfl⟩:=ry;simp only[GU];exact .str_int _ _ _ _
  |str l=>
   have hq:=(ba q).1;subst hq;obtain⟨t,rfl⟩:=ry;have e1:(b==l)=(S b==S l):=by
    rw[To,Tu,Tu];exact⟨fun z=>by rw[z],S_inj⟩
   simp only[GU,e1];exact .str_str _ _ _ _
  |tup l=>obtain⟨p,xs,rfl,sq,_⟩:=bc q;cases ry;obtain⟨GQ,_,ip,_⟩:=I.tuple sq;simp only[GU];exact .str_tuple _ _ (show s.heap.IsTuple p GQ.toArray from ip) (by lia)
  |lst l=>obtain⟨p,xs,rfl,sq,_⟩:=bp q;cases ry;obtain⟨GQ,_,ip,_⟩:=I.list sq;simp only[GU];exact .str_list _ _ ip.isList (by lia)
  |dct tk ks vs=>exact(bC h').elim
 | .tup l,e,x,y,v,u,A,n,h,h',hu,r,q,rx,ry=>by
  have rr:=r;obtain⟨p,xs,ev,sq,rs⟩:=bc r;subst ev;cases rx;obtain⟨GQ,vl,ip,_⟩:=I.tuple sq;have ip:s.heap.IsTuple p GQ.toArray:=ip;cases e with
  |non=>cases bZ q;cases ry;simp only[GU];exact .tuple_none ip (by lia)
  |bl b=>cases c7 q;cases ry;simp only[GU];exact .tuple_bool _ ip (by lia)
  |int i=>cases bx q;obtain⟨t,rfl⟩:=ry;simp only[GU];exact .tuple_int _ _ ip (by lia)
  |str l=>cases(ba q).1;obtain⟨t,rfl⟩:=ry;simp only[GU];exact .tuple_str _ _ ip (by lia)
  |tup l'=>
   obtain⟨p',IJ,Jn,IP,Ju⟩:=bc q;subst Jn;cases ry;by_cases hp:p=p'
   ·subst hp;have hz:=jT I _ _ _ n h rr q;rw[<-hz,ie _ n h];exact .same _
   ·obtain⟨its',LN,Jc,_⟩:=I.tuple IP;have Jc:s.heap.IsTuple p' its'.toArray:=Jc;cases n with
    |zero=>simp only[plainD]at h;cases h
    |succ n=>
     simp only[plainD]at h h';have l1:=vl.length;have l2:=LN.length;have l3:=rs.length;have l4:=Ju.length;have key:=RcAt.tuples (A:=A) (e:=fun j=>GU (l.getD j .non) (l'.getD j .non)) ip Jc (by lia) fun j h1 h2=>by
      simp only[SR]at h1 h2;have g1:l[j]?=some (l[j]'(by lia)):=List.getElem?_eq_getElem _;have g2:l'[j]?=some (l'[j]'(by lia)):=List.getElem?_eq_getElem _;obtain⟨w1,KD,KG⟩:=rs.get g1;obtain⟨w2,LO,LP⟩:=Ju.get g2;obtain⟨u1,JA,KH⟩:=vl.get KD;obtain⟨u2,Kh,LQ⟩:=LN.get LO;have q1:GQ.toArray[j]=u1:=by rw[List.getElem?_eq_getElem h1]at JA;simpa using JA
      have q2:its'.toArray[j]=u2:=by rw[List.getElem?_eq_getElem h2]at Kh;simpa using Kh
      rw[q1,q2,List.getD_eq_getElem?_getD,List.getD_eq_getElem?_getD,g1,g2];exact nG I l j _ g1 _ w1 w2 u1 u2 A.in1 n (plainDs_mem h g1) (plainDs_mem h' g2) (by show A.units+1+n<cLine;lia) KG LP KH LQ
     simp only[GU];have fin:((List.range (min GQ.toArray.size its'.toArray.size)).all (fun j=>GU (l.getD j .non) (l'.getD j .non))&&GQ.toArray.size==its'.toArray.size)=iJ l l':=by
      simp only[SR];by_cases hl:l.length=l'.length
      ·rw[<-eh hl,show min GQ.length its'.length=l.length by lia,show(GQ.length==its'.length)=true by rw[Tu];lia,Wn]
      ·rw[ic hl,show(GQ.length==its'.length)=false by rw[T4];lia,V5]
     rw[<-fin];exact .of_refs hp key
  |lst l'=>obtain⟨p',IJ,Jn,IP,_⟩:=bp q;subst Jn;cases ry;obtain⟨its',_,Jc,_⟩:=I.list IP;simp only[GU];exact .tuple_list ip Jc.isList (by lia)
  |dct tk ks vs=>exact(bC h').elim
 | .lst l,e,x,y,v,u,A,n,h,h',hu,r,q,rx,ry=>by
  have rr:=r;obtain⟨p,xs,ev,sq,rs⟩:=bp r;subst ev;cases rx;obtain⟨GQ,vl,ip,_⟩:=I.list sq;have ip:=ip.isList;cases e with
  |non=>cases bZ q;cases ry;simp only[GU];exact .list_none ip (by lia)
  |bl b=>cases c7 q;cases ry;simp only[GU];exact .list_bool _ ip (by lia)
  |int i=>cases bx q;obtain⟨t,rfl⟩:=ry;simp only[GU];exact .list_int _ _ ip (by lia)
  |str l=>cases(ba q).1;obtain⟨t,rfl⟩:=ry;simp only[GU];exact .list_str _ _ ip (by lia)
  |lst l'=>
   obtain⟨p',IJ,Jn,IP,Ju⟩:=bp q;subst Jn;cases ry;by_cases hp:p=p'
   ·subst hp;have hz:=jT I _ _ _ n h rr q;rw[<-hz,ie _ n h];exact .same _
   ·obtain⟨its',LN,Jc,_⟩:=I.list IP;have Jc:=Jc.isList;cases n with
    |zero=>simp only[plainD]at h;cases h
    |succ n=>
     simp only[plainD]at h h';have l1:=vl.length;have l2:=LN.length;have l3:=rs.length;have l4:=Ju.length;simp only[GU];by_cases hl:l.length=l'.length
     ·have key:=RcAt.lists (A:=A) (e:=fun j=>GU (l.getD j .non) (l'.getD j .non)) ip Jc (by simp only[SR];lia) (by lia) fun j h1 h2=>by
       simp only[SR]at h1 h2;have g1:l[j]?=some (l[j]'(by lia)):=List.getElem?_eq_getElem _;have g2:l'[j]?=some (l'[j]'(by lia)):=List.getElem?_eq_getElem _;obtain⟨w1,KD,KG⟩:=rs.get g1;obtain⟨w2,LO,LP⟩:=Ju.get g2;obtain⟨u1,JA,KH⟩:=vl.get KD;obtain⟨u2,Kh,LQ⟩:=LN.get LO;have q1:GQ.toArray[j]=u1:=by rw[List.getElem?_eq_getElem h1]at JA;simpa using JA
       have q2:its'.toArray[j]=u2:=by rw[List.getElem?_eq_getElem h2]at Kh;simpa using Kh
       rw[q1,q2,List.getD_eq_getElem?_getD,List.getD_eq_getElem?_getD,g1,g2];exact nG I l j _ g1 _ w1 w2 u1 u2 A.in1 n (plainDs_mem h g1) (plainDs_mem h' g2) (by show A.units+1+n<cLine;lia) KG LP KH LQ
      rw[<-eh hl,show l.length=GQ.toArray.size by simp only[SR];lia];exact .of_refs hp key
     ·rw[ic hl];exact .of_refs hp (RcAt.lists_lengths ip Jc (by simp only[SR,YJ];lia) (by lia))
  |tup l'=>obtain⟨p',IJ,Jn,IP,_⟩:=bc q;subst Jn;cases ry;obtain⟨its',_,Jc,_⟩:=I.tuple IP;simp only[GU];exact .list_tuple ip (show s.heap.IsTuple p' its'.toArray from Jc) (by lia)
  |dct tk ks vs=>exact(bC h').elim
 | .dct _ _ _,_,_,_,_,_,_,n,h,_,_,_,_,_,_=>(bC h).elim
theorem nG(I:Inv X pr σ H s):∀(ds:List D) (j:Nat) (d:D),ds[j]?=some d->∀(e:D) (x y:V) (v u:Value) (A:Around) (n:Nat),plainD n d=true->plainD n e=true->A.units+n<cLine->Rep X.K H d x->Rep X.K H e y->RelV x v->RelV y u->EqAt A s v u (GU d e)
 |[],_,_,hj=>by simp at hj
 |d'::ds,0,d,hj=>by
  simp at hj;subst hj;exact zI I d'
 |d'::ds,j+1,d,hj=>nG I ds j d (by simpa using hj)
end
end
section
variable{X:Cx}
def Js(a b:D):Res R:=if plainD 40 a&&plainD 40 b then .ok (.f,.bl (GU a b)) else .bad
def Ks(a b:D):Res R:=if plainD 40 a&&plainD 40 b then .ok (.f,.bl (!GU a b)) else .bad
open PySem.SeqAt in
theorem Cb{pr:List (Addr×Obj)}{σ:L2.St}{H:Hp}{s:Shared}(I:Inv X pr σ H s){d e:D}{x y:V}{v u:Value}{A:Around}(h:plainD 40 d=true)(h':plainD 40 e=true)(hu:A.units+64<cLine)(r:Rep X.K H d x)(q:Rep X.K H e y)(rx:RelV x v)(ry:RelV y u):
  RcAt A s v u (GU d e)/\RcNeAt A s v u (!GU d e):=by
 cases d with
 |non=>
  cases bZ r;cases rx;cases e with
  |non=>cases bZ q;cases ry;simp only[GU];exact⟨.none_none,.none_none⟩
  |bl b=>cases c7 q;cases ry;simp only[GU];exact⟨.none_bool _,.none_bool _⟩
  |int i=>cases bx q;obtain⟨t,rfl⟩:=ry;simp only[GU];exact⟨.none_int _ _,.none_int _ _⟩
  |str l=>cases(ba q).1;obtain⟨t,rfl⟩:=ry;simp only[GU];exact⟨.none_str _ _,.none_str _ _⟩
  |tup l=>obtain⟨p,xs,rfl,sq,_⟩:=bc q;cases ry;obtain⟨GQ,_,ip,_⟩:=I.tuple sq;simp only[GU];exact⟨.none_tuple (show s.heap.IsTuple p GQ.toArray from ip) (by lia),.none_tuple (show s.heap.IsTuple p GQ.toArray from ip) (by lia)⟩
  |lst l=>obtain⟨p,xs,rfl,sq,_⟩:=bp q;cases ry;obtain⟨GQ,_,ip,_⟩:=I.list sq;simp only[GU];exact⟨.none_list ip.isList (by lia),.none_list ip.isList (by lia)⟩
  |dct tk ks vs=>exact(bC h').elim
 |bl b=>
  cases c7 r;cases rx;cases e with
  |non=>cases bZ q;cases ry;simp only[GU];exact⟨.bool_none _,.bool_none _⟩
  |bl b=>cases c7 q;cases ry;simp only[GU];exact⟨.bool_bool _ _,.bool_bool _ _⟩
  |int i=>cases bx q;obtain⟨t,rfl⟩:=ry;simp only[GU];exact⟨.bool_int _ _ _,.bool_int _ _ _⟩
  |str l=>cases(ba q).1;obtain⟨t,rfl⟩:=ry;simp only[GU];exact⟨.bool_str _ _ _,.bool_str _ _ _⟩
  |tup l=>obtain⟨p,xs,rfl,sq,_⟩:=bc q;cases ry;obtain⟨GQ,_,ip,_⟩:=I.tuple sq;simp only[GU];exact⟨.bool_tuple _ (show s.heap.IsTuple p GQ.toArray from ip) (by lia),.bool_tuple _ (show s.heap.IsTuple p GQ.toArray from ip) (by lia)⟩
  |lst l=>obtain⟨p,xs,rfl,sq,_⟩:=bp q;cases ry;obtain⟨GQ,_,ip,_⟩:=I.list sq;simp only[GU];exact⟨.bool_list _ ip.isList (by lia),.bool_list _ ip.isList (by lia)⟩
  |dct tk ks vs=>exact(bC h').elim
 |int b=>
  cases bx r;obtain⟨t0,rfl⟩:=rx;cases e with
  |non=>cases bZ q;cases ry;simp only[GU];exact⟨.int_none _ _,.int_none _ _⟩
  |bl b=>cases c7 q;cases ry;simp only[GU];exact⟨.int_bool _ _ _,.int_bool _ _ _⟩
  |int i=>cases bx q;obtain⟨t,rfl⟩:=ry;simp only[GU];exact⟨.int_int _ _ _ _,.int_int _ _ _ _⟩
  |str l=>cases(ba q).1;obtain⟨t,rfl⟩:=ry;simp only[GU];exact⟨.int_str _ _ _ _,.int_str _ _ _ _⟩
  |tup l=>obtain⟨p,xs,rfl,sq,_⟩:=bc q;cases ry;obtain⟨GQ,_,ip,_⟩:=I.tuple sq;simp only[GU];exact⟨.int_tuple _ _ (show s.heap.IsTuple p GQ.toArray from ip) (by lia),.int_tuple _ _ (show s.heap.IsTuple p GQ.toArray from ip) (by lia)⟩
  |lst l=>obtain⟨p,xs,rfl,sq,_⟩:=bp q;cases ry;obtain⟨GQ,_,ip,_⟩:=I.list sq;simp only[GU];exact⟨.int_list _ _ ip.isList (by lia),.int_list _ _ ip.isList (by lia)⟩
  |dct tk ks vs=>exact(bC h').elim
 |str b=>
  have hr:=(ba r).1;subst hr;obtain⟨t0,rfl⟩:=rx;cases e with
  |non=>cases bZ q;cases ry;simp only[GU];exact⟨.str_none _ _,.str_none _ _⟩
  |bl b=>cases c7 q;cases ry;simp only[GU];exact⟨.str_bool _ _ _,.str_bool _ _ _⟩
  |int i=>cases bx q;obtain⟨t,rfl⟩:=ry;simp only[GU];exact⟨.str_int _ _ _ _,.str_int _ _ _ _⟩
  |str l=>
   have hq:=(ba q).1;subst hq;obtain⟨t,rfl⟩:=ry;have e1:(b==l)=(S b==S l):=by
    rw[To,Tu,Tu];exact⟨fun z=>by rw[z],S_inj⟩
   simp only[GU,e1];exact⟨.str_str _ _ _ _,.str_str _ _ _ _⟩
  |tup l=>obtain⟨p,xs,rfl,sq,_⟩:=bc q;cases ry;obtain⟨GQ,_,ip,_⟩:=I.tuple sq;simp only[GU];exact⟨.str_tuple _ _ (show s.heap.IsTuple p GQ.toArray from ip) (by lia),.str_tuple _ _ (show s.heap.IsTuple p GQ.toArray from ip) (by lia)⟩
  |lst l=>obtain⟨p,xs,rfl,sq,_⟩:=bp q;cases ry;obtain⟨GQ,_,ip,_⟩:=I.list sq;simp only[GU];exact⟨.str_list _ _ ip.isList (by lia),.str_list _ _ ip.isList (by lia)⟩
  |dct tk ks vs=>exact(bC h').elim
 |tup l=>
  obtain⟨p,xs,ev,sq,rs⟩:=bc r;subst ev;cases rx;obtain⟨GQ,vl,ip,_⟩:=I.tuple sq;have ip:s.heap.IsTuple p GQ.toArray:=ip;cases e with
  |non=>cases bZ q;cases ry;simp only[GU];exact⟨.tuple_none ip (by lia),.tuple_none ip (by lia)⟩
  |bl b=>cases c7 q;cases ry;simp only[GU];exact⟨.tuple_bool _ ip (by lia),.tuple_bool _ ip (by lia)⟩
  |int i=>cases bx q;obtain⟨t,rfl⟩:=ry;simp only[GU];exact⟨.tuple_int _ _ ip (by lia),.tuple_int _ _ ip (by lia)⟩
  |str l=>cases(ba q).1;obtain⟨t,rfl⟩:=ry;simp only[GU];exact⟨.tuple_str _ _ ip (by lia),.tuple_str _ _ ip (by lia)⟩
  |tup l'=>
   obtain⟨p',IJ,Jn,IP,Ju⟩:=bc q;subst Jn;cases ry;obtain⟨its',LN,Jc,_⟩:=I.tuple IP;have Jc:s.heap.IsTuple p' its'.toArray:=Jc;simp only[plainD]at h h';have l1:=vl.length;have l2:=LN.length;have l3:=rs.length;have l4:=Ju.length;have el:∀j (h1:j<GQ.toArray.size) (h2:j<its'.toArray.size),EqAt A.in1 s GQ.toArray[j] its'.toArray[j] ((fun j=>GU (l.getD j .non) (l'.getD j .non)) j):=fun j h1 h2=>by
    simp only[SR]at h1 h2;have g1:l[j]?=some (l[j]'(by lia)):=List.getElem?_eq_getElem _;have g2:l'[j]?=some (l'[j]'(by lia)):=List.getElem?_eq_getElem _;obtain⟨w1,KD,KG⟩:=rs.get g1;obtain⟨w2,LO,LP⟩:=Ju.get g2;obtain⟨u1,JA,KH⟩:=vl.get KD;obtain⟨u2,Kh,LQ⟩:=LN.get LO;have q1:GQ.toArray[j]=u1:=by rw[List.getElem?_eq_getElem h1]at JA;simpa using JA
    have q2:its'.toArray[j]=u2:=by rw[List.getElem?_eq_getElem h2]at Kh;simpa using Kh
    dsimp only;rw[q1,q2,List.getD_eq_getElem?_getD,List.getD_eq_getElem?_getD,g1,g2];exact nG I l j _ g1 _ w1 w2 u1 u2 A.in1 39 (plainDs_mem h g1) (plainDs_mem h' g2) (by show A.units+1+39<cLine;lia) KG LP KH LQ
   simp only[GU];have fin:((List.range (min GQ.toArray.size its'.toArray.size)).all (fun j=>GU (l.getD j .non) (l'.getD j .non))&&GQ.toArray.size==its'.toArray.size)=iJ l l':=by
    simp only[SR];by_cases hl:l.length=l'.length
    ·rw[<-eh hl,show min GQ.length its'.length=l.length by lia,show(GQ.length==its'.length)=true by rw[Tu];lia,Wn]
    ·rw[ic hl,show(GQ.length==its'.length)=false by rw[T4];lia,V5]
   rw[<-fin];exact⟨.tuples ip Jc (by lia) el,.tuples ip Jc (by lia) el⟩
  |lst l'=>obtain⟨p',IJ,Jn,IP,_⟩:=bp q;subst Jn;cases ry;obtain⟨its',_,Jc,_⟩:=I.list IP;simp only[GU];exact⟨.tuple_list ip Jc.isList (by lia),.tuple_list ip Jc.isList (by lia)⟩
  |dct tk ks vs=>exact(bC h').elim
 |lst l=>
  obtain⟨p,xs,ev,sq,rs⟩:=bp r;subst ev;cases rx;obtain⟨GQ,vl,ip,_⟩:=I.list sq;have ip:=ip.isList;cases e with
  |non=>cases bZ q;cases ry;simp only[GU];exact⟨.list_none ip (by lia),.list_none ip (by lia)⟩
  |bl b=>cases c7 q;cases ry;simp only[GU];exact⟨.list_bool _ ip (by lia),.list_bool _ ip (by lia)⟩
  |int i=>cases bx q;obtain⟨t,rfl⟩:=ry;simp only[GU];exact⟨.list_int _ _ ip (by lia),.list_int _ _ ip (by lia)⟩
  |str l=>cases(ba q).1;obtain⟨t,rfl⟩:=ry;simp only[GU];exact⟨.list_str _ _ ip (by lia),.list_str _ _ ip (by lia)⟩
  |lst l'=>
   obtain⟨p',IJ,Jn,IP,Ju⟩:=bp q;subst Jn;cases ry;obtain⟨its',LN,Jc,_⟩:=I.list IP;have Jc:=Jc.isList;simp only[plainD]at h h';have l1:=vl.length;have l2:=LN.length;have l3:=rs.length;have l4:=Ju.length;simp only[GU];by_cases hl:l.length=l'.length
   ·have el:∀j (h1:j<GQ.toArray.size) (h2:j<its'.toArray.size),EqAt A.in1 s GQ.toArray[j] its'.toArray[j] ((fun j=>GU (l.getD j .non) (l'.getD j .non)) j):=fun j h1 h2=>by
     simp only[SR]at h1 h2;have g1:l[j]?=some (l[j]'(by lia)):=List.getElem?_eq_getElem _;have g2:l'[j]?=some (l'[j]'(by lia)):=List.getElem?_eq_getElem _;obtain⟨w1,KD,KG⟩:=rs.get g1;obtain⟨w2,LO,LP⟩:=Ju.get g2;obtain⟨u1,JA,KH⟩:=vl.get KD;obtain⟨u2,Kh,LQ⟩:=LN.get LO;have q1:GQ.toArray[j]=u1:=by rw[List.getElem?_eq_getElem h1]at JA;simpa using JA
     have q2:its'.toArray[j]=u2:=by rw[List.getElem?_eq_getElem h2]at Kh;simpa using Kh
     dsimp only;rw[q1,q2,List.getD_eq_getElem?_getD,List.getD_eq_getElem?_getD,g1,g2];exact nG I l j _ g1 _ w1 w2 u1 u2 A.in1 39 (plainDs_mem h g1) (plainDs_mem h' g2) (by show A.units+1+39<cLine;lia) KG LP KH LQ
    rw[<-eh hl,show l.length=GQ.toArray.size by simp only[SR];lia];exact⟨.lists ip Jc (by simp only[SR];lia) (by lia) el,.lists ip Jc (by simp only[SR];lia) (by lia) el⟩
   ·rw[ic hl];exact⟨.lists_lengths ip Jc (by simp only[SR,YJ];lia) (by lia),.lists_lengths ip Jc (by simp only[SR,YJ];lia) (by lia)⟩
  |tup l'=>obtain⟨p',IJ,Jn,IP,_⟩:=bc q;subst Jn;cases ry;obtain⟨its',_,Jc,_⟩:=I.tuple IP;simp only[GU];exact⟨.list_tuple ip (show s.heap.IsTuple p' its'.toArray from Jc) (by lia),.list_tuple ip (show s.heap.IsTuple p' its'.toArray from Jc) (by lia)⟩
  |dct tk ks vs=>exact(bC h').elim
 |dct tk ks vs=>exact(bC h).elim
theorem jV(hu:X.A.units+64<cLine):HI X (compareOp .Eq) (rGA X.K Js):=by
 rintro pr s σ H x y v u Q I rx ry ⟨G,fp,es,vs,a,b,r,⟨rel,k⟩,va,vb,e⟩;unfold Js at e;split at e
 ·rename_i hp;cases e;rw[SY]at hp;exact(Cb I hp.1 hp.2 hu va vb rx ry).1 _ _ _ _ ⟨.bl _,H,I,rfl,k _ H G fp .refl (rel.push (cy _))⟩
 ·cases e
theorem wQ(hu:X.A.units+64<cLine):HI X (compareOp .NotEq) (rGA X.K Ks):=by
 rintro pr s σ H x y v u Q I rx ry ⟨G,fp,es,vs,a,b,r,⟨rel,k⟩,va,vb,e⟩;unfold Ks at e;split at e
 ·rename_i hp;cases e;rw[SY]at hp;exact(Cb I hp.1 hp.2 hu va vb rx ry).2 _ _ _ _ ⟨.bl _,H,I,rfl,k _ H G fp .refl (rel.push (cy _))⟩
 ·cases e
def vH(a:D)(ds:List D):Bool:=ds.any fun d=>GU d a
noncomputable def Kt(a b:D):Res R:=match b with
 | .lst ds=>if plainD 40 a&&plainDs 40 ds then .ok (.f,.bl (vH a ds)) else .bad
 | .tup ds=>if plainD 40 a&&plainDs 40 ds then .ok (.f,.bl (vH a ds)) else .bad
 | .str l=>match a with
  | .str [c]=>.ok (.f,.bl (decide (c∈l)))
  |_=>.bad
 |_=>.bad
def x9(a b:D):Res R:=(Kt a b).bind fun r=>match r.2 with
 | .bl k=>.ok (.f,.bl (!k))
 |_=>.bad
open PySem.SeqAt in
theorem p5{pr:List (Addr×Obj)}{σ:L2.St}{H:Hp}{s:Shared}(I:Inv X pr σ H s){a:D}{x:V}{v:Value}{A:Around}(h:plainD 40 a=true)(hu:A.units+64<cLine)(r:Rep X.K H a x)(rx:RelV x v):
  ∀(ds:List D) (xs:List V) (us:List Value),plainDs 40 ds=true->Reps X.K H ds xs->Vals xs us->∃e:Value->Bool,us.any e=vH a ds/\∀u∈us,EqAt A s u v (e u):=by
 classical
 intro ds xs us hp rs vl;refine⟨fun u=>decide (∃(j:Nat) (d:D),ds[j]?=some d/\us[j]?=some u/\GU d a=true),?_,fun u Ry=>?_⟩
 ·rw[To,Us];unfold vH;rw[Us];constructor
  ·rintro⟨u,_,hd⟩;obtain⟨j,d,h1,_,h2⟩:=Uy hd;exact⟨d,Ts h1,h2⟩
  ·rintro⟨d,hd,h2⟩;obtain⟨j,hj⟩:=Ua.mp hd;obtain⟨w1,KD,KG⟩:=rs.get hj;obtain⟨u1,JA,KH⟩:=vl.get KD;exact⟨u1,Ts JA,Tv ⟨j,d,hj,JA,h2⟩⟩
 ·obtain⟨j,hj⟩:=Ua.mp Ry;have l1:=vl.length;have l2:=rs.length;have hjl:=(List.getElem?_eq_some_iff.mp hj).1;have g1:ds[j]?=some (ds[j]'(by lia)):=List.getElem?_eq_getElem _;obtain⟨w1,KD,KG⟩:=rs.get g1;obtain⟨u1,JA,KH⟩:=vl.get KD;rw[hj]at JA;cases JA;have z:=zI I _ _ w1 x u v A 40 (plainDs_mem hp g1) h (by lia) KG r KH rx;have e:decide (∃(j:Nat) (d:D),ds[j]?=some d/\us[j]?=some u/\GU d a=true)=GU (ds[j]'(by lia)) a:=by
   rw[To,S9];constructor
   ·rintro⟨j2,d2,k1,k2,k3⟩;obtain⟨w2,LO,LP⟩:=rs.get k1;obtain⟨u2,Kh,LQ⟩:=vl.get LO;rw[k2]at Kh;cases Kh;have:=KH.inj LQ;subst this;rw[jT I _ _ _ 40 (plainDs_mem hp g1) KG LP];exact k3
   ·intro k3;exact⟨j,_,g1,hj,k3⟩
  show EqAt A s u v (decide (∃(j:Nat) (d:D),ds[j]?=some d/\us[j]?=some u/\GU d a=true));rw[e];exact z
theorem nH(l:List Nat)(c:Nat):(!(Builtin.Str.occurrences (S l) (S [c]) 0 (S l).length 1).isEmpty)=decide (c∈l):=by
 have h:=PySem.StrLaws.found_one (S l) c;rw[cN]at h;exact h
theorem lY{e:Value->Bool}(us:List Value):us.toArray.any e=us.any e:=by simp
theorem Ez(hu:X.A.units+65<cLine):HI X (compareOp .In) (rGA X.K Kt):=by
 rintro pr s σ H x y v u Q I rx ry ⟨G,fp,es,vs,a,b,r,⟨rel,k⟩,va,vb,e⟩;unfold Kt at e;split at e
 ·rename_i ds;split at e
  ·rename_i hp;cases e;rw[SY]at hp;obtain⟨p,xs,ev,sq,rs⟩:=bp vb;subst ev;cases ry;obtain⟨GQ,vl,ip,_⟩:=I.list sq;obtain⟨ef,e1,e2⟩:=p5 (A:=X.A.in1) I hp.1 (by show X.A.units+1+64<cLine;lia) va rx ds xs GQ hp.2 rs vl;refine SeqAt.in_listAt ef ip.isList (fun z hz=>e2 z (by simpa using hz)) ?_;rw[lY,e1];exact⟨.bl _,H,I,rfl,k _ H G fp .refl (rel.push (cy _))⟩
  ·cases e
 ·rename_i ds;split at e
  ·rename_i hp;cases e;rw[SY]at hp;obtain⟨p,xs,ev,sq,rs⟩:=bc vb;subst ev;cases ry;obtain⟨GQ,vl,ip,_⟩:=I.tuple sq;obtain⟨ef,e1,e2⟩:=p5 (A:=X.A.in1) I hp.1 (by show X.A.units+1+64<cLine;lia) va rx ds xs GQ hp.2 rs vl;refine SeqAt.in_tupleAt ef (show s.heap.IsTuple p GQ.toArray from ip) (fun z hz=>e2 z (by simpa using hz)) ?_;rw[lY,e1];exact⟨.bl _,H,I,rfl,k _ H G fp .refl (rel.push (cy _))⟩
  ·cases e
 ·rename_i l;split at e
  ·rename_i c;cases e;obtain⟨e1,h1⟩:=ba va;obtain⟨e2,h2⟩:=ba vb;subst e1;subst e2;refine sx pr s σ H _ _ v u Q I rx ry ⟨_,_,rfl,rfl,?_⟩;rw[nH];exact k _ H G fp .refl (rel.push (cy _))
  ·cases e
 ·cases e
theorem Cc(hu:X.A.units+65<cLine):HI X (compareOp .NotIn) (rGA X.K x9):=by
 rintro pr s σ H x y v u Q I rx ry ⟨G,fp,es,vs,a,b,r,⟨rel,k⟩,va,vb,e⟩;unfold x9 at e;obtain⟨r0,e0,e⟩:=ai e;unfold Kt at e0;split at e0
 ·rename_i ds;split at e0
  ·rename_i hp;cases e0;cases e;rw[SY]at hp;obtain⟨p,xs,ev,sq,rs⟩:=bp vb;subst ev;cases ry;obtain⟨GQ,vl,ip,_⟩:=I.list sq;obtain⟨ef,e1,e2⟩:=p5 (A:=X.A.in1) I hp.1 (by show X.A.units+1+64<cLine;lia) va rx ds xs GQ hp.2 rs vl;refine SeqAt.notIn_listAt ef ip.isList (fun z hz=>e2 z (by simpa using hz)) ?_;rw[lY,e1];exact⟨.bl _,H,I,rfl,k _ H G fp .refl (rel.push (cy _))⟩
  ·cases e0
 ·rename_i ds;split at e0
  ·rename_i hp;cases e0;cases e;rw[SY]at hp;obtain⟨p,xs,ev,sq,rs⟩:=bc vb;subst ev;cases ry;obtain⟨GQ,vl,ip,_⟩:=I.tuple sq;obtain⟨ef,e1,e2⟩:=p5 (A:=X.A.in1) I hp.1 (by show X.A.units+1+64<cLine;lia) va rx ds xs GQ hp.2 rs vl;refine SeqAt.notIn_tupleAt ef (show s.heap.IsTuple p GQ.toArray from ip) (fun z hz=>e2 z (by simpa using hz)) ?_;rw[lY,e1];exact⟨.bl _,H,I,rfl,k _ H G fp .refl (rel.push (cy _))⟩
  ·cases e0
 ·rename_i l;split at e0
  ·rename_i c;cases e0;cases e;obtain⟨e1,h1⟩:=ba va;obtain⟨e2,h2⟩:=ba vb;subst e1;subst e2;refine mL pr s σ H _ _ v u Q I rx ry ⟨_,_,rfl,rfl,?_⟩;rw[nH];exact k _ H G fp .refl (rel.push (cy _))
  ·cases e0
 ·cases e0
def NU(a b:D):Res R:=match b with
 | .bl k=>.ok (.f,.bl (match a with | .bl j=>j==k|_=>false))
 | .non=>.ok (.f,.bl (match a with | .non=>true|_=>false))
 |_=>.bad
def isnO(a b:D):Res R:=(NU a b).bind fun r=>match r.2 with
 | .bl k=>.ok (.f,.bl (!k))
 |_=>.bad
theorem p6{K:W.Frag}{H:Hp}{a b:D}{x y:V}{v u:Value}{r:R}(va:Rep K H a x)(vb:Rep K H b y)(rx:RelV x v)(ry:RelV y u)(e:NU a b=.ok r):plainIs v u=true/\r=(.f,.bl (v==u)):=by
 unfold NU at e;split at e
 ·rename_i k;cases e;cases c7 vb;cases ry;cases a with
  |non=>cases bZ va;cases rx;exact⟨rfl,rfl⟩
  |bl j=>cases c7 va;cases rx;refine⟨rfl,?_⟩;cases j <;> cases k <;> rfl
  |int i=>cases bx va;obtain⟨t,rfl⟩:=rx;exact⟨rfl,rfl⟩
  |str l=>cases(ba va).1;obtain⟨t,rfl⟩:=rx;exact⟨rfl,rfl⟩
  |tup l=>obtain⟨p,xs,rfl,_⟩:=bc va;cases rx;exact⟨rfl,rfl⟩
  |lst l=>obtain⟨p,xs,rfl,_⟩:=bp va;cases rx;exact⟨rfl,rfl⟩
  |dct tk ks vs=>rw[Rep]at va;obtain⟨p,xs,o,rfl,_⟩:=va;cases rx;exact⟨rfl,rfl⟩
 ·cases e;cases bZ vb;cases ry;cases a with
  |non=>cases bZ va;cases rx;exact⟨rfl,rfl⟩
  |bl j=>cases c7 va;cases rx;exact⟨rfl,rfl⟩
  |int i=>cases bx va;obtain⟨t,rfl⟩:=rx;exact⟨rfl,rfl⟩
  |str l=>cases(ba va).1;obtain⟨t,rfl⟩:=rx;exact⟨rfl,rfl⟩
  |tup l=>obtain⟨p,xs,rfl,_⟩:=bc va;cases rx;exact⟨rfl,rfl⟩
  |lst l=>obtain⟨p,xs,rfl,_⟩:=bp va;cases rx;exact⟨rfl,rfl⟩
  |dct tk ks vs=>rw[Rep]at va;obtain⟨p,xs,o,rfl,_⟩:=va;cases rx;exact⟨rfl,rfl⟩
 ·cases e
theorem EB:HI X (compareOp .Is) (rGA X.K NU):=by
 rintro pr s σ H x y v u Q I rx ry ⟨G,fp,es,vs,a,b,r,⟨rel,k⟩,va,vb,e⟩;obtain⟨h1,h2⟩:=p6 va vb rx ry e;subst h2;exact wpAny_is_plain h1 ⟨.bl _,H,I,rfl,k _ H G fp .refl (rel.push (cy _))⟩
theorem kZ:HI X (compareOp .IsNot) (rGA X.K isnO):=by
 rintro pr s σ H x y v u Q I rx ry ⟨G,fp,es,vs,a,b,r,⟨rel,k⟩,va,vb,e⟩;obtain⟨r0,e0,e⟩:=ai e;obtain⟨h1,h2⟩:=p6 va vb rx ry e0;subst h2;cases e;exact wpAny_isNot_plain h1 ⟨.bl _,H,I,rfl,k _ H G fp .refl (rel.push (cy _))⟩
end
section
variable{X:Cx}
theorem tZ(hc:X.calm=true):c6 X (.builtin "max") (rC X.K maxD):=by
 rintro pr s σ H xs us Q I rx ⟨G,fp,es,vs,ds,r,⟨rel,k⟩,vd,e⟩;unfold maxD at e;split at e
 ·rename_i d;split at e
  ·rename_i n ns hb;cases e;obtain⟨v,ev,vt⟩:=mH vd;obtain⟨p,ep,sq⟩:=nF rel.gh hb vt;subst ev;subst ep;exact sY hc pr s σ H _ us Q I rx ⟨p,n::ns,rfl,sq,by simp,k _ H G fp .refl (rel.push (bD _))⟩
  ·cases e
 ·rename_i i j;cases e;obtain⟨v,w',ev,v1,v2⟩:=Gf vd;subst ev;cases bz v1;cases bz v2;obtain⟨u,u',rfl,⟨t,rfl⟩,t',rfl⟩:=sI rx;refine max_two_ints (I.ok.hd hc) fun h' tk kk=>?_
  have I2:Inv X pr σ H {s with heap:=h',toks:=tk}:=I.kept kk;refine⟨.int (if i<j then j else i),H,I2,?_,k _ H G fp .refl (rel.push (bD _))⟩;by_cases Lx:i<j
  ·rw[S1 Lx,S1 (show j>i from Lx)];exact⟨_,rfl⟩
  ·rw[S4 Lx,S4 (show ¬ j>i from Lx)];exact⟨_,rfl⟩
 ·cases e
def zJ(f g:FX):FX:=fun env=>(f env).bind fun p=>(g p.2).bind fun q=>match(nE p.1.2).bind dm,q.1.2 with
 |some ns,.int d=>.ok ((.f,.int (NX.maxD ns d)),q.2)
 |_,_=>.bad
theorem zL{e k:Expr}{f g:FX}{p pos Lg:Pos}(hc:X.calm=true)(hg:Gl X "max")(hm:X.mg "max" = none)(he:QE X e f)(hk:QE X k g)(hs:starEach [e] X.env=[(false,eval e X.env)]:=by rfl):
  QE X (.Call (.Name "max" p) [e] [⟨some "default",k,Lg⟩] pos) (zJ f g):=a7 (y4 hc hg hm he hk hs) fun σ H Q G9=>by
 obtain⟨G,env,fp,r,env',rel,e,k⟩:=G9;obtain⟨⟨r1,GN⟩,e1,e⟩:=ai e;obtain⟨⟨r2,GY⟩,e2,e⟩:=ai e;dsimp only at e;split at e
 ·rename_i ns d OK hd;cases e;refine⟨G,env,fp,r1,GN,rel,e1,fun v H1 G1 Hi Hc GP=>?_⟩;obtain⟨G2,b,rv,GO,GW⟩:=GP.freeze;refine⟨G2,GN,b,r2,_,GO,e2,fun w' H3 G3 Iz Hs Hk=>?_⟩;have hw:=Hk.top;obtain⟨b3,HK,Ij⟩:=Hk.drop;rw[hd]at hw;obtain⟨p',ep,sq⟩:=nF HK.gh OK (Vw.of HK.gh (Rep.mono Hs.gg rv));subst ep;exact⟨p',ns,d,rfl,by rw[bx hw],sq,k _ H3 G3 b3 (Hc.trans (GW.trans (Hs.trans Ij))) (HK.push (bD _))⟩
 ·cases e
def GF:List D->Res R
 |[.bl b]=>.ok (.f,.int (if b then 1 else 0))
 |[.int i]=>.ok (.f,.int i)
 |_=>.bad
def ub:D->String
 | .non=>"NoneType"
 | .bl _=>"bool"
 | .int _=>"int"
 | .str _=>"str"
 | .tup _=>"tuple"
 | .lst _=>"list"
 | .dct _ _ _=>"dict"
def Fo(T:String)(d:D):Bool:=ub d==T||(ub d == "bool" && T == "int")
def eIs(T:String)(f:FO):FX:=fun env=>(f env).bind fun p=>(rV p.2 p.1).bind fun d=>.ok ((.f,.bl (Fo T d)),p.2)
def IC{α:Type}(f g:PV.Env->Res α):PV.Env->Res α:=fun env=>match f env with
 | .ok a=>.ok a
 |_=>g env
theorem ya{α:Type}{f g:PV.Env->Res α}{env:PV.Env}{a:α}(h:IC f g env=.ok a):f env=.ok a\/g env=.ok a:=by
 unfold IC at h;split at h
 ·rename_i b hb;cases h;exact .inl hb
 ·exact .inr h
theorem uc{tg e:Expr}{f g:FI}(h:QI X tg e f)(h2:QI X tg e g):QI X tg e (IC f g):=fun pr s σ H R I G9=>by
 obtain⟨G,env,fp,ds,env',rel,ee,k⟩:=G9;rcases ya ee with z|z
 ·exact h pr s σ H R I ⟨G,env,fp,ds,env',rel,z,k⟩
 ·exact h2 pr s σ H R I ⟨G,env,fp,ds,env',rel,z,k⟩
end
section
variable{α:Type}
def ins(lt:α->α->Bool)(x:α):List α->List α
 |[]=>[x]
 |y::ys=>if lt y x then y::ins lt x ys else x::y::ys
def bP(lt:α->α->Bool)(l:List α):List α:=l.foldr (ins lt) []
structure Ord(lt:α->α->Bool):Prop where
 irr:∀a,lt a a=false
 trans:∀a b c,lt a b=true->lt b c=true->lt a c=true
 tot:∀a b,lt a b=false->lt b a=false->a=b
theorem lZ(lt:α->α->Bool)(x:α):∀l,(ins lt x l).Perm (x::l)
 |[]=>.refl _
 |y::ys=>by
  unfold ins;split
  ·exact(List.Perm.cons y (lZ lt x ys)).trans (List.Perm.swap x y ys)
  ·exact .refl _
theorem cW(lt:α->α->Bool):∀l,(bP lt l).Perm l
 |[]=>.refl _
 |x::l=>(lZ lt x _).trans (List.Perm.cons x (cW lt l))
theorem k4{lt:α->α->Bool}(o:Ord lt)(x:α):∀l:List α,l.Pairwise (fun a b=>lt b a=false)->(ins lt x l).Pairwise (fun a b=>lt b a=false)
 |[],_=>by simp[ins]
 |y::ys,h=>by
  rw[U2]at h;unfold ins;split
  ·rename_i hy;rw[U2];refine⟨fun z hz=>?_,k4 o x ys h.2⟩;rcases S3.mp ((lZ lt x ys).mem_iff.mp hz) with rfl|hz
   ·cases e:lt z y with
    |false=>rfl
    |true=>
     have:=o.trans y z y hy e;rw[o.irr]at this;cases this
   ·exact h.1 z hz
  ·rename_i hy;have hy:lt y x=false:=by simpa using hy
   rw[U2,U2];refine⟨fun z hz=>?_,h⟩;rcases S3.mp hz with rfl|Mi
   ·exact hy
   ·cases e:lt z x with
    |false=>rfl
    |true=>
     exfalso;cases e2:lt x y with
     |true=>
      have:=o.trans z x y e e2;rw[h.1 z Mi]at this;cases this
     |false=>
      have hxy:=o.tot x y e2 hy;rw[hxy,h.1 z Mi]at e;cases e
theorem dH{lt:α->α->Bool}(o:Ord lt):∀l:List α,(bP lt l).Pairwise (fun a b=>lt b a=false)
 |[]=>.nil
 |x::l=>k4 o x _ (dH o l)
theorem nI{lt:α->α->Bool}(o:Ord lt):∀{a b:List α},a.Perm b->a.Pairwise (fun a b=>lt b a=false)->b.Pairwise (fun a b=>lt b a=false)->a=b
 |[],_,p,_,_=>p.nil_eq
 |x::xs,[],p,_,_=>absurd p.length_eq (by simp)
 |x::xs,y::ys,p,ha,hb=>by
  rw[U2]at ha hb;have hx:x∈y::ys:=p.mem_iff.mp SN;have hy:y∈x::xs:=p.mem_iff.mpr SN;have e:x=y:=by
   rcases S3.mp hx with e|hx
   ·exact e
   ·rcases S3.mp hy with e|hy
    ·exact e.symm
    ·exact o.tot x y (hb.1 x hx) (ha.1 y hy)
  subst e;rw[nI o p.cons_inv ha.2 hb.2]
theorem fL{lt:α->α->Bool}(o:Ord lt){l ms:List α}(p:ms.Perm l)(h:ms.Pairwise (fun a b=>lt b a=false)):ms=bP lt l:=nI o (p.trans (cW lt l).symm) h (dH o l)
end
def ltI(a b:Int):Bool:=decide (a<b)
def JZ(a b:List Nat):Bool:=decide (a<b)
theorem zM:Ord ltI:=⟨fun a=>by simp[ltI],fun a b c=>by simp only[ltI,S9];lia,fun a b=>by simp only[ltI,TF];lia⟩
theorem l5:Ord JZ:=by
 refine⟨fun a=>?_,fun a b c h1 h2=>?_,fun a b h1 h2=>?_⟩
 ·unfold JZ;rw[TF];exact List.lt_irrefl a
 ·unfold JZ at *;rw[S9] at *;exact List.lt_trans h1 h2
 ·unfold JZ at *;rw[TF] at *;exact List.le_antisymm (Wl.mp h2) (Wl.mp h1)
theorem ud:Ord di:=⟨gS,gq,gu⟩
def eB:List D->Option (List (List Nat))
 |[]=>some []
 | .str b::ds=>(eB ds).map (b:: ·)
 |_=>none
def jW:D->Option Key
 | .int i=>some (.inl i)
 | .str l=>some (.inr (S l))
 |_=>none
def eK:List D->Option (List Key)
 |[]=>some []
 |d::ds=>(jW d).bind fun k=>(eK ds).map (k:: ·)
def eL:D->Option (List Key)
 | .tup ds=>eK ds
 |_=>none
def jb:List D->Option (List (List Key))
 |[]=>some []
 |d::ds=>(eL d).bind fun k=>(jb ds).map (k:: ·)
def kT(k:List Key):D:=.tup (k.map kD)
section
variable{K:W.Frag}{G:Hp}
theorem eQ:∀{ds:List D}{bs:List (List Nat)}{xs:List V},eB ds=some bs->Reps K G ds xs->xs=bs.map (fun l=>V.str (S l))/\∀l∈bs,l.length<=sizeLine
 |[],_,_,e,r=>by
  cases e;rw[Reps]at r;exact⟨r,fun _ h=>nomatch h⟩
 |d::ds,_,_,e,r=>by
  cases d with
  |str b=>
   rw[eB,Tg]at e;obtain⟨bs,e1,e2⟩:=e;subst e2;rw[Reps]at r;obtain⟨y,ys,e3,r1,r2⟩:=r;obtain⟨h1,h2⟩:=eQ e1 r2;obtain⟨h3,h4⟩:=ba r1;subst h3;refine⟨by rw[e3,h1];rfl,fun l hl=>?_⟩;rcases S3.mp hl with rfl|hl
   ·exact h4
   ·exact h2 l hl
  |_=>simp[eB]at e
theorem gw{d:D}{k:Key}{v:V}(e:jW d=some k)(r:Rep K G d v):v=kV k/\d=kD k:=by
 cases d with
 |int i=>
  cases e;exact⟨bx r,rfl⟩
 |str l=>
  cases e;refine⟨(ba r).1,?_⟩;show D.str l=D.str (S l).cps.toList;rw[cN]
 |_=>cases e
theorem jc:∀{ds:List D}{ks:List Key}{xs:List V},eK ds=some ks->Reps K G ds xs->xs=ks.map kV/\ds=ks.map kD
 |[],_,_,e,r=>by
  cases e;rw[Reps]at r;exact⟨r,rfl⟩
 |d::ds,_,_,e,r=>by
  rw[eK,TH]at e;obtain⟨k,e1,e⟩:=e;rw[Tg]at e;obtain⟨ks,e2,e3⟩:=e;subst e3;rw[Reps]at r;obtain⟨y,ys,e4,r1,r2⟩:=r;obtain⟨h1,h2⟩:=gw e1 r1;obtain⟨h3,h4⟩:=jc e2 r2;rw[e4,h1,h2,h3,h4];exact⟨rfl,rfl⟩
theorem cF{d:D}{ks:List Key}{v:V}(e:eL d=some ks)(r:Rep K G d v):∃p,v=.ref p/\G p=some (.tup (ks.map kV))/\d=kT ks:=by
 cases d with
 |tup ds=>
  obtain⟨p,xs,ev,g,rs⟩:=tL r;obtain⟨h1,h2⟩:=jc e rs;subst h1;exact⟨p,ev,g,by rw[h2];rfl⟩
 |_=>cases e
theorem jX:∀{ds:List D}{JB:List (List Key)}{xs:List V},jb ds=some JB->Reps K G ds xs->∃al:List (Addr×List Key),xs=al.map (fun a=>V.ref a.1)/\JB=al.map (·.2)/\ds=al.map (fun a=>kT a.2)/\∀a∈al,G a.1=some (.tup (a.2.map kV))/\Rep K G (kT a.2) (.ref a.1)
 |[],_,_,e,r=>by
  cases e;rw[Reps]at r;exact⟨[],r,rfl,rfl,fun _ h=>nomatch h⟩
 |d::ds,_,_,e,r=>by
  rw[jb,TH]at e;obtain⟨k,e1,e⟩:=e;rw[Tg]at e;obtain⟨ks,e2,e3⟩:=e;subst e3;rw[Reps]at r;obtain⟨y,ys,e4,r1,r2⟩:=r;obtain⟨p,h1,h2,h5⟩:=cF e1 r1;obtain⟨al,h3,h4,h6,h7⟩:=jX e2 r2;subst h1;refine⟨(p,k)::al,by rw[e4,h3];rfl,by rw[h4];rfl,by rw[h5,h6];rfl,fun a ha=>?_⟩;rcases S3.mp ha with rfl|ha
  ·exact⟨h2,by rw[<-h5];exact r1⟩
  ·exact h7 a ha
theorem dI{α:Type}{f:α->D}{g:α->V}:∀{l:List α},(∀a∈l,Rep K G (f a) (g a))->Reps K G (l.map f) (l.map g)
 |[],_=>Reps.nil
 |a::l,h=>.cons (h a SN) (dI fun b hb=>h b (SU _ hb))
end
def sameKinds(k:List Key)(JB:List (List Key)):Bool:=!k.isEmpty&&JB.all fun j=>kinds j==kinds k
noncomputable def jY(ds:List D):Option (List D):=match dm ds with
 |some ns=>some ((bP ltI ns).map D.int)
 |none=>match eB ds with
  |some ls=>some ((bP JZ ls).map D.str)
  |none=>match jb ds with
   |some (k::JB)=>if sameKinds k JB then some ((bP di (k::JB)).map kT) else none
   |_=>none
noncomputable def fM:List D->Res R
 |[.lst ds]=>if ds.length<64 then match jY ds with
  |some l=>.ok (.l .f,.lst l)
  |none=>.bad
  else .bad
 |[.dct true ks _]=>if ks.length<64 then match ks,jb ks with
  |[],_=>.ok (.l .f,.lst [])
  |_,some (k::JB)=>if sameKinds k JB then .ok (.l .f,.lst ((bP di (k::JB)).map kT)) else .bad
  |_,_=>.bad
  else .bad
 |_=>.bad
theorem ig{k:List Key}{JB:List (List Key)}(h:sameKinds k JB=true):∃top t,∀j∈k::JB,kinds j=top::t:=by
 unfold sameKinds at h;rw[SY,Ti]at h;cases k with
 |nil=>simp at h
 |cons a k=>
  refine⟨a.isLeft,kinds k,fun j hj=>?_⟩;rcases S3.mp hj with rfl|hj
  ·rfl
  ·exact Tu.mp (h.2 j hj)
def jd(H G:Hp):Hp:=fun p=>match H p with
 |some (HO.tup xs)=>some (HO.tup xs)
 |_=>G p
theorem rD{H G:Hp}{p:Addr}{xs:List V}(e:H p=some (.tup xs)):jd H G p=some (.tup xs):=by
 unfold jd;rw[e]
theorem jZ{H G:Hp}{p:Addr}{u:HO}(e:jd H G p=some u):G p=some u\/(isT u=true/\H p=some u):=by
 unfold jd at e;split at e
 ·rename_i xs hx;cases e;exact .inr ⟨rfl,hx⟩
 ·exact .inl e
theorem ue{H G:Hp}(gh:Same G H):Same G (jd H G):=fun p u e=>by
 unfold jd;rw[gh p u e];cases u with
 |tup xs=>rfl
 |_=>exact e
theorem Rel.addT{K:W.Frag}{G H:Hp}{es:PV.Env}{vs:L2.St}{fp:List Addr}(q:Rel K G H es vs fp):∃G',Rel K G' H es vs fp/\Step G H fp G' H fp/\∀p xs,H p=some (.tup xs)->G' p=some (.tup xs):=by
 have gg:=ue q.gh;refine⟨jd H G,⟨q.rep.step gg fun _ _=>rfl,q.nd,fun p hp=>?_,fun p u e=>?_⟩,⟨gg,fun _ _ e _=>e,fun _ h=>.inl h,fun p u e=>(jZ e).imp_right fun z=>.inr (.inr z),fun _ u e=>⟨u,e⟩⟩,fun p xs e=>rD e⟩
 ·cases e:jd H G p with
  |none=>rfl
  |some u=>
   exfalso;rcases jZ e with z|⟨t,z⟩
   ·rw[q.gn p hp]at z;cases z
   ·obtain⟨u2,h2,hm⟩:=q.rep.mut p hp;rw[z]at h2;cases h2;cases u with
    |tup _=>cases hm
    |frz _ _=>cases hm
    |_=>cases t
 ·rcases jZ e with z|z
  ·exact q.gh p u z
  ·exact z.2
theorem uf{K:W.Frag}{G:Hp}{k:Key}(h:rh k):Rep K G (kD k) (kV k):=by
 cases k with
 |inl i=>exact bD i
 |inr x=>
  have:=fH (K:=K) (G:=G) (l:=x.cps.toList) h;rw[mW]at this;exact this
theorem Cd(k:Key):jW (kD k)=some k:=by
 cases k with
 |inl i=>rfl
 |inr x=>
  show some (Sum.inr (S x.cps.toList))=_;rw[mW]
theorem j3:∀ks:List Key,eK (ks.map kD)=some ks
 |[]=>rfl
 |k::ks=>by
  rw[S7,eK,Cd,j3 ks];rfl
theorem iR:∀JB:List (List Key),jb (JB.map kT)=some JB
 |[]=>rfl
 |k::JB=>by
  rw[S7,jb];show(eK (k.map kD)).bind _=_;rw[j3,iR JB];rfl
section
variable{X:Cx}
theorem Rz{α:Type}{lt:α->α->Bool}{p:α->α->Prop}(h:∀a b,p a b->lt b a=false){l:List α}(q:l.Pairwise p):l.Pairwise (fun a b=>lt b a=false):=q.imp (h _ _)
theorem nJ(hc:X.calm=true):c6 X (.builtin "sorted") (rC X.K fM):=by
 rintro pr s σ H xs us Q I rx ⟨G,fp,es,vs,ds,r,⟨rel,k⟩,vd,e⟩;unfold fM at e;split at e
 ·rename_i ds;split at e
  ·rename_i Kz;split at e
   ·rename_i l hl;cases e;obtain⟨v,ev,p,ys,ep,sq,rs⟩:=mH vd;subst ev;subst ep;unfold jY at hl;split at hl
    ·rename_i ns OK;cases hl;have hy:=gX OK rs;subst hy;have hlen:ns.length<64:=by have:=rs.length;rw[SO]at this;lia
     refine jl hc pr s σ H _ us Q I rx ⟨p,ns,rfl,sq,hlen,fun q ms hq pm sm=>?_⟩;have em:=fL zM pm (Rz (fun a b h=>by unfold ltI;rw[TF];lia) sm);subst em;obtain⟨GO,GW⟩:=rel.newL hq (dI (K:=X.K) (G:=G) (f:=D.int) (g:=V.int) fun a _=>bD a);exact k _ _ G _ GW GO
    ·split at hl
     ·rename_i ls hls;cases hl;obtain⟨hy,hz⟩:=eQ hls rs;subst hy;have hlen:ls.length<64:=by have:=rs.length;rw[SO]at this;lia
      refine jm hc pr s σ H _ us Q I rx ⟨p,ls,rfl,sq,hlen,fun q ms hq pm sm=>?_⟩;have em:=fL l5 pm (Rz (fun a b h=>by unfold JZ;rw[TF];exact h) sm);obtain⟨GO,GW⟩:=rel.newL hq (dI (K:=X.K) (G:=G) (f:=D.str) (g:=fun l=>V.str (S l)) (l:=ms) fun a ha=>fH (hz a (pm.mem_iff.mp ha)));rw[<-em]at k;exact k _ _ G _ GW GO
     ·split at hl
      ·rename_i kk JB hk;split at hl
       ·rename_i hsk;cases hl;obtain⟨al,h1,h2,h3,h4⟩:=jX hk rs;obtain⟨top,t,JC⟩:=ig hsk;subst h1;have hlen:al.length<64:=by have:=rs.length;rw[SO]at this;lia
        refine jo hc pr s σ H _ us Q I rx ⟨p,al,top,t,rfl,sq,fun a ha=>⟨SqT.of (rel.gh _ _ (h4 a ha).1),JC a.2 (by rw[h2];exact T9.mpr ⟨a,ha,rfl⟩)⟩,hlen,fun q ms hq pm sm=>?_⟩;have em:ms.map (·.2)=bP di (kk::JB):=by
         rw[h2];refine fL ud (pm.map _) ?_;rw[Vy];exact sm
        obtain⟨GO,GW⟩:=rel.newL hq (dI (K:=X.K) (G:=G) (f:=fun a:Addr×List Key=>kT a.2) (g:=fun a=>V.ref a.1) (l:=ms) fun a ha=>(h4 a (pm.mem_iff.mp ha)).2);have ek:ms.map (fun a=>kT a.2)=(bP di (kk::JB)).map kT:=by rw[<-em,Td];rfl
        rw[ek]at GO;exact k _ _ G _ GW GO
       ·cases hl
      ·cases hl
   ·cases e
  ·cases e
 ·rename_i ks vv;split at e
  ·rename_i Kz;obtain⟨v,ev,vt⟩:=mH vd;obtain⟨p,ys,o,ep,rd,dd,rs⟩:=vt;subst ev;subst ep;obtain⟨kvs,eo,ek,ex,KI⟩:=dd;subst eo;have ek:ks=(kvs.map (·.1)).map kT:=by rw[ek,Td];rfl
   have hlen:kvs.length<64:=by rw[ek,SO,SO]at Kz;exact Kz
   have go:∀(top:Bool) (t:List Bool),(∀kv∈kvs,kinds kv.1=top::t)->r=(.l .f,.lst ((bP di (kvs.map (·.1))).map kT))->wpAny (model X.prog X.w) X.A (call (.builtin "sorted") us) (EP X pr σ Q) X.xe s:=fun top t JC er=>by
    subst er;refine kH hc pr s σ H _ us Q I rx ⟨p,kvs,top,t,rfl,rd,JC,hlen,fun q ms hq hm pm sm=>?_⟩;have em:ms.map (·.2)=bP di (kvs.map (·.1)):=by
     refine fL ud pm ?_;rw[Vy];exact sm
    obtain⟨G2,GO,GW,ht⟩:=rel.addT;have Jd:∀a∈ms,Rep X.K G2 (kT a.2) (.ref a.1):=fun a ha=>by
     unfold kT;rw[Rep];refine⟨a.1,_,rfl,ht _ _ (hm a ha),?_⟩;refine dI (f:=kD) (g:=kV) fun key IX=>uf ?_
     have:a.2∈kvs.map (·.1):=pm.mem_iff.mp (T9.mpr ⟨a,ha,rfl⟩);obtain⟨kv,Jt,e2⟩:=T9.mp this;exact KI kv Jt key (by rw[e2];exact IX)
    obtain⟨Hk,Hs⟩:=GO.newL hq (dI (K:=X.K) (G:=G2) (f:=fun a:Addr×List Key=>kT a.2) (g:=fun a=>V.ref a.1) (l:=ms) Jd);have ek:ms.map (fun a=>kT a.2)=(bP di (kvs.map (·.1))).map kT:=by rw[<-em,Td];rfl
    rw[ek]at Hk;exact k _ _ G2 _ (GW.trans Hs) Hk
   rw[ek,iR]at e;split at e
   ·rename_i hnil;cases e;have:kvs=[]:=by
     cases kvs with
     |nil=>rfl
     |cons a b=>cases hnil
    subst this;exact go true [] (fun _ h=>nomatch h) rfl
   ·rename_i kk JB heq LG;split at e
    ·rename_i hsk;cases e;obtain⟨top,t,JC⟩:=ig hsk;have heq:kvs.map (·.1)=kk::JB:=by
      injection heq
     refine go top t (fun kv Jt=>JC kv.1 ?_) (by rw[heq]);rw[<-heq];exact T9.mpr ⟨kv,Jt,rfl⟩
    ·cases e
   ·cases e
  ·cases e
 ·cases e
def KJ(a b:D):Res R:=match eL a,eL b with
 |some ks,some js=>if kinds ks==kinds js then .ok (.f,.bl (di ks js)) else .bad
 |_,_=>ON a b
def Pq(a b:D):Res R:=match eL a,eL b with
 |some ks,some js=>if kinds ks==kinds js then .ok (.f,.bl (!di ks js)) else .bad
 |_,_=>match a,b with
  | .str a,.str b=>.ok (.f,.bl (!decide (a<b)))
  |a,b=>Rx a b
theorem p7(hu:X.A.units<cLine):HI X (compareOp .Lt) (rG X.K KJ):=by
 rintro pr s σ H x y v u Q I rx ry ⟨G,fp,es,vs,a,b,r,⟨rel,k⟩,va,vb,e⟩;unfold KJ at e;split at e
 ·rename_i ks js h1 h2;split at e
  ·rename_i hk;cases e;have ra:Rep X.K G a x:=by cases a <;> first|exact va|cases h1
   have rb:Rep X.K G b y:=by cases b <;> first|exact vb|cases h2
   obtain⟨p,e1,g1,_⟩:=cF h1 ra;obtain⟨p2,e2,g2,_⟩:=cF h2 rb;subst e1;subst e2;exact BR hu pr s σ H _ _ v u Q I rx ry ⟨p,p2,ks,js,rfl,rfl,SqT.of (rel.gh _ _ g1),SqT.of (rel.gh _ _ g2),Tu.mp hk,k _ H G fp .refl (rel.push (cy _))⟩
  ·cases e
 ·exact Eu pr s σ H x y v u Q I rx ry ⟨G,fp,es,vs,a,b,r,⟨rel,k⟩,va,vb,e⟩
theorem Ce(hu:X.A.units<cLine):HI X (compareOp .GtE) (rG X.K Pq):=by
 rintro pr s σ H x y v u Q I rx ry ⟨G,fp,es,vs,a,b,r,⟨rel,k⟩,va,vb,e⟩;unfold Pq at e;split at e
 ·rename_i ks js h1 h2;split at e
  ·rename_i hk;cases e;have ra:Rep X.K G a x:=by cases a <;> first|exact va|cases h1
   have rb:Rep X.K G b y:=by cases b <;> first|exact vb|cases h2
   obtain⟨p,e1,g1,_⟩:=cF h1 ra;obtain⟨p2,e2,g2,_⟩:=cF h2 rb;subst e1;subst e2;exact BU hu pr s σ H _ _ v u Q I rx ry ⟨p,p2,ks,js,rfl,rfl,SqT.of (rel.gh _ _ g1),SqT.of (rel.gh _ _ g2),Tu.mp hk,k _ H G fp .refl (rel.push (cy _))⟩
  ·cases e
 ·split at e
  ·rename_i l l';cases e;obtain⟨e1,h1⟩:=e7 va;obtain⟨e2,h2⟩:=e7 vb;subst e1;subst e2;obtain⟨t,rfl⟩:=rx;obtain⟨t',rfl⟩:=ry;refine PySem.P.ge_str ?_;rw[cN,cN];exact⟨.bl _,H,I,rfl,k _ H G fp .refl (rel.push (cy _))⟩
  ·exact Ew pr s σ H x y v u Q I rx ry ⟨G,fp,es,vs,_,_,r,⟨rel,k⟩,va,vb,e⟩
end
def eNewD(tk:Bool):FX:=fun env=>.ok ((.d,.dct tk [] []),env)
section
variable{md:Mode}{X:Cx}
def o5(ks vs:List D)(k v:D):List D×List D:=if ks.any (GU k) then(ks,(ks.zip vs).map fun p=>if GU k p.1 then v else p.2) else(ks++[k],vs++[v])
def dP(tk:Bool)(k:D):Bool:=if tk then(eL k).isSome else(jW k).isSome
noncomputable def GH(i:Nat)(fk fv:FX):FS:=fun env=>(fv env).bind fun p=>(fk p.2).bind fun q=>match p.2[i]?,q.2[i]? with
 |some (some _),some (some (.d,.dct tk ks vs))=>if dP tk q.1.2&&decide (ks.length<sizeLine) then .ok (.nx (q.2.set i (some (.d,.dct tk (o5 ks vs q.1.2 p.1.2).1 (o5 ks vs q.1.2 p.1.2).2)))) else .bad
 |_,_=>.bad
theorem ug(a b:Key):GU (kD a) (kD b)=decide (a=b):=by
 cases a with
 |inl i=>
  cases b with
  |inl j=>simp only[kD,GU];rw[To];simp
  |inr y=>simp only[kD,GU];simp
 |inr x=>
  cases b with
  |inl j=>simp only[kD,GU];simp
  |inr y=>
   simp only[kD,GU];rw[To];simp only[Tu,S9,Sum.inr.injEq];exact⟨fun h=>by rw[<-mW x,<-mW y,h],fun h=>by rw[h]⟩
theorem uh:∀a b:List Key,iJ (a.map kD) (b.map kD)=decide (a=b)
 |[],[]=>by simp[iJ]
 |[],_::_=>by simp[iJ]
 |_::_,[]=>by simp[iJ]
 |a::r,b::t=>by
  rw[S7,S7,iJ,ug,uh r t,To];simp
theorem yb(a b:List Key):GU (kT a) (kT b)=decide (a=b):=by
 unfold kT;rw[GU];exact uh a b
theorem nK{κ:Type}[DecidableEq κ]{K:W.Frag}{G:Hp}(f:κ->D)(hf:∀a b,GU (f a) (f b)=decide (a=b)){kvs:List (κ×V)}{vs:List D}{k:κ}{v:D}{y:V}(r:Reps K G vs (kvs.map (·.2)))(ry:Rep K G v y):
  (jq kvs k y).map (fun kv=>f kv.1)=(o5 (kvs.map fun kv=>f kv.1) vs (f k) v).1/\Reps K G (o5 (kvs.map fun kv=>f kv.1) vs (f k) v).2 ((jq kvs k y).map (·.2)):=by
 have e:(kvs.map fun kv=>f kv.1).any (GU (f k))=kvs.any fun kv=>decide (kv.1=k):=by
  rw[Vk];congr 1
  funext kv
  show GU (f k) (f kv.1)=_;rw[hf,To];simp only[S9];exact⟨fun z=>z.symm,fun z=>z.symm⟩
 unfold o5 jq;rw[e];split
 ·refine⟨?_,?_⟩
  ·rw[Td];refine T6 fun kv _=>?_
   show f (if kv.1=k then(kv.1,y) else kv).1=f kv.1;split <;> rfl
  ·rename_i hany;clear e hany;induction kvs generalizing vs with
   |nil=>
    have:vs=[]:=TK (by rw[<-r.length];rfl);subst this;exact Reps.nil
   |cons kv kvs ih=>
    cases vs with
    |nil=>have:=r.length;simp at this
    |cons d vs=>
     rw[S7,Reps.cons_iff]at r;rw[S7,Uo,S7,S7,S7];refine .cons ?_ (ih r.2);show Rep K G (if GU (f k) (f kv.1)=true then v else d) (if kv.1=k then(kv.1,y) else kv).2;rw[hf];by_cases hk:kv.1=k
     ·rw[S1 (by simp[hk]),S1 hk];exact ry
     ·rw[S4 (by simp;exact fun z=>hk z.symm),S4 hk];exact r.1
 ·refine⟨?_,?_⟩
  ·rw[Tb];rfl
  ·rw[Tb];exact r.app (.one ry)
theorem Rel.chgD{K:W.Frag}{G H:Hp}{es:PV.Env}{vs:L2.St}{fp:List Addr}{i:Nat}{tk:Bool}{ks ws:List D}(q:Rel K G H es vs fp)(e:es[i]?=some (some (.d,.dct tk ks ws))):∃p xs u,vs[i]?=some (some (.ref p))/\H p=some u/\DictO u tk ks xs/\Reps K G ws xs/\
  ∀u' IM IJ LK,DictO u' tk IM IJ->Reps K G LK IJ->∃fq,Rel K G (upd H p u') (es.set i (some (.d,.dct tk IM LK))) vs fq/\Step G H fp G (upd H p u') fq:=by
 obtain⟨v,fq,ev,g,st,Jl⟩:=q.out e;obtain⟨y,ys,e0,v',a,b,e1,e2,r1,r2⟩:=g.rep;cases e0;cases e1;rw[RepO]at r1;obtain⟨p,xs,u,e3,hp,dd,e4,rs⟩:=r1;subst e3;subst e4;subst e2;have nd:=Tt.mp (show(p::b).Nodup from g.nd);refine⟨p,xs,u,ev,hp,dd,rs,fun u' IM IJ LK Mq Ju=>?_⟩;have g2:Rel K G (upd H p u') (some (.d,.dct tk IM LK)::es.set i none) (some (.ref p)::vs) (p::b):=by
  refine⟨⟨some (.ref p),vs,rfl,.ref p,[p],b,rfl,rfl,?_,r2.step (.refl _) fun z hz=>az fun e=>nd.1 (e▸hz)⟩,g.nd,g.gn,fun z o ez=>?_⟩
  ·rw[RepO];exact⟨p,IJ,u',rfl,aP,Mq,rfl,Ju⟩
  ·have:z≠p:=fun w=>by
    subst w;rw[g.gn z SN]at ez;cases ez
   rw[az this];exact g.gh z o ez
 have Rv:Step G H (p::b) G (upd H p u') (p::b):=by
  refine⟨.refl _,fun z o ez nz=>?_,fun z hz=>.inl hz,fun z o ez=>.inl ez,fun z o ez=>?_⟩
  ·have:z≠p:=fun w=>nz (by rw[w];exact SN)
   rw[az this];exact ez
  ·by_cases w:z=p
   ·subst w;exact⟨_,aP⟩
   ·exact⟨o,by rw[az w];exact ez⟩
 obtain⟨fz,g3,Hs⟩:=g2.back (i:=i) (by rw[Tz];exact(List.getElem?_eq_some_iff.mp e).1) ev;rw[UM]at g3;exact⟨fz,g3,st.trans (Rv.trans Hs)⟩
theorem uk{K:W.Frag}{G:Hp}{d:D}{k:Key}{v:V}(e:jW d=some k)(r:Rep K G d v):rh k:=by
 cases d with
 |int i=>cases e;trivial
 |str l=>
  cases e;show(S l).cps.toList.length<=sizeLine;rw[cN];exact(ba r).2
 |_=>cases e
theorem um{K:W.Frag}{G:Hp}:∀{ds:List D}{ks:List Key}{xs:List V},eK ds=some ks->Reps K G ds xs->∀k∈ks,rh k
 |[],_,_,e,_=>by
  cases e;exact fun _ h=>nomatch h
 |d::ds,_,_,e,r=>by
  rw[eK,TH]at e;obtain⟨k,e1,e⟩:=e;rw[Tg]at e;obtain⟨ks,e2,e3⟩:=e;subst e3;rw[Reps]at r;obtain⟨y,ys,e4,r1,r2⟩:=r;intro z hz;rcases S3.mp hz with rfl|hz
  ·exact uk e1 r1
  ·exact um e2 r2 z hz
theorem p8{κ:Type}[DecidableEq κ]{P:κ->Prop}{kvs:List (κ×V)}{k:κ}{y:V}(h:∀kv∈kvs,P kv.1)(hk:P k):∀kv∈jq kvs k y,P kv.1:=by
 intro kv Jt;unfold jq at Jt;split at Jt
 ·obtain⟨z,hz,e⟩:=T9.mp Jt;rw[<-e];split
  ·exact h z hz
  ·exact h z hz
 ·rcases Tn.mp Jt with Jt|Jt
  ·exact h kv Jt
  ·rw[Te]at Jt;rw[Jt];exact hk
end
end PV
namespace NX
open PySem PySem.Spec PyProof.Rows L2
section
variable{prog:Program}{w:World}{A:Around}{E:Value->Shared->Prop}{s:Shared}{d:Addr}{es:Array DictEntry}{ep:Nat}
theorem l6(nm:(d==sysModules)=false):MeetsIn prog w (Builtin.«dict.__len__» ⟨[.ref d],[]⟩) (fun _ R s=>RawD s.heap d es ep/\R (.ok (.ret (.int es.size s.toks))) {s with toks:=s.toks+1}):=
 .of_wp fun A R s G9=>by
  obtain⟨⟨o,g,_,dat⟩,h⟩:=G9;show wpAny _ _ (dictSize d >>= fun _=>_) _ _ s;unfold dictSize;refine SM (SM (Vx g dat (SQ ?_)));show wpAny _ _ (Builtin.Dict.pendingCount d >>= fun _=>_) _ _ s;refine SM (wpAny_pendingCount_other nm (wpAny_ret_mkInt ?_));rw[Nat.add_zero];exact h
theorem zN{Q:Value->Shared->Prop}(nm:(d==sysModules)=false)(x:RawD s.heap d es ep)(hf:(es.size:Int)<2 ^ 63)(h:Q (.int es.size (s.toks+1)) {s with toks:=s.toks+1+1}):wpAny (model prog w) A (call (.builtin "len") [.ref d]) Q E s:=by
 have ty:=jA x;refine Vc kind_len plain_len entry_len (args_len1 _) ?_;unfold Builtin.«len»;refine SM (m:=oneArg "len" _) (SQ (SM (m:=callSpecial? (.ref d) (Str.ofString "__len__")) (wpAny_callSpecial?_slot (name:=Str.ofString "__len__") ty F.slot_dict_len
  (call_meetsIn F.slot_dict_len ty F.entry_dict_len (F.args_dict_len_1 _) (l6 (es:=es) (ep:=ep) nm) ⟨x,?_⟩))))
 show wpAny _ _ _ _ _ {s with toks:=s.toks+1};refine SM (UK (SQ (SM (Vg ?_))));show wpAny _ _ (if((es.size:Nat):Int)<0 then _ else _) _ _ _;rw[S4 (Int.not_lt.mpr (Int.natCast_nonneg _))];show wpAny _ _ (if((es.size:Nat):Int)>=2 ^ 63 then _ else _) _ _ _;rw[S4 (Int.not_le.mpr hf)];exact SM (wpAny_mkInt (SQ ⟨_,rfl,h⟩))
end
end NX
namespace PV
open PySem PySem.Spec PyProof.Rows L2 NX
section
variable{X:Cx}
def jt:List D->Res R
 |[.dct _ ks _]=>.ok (.f,.int ks.length)
 |ds=>Ey ds
theorem Cf{pr:List (Addr×Obj)}{σ:L2.St}{H:Hp}{s:Shared}(I:Inv X pr σ H s){p:Addr}{o:HO}{tk:Bool}{ks:List D}{xs:List V}(rd:Rd H p o)(dd:DictO o tk ks xs):(p==sysModules)=false/\∃es ep,RawD s.heap p es ep/\es.size=ks.length/\ks.length<=sizeLine:=by
 have ok:=rd.ok I.hok;cases tk with
 |true=>
  obtain⟨kvs,eo,ek,_⟩:=dd;subst eo;obtain⟨z,nm,ws,r,o2,es,ep,h1,h2,h3,h4,_⟩:=ok;refine⟨nm,es,ep,⟨o2,h1,h2,h3⟩,?_,by rw[ek,SO];exact z⟩;have:=TY List.length h4;rw[SO,T5,<-VJ r]at this;rw[ek,SO];exact this
 |false=>
  obtain⟨kvs,eo,ek,_⟩:=dd;subst eo;obtain⟨z,nm,ws,r,o2,es,ep,h1,h2,h3,h4,h5,_⟩:=ok;refine⟨nm,es,ep,⟨o2,h1,h2,h3⟩,?_,by rw[ek,SO];exact z⟩;have l1:=h5.length;have l2:kvs.length=ws.length:=VJ r;rw[ek,SO];rw[T5]at l1;lia
theorem eR:c6 X (.builtin "len") (rC X.K jt):=by
 rintro pr s σ H xs us Q I rx ⟨G,fp,es,vs,ds,r,⟨rel,k⟩,vd,e⟩;unfold jt at e;split at e
 ·rename_i tk ks ws;cases e;obtain⟨v,ev,p,ys,o,ep,rd,dd,_⟩:=mH vd;subst ev;subst ep;obtain⟨u,rfl,ru⟩:=fe rx;cases ru;obtain⟨nm,en,ep,raw,h1,h2⟩:=Cf I rd dd;refine zN nm raw (by rw[h1];rw[TQ]at h2;lia) ?_;refine⟨.int ks.length,H,I.tok _,⟨_,by rw[h1]⟩,k _ H G fp .refl (rel.push (bD _))⟩
 ·exact B8 pr s σ H xs us Q I rx ⟨G,fp,es,vs,_,r,⟨rel,k⟩,vd,e⟩
def EC(g:List Nat->List D->Res R)(fa:FO)(fs:FOs):FX:=fun env=>(fa env).bind fun p=>match Iu p.2 p.1 with
 | .ok (.str l)=>(fs p.2).bind fun q=>(oK q.2 q.1).bind fun ds=>(g l ds).bind fun r=>.ok (r,q.2)
 |_=>.bad
inductive rMtS(K:W.Frag)(g:List Nat->List D->Res R)(x:V)(xs:List V)(H:Hp)(Q:VK):Prop
 |mk:∀G fp es vs l ds r,Goes K H G fp es vs r Q->x=.str (S l)->l.length<=sizeLine->Nq K G H ds xs->g l ds=.ok r->rMtS K g x xs H Q
theorem Cg{g:List Nat->List D->Res R}{id:String}{name:Str}{o e:Expr}{es:List Expr}{fa:FO}{fs:FOs}{apos Hd:Pos}(slot:Slot "str" name id)(LB:typeOf (.builtin id)=pure (.type "method_descriptor"))(hm:Nm X id (rMtS X.K g))(ho:QO X o fa)(ha:KC X (e::es) fs)
  (IA:attributeBase o name X.env (eval o X.env)=eval o X.env:=by rfl)
  (Jz:((backTo Hd (starEach (e::es) X.env)).all (fun x=>!x.1)&&(backToKw Hd (keywordEach [] X.env)).all (fun x=>x.1.isSome)&&decide ((e::es).length+([]:List Keyword).length+(if([]:List Keyword).isEmpty then 0 else 1)<30))=true:=by rfl)
  (IB:(apos.endLine==Hd.line)=true:=by rfl) (hs:starEach (e::es) X.env=(false,eval e X.env)::starEach es X.env:=by rfl) (HQ:(backTo Hd (starEach es X.env)).any (·.1)=false:=by rfl):
  QE X (.Call (.Attribute o name apos) (e::es) [] Hd) (EC g fa fs):=by
 refine a7 (yS PySem.F.plainAttrs_str slot LB hm ho ha IA Jz IB hs HQ) fun σ H Q Hh=>?_
 obtain⟨G,env,fp,r,env',rel,e,k⟩:=Hh;obtain⟨⟨oa,GN⟩,e1,e⟩:=ai e;dsimp only at e;split at e
 ·rename_i l hl;obtain⟨⟨os,GY⟩,e2,e⟩:=ai e;obtain⟨ds,e3,e⟩:=ai e;obtain⟨r',e4,e⟩:=ai e;cases e;refine⟨G,env,fp,oa,GN,rel,e1,fun v H1 G1 Hi Hc GP Iw=>?_⟩;obtain⟨ev,hz⟩:=e7 (GP.vw Iw hl);subst ev;exact⟨rfl,G1,GN,Hi,os,GY,GP,e2,fun vs H2 G2 Hv GW GO Lk=>⟨G2,Hv,GY,σ,l,ds,r,⟨GO,fun v H' G' GS st Hq=>k v H' G' GS (Hc.trans (GW.trans st)) Hq⟩,rfl,hz,GO.vws Lk e3,e4⟩⟩
 ·cases e
end
theorem fnok_of{P:Program}{w:World}{K:W.Frag}{mg:Str->Option Value}{base:Heap}{x:Str}{st:Stmt}{N ps:List Str}{k:Nat}{g:FS}{f:Addr}{fd:FuncData}(F:Fun K x x st f fd)(sc:FnScope N ps (defScope st))
  (body:∀(Hf:Value) (A:Around) (outer:List PySem.Env) (s:Shared) (H:Hp) (E:XK),Room k (A.deeper (envOfC x (defScope st) s.heap.objs.size f Hf))->K7 (md:=.plain) (qS Li P w K mg base N x (defScope st) f Hf A outer s H E).nox (bU st) g):
  FnOk P w K mg base Li (k+1) f fd ps (spF K (fBody ps.length (N.length-ps.length) g)):=by
 refine F.ok sc (fun vs H Q E h=>?_) (fun Hf A outer s H vs Q E hr h=>?_)
 ·obtain⟨G,ds,r,_,rs,e,_⟩:=h;unfold fBody at e;split at e
  ·rename_i hl;rw[rs.length,hl]
  ·cases e
 ·obtain⟨G,ds,r,gh,rs,e,q⟩:=h;unfold fBody at e;split at e
  ·rename_i hl;refine⟨_,body Hf A outer s H E hr,G,ds.map (fun d=>some (O.f,d))++List.replicate (N.length-ps.length) none,[],⟨?_,Uu,(fun _ h=>nomatch h),gh⟩,?_⟩
   ·have:=d7 (K:=K) (G:=G) (H:=H) (N.length-ps.length) rs;unfold L2.hJ;rw[rs.length,hl];exact this
   ·obtain⟨o,eo,e⟩:=ai e;rw[eo];cases o with
    |rt r'=>
     cases e;exact fun v H' G' GS st rel=>q v H' G' GS st rel
    |nx env'=>
     cases e;exact fun σ' H' G' GS st rel=>q .non H' G' [] (st.trans (Step.cut fun _ h=>nomatch h)) (rel.nilF.push lR)
    |bk env'=>cases e
    |ct env'=>cases e
  ·cases e
def wR(K:W.Frag):Sp:=fun vs H Q _=>∃(a:Addr) (ns:List Int),vs=[.ref a]/\SqL K H a (ns.map V.int)/\ns.length<=63/\∀H',Q (.bl true) H'
theorem Ci{K:W.Frag}{F:List D->Res R}(h:∀ns:List Int,ns.length<=63->∃o,F [.lst (ns.map D.int)]=.ok (o,.bl true)):∀vs H Q E,wR K vs H Q E->spF K F vs H Q E:=by
 rintro vs H Q E ⟨a,ns,rfl,sq,hl,q⟩;obtain⟨o,e⟩:=h ns hl;refine⟨H,_,_,.refl _,?_,e,fun v H' G' GS st rel=>?_⟩
 ·refine .one ?_;rw[Rep];exact⟨a,_,rfl,sq,dI fun n _=>bD n⟩
 ·rw[c7 rel.top];exact q H'
theorem _root_.L2.Room.u65{k:Nat}{A:Around}(r:Room k A):A.units+65<cLine:=by have:=r.un;lia
def Cj(f:FX)(a:FG):FS:=fun env=>(f env).bind fun p=>(a p.1.2 p.2).bind fun e=>.ok (.nx e)
theorem yc{X:Cx}{tg e:Expr}{f:FX}{a:FG}{pos:Pos}(he:QE X e f)(hg:QG X tg a)(hs:swapsWithSole [tg] e pos.line X.env=pure false:=by rfl)(hw:swappedStores [tg] e X.env=pure none:=by rfl)
  (h1:(assignEach [tg] X.env).map (·.2)=[assign tg X.env]:=by rfl):QS (md:=md) X (.Assign [tg] e pos) (Cj f a):=dF (Bn he hg hs hw h1) fun Dd σ H G9=>by
 obtain⟨G,env,fp,rel,k⟩:=G9;unfold Cj at k;match q:f env,k with
 | .ok (r,GN),k=>
  have k:OutOk X.K G H fp Dd ((a r.2 GN).bind fun e=>.ok (.nx e)):=k;match q2:a r.2 GN,k with
  | .ok GY,k=>
   refine⟨G,env,fp,r,GN,rel,q,fun v H1 G1 Hi Hc GP=>?_⟩;obtain⟨G2,b,rv,GO,GW⟩:=GP.freeze;exact⟨G2,GN,b,r.2,GY,GO,rv,q2,fun σ' G' GS st Hq=>k σ' H1 G' GS (Hc.trans (GW.trans st)) Hq⟩
theorem walk{l:PySem.W.OpenLaw}{q:Program}{loose:List Str}{XP:(Str->Option Value)->Heap->Prop}{YP:World->Heap->Prop}{d:DefRec}{K:Params->W.Frag}{k:Nat}{x:Str}(hn:l.most=some 63)(O3:d.params.defaults=[])(hr:Room k PySem.callerA)
  (hY:∀(w:World) (h:Heap),YP w h->(K w.params).In h)
  (F:∀(w:World) (mg:Str->Option Value) (fa:Addr) (h:Heap),(K w.params).In h->h.Ns mainGlobals mg->mg d.name=some (.ref fa)->
   ∃fd:FuncData,(∀(s:Shared) (u:Value),BindsTo s fd ⟨[u],[]⟩ [(x,u)])/\∀base:Heap,(K w.params).In base->base.Ns mainGlobals mg->FnOk l.prog w (K w.params) mg base Li k fa fd [x] (wR (K w.params))):
  PySem.W.WalkO q loose XP YP l.row.toRowW d [] (fun f vs=>PySem.call f vs):=
 L2.yU (n:=63) (k:=k) (x:=x) (CX:=fun _=>Li) (sp:=fun w=>wR (K w.params)) hn (by decide) O3 hr hY F (fun _ _ a ns hl _ hS=>⟨a,ns,rfl,hS,hl,fun _=>rfl⟩) fun _ _ _ _ _ z=>z
theorem uo:bootBuiltins "max" = some (.builtin "max"):=by decide +kernel
theorem Ck:bootBuiltins "all" = some (.builtin "all"):=by decide +kernel
theorem ij:bootBuiltins "sorted" = some (.builtin "sorted"):=by decide +kernel
theorem cw{K:W.Frag}{h:Heap}{mg:Str->Option Value}{x:Str}{st:Stmt}{f:Addr}{oc:Value}{od an:Option Addr}{LA:Array (Option Value)}{kV doc pm Hf ct:Value}(X:K.In h)(G:h.Ns mainGlobals mg)
  (a:PySem.W.nsIn K mainGlobals x=some (some (.ref f))) (l:K.lookup f=some ⟨oc,od,.func (PySem.W.fnOf x x (dt st) (bU st) (defScope st) .none kV doc pm an Hf ct),LA⟩)
  (c:PySem.W.codeIn K Hf x=true) (k:PySem.W.keepIn K (.ref f)=true):Def K mg x st:=⟨f,_,xR l c k,Ud X G a⟩
inductive tQL(K:W.Frag)(f:FI)(σ:L2.St)(H:Hp)(R:It->Hp->Prop):Prop
 |mk:∀G env fp ds env',Rel K G H env σ fp->f env=.ok (ds,env')->(∀J H' G' GS,Step G H fp G' H' GS->Rel K G' H' env' σ GS->(∀G2,Same G' G2->(∀(i:Nat) (r:PV.R) (v:V),env'[i]?=some (some r)->σ[i]?=some (some v)->Rep K G2 r.2 v)->Walk K G2 J ds)->R J H')->tQL K f σ H R
def NV(X:Cx)(tg e:Expr)(f:FI):Prop:=PI X tg e (tQL X.K f)
theorem Walk.mono{K:W.Frag}{G G2:Hp}{J:It}{ds:List D}(w:Walk K G J ds)(gg:Same G G2):Walk K G2 J ds:=fun G' H' es vs fp g rel=>w G' H' es vs fp (gg.trans g) rel
theorem yd{K:W.Frag}{fi:FI}{ix:List (Option Nat)}{a:FG}{c:FT}{f:FX}{σ:L2.St}{H:Hp}{Q:VK}(h:tQ K (dy fi ix a c f) σ H Q):yY (tQL K fi) ix (tQG K a) (tQT K c) (tQ K f) σ H Q:=by
 obtain⟨G,env,fp,r,env',rel,e,k⟩:=h;obtain⟨⟨ds,GN⟩,e1,e⟩:=ai e;obtain⟨rs,e2,e⟩:=ai e;refine⟨G,env,fp,ds,GN,rel,e1,fun J H1 G1 Hi Hc GP wk D hD=>?_⟩;dsimp only at e e2;split at e
 ·rename_i hz;have er:r=(.l .f,.lst rs):=by cases e;rfl
  have ee:env'=if flatDs rs then GN else GN.map frz:=by cases e;rfl
  subst er;obtain⟨G2,LM,Mv,Jd,hrE,Je⟩:=GP.lend;have wk2:=wk G2 LM Jd;have GO:Rel K G2 H1 (dw ix GN) (kP ix σ) []:=⟨fJ Jd (fun i r er=>let⟨v,ev,_⟩:=GP.view er;⟨v,ev⟩) ix,Uu,(fun _ h=>nomatch h),Mv⟩
  obtain⟨Hk,Hs⟩:=GO.newL (ds:=[]) (xs:=[]) hD .nil;refine⟨fun i m σ1 H2=>m=ds.length-i/\i<=ds.length/\∃G' es GS acc cT,Step G2 H1 [] G' H2 GS/\Rel K G' H2 (some (.l .f,.lst acc)::es) (some (.ref D)::σ1) GS/\cV a c f (ds.drop i) es=.ok cT/\acc++cT=rs,
   ⟨_,rfl,Tw _,G2,dw ix GN,_,[],rs,Hs,Hk,e2,rfl⟩,?_⟩
  rintro i m σ1 H2 ⟨rfl,hi,G3,es,Iz,acc,cT,Ij,HK,e4,LR⟩;obtain⟨w1,w2⟩:=wk2 G3 H2 _ _ _ Ij.gg HK i;by_cases HC:i<ds.length
  ·have hd:ds[i]?=some ds[i]:=List.getElem?_eq_getElem HC;obtain⟨go,yl⟩:=w1 _ hd;rw[Vd HC]at e4;unfold cV at e4;obtain⟨Rt,h1,e4⟩:=ai e4;obtain⟨⟨b,OP⟩,h2,e4⟩:=ai e4;dsimp only at e4;refine .inr ⟨go,fun x H3 y=>?_⟩;obtain⟨G4,rx,IQ,Jx⟩:=yl x H3 y;obtain⟨fa,fb,Sh,ra,relb,bk⟩:=IQ.frame;refine⟨G4,es,fb,ds[i],Rt,relb,rx,h1,fun σ2 G5 Pr st6 rel6=>?_⟩;refine⟨G5,Rt,Pr,b,OP,rel6,h2,fun H6 G6 Si st7 Pt=>?_⟩;have Pu:=st6.trans st7;cases b with
   |false=>
    refine iteF ⟨ds.length-(i+1),by lia,rfl,HC,?_⟩;obtain⟨LS,Mx⟩:=bk G6 H6 OP σ2 Si Pu Pt;rw[<-Sh]at Mx;exact⟨G6,OP,_,acc,cT,Ij.trans (Jx.trans Mx),LS,e4,LR⟩
   |true=>
    have e4:((f OP).bind fun q=>(cV a c f (ds.drop (i+1)) q.2).bind fun rs=>.ok (q.1.2::rs))=.ok cT:=e4;obtain⟨⟨r,RA⟩,h3,e4⟩:=ai e4;obtain⟨Pw,h4,e4⟩:=ai e4;cases e4;refine DJ ⟨G6,OP,Si,r,RA,Pt,h3,fun v H7 G7 fp7 st8 rel8=>?_⟩;obtain⟨G8,fp8,rv,rel9,st9⟩:=rel8.freeze;obtain⟨LS,Mx⟩:=bk G8 H7 RA σ2 fp8 (Pu.trans (st8.trans st9)) rel9;rw[<-Sh]at Mx;obtain⟨p,xs,ep,hp,Pp,cg⟩:=LS.chg (i:=0) (ds:=acc) (ds':=acc++[r.2]) rfl;have ep:some (some (V.ref D))=some (some (V.ref p)):=ep;cases ep;obtain⟨fq,rely,sty⟩:=cg (xs++[v]) (Pp.app (.one rv));refine⟨xs,hp,?_,ds.length-(i+1),by lia,rfl,HC,G8,RA,fq,acc++[r.2],Pw,Ij.trans (Jx.trans (Mx.trans sty)),rely,h4,?_⟩
    ·rw[Pp.length];have:=TY List.length LR;rw[Tq,S5]at this;lia
    ·rw[<-LR,Tx];rfl
  ·have ei:i=ds.length:=by lia
   subst ei;rw[Wt]at e4;cases e4;rw[Ta]at LR;subst LR;refine .inl ⟨w2 rfl,?_⟩;obtain⟨fa,relo,sto⟩:=HK.only;obtain⟨k1,k2⟩:=Je H2 G3 fa _ _ (Ij.trans sto) relo;rw[ee]at k;by_cases hc:flatDs acc=true
   ·rw[S1 hc]at k;obtain⟨G5,Pr,Jx,IQ⟩:=k1 (by rw[aM,lU];exact hc);exact k _ H2 G5 Pr (Hc.trans Jx) IQ
   ·rw[S4 hc]at k;obtain⟨G5,Pr,Jx,IQ⟩:=k2;exact k _ H2 G5 Pr (Hc.trans Jx) IQ
 ·cases e
section
variable{md:Mode}{X:Cx}{scope:Scope}{N:List Str}{tg iter elt:Expr}{ifs:List Expr}{pos:Pos}{fi:FI}{a:FG}{c:FT}{f:FX}
variable{l e:Expr}{g fj:FI}
theorem bW(h:QI X tg e fi):NV X tg e fi:=jQ h fun σ H R ⟨G,env,fp,ds,env',rel,e,k⟩=>⟨G,env,fp,ds,env',rel,e,fun J H' G' GS st Hq wk=>k J H' G' GS st Hq fun _ gg _=>wk.mono gg⟩
theorem dJ(h:NV X tg e fi)(h2:NV X tg e fj):NV X tg e (IC fi fj):=fun pr s σ H R I G9=>by
 obtain⟨G,env,fp,ds,env',rel,ee,k⟩:=G9;rcases ya ee with z|z
 ·exact h pr s σ H R I ⟨G,env,fp,ds,env',rel,z,k⟩
 ·exact h2 pr s σ H R I ⟨G,env,fp,ds,env',rel,z,k⟩
def iS(i:Nat):FI:=fun env=>match env[i]? with
 |some (some (_,.lst ds))=>.ok (ds,env)
 |_=>.bad
theorem gY{i:Nat}(h:PE X l (pG i)):NV X tg l (iS i):=jQ (sk h) fun σ H R G9=>by
 obtain⟨G,env,fp,ds,env',rel,e,k⟩:=G9;unfold iS at e;split at e
 ·rename_i o ds hr;cases e;obtain⟨v,ev,rv⟩:=rel.view hr;obtain⟨p,xs,Sj,sq,rs⟩:=bp rv;refine⟨v,ev,p,Sj,⟨xs,sq⟩,k _ H G fp .refl rel fun G2 gg Jd=>?_⟩;obtain⟨p',IJ,Px,IP,Ju⟩:=bp (Jd i _ v hr ev);rw[Sj]at Px;cases Px;exact nr IP Ju
 ·cases e
theorem cn(ix:List (Option Nat))(N:List Str)(hc:X.calm=true)(hi:NV X tg iter fi)(hg:∀C s H fp pn,QG (bO X scope N C s H fp pn) tg a)(ht:∀C s H fp pn,Qy (bO X scope N C s H fp pn) ifs c)(he:∀C s H fp pn,QE (bO X scope N C s H fp pn) elt f)
  (hf:hV scope X.env=true:=by rfl) (hk:scope.kind=.function:=by rfl) (HP:∀y∈scope.names,y.2≠.cell:=by decide +kernel) (IW:∀y∈scope.names,y.2=.local->scope.names.lookup y.1=some .local:=by decide +kernel) (IV:xT X scope N ix=true:=by rfl)
  (hs:∀x,foldedSetIterable iter X.env x=pure x:=by intro _;rfl):QE X (.ListComp elt [⟨tg,iter,ifs,0⟩] scope pos) (dy fi ix a c f):=
 a7 (y1 (g:=tQG X.K a) (tc:=tQT X.K c) (te:=tQ X.K f) ix N hc hi hg ht he hf hk HP IW IV hs) fun _ _ _=>yd
theorem jB{i:Nat}{y:Str}{py LF:Pos}(ix:List (Option Nat))(N:List Str)(hN:X.N.Nodup)(Q9:X.N[i]?=some y)(hy:Loc X.env.scope y)(hc:X.calm=true)(hi:NV X tg iter fi)(hg:∀C s H fp pn,QG (bO X scope N C s H fp pn) tg a)(ht:∀C s H fp pn,Qy (bO X scope N C s H fp pn) ifs c)
  (he:∀C s H fp pn,QE (bO X scope N C s H fp pn) elt f) (Rb:swapsWith (.ListComp elt [⟨tg,iter,ifs,0⟩] scope pos) (some (.Name y py)) LF.line X.env=pure true:=by rfl)
  (hf:hV scope X.env=true:=by rfl) (hk:scope.kind=.function:=by rfl) (HP:∀y∈scope.names,y.2≠.cell:=by decide +kernel) (IW:∀y∈scope.names,y.2=.local->scope.names.lookup y.1=some .local:=by decide +kernel) (IV:xT X scope N ix=true:=by rfl)
  (hs:∀x,foldedSetIterable iter X.env x=pure x:=by intro _;rfl) (Ld:X.fn y=true\/X.env.scope.names.lookup y=some .local:=by first|exact .inl rfl|exact .inr rfl):
  QS (md:=md) X (.Assign [.Name y py] (.ListComp elt [⟨tg,iter,ifs,0⟩] scope pos) LF) (cx i (dy fi ix a c f)):=
 dF (y3 (i:=i) (g:=tQG X.K a) (tc:=tQT X.K c) (te:=tQ X.K f) ix N hN Q9 hy hc hi hg ht he Rb hf hk HP IW IV hs Ld) fun D σ H ⟨G,env,fp,rel,k⟩=>yd (tN rel k)
end
section
variable{X:Cx}{a:Expr}{pos:Pos}{fa:FO}
def ED(fa:FO):FX:=fun env=>(fa env).bind fun p=>(Iu p.2 p.1).bind fun d=>match d with
 | .int i=>.ok ((.f,.int (-i)),p.2)
 |_=>.bad
theorem Cm(ha:QO X a fa):QE X (.UnaryOp .USub a pos) (ED fa):=a7 (D4 Bv ha) fun σ H Q G9=>by
 obtain⟨G,env,fp,r,env',rel,e,k⟩:=G9;obtain⟨⟨o,e1⟩,h1,e⟩:=ai e;obtain⟨d,h2,e⟩:=ai e;dsimp only at e;split at e
 ·rename_i i;cases e;refine⟨G,env,fp,o,_,rel,h1,fun v H1 G1 Hi Hc GP Iw=>?_⟩;have:=bz (GP.vw Iw h2);exact⟨i,this,k _ H1 G1 Hi Hc (GP.push (bD _))⟩
 ·cases e
theorem uq{i:Int}(h:i.natAbs<2 ^ 1000):Builtin.Int.intBits i<=2 ^ 20:=by
 unfold Builtin.Int.intBits;split
 ·exact Tw _
 ·rename_i h0;have h1:i.natAbs≠0:=by
   intro e;rw[Int.natAbs_eq_zero]at e;exact h0 (by rw[e];rfl)
  have:=(Nat.log2_lt h1).mpr h;have e:(2:Nat) ^ 20=1048576:=by decide
  lia
theorem zO:HI X (binaryOp .Mult) (rI (fun i j=>i.natAbs<2 ^ 1000/\j.natAbs<2 ^ 1000) fun i j=>.int (i*j)):=OZ fun _ _ _ _ _ _ _ hc q=>mul_int q (.of_bits (uq hc.1) (uq hc.2))
theorem nL{α:Type}:∀(ls:List (Array α)) (acc:Array α),(ls.foldl (·++·) acc).toList=acc.toList++(ls.map Array.toList).flatten
 |[],acc=>by simp
 |a::ls,acc=>by
  rw[U4,nL ls,Array.toList_append,S7,Ux,Tx]
theorem EE(l:List Nat)(n:Nat):(⟨(List.replicate n (S l).cps).foldl (·++·) #[]⟩:Str)=S (List.replicate n l).flatten:=by
 have h:((List.replicate n (S l).cps).foldl (·++·) #[]).toList=(List.replicate n l).flatten:=by
  rw[nL,List.map_replicate];simp only[cN,U7]
 show Str.mk _=Str.mk _;rw[<-h]
theorem zP(a b:Int):Et (.int a) (.int b)=if dk a||dk b then .ok (.f,.int (a*b)) else .bad:=rfl
noncomputable def zQ:D->D->Res R
 | .int i,.int j=>if dk i||dk j then .ok (.f,.int (i*j)) else if i.natAbs<2 ^ 1000/\j.natAbs<2 ^ 1000 then .ok (.f,.int (i*j)) else .bad
 | .str l,.int k=>if 2<=k/\k<=1000/\1<=l.length/\l.length<=1000 then .ok (.f,.str (List.replicate k.toNat l).flatten) else .bad
 |_,_=>.bad
theorem zR:HI X (binaryOp .Mult) (rG X.K zQ):=by
 rintro pr s σ H x y v u Q I rx ry ⟨G,fp,es,vs,a,b,r,⟨rel,k⟩,va,vb,e⟩;unfold zQ at e;split at e
 ·rename_i i j;split at e
  ·rename_i hc;exact B5 pr s σ H x y v u Q I rx ry ⟨G,fp,es,vs,.int i,.int j,r,⟨rel,k⟩,va,vb,by rw[zP,S1 hc];exact e⟩
  ·split at e
   ·rename_i hc;cases e;cases bz va;cases bz vb;exact zO pr s σ H _ _ v u Q I rx ry ⟨i,j,rfl,rfl,hc,k _ H G fp .refl (rel.push (bD _))⟩
   ·cases e
 ·rename_i l j;split at e
  ·rename_i hc;cases e;obtain⟨ev,hl⟩:=e7 va;subst ev;cases bz vb;obtain⟨t,rfl⟩:=rx;obtain⟨t',rfl⟩:=ry;have hlen:(S l).length=l.length:=kF l;have hz:(List.replicate j.toNat l).flatten.length<=1000000:=by
    rw[lC];exact Nat.mul_le_mul (by lia:j.toNat<=1000) hc.2.2.2
   have Mi:(List.replicate j.toNat l).flatten.length<=sizeLine:=Tp hz (by decide);refine PySem.P.mul_str ?_ ?_ ?_ ?_
   ·rw[Tj (by lia),Tj (by lia)];rfl
   ·intro _ _;rw[hlen];have h1:1000<=(2 ^ 63-1) / j:=(Int.le_ediv_iff_mul_le (by lia)).mpr (by lia);lia
   ·intro _ _;unfold Builtin.Str.tooLong;rw[TF,hlen,XA,<-lC];lia
   ·rw[S4 (by lia),S4 (by rw[hlen,VR,Tu,Tu];lia),EE];refine⟨?_,?_⟩
    ·rw[kF];exact Mi
    ·exact⟨.str (S (List.replicate j.toNat l).flatten),H,I.tok _,⟨_,rfl⟩,k _ H G fp .refl (rel.push (fH Mi))⟩
  ·cases e
 ·cases e
end
end PV
namespace HT
open PySem PySem.Spec PyProof.Rows L2
variable{prog:Program}{w:World}{A:Around}{E:Value->Shared->Prop}{s:Shared}
theorem ik{t sl:Addr}{items:Array Value}{vl vu:Value}{lo hi:Option Int}{Q:Value->Shared->Prop}(ht:IsTup s.heap t items)(hs:s.heap.IsSliceOf sl vl vu .none)(pl:IsPart vl lo)(pu:IsPart vu hi)
  (hw:sIx items.size 0 lo=0/\sIx items.size items.size hi=items.size) (h:Q (.ref t) s):wpAny (model prog w) A (getItem (.ref t) (.ref sl)) Q E s:=by
 obtain⟨os,K4,Qo,NB⟩:=id hs;have Q4:s.TypeIs (.ref sl) "slice":=⟨os,K4,Qo⟩
 unfold getItem;try with_reducible refine UK ?_
 first|refine SM (SQ ?_)|skip
 refine SM (wpAny_sequenceKey ht.typeIs (by decide) ?_);refine SM (wpAny_callSpecial?_slot (name:=Str.ofString "__getitem__") ht.typeIs Uj
  (TU Uj ht.typeIs entry_tuple_getitem ?_ (args_tuple_getitem _ _)))
 show wpAny _ _ (Builtin.Tuple.tupleItemsOf (.ref t) >>= _) _ _ s;refine SM (tupleItemsOf_ ht ?_);refine SM (UU Q4 ?_);rw[S1 (by decide)];refine SM (eY hs pl pu ?_);have hyes:(((sIx items.size 0 lo:Nat):Int)==0&&(1:Int)==1&&(sIx items.size items.size hi-sIx items.size 0 lo)==items.size)=true:=by
  rw[hw.1,hw.2];simp
 show wpAny _ _ (if(((sIx items.size 0 lo:Nat):Int)==0&&(1:Int)==1&&(sIx items.size items.size hi-sIx items.size 0 lo)==items.size)=true then _ else _) _ _ s;rw[S1 hyes];refine SM (m:=Builtin.Tuple.tupleIsExact _) ?_;unfold Builtin.Tuple.tupleIsExact;refine SM (UU ht.typeIs (SQ ?_));rw[S1 (by decide)];exact SM (WU (SQ ⟨_,rfl,SQ h⟩))
end HT
namespace PV
open PySem PySem.Spec PyProof.Rows L2 NX
section
variable{X:Cx}{pos:Pos}{fa:FO}
theorem zS:NC X (fun x lo hi H Q=>∃a xs,x=.ref a/\SqT X.K H a xs/\(HT.sIx xs.length 0 lo=0/\HT.sIx xs.length xs.length hi=xs.length)/\Q x H):=by
 intro pr s σ H x v vl vu lo hi sl Q I rx hs pl pu h;obtain⟨a,xs,rfl,hx,hw,q⟩:=h;cases rx;obtain⟨GQ,r,ht,hz⟩:=I.tuple hx;have hlen:GQ.toArray.size=xs.length:=by rw[SR];exact r.length.symm
 refine⟨"tuple",_,PyProof.Rows.slot_tuple_getitem.lookup,ht.typeIs,?_⟩;exact HT.ik ht hs pl pu (by rw[hlen];exact hw) ⟨.ref a,H,I,rfl,q⟩
def NW(k:D)(lo hi:Option Int):Res R:=match k with
 | .tup ds=>if HT.sIx ds.length 0 lo=0/\HT.sIx ds.length ds.length hi=ds.length then .ok (.f,.tup ds) else OR k lo hi
 |_=>OR k lo hi
def zT(fa:FO)(lo hi:FP):FX:=fun env=>(fa env).bind fun p=>(lo p.2).bind fun q=>(hi q.2).bind fun t=>(Iu t.2 p.1).bind fun d=>(NW d q.1 t.1).bind fun r=>.ok (r,t.2)
inductive rSlW(K:W.Frag)(x:V)(lo:Option Int)(hi:Option Int)(H:Hp)(Q:VK):Prop
 |mk:∀G fp es vs d r,Goes K H G fp es vs r Q->Vw K G H d x->NW d lo hi=.ok r->rSlW K x lo hi H Q
theorem Cn:NC X (rSlW X.K):=by
 rintro pr s σ H x v vl vu lo hi sl Q I rx hs pl pu ⟨G,fp,es,vs,d,r,⟨rel,k⟩,vd,e⟩;unfold NW at e;split at e
 ·rename_i ds;split at e
  ·rename_i hw;cases e;obtain⟨p,xs,ev,sq,rs⟩:=gG vd;subst ev;refine zS pr s σ H _ v vl vu lo hi sl Q I rx hs pl pu ⟨p,xs,rfl,bF rel.gh sq,by rw[rs.length];exact hw,?_⟩;exact k _ H G fp .refl (rel.push vd)
  ·exact B7 pr s σ H x v vl vu lo hi sl Q I rx hs pl pu ⟨G,fp,es,vs,_,r,⟨rel,k⟩,vd,e⟩
 ·exact B7 pr s σ H x v vl vu lo hi sl Q I rx hs pl pu ⟨G,fp,es,vs,_,r,⟨rel,k⟩,vd,e⟩
theorem nM{e:Expr}{lo hi:Option Expr}{p2:Pos}{fl fh:FP}(he:QO X e fa)(hl:QP X lo fl)(hh:QP X hi fh):QE X (.Subscript e (.Slice lo hi none p2) pos) (zT fa fl fh):=
 a7 (vU Cn he hl hh) fun σ H Q G9=>by
  obtain⟨G,env,fp,r,env',rel,e,k⟩:=G9;obtain⟨⟨o,GN⟩,e1,e⟩:=ai e;obtain⟨⟨i,GY⟩,e2,e⟩:=ai e;obtain⟨⟨j,HE⟩,e3,e⟩:=ai e;obtain⟨d,e4,e⟩:=ai e;obtain⟨r',e5,e⟩:=ai e;cases e;exact⟨G,env,fp,o,GN,rel,e1,fun v H1 G1 Hi Hc GP Iw=>⟨G1,GN,Hi,i,GY,GP,e2,fun H2 G2 Hv GW GO=>⟨G2,GY,Hv,j,HE,GO,e3,fun H3 G3 Iz Hs Hk=>
   ⟨G3,Iz,HE,σ,d,r,⟨Hk,fun v H' G' GS st Hq=>k v H' G' GS (Hc.trans (GW.trans (Hs.trans st))) Hq⟩,Hk.vw ((Iw.mono GW.gg).mono Hs.gg) e4,e5⟩⟩⟩⟩
end
end PV
namespace L2
open PySem PySem.Spec PyProof.Rows
section
variable{X:Cx}{tg:Expr}
def ur(i j c:Int):Prop:=(-1048576<=i/\i<=1048576)/\(-1048576<=j/\j<=1048576)/\(c = -1\/1<=c)/\c<=1048576
instance (i j c:Int):Decidable (ur i j c):=by unfold ur;infer_instance
end
end L2
namespace PV
open PySem PySem.Spec PyProof.Rows L2 NX
section
variable{X:Cx}{tg:Expr}
def GI:List D->Res R
 |[d]=>match(nE d).bind dm with
  |some (n::ns)=>.ok (.f,.int (Eh (n::ns)))
  |_=>.bad
 |[.int i,.int j]=>.ok (.f,.int (if j<i then j else i))
 |_=>.bad
def GJ:List D->Res R
 |[.int i]=>.ok (.f,.int (if i<0 then -i else i))
 |_=>.bad
noncomputable def EF(fs:FOs):FI:=fun env=>(fs env).bind fun p=>(oK p.2 p.1).bind fun d=>match d with
 |[.int i,.int j,.int c]=>if ur i j c then .ok ((List.range (Builtin.Range.rangeSize i j c).toNat).map fun(k:Nat)=>D.int (i+(k:Int)*c),p.2) else .bad
 |_=>.bad
end
end PV
namespace NX
open PySem PySem.Spec PyProof.Rows L2
section
open PySem.SeqAt
open PySem.AutoSeq1 (wpAny_loadPart')
theorem j4{M:Model}{A:Around}{E:Value->Shared->Prop}{s:Shared}{β:Type}(f:Nat->β->Sem (ForInStep β))(n:Nat)(I:Nat->β->Shared->Prop)(Q:β->Shared->Prop)
  (turn:∀(i:Nat) (b:β) (s:Shared),i<n->I i b s->wpAny M A (f i b) (fun r s'=>match r with | .yield b'=>I (i+1) b' s' | .done b'=>Q b' s') E s)
  (fin:∀(b:β) (s:Shared),I n b s->Q b s) (b:β) (h:I 0 b s):wpAny M A (forIn [0:n] b f) Q E s:=by
 rw[Std.Legacy.Range.forIn_eq_forIn_range'];refine Ws f (fun cT b s=>∃i,i<=n/\cT=List.range' i (n-i)/\I i b s) Q ?_ ?_ _ b ?_
 ·rintro x cT b s ⟨i,hi,hr,h⟩;by_cases RB:i<n
  ·have e:n-i=(n-(i+1))+1:=by lia
   rw[e,List.range'_succ]at hr;injection hr with h1 h2;subst h1;refine He (turn x b s RB h) fun r s' Sk=>?_
   cases r with
   |yield b'=>exact⟨x+1,by lia,h2,Sk⟩
   |done b'=>exact Sk
  ·have e:n-i=0:=by lia
   rw[e]at hr;cases hr
 ·rintro b s ⟨i,hi,hr,h⟩;by_cases RB:i<n
  ·have e:n-i=(n-(i+1))+1:=by lia
   rw[e,List.range'_succ]at hr;cases hr
  ·have e:i=n:=by lia
   subst e;exact fin b s h
 ·refine⟨0,Tw _,?_,h⟩;simp[Std.Legacy.Range.size]
theorem ju(l:Addr)(items:Array Value)(n:Nat)(dd:Option Addr)(sl:Array (Option Value))(ns:List Str)(c:Str)(t:Tok)(hi:Vals (ns.map V.str) items.toList)(i:Nat)(hx:ns[i]?=some c)(h0:∀j,j<i->ns[j]?≠some c):
  Meets (Builtin.«tuple.index» ⟨[.ref l,.str c t],[]⟩)
   (fun _ R s=>s.heap.get? l=some {cls:=.type "tuple",dict:=dd,data:=.seq items n,slots:=sl}/\R (.ok (.ret (.int (i:Int) s.toks))) {s with toks:=s.toks+1}):=
 .of_wp fun prog w A R s h=>by
  obtain⟨hp,g,d,tk,os⟩:=s;obtain⟨hl,h⟩:=h;have z1:items.size=ns.length:=by have:=hi.length;simp at this;lia
  have RB:i<ns.length:=(List.getElem?_eq_some_iff.mp hx).1;have key:∀(j:Nat),j<ns.length->∃(b:Str) (u:Tok),items[j]?=some (.str b u)/\ns[j]?=some b:=by
   intro j hj;obtain⟨v,hv,hr⟩:=hi.get (i:=j) (x:=V.str ns[j]) (by simp[hj]);obtain⟨u,rfl⟩:=hr;exact⟨ns[j],u,by rw[<-Array.getElem?_toList];exact hv,by simp[hj]⟩
  wp_walk using wpAny_loadPart' hl,j4 _ _ (fun j b s'=>b.1=none/\s'=⟨hp,g,d,tk,os⟩/\j<=i) _
  case turn=>
   rintro j ⟨b1,b2⟩ s' hj ⟨hb,rfl,Sl⟩;simp only at hb;subst hb;obtain⟨b,u,e1,e2⟩:=key j (by lia);have he:EqAt A.in1 ⟨hp,g,d,tk,os⟩ (.str b u) (.str c t) (b==c):=EqAt.str_str b u c t;by_cases hbc:b=c
   ·have hji2:j=i:=by
     rcases Nat.lt_or_ge j i with HC|hge
     ·exact absurd (by rw[e2,hbc]) (h0 j HC)
     ·lia
    subst hji2 hbc;rw[e1];refine SM (he prog w _ _ ?_);rw[show(b==b)=true from Uq b]
    wp_walk
    exact⟨_,rfl,h⟩
   ·rw[e1];refine SM (he prog w _ _ ?_);rw[show(b==c)=false from T4.mpr hbc]
    wp_walk
    refine⟨rfl,rfl,?_⟩;rcases Nat.lt_or_ge j i with HC|hge
    ·exact HC
    ·have:j=i:=by lia
     subst this;rw[e2]at hx;cases hx;exact absurd rfl hbc
  case fin=>
   rintro⟨b1,b2⟩ s' ⟨hb,rfl,Sl⟩;rw[Nat.min_self]at Sl;lia
  case h=>exact⟨rfl,rfl,Tw _⟩
end
end NX
namespace L2
open PySem PySem.Spec PyProof.Rows
section
variable{X:Cx}{o e:Expr}{es:List Expr}{to:TE}{t:TA}{name:Str}{apos Hd:Pos}{id:String}{r:V->List V->Hp->VK->Prop}
def Gg(K:W.Frag)(r:V->List V->Hp->VK->Prop)(to:TE)(t:TA):TE:=fun σ H Q=>to σ H fun x H1=>(∃p ys,x=.ref p/\SqT K H1 p ys)/\t σ H1 fun xs H2=>r x xs H2 Q
theorem Co(slot:Slot "tuple" name id)(LB:typeOf (.builtin id)=pure (.type "method_descriptor"))(hm:Nm X id r)(ho:PE X o to)(ha:PA X (e::es) t)
  (IA:attributeBase o name X.env (eval o X.env)=eval o X.env:=by rfl)
  (Jz:((backTo Hd (starEach (e::es) X.env)).all (fun x=>!x.1)&&(backToKw Hd (keywordEach [] X.env)).all (fun x=>x.1.isSome)
   && decide ((e::es).length+([]:List Keyword).length+(if([]:List Keyword).isEmpty then 0 else 1)<30))=true:=by rfl)
  (IB:(apos.endLine==Hd.line)=true:=by rfl) (hs:starEach (e::es) X.env=(false,eval e X.env)::starEach es X.env:=by rfl) (HQ:(backTo Hd (starEach es X.env)).any (·.1)=false:=by rfl):
  PE X (.Call (.Attribute o name apos) (e::es) [] Hd) (Gg X.K r to t):=by
 intro pr s σ H Q I h;refine wpAny_Call_method_late IA Jz IB rfl (He (ho pr s σ H _ I h) fun v s1 Hh=>?_);obtain⟨x,H1,I1,r1,⟨p,ys,ex,sq⟩,q1⟩:=Hh;subst ex;cases r1;obtain⟨GQ,_,⟨ob,ho,hc,⟨n,hd⟩,hn⟩,_⟩:=I1.tupleN sq;refine⟨"tuple",id,PySem.F.plainAttrs_tuple,slot,LB,⟨ob,ho,hc⟩,fun a e2=>?_,?_⟩
 ·cases e2;exact⟨ob,ho,hn⟩
 have hA:=ha Hd pr s1 σ H1 _ I1 q1;rw[hs]at hA ⊢;refine Calls.callWith_builtin (by show(false||(backTo Hd (starEach es X.env)).any (·.1))=false;rw[HQ] <;> rfl) (VE ?_);exact He hA fun us s2 ⟨vs,H2,I2,r2,q2⟩=>hm pr s2 σ H2 (.ref p) vs _ us Q I2 rfl r2 q2
end
end L2
namespace PV
open PySem PySem.Spec PyProof.Rows L2 NX
section
variable{X:Cx}
noncomputable def Cp(g:List D->List D->Res R)(fa:FO)(fs:FOs):FX:=fun env=>(fa env).bind fun p=>(Iu p.2 p.1).bind fun a=>match a with
 | .tup _=>(fs p.2).bind fun q=>(Iu q.2 p.1).bind fun a2=>match a2 with
  | .tup l=>(oK q.2 q.1).bind fun ds=>(g l ds).bind fun r=>.ok (r,q.2)
  |_=>.bad
 |_=>.bad
inductive rMtT(K:W.Frag)(g:List D->List D->Res R)(x:V)(xs:List V)(H:Hp)(Q:VK):Prop
 |mk:∀G fp es vs l ds r,Goes K H G fp es vs r Q->Vw K G H (.tup l) x->Nq K G H ds xs->g l ds=.ok r->rMtT K g x xs H Q
theorem uu{g:List D->List D->Res R}{id:String}{name:Str}{o e:Expr}{es:List Expr}{fa:FO}{fs:FOs}{apos Hd:Pos}(slot:Slot "tuple" name id)(LB:typeOf (.builtin id)=pure (.type "method_descriptor"))(hm:Nm X id (rMtT X.K g))(ho:QO X o fa)(ha:KC X (e::es) fs)
  (IA:attributeBase o name X.env (eval o X.env)=eval o X.env:=by rfl)
  (Jz:((backTo Hd (starEach (e::es) X.env)).all (fun x=>!x.1)&&(backToKw Hd (keywordEach [] X.env)).all (fun x=>x.1.isSome)&&decide ((e::es).length+([]:List Keyword).length+(if([]:List Keyword).isEmpty then 0 else 1)<30))=true:=by rfl)
  (IB:(apos.endLine==Hd.line)=true:=by rfl) (hs:starEach (e::es) X.env=(false,eval e X.env)::starEach es X.env:=by rfl) (HQ:(backTo Hd (starEach es X.env)).any (·.1)=false:=by rfl):
  QE X (.Call (.Attribute o name apos) (e::es) [] Hd) (Cp g fa fs):=by
 refine a7 (Co slot LB hm ho ha IA Jz IB hs HQ) fun σ H Q Hh=>?_
 obtain⟨G,env,fp,r,env',rel,e,k⟩:=Hh;obtain⟨⟨oa,GN⟩,e1,e⟩:=ai e;obtain⟨da,Mu,e⟩:=ai e;dsimp only at e;split at e
 ·obtain⟨⟨os,GY⟩,e2,e⟩:=ai e;obtain⟨d2,hd2,e⟩:=ai e;dsimp only at e;split at e
  ·obtain⟨ds,e3,e⟩:=ai e;obtain⟨r',e4,e⟩:=ai e;cases e;refine⟨G,env,fp,oa,GN,rel,e1,fun v H1 G1 Hi Hc GP Iw=>?_⟩;obtain⟨p,xs,ev,sq,_⟩:=bc (Vw.rep GP.gh (GP.vw Iw Mu));exact⟨⟨p,xs,ev,sq⟩,G1,GN,Hi,os,_,GP,e2,fun vs H2 G2 Hv GW GO Lk=>⟨G2,Hv,_,σ,_,ds,r,⟨GO,fun v H' G' GS st Hq=>k v H' G' GS (Hc.trans (GW.trans st)) Hq⟩,GO.vw (Iw.mono GW.gg) hd2,GO.vws Lk e3,e4⟩⟩
  ·cases e
 ·cases e
def nN(l:List D):List D->Res R
 |[.str c]=>match eB l with
  |some bs=>if c∈bs then .ok (.f,.int (bs.idxOf c:Nat)) else .bad
  |none=>.bad
 |_=>.bad
theorem Cq{a b:List Nat}(h:S a=S b):a=b:=by
 have:=TY (fun s:Str=>s.cps.toList) h;simpa only[cN] using this
theorem qe:∀(bs:List (List Nat)) (c:List Nat) (j:Nat),bs[j]?=some c->bs.idxOf c<=j
 |[],c,j,h=>by simp at h
 |b::bs,c,0,h=>by
  simp at h;subst h;simp[List.idxOf_cons]
 |b::bs,c,j+1,h=>by
  rw[List.getElem?_cons_succ]at h;have:=qe bs c j h;rw[List.idxOf_cons];cases b==c with
  |true=>exact Tw _
  |false=>exact Nat.succ_le_succ this
theorem gZ:Nm X "tuple.index" (rMtT X.K nN):=by
 rintro pr s σ H x xs v us Q I rx rv ⟨G,fp,es,vs,l,ds,r,⟨rel,k⟩,vx,vd,e⟩;unfold nN at e;split at e
 ·rename_i c;split at e
  ·rename_i bs hb;split at e
   ·rename_i hc;cases e;obtain⟨p,ys,ev,sq,rs⟩:=bc (Vw.rep rel.gh vx);obtain⟨hy,_⟩:=eQ hb rs;subst ev;cases rx;obtain⟨w',ew,vc⟩:=mH vd;obtain⟨ev,_⟩:=e7 vc;subst ew;subst ev;obtain⟨u,rfl,t',rfl⟩:=fe rv;obtain⟨GQ,vl,⟨ob,h1,h2,⟨n,h3⟩,h4⟩,_⟩:=I.tupleN sq;subst hy;obtain⟨cls,dict,data,slots⟩:=ob;dsimp only at h2 h3 h4;subst h2 h3 h4;have HC:=Ue hc;refine PySem.call_meets UR ⟨_,h1,rfl⟩ PySem.F.entry_tuple_index (PySem.F.args_tuple_index_2 _ _) (ju p GQ.toArray n _ _ (bs.map S) (S c) t' (by rw[Td];exact vl) (bs.idxOf c) ?_ ?_) ⟨h1,⟨.int (bs.idxOf c:Nat),H,I.tok _,⟨_,rfl⟩,k _ H G fp .refl (rel.push (bD _))⟩⟩
    ·rw[List.getElem?_map,List.getElem?_eq_getElem HC,List.getElem_idxOf HC];rfl
    ·intro j hj he;rw[List.getElem?_map,List.getElem?_eq_getElem (by lia)]at he;have he:=Cq (Tf he);have:=qe bs c j (by rw[List.getElem?_eq_getElem (by lia),he]);lia
   ·cases e
  ·cases e
 ·cases e
def c5(a b:D):Res R:=match a,b with
 | .tup [],.tup l=>.ok (.f,.tup l)
 |a,b=>addD a b
theorem aO:HI X (binaryOp .Add) (rG X.K c5):=by
 rintro pr s σ H x y v u Q I rx ry ⟨G,fp,es,vs,a,b,r,⟨rel,k⟩,va,vb,e⟩;unfold c5 at e;split at e
 ·rename_i l;cases e;obtain⟨p,xs,e1,h1,r1⟩:=gG va;obtain⟨p2,OQ,e2,h2,r2⟩:=gG vb;subst e1;subst e2;cases rx;cases ry;have hx:xs=[]:=TK (by rw[r1.length];rfl);subst hx;obtain⟨GQ,v1,⟨⟨cls,dd,data,sl⟩,ho,hc,n,hd⟩,_⟩:=I.tuple (bF rel.gh h1);obtain⟨Kv,v2,⟨⟨Mk,K2,data2,K3⟩,Jk,Ke,n2,hd2⟩,_⟩:=I.tuple (bF rel.gh h2);dsimp only at hc hd Ke hd2;subst hc hd Ke hd2;cases v1;exact WI ⟨_,ho,rfl⟩ ⟨_,Jk,rfl⟩ Wq Xd Vt Vo (Vj _ _) (tuple_addW0 p p2 _ _ n n2 dd K2 sl K3 rfl) ⟨ho,Jk,⟨.ref p2,H,I,rfl,k _ H G fp .refl (rel.push vb)⟩⟩
 ·exact B4 pr s σ H _ _ v u Q I rx ry ⟨G,fp,es,vs,a,b,r,⟨rel,k⟩,va,vb,e⟩
def rE(fs:FOs):FI:=IC (rq true true fs) (IC (rq true false fs) (IC (rq false true fs) (rq false false fs)))
theorem o6{Ll:List Expr}{kt:Nat}{pt:Pos}{e1 e2:Expr}{fs:FOs}{p pos:Pos}(hg:Gl X "zip")(hm:X.mg "zip" = none)(ha:KC X [e1,e2] fs)(he:starEach [e1,e2] X.env=(false,eval e1 X.env)::starEach [e2] X.env:=by rfl)(Ic:(backTo pos (starEach [e2] X.env)).any (·.1)=false:=by rfl):
  QI X (.Tuple Ll kt pt) (.Call (.Name "zip" p) [e1,e2] [] pos) (rE fs):=uc (pZ true true hg hm ha he Ic) (uc (pZ true false hg hm ha he Ic) (uc (pZ false true hg hm ha he Ic) (pZ false false hg hm ha he Ic)))
end
end PV
namespace NX
open PySem PySem.Spec PyProof.Rows L2
section
open PySem.AutoSeq1 (wpAny_loadPart')
theorem nO(l:Addr)(items:Array Value)(n:Nat)(dd:Option Addr)(sl:Array (Option Value))(x:Int)(u:Tok)(h1:¬ (!Builtin.List.listFitsIndex x)=true)(h2:¬ items.size*x.toNat>(2 ^ 63-1) / 8)(h3:¬ Builtin.List.listTooLong (items.size*x.toNat)=true)(h4:(List.foldl (fun x1 x2=>x1++x2) #[] (List.replicate (if items.isEmpty=true then 0 else x.toNat) items)).size<=sizeLine):
  Meets (Builtin.«list.__mul__» ⟨[.ref l,.int x u],[]⟩)
   (fun _ R s=>s.heap.get? l=some {cls:=.type "list",dict:=dd,data:=.seq items n,slots:=sl}/\R (.ok (.ret (.ref s.heap.objs.size))) {s with heap:=s.heap.push {cls:=.type "list",data:=.seq (List.foldl (fun x1 x2=>x1++x2) #[] (List.replicate (if items.isEmpty=true then 0 else x.toNat) items))}}):=
 .of_wp fun prog w A R s h=>by
  obtain⟨hp,g,d,tk,os⟩:=s;obtain⟨hl,h⟩:=h
  wp_walk using wpAny_loadPart' hl
  rw[S4 (by lia)]
  wp_walk
  exact⟨_,rfl,h⟩
theorem nP(a:Int)(t:Tok)(l:Addr)(T:String)(items:Array Value)(n:Nat)(dd:Option Addr)(sl:Array (Option Value)):
  Meets (Builtin.«int.__rmul__» ⟨[.int a t,.ref l],[]⟩)
   (fun _ R s=>s.heap.get? l=some {cls:=.type "list",dict:=dd,data:=.seq items n,slots:=sl}/\R (.ok (.ret .notImplemented)) s):=
 .of_wp fun prog w A R s h=>by
  obtain⟨hp,g,d,tk,os⟩:=s;obtain⟨hl,h⟩:=h
  wp_walk using wpAny_loadPart' hl
  exact⟨_,rfl,h⟩
end
end NX
namespace PV
open PySem PySem.Spec PyProof.Rows L2 NX
section
variable{md:Mode}{X:Cx}
inductive rRepS(K:W.Frag)(x:V)(y:V)(H:Hp)(Q:VK):Prop
 |mk:∀l k xs,x=.ref l->y=.int k->SqL K H l xs->-(2 ^ 62)<=k->k<2 ^ 62->xs.length*k.toNat<=sizeLine->(∀p,H p=none->Q (.ref p) (upd H p (.lst (List.replicate k.toNat xs).flatten)))->rRepS K x y H Q
theorem zU:HI X (binaryOp .Mult) (rRepS X.K):=by
 intro pr s σ H x y v u Q I rx ry h;obtain⟨l,k,xs,rfl,rfl,hH,h1,h2,hz,q⟩:=h;cases rx;obtain⟨t,rfl⟩:=ry;obtain⟨GQ,r,p1,_⟩:=I.list hH;have hl:=r.length;obtain⟨⟨cls,dd,data,sl⟩,ho,hc,n,hd⟩:=id p1.isList;simp only at hc hd;subst hc hd;have hlen:GQ.toArray.size*k.toNat<=sizeLine:=by rw[SR,<-hl];exact hz
 have hcap:¬ GQ.toArray.size*k.toNat>(2 ^ 63-1) / 8:=by
  have:(sizeLine:Nat)<=(2 ^ 63-1) / 8:=by decide
  lia
 have KI:¬ (!Builtin.List.listFitsIndex k)=true:=by
  rw[fitsIndex_both (by lia) (by lia)];exact SX
 have Py:¬ Builtin.List.listTooLong (GQ.toArray.size*k.toNat)=true:=by
  rw[vX hlen];exact SX
 have Pz:List.foldl (fun x1 x2=>x1++x2) #[] (List.replicate (if GQ.toArray.isEmpty=true then 0 else k.toNat) GQ.toArray)=(List.replicate k.toNat GQ).flatten.toArray:=by
  have f0:∀m:Nat,List.foldl (fun x1 x2=>x1++x2) #[] (List.replicate m GQ.toArray)=(List.replicate m GQ).flatten.toArray:=fun m=>by
   have:=mT GQ m [];rw[U7]at this;exact this
  rw[f0];cases GQ with
  |nil=>simp
  |cons a r'=>rw[S4 (by simp)]
 have hsz:(List.foldl (fun x1 x2=>x1++x2) #[] (List.replicate (if GQ.toArray.isEmpty=true then 0 else k.toNat) GQ.toArray)).size<=sizeLine:=by
  rw[Pz,SR,lC,XA];rw[SR]at hlen;exact hlen
 refine wpAny_binaryOp_repeat_ref (T:="list") (U:="int") (by decide) ⟨_,ho,rfl⟩ (fun s'=>WT s' k t) noFill_list_mul F.fills_int_mul F.slot_int_rmul repeat_list F.slot_int_index.lookup
  (call_meets F.slot_int_rmul (WT s k t) F.entry_int_rmul (F.args_int_rmul_2 _ _) (nP k t l "" GQ.toArray n dd sl)
   ⟨ho,rfl,⟨_,ho,rfl⟩,call_meets F.slot_list_mul ⟨_,ho,rfl⟩ F.entry_list_mul (F.args_list_mul_2 _ _) (nO l GQ.toArray n dd sl k t KI hcap Py hsz) ⟨ho,?_⟩⟩)
 rw[Pz];exact⟨.ref _,_,I.lnew (t':=s.toks) (r.rep k.toNat) (by rw[lC,XA];exact hz),rfl,q _ I.fresh⟩
theorem qf{K:W.Frag}{G:Hp}{ds:List D}{xs:List V}(r:Reps K G ds xs):∀n:Nat,Reps K G (List.replicate n ds).flatten (List.replicate n xs).flatten
 | 0=>.nil
 |n+1=>by
  rw[Uk,Uk,Ux,Ux];exact r.app (qf r n)
def l7(a b:D):Res R:=match a,b with
 | .lst ds,.int k=>if 0<=k/\k<1000000/\ds.length*k.toNat<=sizeLine then .ok (.l .f,.lst (List.replicate k.toNat ds).flatten) else .bad
 |a,b=>zQ a b
theorem fN:HI X (binaryOp .Mult) (rG X.K l7):=by
 rintro pr s σ H x y v u Q I rx ry ⟨G,fp,es,vs,a,b,r,⟨rel,k⟩,va,vb,e⟩;unfold l7 at e;split at e
 ·rename_i ds j;split at e
  ·rename_i hj;cases e;obtain⟨p,xs,e1,h1,r1⟩:=va;subst e1;cases bz vb;refine zU pr s σ H _ _ v u Q I rx ry ⟨p,j,xs,rfl,rfl,h1,by lia,by lia,by rw[r1.length];exact hj.2.2,fun q hq=>?_⟩;obtain⟨GO,GW⟩:=rel.newL hq (qf r1 j.toNat);exact k _ _ G _ GW GO
  ·cases e
 ·exact zR pr s σ H _ _ v u Q I rx ry ⟨G,fp,es,vs,a,b,r,⟨rel,k⟩,va,vb,e⟩
def EG(td ty tv:TE):TS:=fun Dd σ H=>tv σ H fun v H1=>td σ H1 fun x H2=>ty σ H2 fun y H3=>BD x y v H3 fun H4=>Dd.nx σ H4
theorem zV{o i value:Expr}{td ty tv:TE}{pos pos':Pos}(ho:PE X o td)(hi:PE X i ty)(hv:PE X value tv)(hs:swapsWith value (some (.Subscript o i pos')) pos.line X.env=pure false):
  PS X (.Assign [.Subscript o i pos'] value pos) (EG td ty tv):=by
 intro pr s σ H Dd I h;refine wpAny_Assign_Subscript (He (hv pr s σ H _ I h) fun r s1 ⟨v,H1,I1,rv,q1⟩=>He (ho pr s1 σ H1 _ I1 q1) fun u s2 ⟨x,H2,I2,rx,q2⟩=>He (hi pr s2 σ H2 _ I2 q2) fun iv s3 ⟨y,H3,I3,ry,q3⟩=>?_) hs;exact He (vV pr s3 σ H3 x y v u iv r _ I3 rx ry rv q3) fun _ s4 ⟨H4,I4,q4⟩=>⟨σ,H4,I4,q4⟩
noncomputable def wU(i:Nat)(fk fv:FX):FS:=fun env=>(fv env).bind fun p=>(fk p.2).bind fun q=>match p.2[i]?,q.2[i]? with
 |some (some _),some (some (.l .f,.lst ds))=>(match q.1.2 with
  | .int k=>(match ixN ds.length k with
   |some j=>.ok (.nx (q.2.set i (some (.l .f,.lst (ds.set j p.1.2)))))
   |none=>.bad)
  |_=>.bad)
 |_,_=>.bad
theorem zW{i:Nat}{o ix value:Expr}{fk fv:FX}{pos pos':Pos}(ho:PE X o (pG i))(hi:QE X ix fk)(hv:QE X value fv)(hs:swapsWith value (some (.Subscript o ix pos')) pos.line X.env=pure false:=by rfl):
  QS (md:=md) X (.Assign [.Subscript o ix pos'] value pos) (wU i fk fv):=dF (zV ho hi hv hs) fun Dd σ H G9=>by
 obtain⟨G,env,fp,rel,k⟩:=G9;unfold wU at k;match q1:fv env,k with
 | .ok (r1,GN),k=>
  have k:OutOk X.K G H fp Dd ((fk GN).bind fun q=>match GN[i]?,q.2[i]? with
   |some (some _),some (some (.l .f,.lst ds))=>(match q.1.2 with
    | .int k=>(match ixN ds.length k with
     |some j=>.ok (.nx (q.2.set i (some (.l .f,.lst (ds.set j r1.2)))))
     |none=>.bad)
    |_=>.bad)
   |_,_=>.bad):=k
  match q2:fk GN,k with
  | .ok (r2,GY),k=>
   have k:OutOk X.K G H fp Dd (match GN[i]?,GY[i]? with
    |some (some _),some (some (.l .f,.lst ds))=>(match r2.2 with
     | .int k=>(match ixN ds.length k with
      |some j=>.ok (.nx (GY.set i (some (.l .f,.lst (ds.set j r1.2)))))
      |none=>.bad)
     |_=>.bad)
    |_,_=>.bad):=k
   split at k
   ·rename_i rr ds h1 h2;split at k
    ·rename_i kk KA;split at k
     ·rename_i j hj;refine⟨G,env,fp,r1,GN,rel,q1,fun y H1 G1 Hi Hc GP=>?_⟩;obtain⟨G2,b,ry,GO,GW⟩:=GP.freeze;obtain⟨v0,OS,_⟩:=GO.view h1;refine⟨v0,OS,G2,GN,b,r2,GY,GO,q2,fun z H3 G3 Iz Hs Hk=>?_⟩;obtain⟨G4,b4,rz,HK,Ij⟩:=Hk.freeze;have Qz:Rep X.K G4 r1.2 y:=Rep.mono (Hs.gg.trans Ij.gg) ry;obtain⟨p,xs,ep,hp,rs,cg⟩:=HK.chg (ds':=ds.set j r1.2) h2;rw[OS]at ep;cases ep;rw[KA]at rz;have hz:=bx rz;obtain⟨fq,IQ,Jx⟩:=cg _ (rs.set j Qz);exact⟨p,xs,kk,j,rfl,hz,hp,by rw[rs.length];exact hj,k _ _ G4 fq (Hc.trans (GW.trans (Hs.trans (Ij.trans Jx)))) IQ⟩
     ·exact k.elim
    ·exact k.elim
   ·exact k.elim
end
section
variable{X:Cx}
theorem Rel.own{K:W.Frag}{G H:Hp}{es:PV.Env}{vs:L2.St}{fp:List Addr}{p:Addr}{u:HO}{tk:Bool}{ks ws:List D}{xs:List V}(q:Rel K G H es vs fp)(np:p∉fp)(gp:G p=none)(h:DictO u tk ks xs)(rs:Reps K G ws xs):
  Rel K G (upd H p u) (some (.d,.dct tk ks ws)::es) (some (.ref p)::vs) (p::fp):=by
 refine⟨⟨some (.ref p),vs,rfl,.ref p,[p],fp,rfl,rfl,?_,q.rep.step (.refl _) fun z hz=>az fun e=>np (e▸hz)⟩,Tt.mpr ⟨np,q.nd⟩,fun z hz=>?_,fun b o e=>?_⟩
 ·rw[RepO];exact⟨p,xs,u,rfl,aP,h,rfl,rs⟩
 ·rcases S3.mp hz with rfl|hz
  ·exact gp
  ·exact q.gn z hz
 ·rw[az fun z=>by subst z;rw[gp]at e;cases e];exact q.gh b o e
theorem Rel.aside{K:W.Frag}{G H:Hp}{es:PV.Env}{vs:L2.St}{fp:List Addr}{p:Addr}{u:HO}(q:Rel K G H es vs fp)(hp:H p=none):Rel K G (upd H p u) es vs fp:=by
 have np:p∉fp:=fun z=>by
  obtain⟨u,e⟩:=q.rep.live p z;rw[hp]at e;cases e
 exact⟨q.rep.step (.refl _) fun z hz=>az fun e=>np (e▸hz),q.nd,q.gn,fun b o e=>by rw[az (aU (q.gh b o e) hp)];exact q.gh b o e⟩
theorem Step.aside{K:W.Frag}{G H G2 H2:Hp}{es:PV.Env}{vs:L2.St}{fp Hv:List Addr}{p:Addr}{u u2:HO}(q:Rel K G H es vs fp)(hp:H p=none)(hu:isT u=false)(st:Step G (upd H p u) fp G2 H2 Hv):
  Step G H fp G2 (upd H2 p u2) (p::Hv)/\p∉Hv/\G2 p=none/\H2 p=some u:=by
 have np:p∉fp:=fun z=>by
  obtain⟨u,e⟩:=q.rep.live p z;rw[hp]at e;cases e
 have ne:∀{b o},H b=some o->b≠p:=fun e=>aU e hp
 refine⟨⟨st.gg,fun b o e nb=>?_,fun b hb=>?_,fun b o e=>?_,fun b o e=>?_⟩,fun z=>?_,?_,st.keep p u aP np⟩
 ·rw[az (ne e)];exact st.keep b o (by rw[az (ne e)];exact e) nb
 ·rcases S3.mp hb with rfl|hb
  ·exact .inr hp
  ·rcases st.fpn b hb with h|h
   ·exact .inl h
   ·by_cases e:b=p
    ·subst e;exact .inr hp
    ·rw[az e]at h;exact .inr h
 ·rcases st.gnew b o e with h|h|h|⟨h1,h2⟩
  ·exact .inl h
  ·exact .inr (.inl h)
  ·by_cases e:b=p
   ·subst e;exact .inr (.inr (.inl hp))
   ·rw[az e]at h;exact .inr (.inr (.inl h))
  ·by_cases e:b=p
   ·subst e;exact .inr (.inr (.inl hp))
   ·rw[az e]at h2;exact .inr (.inr (.inr ⟨h1,h2⟩))
 ·obtain⟨o',h⟩:=st.there b o (by rw[az (ne e)];exact e);exact⟨o',by rw[az (ne e)];exact h⟩
 ·rcases st.fpn p z with h|h
  ·exact np h
  ·rw[aP]at h;cases h
 ·cases e:G2 p with
  |none=>rfl
  |some o=>
   rcases st.gnew p o e with h|h|h|⟨h1,h2⟩
   ·have:=q.gh p o h;rw[hp]at this;cases this
   ·exact absurd h np
   ·rw[aP]at h;cases h
   ·rw[aP]at h2;cases h2;rw[hu]at h1;cases h1
def uv(fk fv:FX):FX:=fun env=>(fk env).bind fun p=>(fv p.2).bind fun q=>if dP false p.1.2 then .ok ((.d,.dct false [p.1.2] [q.1.2]),q.2) else .bad
theorem wV{k v:Expr}{fk fv:FX}{pos:Pos}(hk:QE X k fk)(hv:QE X v fv):QE X (.Dict [some k] [v] pos) (uv fk fv):=
 a7 (zi (wo hk hv zh) rfl rfl (List.cons_ne_nil _ _) (show 1<=15 by decide)) fun σ H Q G9 p hp=>by
  obtain⟨G,env,fp,r,env',rel,e,kk⟩:=G9;obtain⟨⟨r1,GN⟩,e1,e⟩:=ai e;obtain⟨⟨r2,GY⟩,e2,e⟩:=ai e;dsimp only at e;split at e
  ·rename_i IX;cases e;refine⟨G,env,fp,r1,GN,rel.aside hp,e1,fun x H1 G1 Hi Hc GP=>?_⟩;obtain⟨G2,b,rx,GO,GW⟩:=GP.freeze;refine⟨G2,GN,b,r2,_,GO,e2,fun y H3 G3 Iz Hs Hk=>?_⟩;obtain⟨G4,b4,ry,HK,Ij⟩:=Hk.freeze;have Sm:Rep X.K G4 r1.2 x:=Rep.mono (Hs.gg.trans Ij.gg) rx;unfold dP at IX;rw[S4 SX,T7]at IX;obtain⟨kd,O7⟩:=IX;obtain⟨ex,dx⟩:=gw O7 Sm;obtain⟨st,np,gp,Pd⟩:=Step.aside (u2:=.dK [(kd,y)]) rel hp rfl (Hc.trans (GW.trans (Hs.trans Ij)));refine⟨Pd,[(kd,y)],by rw[ex];rfl,(show 1<=15 by decide),?_⟩;exact kk _ _ G4 _ st (HK.own np gp ⟨[(kd,y)],rfl,by rw[dx];rfl,rfl,fun kv Jt=>by rw[Te.mp Jt];exact uk O7 Sm⟩ (.one ry))
  ·cases e
def getD(ks vs:List D)(k:D):Option D:=((ks.zip vs).find? fun p=>GU k p.1).map (·.2)
theorem j5{κ:Type}[DecidableEq κ]{K:W.Frag}{G:Hp}(f:κ->D)(hf:∀a b,GU (f a) (f b)=decide (a=b)){k:κ}:∀{kvs:List (κ×V)}{vs:List D},Reps K G vs (kvs.map (·.2))->((getD (kvs.map fun kv=>f kv.1) vs (f k)).isSome=(m7 kvs k).isSome)/\∀d,getD (kvs.map fun kv=>f kv.1) vs (f k)=some d->∃v,m7 kvs k=some v/\Rep K G d v
 |[],vs,r=>⟨rfl,fun d h=>nomatch h⟩
 |kv::kvs,vs,r=>by
  cases vs with
  |nil=>have:=r.length;simp at this
  |cons d0 vs=>
   rw[S7,Reps.cons_iff]at r;obtain⟨h1,h2⟩:=j5 f hf (k:=k) r.2;unfold getD m7 at h1 h2 ⊢;rw[S7,Uo];have e:GU (f k) (f kv.1)=decide (kv.1=k):=by
    rw[hf,To,S9,S9];exact⟨fun z=>z.symm,fun z=>z.symm⟩
   by_cases hk:kv.1=k
   ·rw[List.find?_cons_of_pos (by show GU (f k) (f kv.1)=true;rw[e];exact Tv hk),List.find?_cons_of_pos (by exact Tv hk)];refine⟨rfl,fun d h=>?_⟩;cases h;exact⟨_,rfl,r.1⟩
   ·rw[List.find?_cons_of_neg (by show ¬ GU (f k) (f kv.1)=true;rw[e];simpa using hk),List.find?_cons_of_neg (by simpa using hk)];exact⟨h1,h2⟩
theorem o7{K:W.Frag}{G H:Hp}(gh:Same G H){tk:Bool}{ks vs:List D}{xs:List V}{o:HO}{p:Addr}{b:D}{y:V}(rd:Rd H p o)(dd:DictO o tk ks xs)(rs:Reps K G vs xs)(hk:dP tk b=true)(ry:Rep K G b y):
  ∃ov,DGet H p y ov/\(getD ks vs b).isSome=ov.isSome/\∀d,getD ks vs b=some d->∃v,ov=some v/\Rep K G d v:=by
 unfold dP at hk;cases tk with
 |true=>
  rw[S1 rfl,T7]at hk;obtain⟨kk,hk⟩:=hk;obtain⟨pz,ez,gz,dz⟩:=cF hk ry;obtain⟨kvs,eo,ek,ex,_⟩:=dd;subst eo ex ez dz;have ek:ks=kvs.map fun kv=>kT kv.1:=ek
  obtain⟨h1,h2⟩:=j5 (K:=K) (G:=G) kT yb (k:=kk) rs;rw[<-ek]at h1 h2;exact⟨m7 kvs kk,.inr ⟨kvs,kk,pz,rd,rfl,gh _ _ gz,rfl⟩,h1,h2⟩
 |false=>
  rw[S4 SX,T7]at hk;obtain⟨kk,hk⟩:=hk;obtain⟨ez,dz⟩:=gw hk ry;obtain⟨kvs,eo,ek,ex,_⟩:=dd;subst eo ex ez dz;obtain⟨h1,h2⟩:=j5 (K:=K) (G:=G) kD ug (k:=kk) rs;rw[<-ek]at h1 h2;exact⟨m7 kvs kk,.inl ⟨kvs,kk,rd,rfl,rfl⟩,h1,h2⟩
def Lm(a b:D):Res R:=match a with
 | .dct tk ks vs=>if dP tk b then(match getD ks vs b with
  |some d=>.ok (.f,d)
  |none=>.bad) else .bad
 |_=>.bad
theorem o8{a b:Expr}{fa fb:FO}{pos:Pos}(hu:X.A.units+1<cLine)(ha:QO X a fa)(hb:QO X b fb)(hs:NoSl b:=by exact fun _ _=>rfl):QE X (.Subscript a b pos) (aD Lm fa fb):=
 a7 (zf hu ha hb hs) fun σ H Q h=>by
  obtain⟨G,env,fp,r,env',rel,e,k⟩:=h;obtain⟨⟨oa,e1⟩,ha,e⟩:=ai e;obtain⟨⟨ob,e2⟩,hb,e⟩:=ai e;obtain⟨da,Mu,e⟩:=ai e;obtain⟨db,Ie,e⟩:=ai e;obtain⟨r',hr,e⟩:=ai e;cases e;refine⟨G,env,fp,oa,e1,rel,ha,fun x H1 G1 Hi Hc GP Iw=>⟨G1,e1,Hi,ob,e2,GP,hb,fun y H2 G2 Hv GW GO Lk=>?_⟩⟩;have va:=GO.vw (Iw.mono GW.gg) Mu;have vb:=GO.vw Lk Ie;unfold Lm at hr;split at hr
  ·rename_i tk ks vs;split at hr
   ·rename_i IX;split at hr
    ·rename_i d hd;cases hr;obtain⟨p,xs,o,ev,rd,dd,rs⟩:=va;subst ev;have vb':Rep X.K G2 db y:=by
      cases db with
      |lst l=>cases tk <;> simp[dP,eL,jW]at IX
      |dct _ _ _=>cases tk <;> simp[dP,eL,jW]at IX
      |_=>exact vb
     obtain⟨ov,g,_,h2⟩:=o7 GO.gh rd dd rs IX vb';obtain⟨v,ho,rv⟩:=h2 d hd;subst ho;exact⟨p,v,rfl,g,k _ H2 G2 Hv (Hc.trans GW) (GO.push rv)⟩
    ·cases hr
   ·cases hr
  ·cases hr
def My(a b:D):Res R:=match b with
 | .dct tk ks vs=>if dP tk a then .ok (.f,.bl (getD ks vs a).isSome) else .bad
 |_=>Kt a b
def uw(a b:D):Res R:=match b with
 | .dct tk ks vs=>if dP tk a then .ok (.f,.bl (!(getD ks vs a).isSome)) else .bad
 |_=>x9 a b
theorem ye(hu:X.A.units+65<cLine):HI X (compareOp .In) (rGA X.K My):=by
 rintro pr s σ H x y v u Q I rx ry ⟨G,fp,es,vs,a,b,r,⟨rel,k⟩,va,vb,e⟩;unfold My at e;split at e
 ·rename_i tk ks ws;split at e
  ·rename_i IX;cases e;obtain⟨p,xs,o,ev,rd,dd,rs⟩:=vb;subst ev;cases ry;obtain⟨ov,g,h1,_⟩:=o7 (K:=X.K) (G:=H) (fun _ _ z=>z) rd dd rs IX va;exact Ge (by lia) I g rx fun s' I'=>⟨.bl ov.isSome,H,I',rfl,by rw[<-h1];exact k _ H G fp .refl (rel.push (cy _))⟩
  ·cases e
 ·exact Ez hu pr s σ H x y v u Q I rx ry ⟨G,fp,es,vs,a,b,r,⟨rel,k⟩,va,vb,e⟩
theorem o9(hu:X.A.units+65<cLine):HI X (compareOp .NotIn) (rGA X.K uw):=by
 rintro pr s σ H x y v u Q I rx ry ⟨G,fp,es,vs,a,b,r,⟨rel,k⟩,va,vb,e⟩;unfold uw at e;split at e
 ·rename_i tk ks ws;split at e
  ·rename_i IX;cases e;obtain⟨p,xs,o,ev,rd,dd,rs⟩:=vb;subst ev;cases ry;obtain⟨ov,g,h1,_⟩:=o7 (K:=X.K) (G:=H) (fun _ _ z=>z) rd dd rs IX va;exact zc (by lia) I g rx fun s' I'=>⟨.bl (!ov.isSome),H,I',rfl,by rw[<-h1];exact k _ H G fp .refl (rel.push (cy _))⟩
  ·cases e
 ·exact Cc hu pr s σ H x y v u Q I rx ry ⟨G,fp,es,vs,a,b,r,⟨rel,k⟩,va,vb,e⟩
end
def isLf:O->Bool
 | .l .f=>true
 | .pin _ (.l .f)=>true
 |_=>false
section
variable{K:W.Frag}{G G' H H':Hp}{es:PV.Env}{vs:L2.St}{fp:List Addr}
theorem RepE.append:∀{es Kb:PV.Env}{vs JP:L2.St}{a b:List Addr},RepE K G H es vs a->RepE K G H Kb JP b->RepE K G H (es++Kb) (vs++JP) (a++b)
 |[],Kb,vs,JP,a,b,r,q=>by
  rw[r.1,r.2];exact q
 |none::es,Kb,vs,JP,a,b,r,q=>by
  obtain⟨y,ys,e,r⟩:=r;subst e;exact⟨y,ys++JP,rfl,RepE.append r q⟩
 |some x::es,Kb,vs,JP,a,b,r,q=>by
  obtain⟨y,ys,e,v,a1,b1,e1,e2,r1,r2⟩:=r;subst e e2;exact⟨y,ys++JP,rfl,v,a1,b1++b,e1,Tx _ _ _,r1,RepE.append r2 q⟩
theorem RepE.clean{G2 G3:Hp}(h:∀p u,isT u=true->G2 p=some u->G3 p=some u):∀{es:PV.Env}{vs:L2.St}{a:List Addr},(∀r,some r∈es->aM r.1 r.2=true)->RepE K G2 H es vs a->RepE K G3 H es vs a
 |[],_,_,_,r=>r
 |none::es,vs,a,hc,r=>by
  obtain⟨y,ys,e,r⟩:=r;exact⟨y,ys,e,RepE.clean h (fun r hr=>hc r (SU _ hr)) r⟩
 |some x::es,vs,a,hc,r=>by
  obtain⟨y,ys,e,v,a1,b1,e1,e2,r1,r2⟩:=r;exact⟨y,ys,e,v,a1,b1,e1,e2,r1.clean h (hc x SN),RepE.clean h (fun r hr=>hc r (SU _ hr)) r2⟩
end
section
variable{X:Cx}
def Gh(i:Nat):FX:=fun env=>match env[i]? with
 |some (some (ow,.lst ds))=>if isLf ow then(match ds.getLast? with
  |some d=>.ok ((.f,d),env.set i (some (ow,.lst ds.dropLast)))
  |none=>.bad) else .bad
 |_=>.bad
def j6(i:Nat)(f:FX):FS:=fun env=>(f env).bind fun p=>match p.2[i]? with
 |some (some (.pin q c,d0))=>.ok (.rt (.t [p.1.1,.pin q c],.tup [p.1.2,d0]))
 |_=>.bad
theorem g0{i:Nat}{e:Expr}{f:FX}{pos:Pos}(he:QE X e f):QS (md:=.mut) X (.Return (some e) pos) (j6 i f):=dF (xM he) fun Dd σ H G9=>by
 obtain⟨G,env,fp,rel,k⟩:=G9;unfold j6 at k;match q:f env,k with
 | .ok (r,GN),k=>
  have k:OutOk (md:=.mut) X.K G H fp Dd (match GN[i]? with
   |some (some (.pin q c,d0))=>.ok (.rt (.t [r.1,.pin q c],.tup [r.2,d0]))
   |_=>.bad):=k
  split at k
  ·rename_i z c d0 hz;refine⟨G,env,fp,r,GN,rel,q,fun v H1 G1 Hi Hc GP=>?_⟩;obtain⟨y,ys,ey,v',a,b,e1,e2,r1,r2⟩:=GP.rep;cases ey;cases e1;subst e2;obtain⟨v0,a0,b0,OS,ro,_,pm⟩:=r2.take hz;have hv0:v0=.ref z:=by
    have:=ro;rw[RepO]at this;exact this.1
   subst hv0;have sub:∀w∈a++a0,w∈a++b:=fun w hw=>by
    rcases Tn.mp hw with hw|hw
    ·exact SW _ hw
    ·exact SS _ (pm.mem_iff.mpr (SW _ hw))
   have nd:=Th.mp GP.nd;have nd2:=Th.mp (pm.nodup_iff.mp nd.2.1);refine k v H1 G1 (a++a0) (Hc.trans (Step.cut sub)) ⟨r.1,r.2,z,c,d0,rfl,⟨⟨some v,[some (.ref z)],rfl,v,a,a0,rfl,rfl,r1,some (.ref z),[],rfl,.ref z,a0,[],rfl,(Ta _).symm,ro,rfl,rfl⟩,?_,fun p hp=>GP.gn p (sub p hp),GP.gh⟩⟩;rw[Th];exact⟨nd.1,nd2.1,fun p hp w hw e=>nd.2.2 p hp w (pm.mem_iff.mpr (SW _ hw)) e⟩
  ·exact k.elim
def k7(np nn:Nat)(c:O)(g:FS)(p:Addr):List D->Res R
 |d0::ds=>if ds.length+1=np then(g (some (.pin p c,d0)::(ds.map (fun d=>some (O.f,d))++List.replicate nn none))).bind fun o=>match o with
  | .rt r=>.ok r
  |_=>.bad
  else .bad
 |[]=>.bad
inductive spM(K:W.Frag)(c:O)(F:Addr->List D->Res R)(vs:List V)(H:Hp)(Q:VK)(zz:XK):Prop
 |mk:∀G p JP d0 ds r Ln,Same G H->vs=.ref p::JP->RepO K G H c d0 (.ref p) Ln->Ln.Nodup->(∀z∈Ln,G z=none)->Reps K G ds JP->F p (d0::ds)=.ok r->(∀v H' G' GS,Step G H Ln G' H' GS->Fm .mut K G' H' r v GS->Q v H')->spM K c F vs H Q zz
theorem Cr{P:Program}{w:World}{K:W.Frag}{mg:Str->Option Value}{base:Heap}{x:Str}{st:Stmt}{N ps:List Str}{k:Nat}{c:O}{g:FS}(Df:Def K mg x st)(sc:FnScope N ps (defScope st))
  (hb:∀(kV doc pm:Value) (an:Option Addr) (Hf ct:Value) (us:List Value),us.length=ps.length->bindArgs (PySem.W.fnOf x x (dt st) (bU st) (defScope st) .none kV doc pm an Hf ct) ⟨us,[]⟩=pure (ps.zip us))
  (body:∀(f:Addr) (Hf:Value) (A:Around) (outer:List PySem.Env) (s:Shared) (H:Hp) (E:XK),Room k (A.deeper (envOfC x (defScope st) s.heap.objs.size f Hf))->K7 (md:=.mut) (qS Li P w K mg base N x (defScope st) f Hf A outer s H E).nox (bU st) g):
  Ct P w K mg base x (k+1) (spM K c (k7 ps.length (N.length-ps.length) c g)):=by
 obtain⟨f,fd,F,m⟩:=Df;refine⟨f,fd,ps,F.ok sc (fun vs H Q E h=>?_) (fun Hf A outer s H vs Q E hr h=>?_),m,F.kp,F.binds hb⟩
 ·obtain⟨G,p,JP,d0,ds,r,Ln,_,ev,_,_,_,rs,e,_⟩:=h;unfold k7 at e;split at e
  ·rename_i RC ds' heq;cases heq;split at e
   ·rename_i hl;rw[ev,S5,rs.length,hl]
   ·cases e
  ·cases e
 ·obtain⟨G,p,JP,d0,ds,r,Ln,gh,ev,r0,nd,gn,rs,e,q⟩:=h;unfold k7 at e;split at e
  ·rename_i RC ds' heq;cases heq;split at e
   ·rename_i hl;refine⟨_,body f Hf A outer s H E hr,G,some (.pin p c,d0)::(ds.map (fun d=>some (O.f,d))++List.replicate (N.length-ps.length) none),Ln,⟨?_,nd,gn,gh⟩,?_⟩
    ·have:=d7 (K:=K) (G:=G) (H:=H) (N.length-ps.length) rs;unfold L2.hJ;rw[ev,S5,rs.length,hl];exact⟨some (.ref p),_,rfl,.ref p,Ln,[],rfl,(Ta _).symm,by rw[RepO];exact⟨rfl,r0⟩,this⟩
    ·obtain⟨o,eo,e⟩:=ai e;rw[eo];cases o with
     |rt r'=>
      cases e;exact fun v H' G' GS st rel=>q v H' G' GS st rel
     |nx env'=>cases e
     |bk env'=>cases e
     |ct env'=>cases e
   ·cases e
  ·cases e
def nQ:O->O->Bool
 | .l .f,.l .f=>true
 | .l .f,.pin _ (.l .f)=>true
 | .d,.d=>true
 | .d,.pin _ .d=>true
 |_,_=>false
theorem yf{K:W.Frag}{G H:Hp}{c ow:O}{d:D}{v:V}{a:List Addr}(h:nQ c ow=true)(r:RepO K G H ow d v a):(∃p,v=.ref p)/\RepO K G H c d v a/\∀(G' H':Hp) (d':D) (a':List Addr),RepO K G' H' c d' v a'->RepO K G' H' ow d' v a':=by
 have NY:∀{d:D},RepO K G H (.l .f) d v a->∃p,v=.ref p:=fun{d} r=>by
  cases d with
  |lst ds=>obtain⟨p,_,e,_⟩:=jN.mp r;exact⟨p,e⟩
  |_=>simp only[RepO]at r
 have NZ:∀{d:D},RepO K G H .d d v a->∃p,v=.ref p:=fun{d} r=>by
  cases d with
  |dct tk ks ws=>rw[RepO]at r;obtain⟨p,_,_,e,_⟩:=r;exact⟨p,e⟩
  |_=>simp only[RepO]at r
 unfold nQ at h;split at h
 ·exact⟨NY r,r,fun _ _ _ _ z=>z⟩
 ·rw[RepO]at r;exact⟨⟨_,r.1⟩,r.2,fun _ _ _ _ z=>by rw[RepO];exact⟨r.1,z⟩⟩
 ·exact⟨NZ r,r,fun _ _ _ _ z=>z⟩
 ·rw[RepO]at r;exact⟨⟨_,r.1⟩,r.2,fun _ _ _ _ z=>by rw[RepO];exact⟨r.1,z⟩⟩
 ·cases h
open Classical in
def iT(F:Addr->List D->Res R)(c:O)(d0:D)(ds:List D):Res (R×D):=
 if h:∃x:R×D,∀p,F p (d0::ds)=.ok (.t [x.1.1,.pin p c],.tup [x.1.2,x.2]) then .ok (Classical.choose h) else .bad
theorem qg{F:Addr->List D->Res R}{c:O}{d0:D}{ds:List D}{r:R}{d':D}(h:∀p,F p (d0::ds)=.ok (.t [r.1,.pin p c],.tup [r.2,d'])):iT F c d0 ds=.ok (r,d'):=by
 have h':∃x:R×D,∀p,F p (d0::ds)=.ok (.t [x.1.1,.pin p c],.tup [x.1.2,x.2]):=⟨(r,d'),h⟩
 unfold iT;rw[dif_pos h'];have e:=(WR h' 0).symm.trans (h 0);generalize Classical.choose h'=x at e;obtain⟨⟨o,d⟩,d2⟩:=x;cases e;rfl
theorem qh{F:Addr->List D->Res R}{c:O}{d0:D}{ds:List D}{x:R×D}(h:iT F c d0 ds=.ok x)(p:Addr):F p (d0::ds)=.ok (.t [x.1.1,.pin p c],.tup [x.1.2,x.2]):=by
 unfold iT at h;split at h
 ·rename_i h';cases h;exact WR h' p
 ·cases h
end
section
variable{X:Cx}{x:Str}{p pos:Pos}{e:Expr}{es:List Expr}{fs:FOs}
end
section
variable{K:W.Frag}{G G' H H':Hp}
end
section
variable{X:Cx}{md:Mode}
end
end PV
namespace NX
open PySem PySem.Spec PyProof.Rows L2
theorem Cs{P:Program}{w:World}{k:Key}{u:Value}(h:(mixKind P w).is k u=true):RelV (kV k) u:=by
 rw[qO]at h;cases k with
 |inl i=>
  have h:Value.isInt i u=true:=h;cases u with
  |int j t=>
   have e:(j==i)=true:=h;rw[Tu]at e;exact⟨t,by rw[e]⟩
  |_=>cases h
 |inr x=>
  obtain⟨t,e⟩:=Value.isStrOf_shape h;exact⟨t,e⟩
theorem Cu{κ:Type}{kvs:List (κ×V)}{vs:List (κ×Value)}(r:KV kvs vs):∀{i:Nat}{k:κ}{v:V},kvs[i]?=some (k,v)->∃u,vs[i]?=some (k,u)/\RelV v u:=by
 induction r with
 |nil=>intro i k v e;simp at e
 | @cons p q ps qs hq _ ih=>
  intro i k v e;cases i with
  |zero=>
   simp at e;subst e;obtain⟨qk,qv⟩:=q;obtain⟨e1,e2⟩:=hq;cases e1;exact⟨qv,rfl,e2⟩
  |succ i=>exact ih (by simpa using e)
theorem qi{X:Cx}{pr:List (Addr×Obj)}{σ:L2.St}{H:Hp}{s:Shared}{a:Addr}{o:Obj}{ep:Nat}{es:Array DictEntry}{kvs:List (Key×V)}(I:Inv X pr σ H s)(hd:o.data=.dict es ep)(ha:H a=some (.frz o (.dK kvs))):
  s.heap.get? a=some o/\∃vs,KV kvs vs/\s.heap.DictAt (mixKind X.prog X.w) a vs ep:=by
 obtain⟨ho,z,nm,vs,r,o',Kb,Ny,g1,ex,dat,cT⟩:=(show ObjOk X.prog X.w H s.heap a (.frz o (.dK kvs)) from I.hok a _ ha)
 have e:=g1.symm.trans ho;cases e;have e2:=dat.symm.trans hd;cases e2;exact⟨ho,vs,r,o,es,ho,ex,hd,cT⟩
theorem wW{X:Cx}{pr:List (Addr×Obj)}{σ:L2.St}{H:Hp}{s:Shared}{a:Addr}{o:Obj}{kvs:List (Key×V)}(I:Inv X pr σ H s)(ha:H a=some (.dK kvs))(ho:s.heap.get? a=some o):Inv X pr σ (upd H a (.frz o (.dK kvs))) s:=by
 have ok:=(show ObjOk X.prog X.w H s.heap a (.dK kvs) from I.hok a _ ha)
 have nt:∀c xs,H c=some (.tup xs)->c≠a:=fun c xs e z=>by rw[z,ha]at e;cases e
 have nf:∀c q u,H c=some (.frz q u)->c≠a:=fun c q u e z=>by rw[z,ha]at e;cases e
 have nb:∀c ps,H c=some (.tbl ps)->c≠a:=fun c ps e z=>by rw[z,ha]at e;cases e
 have no:∀c b,H c=some (.own b)->c≠a:=fun c b e z=>by rw[z,ha]at e;cases e
 have S0:Inv X pr σ (upd H a (.frz o (.dK kvs))) {s with heap:=s.heap,gens:=s.gens,drawn:=s.drawn,toks:=s.toks}:=by
  refine I.step (ch:=[]) (fun c hc=>nomatch hc) (fun c q _ _ _ e _=>e) (fun c q _ _ _ e _=>⟨q.slots,e⟩) (fun c q _ e n=>?_) (fun c q _ e=>⟨q,e⟩)
   (fun c l e=>by rw[az (nt c l e)];exact e) (fun c q u e=>by rw[az (nf c q u e)];exact e) (fun c ps e=>⟨#[],by rw[az (nb c ps e),e];simp⟩) (fun m hm=>hm) (fun c ob e=>?_) I.bare
  ·have:c≠a:=fun z=>by rw[z,ha]at n;cases n
   rw[az this];exact n
  ·by_cases ec:c=a
   ·subst ec;rw[aP]at e;cases e;exact⟨ho,ok.stay (fun _ _ _ q=>q) (fun d q=>by rw[az (no d _ q)];exact q) fun d l q=>by rw[az (nt d l q)];exact q⟩
   ·rw[az ec]at e;exact(I.hok c ob e).stay (fun _ _ _ q=>q) (fun d q=>by rw[az (no d _ q)];exact q) fun d l q=>by rw[az (nt d l q)];exact q
 exact S0
end NX
namespace PV
open PySem PySem.Spec PyProof.Rows L2 NX
def Fp(f:FX):FI:=fun env=>(f env).bind fun p=>match p.1 with
 |(.d,.dct false ks vs)=>.ok ((ks.zip vs).map fun z=>D.tup [z.1,z.2],p.2)
 |_=>.bad
section
variable{X:Cx}
def Fq(i:Nat):FX:=fun env=>match env[i]? with
 |some (some (.t [.f,.l .f],.tup [a,.lst _]))=>.ok ((.f,.non),env.set i (some (.t [.f,.l .f],.tup [a,.lst []])))
 |_=>.bad
def ux:List D->Res R
 |[.dct false ks _]=>.ok (.l .f,.lst ks)
 |ds=>zx ds
theorem uy:∀{xs:List V}{us:List Value},xs.length=us.length->(∀(i:Nat) (a:V) (b:Value),xs[i]?=some a->us[i]?=some b->RelV a b)->Vals xs us
 |[],[],_,_=>.nil
 |x::xs,u::us,hl,h=>.cons (h 0 x u rfl rfl) (uy (by simpa using hl) fun i a b ha hb=>h (i+1) a b (by simpa using ha) (by simpa using hb))
 |[],_::_,hl,_=>by simp at hl
 |_::_,[],hl,_=>by simp at hl
theorem nR(hc:X.calm=true):c6 X (.type "list") (fun vs H Q=>∃p kvs,vs=[.ref p]/\Rd H p (.dK kvs)/\∀l,H l=none->Q (.ref l) (upd H l (.lst (kvs.map fun kv=>kV kv.1)))):=by
 intro pr s σ H xs us Q I r h;obtain⟨p,kvs,rfl,hp,q⟩:=h;obtain⟨u,rfl,rx⟩:=fe r;cases rx;obtain⟨z,nm,vs,rr,hD⟩:=rg I.hok hp;obtain⟨ep,K8⟩:=hD.dictAt;have hl:=rr.length;refine PySem.W.kdl_call (PySem.W.kdl_dict (knd:=mixKind X.prog X.w) (kvs:=vs) (ep:=ep) nm) (I.ok.hd hc) K8 (by rw[<-hl];exact z) fun h' tk PB c' hk hS Kx=>?_
 refine⟨.ref s.heap.objs.size,_,I.laid (o:=.lst (kvs.map fun kv=>kV kv.1)) (t':=tk) hk (SV _) ⟨by rw[SO];exact z,PB.toList,c',?_,by rw[Array.toArray_toList];exact hS⟩,rfl,q _ (I.hok.fresh (SV _))⟩;refine uy (by rw[SO,hl];exact(Kx.1.symm.trans (T5 (xs:=PB)).symm)) fun i a b ha hb=>?_
 rw[Array.getElem?_toList]at hb;obtain⟨k,x,e1,e2⟩:=Kx.2 i b hb;rw[List.getElem?_map]at ha;cases Jt:kvs[i]? with
 |none=>rw[Jt]at ha;cases ha
 |some kv=>
  rw[Jt]at ha;obtain⟨k',v'⟩:=kv;obtain⟨u,hu,_⟩:=Cu rr Jt;rw[e1]at hu;cases hu;cases ha;exact Cs e2
theorem wX(hc:X.calm=true):c6 X (.type "list") (rC X.K ux):=by
 rintro pr s σ H xs us Q I rx ⟨G,fp,es,vs,ds,r,⟨rel,k⟩,vd,e⟩;unfold ux at e;split at e
 ·rename_i ks ws;cases e;obtain⟨v,ev,vt⟩:=mH vd;have rp:=vt.rep rel.gh;rw[Rep]at rp;obtain⟨p,ys,o,ep,rd,dd,rs⟩:=rp;obtain⟨kvs,eo,ek,ex,hf⟩:=(show ∃kvs:List (Key×V),o=.dK kvs/\ks=kvs.map (fun kv=>kD kv.1)/\ys=kvs.map (·.2)/\∀kv∈kvs,rh kv.1 from dd)
  subst ev ep eo;refine nR hc pr s σ H _ us Q I rx ⟨p,kvs,rfl,rd,fun q hq=>?_⟩;have rk:Reps X.K G ks (kvs.map fun kv=>kV kv.1):=by
   rw[ek];refine Reps.ofAll (by rw[SO,SO]) fun i d v hd hv=>?_
   rw[List.getElem?_map]at hd hv;cases Jt:kvs[i]? with
   |none=>rw[Jt]at hd;cases hd
   |some kv=>
    rw[Jt]at hd hv;cases hd;cases hv;exact uf (hf _ (Ts Jt))
  obtain⟨GO,GW⟩:=rel.newL hq rk;exact k _ _ G _ GW GO
 ·exact zy pr s σ H xs us Q I rx ⟨G,fp,es,vs,ds,r,⟨rel,k⟩,vd,e⟩
end
end PV
namespace NX
open PySem PySem.Spec PyProof.Rows L2
section
variable{prog:Program}{w:World}{A:Around}{E:Value->Shared->Prop}{s:Shared}
end
section
variable{prog:Program}{w:World}{A:Around}{E:Value->Shared->Prop}{s:Shared}
end
section
variable{X:Cx}{e:Expr}{ta:TA}{p p2 pos pos2:Pos}
end
end NX
namespace PV
open PySem PySem.Spec PyProof.Rows L2 NX
section
variable{X:Cx}{e:Expr}{fs:FOs}{p p2 pos pos2:Pos}
end
end PV
namespace NX
open PySem PySem.Spec PyProof.Rows L2
section
open PySem.AutoSeq1 (wpAny_loadPart')
end
end NX
namespace PV
open PySem PySem.Spec PyProof.Rows L2 NX
section
variable{X:Cx}
end
section
variable{md:Mode}{X:Cx}{scope:Scope}{N:List Str}{tg iter elt:Expr}{ifs:List Expr}{pos:Pos}{fi:FI}{a:FG}{c:FT}{f:FX}{j k0:Nat}
end
section
variable{X:Cx}{x:Str}{p pos:Pos}{e:Expr}{es:List Expr}{f0:FX}{fs:FOs}
end
def joinL(sep:List Nat):List (List Nat)->List Nat
 |[]=>[]
 |[x]=>x
 |x::y::r=>x++sep++joinL sep (y::r)
def uz(sep:List Nat):List D->Res R
 |[.lst ds]=>match eB ds with
  |some ys=>if(ys.map List.length).sum+ys.length*sep.length<=16777216 then .ok (.f,.str (joinL sep ys)) else .bad
  |none=>.bad
 |_=>.bad
theorem uA(sep:List Nat):∀ys:List (List Nat),Str.join (S sep) (ys.map S)=S (joinL sep ys)
 |[]=>rfl
 |[x]=>rfl
 |x::y::r=>by
  have ih:=uA sep (y::r);show S x++S sep++Str.join (S sep) ((y::r).map S)=S (x++sep++joinL sep (y::r));rw[ih];apply Str.ext';simp[Str.cps_append]
theorem Cv(sep:List Nat):∀ys:List (List Nat),Txt.join (S sep) (ys.map S)=S (joinL sep ys)
 |ys=>by
  show Builtin.Str.glued (S sep) (ys.map S)=_;rw[StrLaws.glued_eq_join];exact uA sep ys
theorem nS(sep:List Nat):∀ys:List (List Nat),(joinL sep ys).length<=(ys.map List.length).sum+ys.length*sep.length
 |[]=>Tw _
 |[x]=>by
  show x.length<=_;rw[S7,Xj];lia
 |x::y::r=>by
  have ih:=nS sep (y::r);show(x++sep++joinL sep (y::r)).length<=_;rw[Tq,Tq,S7,Xj,S5,Nat.add_mul];lia
theorem nU{K:W.Frag}{G:Hp}:∀{ds:List D}{ys:List (List Nat)}{xs:List V}{us:List Value},eB ds=some ys->Reps K G ds xs->Vals xs us->StrsAre us (ys.map S)
 |[],ys,xs,us,e,r,v=>by
  cases e;rw[Reps]at r;subst r;cases v;exact .nil
 | .str b::ds,ys,xs,us,e,r,v=>by
  rw[Reps]at r;obtain⟨y,zs,ex,r1,r2⟩:=r;subst ex;cases v with
  |cons h t=>
   rw[eB,Tg]at e;obtain⟨ws,hw,rfl⟩:=e;rw[Rep]at r1;obtain⟨r1,_⟩:=r1;subst r1;obtain⟨tk,rfl⟩:=h;exact .cons _ tk (nU hw r2 t)
 | .non::_,_,_,_,e,_,_ | .bl _::_,_,_,_,e,_,_ | .int _::_,_,_,_,e,_,_ | .tup _::_,_,_,_,e,_,_ | .lst _::_,_,_,_,e,_,_ | .dct _ _ _::_,_,_,_,e,_,_=>by cases e
section
variable{X:Cx}
theorem zX:Nm X "str.join" (rMtS X.K uz):=by
 rintro pr s σ H x xs v us Q I rx rv ⟨G,fp,es,vs,l,ds,r,⟨rel,k⟩,ex,hz,vd,e⟩;unfold uz at e;split at e
 ·rename_i ds;split at e
  ·rename_i ys Q8;split at e
   ·rename_i hb;cases e;subst ex;obtain⟨w',ew,p,zs,ep,sq,rs⟩:=mH vd;subst ew ep;obtain⟨t,rfl⟩:=rx;obtain⟨u,rfl,ru⟩:=fe rv;cases ru;obtain⟨GQ,r',pl,Mi⟩:=I.list sq;refine join_list pl.isList (ys:=ys.map S) (nU Q8 rs r') ?_ fun t' kk=>?_
    ·rw[Td,SO];have e1:((fun x:Str=>x.length)∘S)=List.length:=by funext z;exact kF z
     rw[e1,kF];exact hb
    ·rw[Cv];refine⟨.str (S (joinL l ys)),H,I.tok _,⟨_,rfl⟩,k _ H G fp .refl (rel.push ?_)⟩;rw[Rep];have:=nS l ys;exact⟨rfl,by rw[line_eq];lia⟩
   ·cases e
  ·cases e
 ·cases e
end
end PV
namespace NX
open PySem PySem.Spec PyProof.Rows L2
section
variable{prog:Program}{w:World}{A:Around}{R:Result->Shared->Prop}{it:Addr}{fp wr:List Addr}{n:Nat}{Pv:Nat->Value->Prop}{Sx:Nat->Heap->Prop}{kw:List (Str×Value)}
end
section
variable{X:Cx}{e k:Expr}{te tk:TE}{p pos Lg:Pos}
end
end NX
namespace PV
open PySem PySem.Spec PyProof.Rows L2 NX
section
variable{X:Cx}
end
section
variable{X:Cx}
noncomputable def EH(g:List D->List D->Res R)(fa:FO)(fs:FOs):FX:=fun env=>(fa env).bind fun p=>(Iu p.2 p.1).bind fun a=>match a with
 | .lst _=>(fs p.2).bind fun q=>(Iu q.2 p.1).bind fun a2=>match a2 with
  | .lst l=>(oK q.2 q.1).bind fun ds=>(g l ds).bind fun r=>.ok (r,q.2)
  |_=>.bad
 |_=>.bad
inductive rMtL(K:W.Frag)(g:List D->List D->Res R)(x:V)(xs:List V)(H:Hp)(Q:VK):Prop
 |mk:∀G fp es vs l ds r,Goes K H G fp es vs r Q->Vw K G H (.lst l) x->Nq K G H ds xs->g l ds=.ok r->rMtL K g x xs H Q
theorem Cw{g:List D->List D->Res R}{id:String}{name:Str}{o e:Expr}{es:List Expr}{fa:FO}{fs:FOs}{apos Hd:Pos}(slot:Slot "list" name id)(LB:typeOf (.builtin id)=pure (.type "method_descriptor"))(hm:Nm X id (rMtL X.K g))(ho:QO X o fa)(ha:KC X (e::es) fs)
  (IA:attributeBase o name X.env (eval o X.env)=eval o X.env:=by rfl)
  (Jz:((backTo Hd (starEach (e::es) X.env)).all (fun x=>!x.1)&&(backToKw Hd (keywordEach [] X.env)).all (fun x=>x.1.isSome)&&decide ((e::es).length+([]:List Keyword).length+(if([]:List Keyword).isEmpty then 0 else 1)<30))=true:=by rfl)
  (IB:(apos.endLine==Hd.line)=true:=by rfl) (hs:starEach (e::es) X.env=(false,eval e X.env)::starEach es X.env:=by rfl) (HQ:(backTo Hd (starEach es X.env)).any (·.1)=false:=by rfl):
  QE X (.Call (.Attribute o name apos) (e::es) [] Hd) (EH g fa fs):=by
 refine a7 (yS Wm slot LB hm ho ha IA Jz IB hs HQ) fun σ H Q Hh=>?_
 obtain⟨G,env,fp,r,env',rel,e,k⟩:=Hh;obtain⟨⟨oa,GN⟩,e1,e⟩:=ai e;obtain⟨da,Mu,e⟩:=ai e;dsimp only at e;split at e
 ·obtain⟨⟨os,GY⟩,e2,e⟩:=ai e;obtain⟨d2,hd2,e⟩:=ai e;dsimp only at e;split at e
  ·obtain⟨ds,e3,e⟩:=ai e;obtain⟨r',e4,e⟩:=ai e;cases e;refine⟨G,env,fp,oa,GN,rel,e1,fun v H1 G1 Hi Hc GP Iw=>?_⟩;obtain⟨p,xs,ev,sq,_⟩:=GP.vw Iw Mu;subst ev;exact⟨.inl ⟨rfl,xs,sq⟩,G1,GN,Hi,os,_,GP,e2,fun vs H2 G2 Hv GW GO Lk=>⟨G2,Hv,_,σ,_,ds,r,⟨GO,fun v H' G' GS st Hq=>k v H' G' GS (Hc.trans (GW.trans st)) Hq⟩,GO.vw (Iw.mono GW.gg) hd2,GO.vws Lk e3,e4⟩⟩
  ·cases e
 ·cases e
open PySem.SeqAt in
theorem zY{pr:List (Addr×Obj)}{σ:L2.St}{H:Hp}{s:Shared}(I:Inv X pr σ H s){a:D}{x:V}{v:Value}{A:Around}(h:plainD 40 a=true)(hu:A.units+64<cLine)(r:Rep X.K H a x)(rx:RelV x v):
  ∀(ds:List D) (xs:List V) (us:List Value),plainDs 40 ds=true->Reps X.K H ds xs->Vals xs us->∃e:Value->Bool,(∀(j:Nat) (d:D) (u:Value),ds[j]?=some d->us[j]?=some u->e u=GU d a)/\∀u∈us,EqAt A s u v (e u):=by
 classical
 intro ds xs us hp rs vl;have key:∀(j:Nat) (d:D) (u:Value),ds[j]?=some d->us[j]?=some u->decide (∃(j:Nat) (d:D),ds[j]?=some d/\us[j]?=some u/\GU d a=true)=GU d a:=by
  intro j d u hd hj;obtain⟨w1,KD,KG⟩:=rs.get hd;obtain⟨u1,JA,KH⟩:=vl.get KD;rw[hj]at JA;cases JA;rw[To,S9];constructor
  ·rintro⟨j2,d2,k1,k2,k3⟩;obtain⟨w2,LO,LP⟩:=rs.get k1;obtain⟨u2,Kh,LQ⟩:=vl.get LO;rw[k2]at Kh;cases Kh;have:=KH.inj LQ;subst this;rw[jT I _ _ _ 40 (plainDs_mem hp hd) KG LP];exact k3
  ·intro k3;exact⟨j,_,hd,hj,k3⟩
 refine⟨fun u=>decide (∃(j:Nat) (d:D),ds[j]?=some d/\us[j]?=some u/\GU d a=true),key,fun u Ry=>?_⟩;obtain⟨j,hj⟩:=Ua.mp Ry;have l1:=vl.length;have l2:=rs.length;have hjl:=(List.getElem?_eq_some_iff.mp hj).1;have g1:ds[j]?=some (ds[j]'(by lia)):=List.getElem?_eq_getElem _;obtain⟨w1,KD,KG⟩:=rs.get g1;obtain⟨u1,JA,KH⟩:=vl.get KD;rw[hj]at JA;cases JA;have z:=zI I _ _ w1 x u v A 40 (plainDs_mem hp g1) h (by lia) KG r KH rx;show EqAt A s u v (decide (∃(j:Nat) (d:D),ds[j]?=some d/\us[j]?=some u/\GU d a=true));rw[key j _ u g1 hj];exact z
def pb(l:List D):List D->Res R
 |[a]=>if plainD 40 a&&plainDs 40 l&&l.any (fun d=>GU d a) then .ok (.f,.int (l.findIdx (fun d=>GU d a):Nat)) else .bad
 |_=>.bad
theorem pd(hu:X.A.units+65<cLine):Nm X "list.index" (rMtL X.K pb):=by
 rintro pr s σ H x xs v us Q I rx rv ⟨G,fp,es,vs,l,ds,r,⟨rel,k⟩,vx,vd,e⟩;unfold pb at e;split at e
 ·rename_i a;split at e
  ·rename_i hp;rw[SY,SY]at hp;cases e;obtain⟨p,ys,ev,sq,rs⟩:=vx;subst ev;cases rx;obtain⟨w',ew,va⟩:=mH vd;subst ew;obtain⟨u,rfl,ru⟩:=fe rv;obtain⟨GQ,vl,pl,hz⟩:=I.list sq;obtain⟨⟨cls,dd,data,sl⟩,ho,hc,n,hd⟩:=id pl.isList;simp only at hc hd;subst hc hd;obtain⟨ef,Sn,he2⟩:=zY (A:=X.A.in1) I hp.1.1 (by first|lia|(simp only[Around.in1_units];lia)) (va.rep rel.gh) ru l ys GQ hp.1.2 (Reps.mono rel.gh rs) vl;have HC:l.findIdx (fun d=>GU d a)<l.length:=List.findIdx_lt_length.mpr (by rw[<-Us];exact hp.2);have l1:=vl.length;have l2:=rs.length;have hlt2:l.findIdx (fun d=>GU d a)<GQ.toArray.size:=by rw[SR];lia
   have hb:(l.findIdx (fun d=>GU d a):Int)<2 ^ 63-1:=by
    rw[TQ]at hz;lia
   refine PySem.call_meets Wo ⟨_,ho,rfl⟩ PySem.F.entry_list_index (PySem.F.args_list_index_2 _ _) (PySem.SeqAt.list_indexAt p GQ.toArray n _ _ u ef (l.findIdx fun d=>GU d a) hlt2 hb ?_ ?_) ⟨ho,fun y hy=>?_,⟨.int (l.findIdx (fun d=>GU d a):Nat),H,I.tok _,⟨_,rfl⟩,k _ H G fp .refl (rel.push (bD _))⟩⟩
   ·rw[Sn _ _ _ (List.getElem?_eq_getElem HC) (by rw[WX];exact List.getElem?_eq_getElem _)];exact WY (w:=HC)
   ·intro m hm hlt3;rw[Sn m (l[m]'(by lia)) _ (List.getElem?_eq_getElem _) (by rw[WX];exact List.getElem?_eq_getElem _)];exact List.not_of_lt_findIdx hlt3
   ·exact he2 y (by simpa using hy)
  ·cases e
 ·cases e
end
section
variable{K:W.Frag}{G G' H H':Hp}{es:PV.Env}{vs:L2.St}{fp:List Addr}
theorem Rel.lendM2(q:Rel K G H es vs fp)(a:List Addr)(ha:∀z∈a,z∉fp)(hga:∀z∈a,G z=none):∃G1,Same G G1/\Same G1 H/\(∀z∈a,G1 z=none)/\(∀(i:Nat) (r:R) (v:V),es[i]?=some (some r)->vs[i]?=some (some v)->Rep K G1 r.2 v)/\
  ∀(H2 G2:Hp) (Hv:List Addr) (rs:PV.Env) (ws:L2.St),Step G1 H a G2 H2 Hv->Rel K G2 H2 rs ws Hv->((∀r,some r∈rs->aM r.1 r.2=true)->∃G3 Iz,Step G H (a++fp) G3 H2 Iz/\Rel K G3 H2 (rs++es) (ws++vs) Iz)/\∃G3 Iz,Step G H (a++fp) G3 H2 Iz/\Rel K G3 H2 (rs++es.map PV.frz) (ws++vs) Iz:=by
 have hg:Same G (fun p=>if p∈fp then H p else G p):=fun p u e=>by
  show(if p∈fp then H p else G p)=some u;by_cases hp:p∈fp
  ·rw[S1 hp];exact q.gh p u e
  ·rw[S4 hp];exact e
 have hh:Same (fun p=>if p∈fp then H p else G p) H:=fun p u e=>by
  have e:(if p∈fp then H p else G p)=some u:=e;by_cases hp:p∈fp
  ·rw[S1 hp]at e;exact e
  ·rw[S4 hp]at e;exact q.gh p u e
 have hk:∀p∈fp,∀u,H p=some u->(fun p=>if p∈fp then H p else G p) p=some u:=fun p hp u e=>by
  show(if p∈fp then H p else G p)=some u;rw[S1 hp];exact e
 refine⟨fun p=>if p∈fp then H p else G p,hg,hh,fun z hz=>?_,fun i r v e ev=>q.rep.rep hg hk e ev,fun H2 G2 Hv rs ws st k=>⟨fun cl=>?_,?_⟩⟩
 ·show(if z∈fp then H z else G z)=none;rw[S4 (ha z hz)];exact hga z hz
 ·have kept:∀p∈fp,H2 p=H p:=fun p hp=>by
   obtain⟨u,hu⟩:=q.rep.live p hp;rw[hu];exact st.keep p u hu fun z=>ha p z hp
  have apart:∀p∈Hv,p∉fp:=fun p hp hf=>by
   rcases st.fpn p hp with z|z
   ·exact ha p z hf
   ·obtain⟨u,hu⟩:=q.rep.live p hf;rw[z]at hu;cases hu
  have g3:Same G (fun p=>if p∈fp then none else G2 p):=fun p u e=>by
   show(if p∈fp then none else G2 p)=some u;rw[S4 (fun z=>by rw[q.gn p z]at e;cases e)];exact st.gg p u (hg p u e)
  refine⟨fun p=>if p∈fp then none else G2 p,Hv++fp,⟨g3,fun p u e n=>?_,fun p hp=>?_,fun p u e=>?_,st.there⟩,⟨RepE.append (RepE.clean (fun p u t e=>?_) cl k.rep) (q.rep.step g3 kept),?_,fun p hp=>?_,fun p u e=>?_⟩⟩
  ·exact st.keep p u e fun z=>n (SW _ z)
  ·rcases Tn.mp hp with hp|hp
   ·exact(st.fpn p hp).imp_left (SW _)
   ·exact .inl (SS _ hp)
  ·have e:(if p∈fp then none else G2 p)=some u:=e;by_cases hp:p∈fp
   ·rw[S1 hp]at e;cases e
   ·rw[S4 hp]at e;rcases st.gnew p u e with z|z|z
    ·have z:(if p∈fp then H p else G p)=some u:=z;rw[S4 hp]at z;exact .inl z
    ·exact .inr (.inl (SW _ z))
    ·exact .inr (.inr z)
  ·show(if p∈fp then none else G2 p)=some u;by_cases hp:p∈fp
   ·exfalso;obtain⟨u',hu,hm⟩:=q.rep.mut p hp;have:=st.gg p u' (hk p hp u' hu);rw[e]at this;cases this;cases u with
    |lst _=>cases t
    |dK _=>cases t
    |dT _=>cases t
    |_=>cases hm
   ·rw[S4 hp];exact e
  ·rw[Th];exact⟨k.nd,q.nd,fun p hp z hz e=>apart p hp (e▸hz)⟩
  ·show(if p∈fp then none else G2 p)=none;by_cases hf:p∈fp
   ·rw[S1 hf]
   ·rw[S4 hf];rcases Tn.mp hp with hp|hp
    ·exact k.gn p hp
    ·exact absurd hp hf
  ·have e:(if p∈fp then none else G2 p)=some u:=e;by_cases hp:p∈fp
   ·rw[S1 hp]at e;cases e
   ·rw[S4 hp]at e;exact k.gh p u e
 ·have Sq:=hg.trans st.gg;have rf:RepE K G2 H2 (es.map PV.frz) vs []:=q.rep.frz Sq fun p hp u e=>st.gg p u (hk p hp u e)
  have ra:=RepE.append k.rep rf;rw[Ta]at ra;refine⟨G2,Hv,⟨Sq,fun p u e n=>st.keep p u e fun z=>n (SW _ z),fun p hp=>(st.fpn p hp).imp_left (SW _),fun p u e=>?_,st.there⟩,⟨ra,k.nd,k.gn,k.gh⟩⟩;rcases st.gnew p u e with z|z|z
  ·have z:(if p∈fp then H p else G p)=some u:=z;by_cases hp:p∈fp
   ·exact .inr (.inl (SS _ hp))
   ·rw[S4 hp]at z;exact .inl z
  ·exact .inr (.inl (SW _ z))
  ·exact .inr (.inr z)
end
noncomputable def eFunW(c:O)(F:Addr->List D->Res R)(i:Nat)(fs:FOs):FX:=fun env=>(fs env).bind fun p=>match p.1 with
 | .var j::os=>if j=i then(match p.2[i]? with
  |some (some (ow,d0))=>if nQ c ow then(gD (p.2.set i none) os).bind fun ds=>(iT F c d0 ds).bind fun x=>if aM x.1.1 x.1.2&&aM c x.2 then .ok (x.1,(p.2.set i none).set i (some (ow,x.2))) else .ok (x.1,((p.2.set i none).map frz).set i (some (ow,x.2))) else .bad
  |_=>.bad) else .bad
 |_=>.bad
section
variable{X:Cx}{x:Str}{p pos:Pos}{e:Expr}{es:List Expr}{f0:FX}{fs:FOs}
theorem zZ{F:Addr->List D->Res R}{c:O}{i k:Nat}(C:Ct X.prog X.w X.K X.mg X.base x k (spM X.K c F))(hr:Room k X.A)(hg:Gl X x)(ha:KC X (e::es) fs)(Ie:(x==("__debug__" : Str))=false:=by decide)
  (he:starEach (e::es) X.env=(false,eval e X.env)::starEach es X.env:=by rfl) (Ic:(backTo pos (starEach es X.env)).any (·.1)=false:=by rfl):QE X (.Call (.Name x p) (e::es) [] pos) (eFunW c F i fs):=
 a7 (yW C hr hg ha Ie he Ic) fun σ H Q G9=>by
  obtain⟨G,env,fp,r,env',rel,e,k⟩:=G9;obtain⟨⟨os,e1⟩,ha,e⟩:=ai e;dsimp only at e;split at e
  ·rename_i j R4;split at e
   ·rename_i hj;subst hj;split at e
    ·rename_i ow d0 hi;split at e
     ·rename_i how;obtain⟨ds,hd,e⟩:=ai e;obtain⟨z,hz,e⟩:=ai e;refine⟨G,env,fp,_,e1,rel,ha,fun vs H1 G1 Hi Hc GP Iw=>?_⟩;show spM X.K c F (vs++[]) H1 Q _;rw[Ta];obtain⟨y,ys,ey,k1,k2⟩:=Iw;obtain⟨v0,a,b,ev,r0,r2,pm⟩:=GP.rep.take hi;have k1:σ[j]?=some (some y):=k1;rw[k1]at ev;cases ev;obtain⟨⟨q,hq⟩,rc,back⟩:=yf how r0;subst hq;have nd:=Th.mp (pm.nodup_iff.mp GP.nd);have N1:Rel X.K G1 H1 (e1.set j none) σ b:=⟨r2,nd.2.1,fun w hw=>GP.gn w (pm.mem_iff.mpr (SS _ hw)),GP.gh⟩
      obtain⟨G2,LM,Mv,RD,Jd,Je⟩:=N1.lendM2 a (fun w hw hb=>nd.2.2 w hw w hb rfl) (fun w hw=>GP.gn w (pm.mem_iff.mpr (SW _ hw)));refine⟨G2,q,ys,d0,ds,_,a,Mv,ey,rc.step LM (fun _ _=>rfl),nd.1,RD,fG LM Jd k2 hd,qh hz q,fun v H' G' GS st rt=>?_⟩;obtain⟨o',d',p',c',RC,er,rl⟩:=rt;cases er;have fin:∀(ee:PV.Env),ee.length=e1.length->(∃G3 Iz,Step G1 H1 (a++b) G3 H' Iz/\Rel X.K G3 H' (some z.1::some (.pin q c,z.2)::ee) (some v::some (.ref q)::σ) Iz)->(z.1,ee.set j (some (ow,z.2)))=(r,env')->Q v H':=by
       rintro ee RE ⟨G3,Iz,Hs,Hk⟩ RF;cases RF;obtain⟨a1,b1,ef,ro,HL,comb⟩:=Rel.frame Hk;have N3:Rel X.K G3 H' (some (ow,z.2)::ee) (some (.ref q)::σ) b1:=by
        obtain⟨y2,ys2,N4,v2,a2,b2,PD,RG,PF,RH⟩:=HL.rep;cases N4;cases PD;rw[RepO]at PF;exact⟨⟨_,_,rfl,_,a2,b2,rfl,RG,back _ _ _ _ PF.2,RH⟩,HL.nd,HL.gn,HL.gh⟩
       obtain⟨fq,N5,RI⟩:=N3.back (i:=j) (by rw[RE];exact(List.getElem?_eq_some_iff.mp hi).1) k1;obtain⟨N6,PH⟩:=comb G3 H' _ _ fq RI N5;rw[<-ef]at PH;exact k v H' G3 _ (Hc.trans ((Hs.perm (fun w=>pm.mem_iff.symm) (fun w hw=>hw)).trans PH)) N6
      obtain⟨b1,b2⟩:=Je H' G' GS _ _ st rl;split at e
      ·rename_i JO;rw[SY]at JO;have e:=Res.ok.inj e;refine fin (e1.set j none) (by rw[Tz]) (b1 fun w hw=>?_) e;rcases S3.mp hw with hw|hw
       ·cases hw;exact JO.1
       ·rw[Te]at hw;cases hw;simp only[aM];exact JO.2
      ·have e:=Res.ok.inj e;exact fin ((e1.set j none).map frz) (by rw[SO,Tz]) b2 e
     ·cases e
    ·cases e
   ·cases e
  ·cases e
end
def SlR3(X:Cx)(r:V->Option Int->Option Int->Option Int->Hp->VK->Prop):Prop:=
 ∀(pr:List (Addr×Obj)) (s:Shared) (σ:L2.St) (H:Hp) (x:V) (v vl vu vt:Value) (lo hi st:Option Int) (sl:Addr) (Q:VK),Inv X pr σ H s->RelV x v->s.heap.IsSliceOf sl vl vu vt->IsPart vl lo->IsPart vu hi->IsPart vt st->r x lo hi st H Q->
  ∃T id,typeLookup (.type T) "__getitem__" = pure (some (.builtin id))/\s.TypeIs v T/\wpAny (model X.prog X.w) X.A (getItem v (.ref sl)) (EP X pr σ Q) X.xe s
def Gi(r:V->Option Int->Option Int->Option Int->Hp->VK->Prop)(te:TE)(tl th ts:TO):TE:=fun σ H Q=>te σ H fun x H1=>tl σ H1 fun l H2=>th σ H2 fun u H3=>ts σ H3 fun t H4=>r x l u t H4 Q
theorem uB{X:Cx}{e:Expr}{te:TE}{lo hi:Option Expr}{se:Expr}{tl th ts:TO}{pos p2:Pos}{r:V->Option Int->Option Int->Option Int->Hp->VK->Prop}(hr:SlR3 X r)(he:PE X e te)(hl:PO X lo tl)(hu:PO X hi th)(hs:PO X (some se) ts):PE X (.Subscript e (.Slice lo hi (some se) p2) pos) (Gi r te tl th ts):=by
 intro pr s σ H Q I h;refine Subscript_ (He (he pr s σ H _ I h) fun v s1 Hh=>?_);obtain⟨x,H1,I1,r1,q1⟩:=Hh;refine wpAny_Slice (He (hl pr s1 σ H1 _ I1 q1) fun vl s2 ⟨l,H2,I2,pl,q2⟩=>He (hu pr s2 σ H2 _ I2 q2) fun vu s3 ⟨u,H3,I3,pu,q3⟩=>He (hs pr s3 σ H3 _ I3 q3) fun vt s4 Hh=>?_);obtain⟨t,H4,I4,pt,q4⟩:=Hh;have I5:Inv X pr σ H4 {s4 with heap:=s4.heap.push {cls:=.type "slice",data:=.fields #[vl,vu,vt]}}:=I4.kept (t':=s4.toks) fun b ob q=>Heap.get?_push_of_some _ q
 obtain⟨T,id,hT,ht,hg⟩:=hr pr {s4 with heap:=s4.heap.push {cls:=.type "slice",data:=.fields #[vl,vu,vt]}} σ H4 x v vl vu vt l u t s4.heap.objs.size Q I5 r1 (Heap.IsSliceOf.new ..) pl pu pt q4;show wpAny (model X.prog X.w) X.A (subscriptTail e (.Slice lo hi (some se) p2) v (.ref s4.heap.objs.size)) (EP X pr σ Q) X.xe {s4 with heap:=s4.heap.push {cls:=.type "slice",data:=.fields #[vl,vu,vt]}};exact tail_any (ops:=[v,.ref s4.heap.objs.size]) ht hT hg (by with_unfolding_all rfl)
def fO{α:Type}(xs:List α)(lo hi:Option Int)(c:Int):List α:=
 (sliceRange (sliceBounds lo hi (some c) xs.length).1 (sliceBounds lo hi (some c) xs.length).2.1 (sliceBounds lo hi (some c) xs.length).2.2).filterMap (fun i=>xs[i]?)
theorem nV{K:W.Frag}{G:Hp}{ds:List D}{xs:List V}(r:Reps K G ds xs):∀ix:List Nat,Reps K G (ix.filterMap fun i=>ds[i]?) (ix.filterMap fun i=>xs[i]?)
 |[]=>.nil
 |i::ix=>by
  have ih:=nV r ix;cases e:ds[i]? with
  |none=>
   have e2:xs[i]?=none:=by
    rw[List.getElem?_eq_none_iff]at e ⊢;rw[r.length];exact e
   rw[US e,US e2];exact ih
  |some d=>
   obtain⟨v,e2,rv⟩:=r.get e;rw[UT e,UT e2];exact .cons rv ih
theorem vals_pick{xs:List V}{us:List Value}(r:Vals xs us):∀ix:List Nat,Vals (ix.filterMap fun i=>xs[i]?) (ix.filterMap fun i=>us[i]?)
 |[]=>.nil
 |i::ix=>by
  have ih:=vals_pick r ix;cases e:xs[i]? with
  |none=>
   rw[US e,US (r.none_of e)];exact ih
  |some d=>
   obtain⟨v,e2,rv⟩:=r.get e;rw[UT e,UT e2];exact .cons rv ih
theorem qj(GQ:List Value)(lo hi:Option Int)(c:Int):slicePick GQ.toArray lo hi (some c)=(fO GQ lo hi c).toArray:=by
 unfold slicePick fO;simp only[SR,List.getElem?_toArray]
theorem z6(GQ:List Value)(lo hi:Option Int)(c:Int):(fO GQ lo hi c).length<=GQ.length:=by
 have:=slicePick_size_le GQ.toArray lo hi (some c);rw[qj]at this;simpa using this
def Cy(k:D)(lo hi st:Option Int):Res R:=match k,st with
 | .lst ds,some c=>if c≠0 then .ok (.l .f,.lst (fO ds lo hi c)) else .bad
 |_,_=>.bad
def EI(fa:FO)(lo hi st:FP):FX:=fun env=>(fa env).bind fun p=>(lo p.2).bind fun q=>(hi q.2).bind fun t=>(st t.2).bind fun u=>(Iu u.2 p.1).bind fun d=>(Cy d q.1 t.1 u.1).bind fun r=>.ok (r,u.2)
section
variable{X:Cx}{pos:Pos}{fa:FO}
inductive rSl3(K:W.Frag)(x:V)(lo:Option Int)(hi:Option Int)(st:Option Int)(H:Hp)(Q:VK):Prop
 |mk:∀G fp es vs d r,Goes K H G fp es vs r Q->Vw K G H d x->Cy d lo hi st=.ok r->rSl3 K x lo hi st H Q
theorem Cz:SlR3 X (rSl3 X.K):=by
 rintro pr s σ H x v vl vu vt lo hi st sl Q I rx hs pl pu pt ⟨G,fp,es,vs,d,r,⟨rel,k⟩,vd,e⟩;unfold Cy at e;split at e
 ·rename_i ds c;split at e
  ·rename_i hc;cases e;obtain⟨p,xs,ev,sq,rs⟩:=vd;subst ev;cases rx;obtain⟨GQ,r,ht,hz⟩:=I.list sq;have hlen:=r.length;refine⟨"list",_,slot_list_getitem.lookup,ht.isList.typeIs,?_⟩;refine V8 ht.isList hs pl pu pt (fun h=>hc (Tf h)) ?_ (by rw[SR];lia);rw[qj];have r2:Vals (fO xs lo hi c) (fO GQ lo hi c):=by
    unfold fO;rw[hlen];exact vals_pick r _
   have rs2:Reps X.K G (fO ds lo hi c) (fO xs lo hi c):=by
    unfold fO;rw[rs.length];exact nV rs _
   have Mi:(fO xs lo hi c).length<=sizeLine:=by
    rw[r2.length];have:=z6 GQ lo hi c;lia
   have hq:=I.hok.fresh (SV s.heap.objs.size);obtain⟨GO,GW⟩:=rel.newL hq rs2;refine⟨.ref s.heap.objs.size,_,I.laid (t':=s.toks) (o:=.lst (fO xs lo hi c)) (fun b ob q=>Heap.get?_push_of_some _ q) (SV _) ?_,rfl,k _ _ G _ GW GO⟩;exact⟨Mi,_,0,r2,Heap.get?_push_size _ rfl⟩
  ·cases e
 ·cases e
theorem CA{e:Expr}{lo hi:Option Expr}{se:Expr}{p2:Pos}{fl fh fs:FP}(he:QO X e fa)(hl:QP X lo fl)(hh:QP X hi fh)(hs:QP X (some se) fs):QE X (.Subscript e (.Slice lo hi (some se) p2) pos) (EI fa fl fh fs):=
 a7 (uB Cz he hl hh hs) fun σ H Q G9=>by
  obtain⟨G,env,fp,r,env',rel,e,k⟩:=G9;obtain⟨⟨o,GN⟩,e1,e⟩:=ai e;obtain⟨⟨i,GY⟩,e2,e⟩:=ai e;obtain⟨⟨j,HE⟩,e3,e⟩:=ai e;obtain⟨⟨t,PJ⟩,e4,e⟩:=ai e;obtain⟨d,e5,e⟩:=ai e;obtain⟨r',e6,e⟩:=ai e;cases e;exact⟨G,env,fp,o,GN,rel,e1,fun v H1 G1 Hi Hc GP Iw=>⟨G1,GN,Hi,i,GY,GP,e2,fun H2 G2 Hv GW GO=>⟨G2,GY,Hv,j,HE,GO,e3,fun H3 G3 Iz Hs Hk=>⟨G3,HE,Iz,t,PJ,Hk,e4,fun H4 G4 NT Ij HK=>
   ⟨G4,NT,PJ,σ,d,r,⟨HK,fun v H' G' GS st Hq=>k v H' G' GS (Hc.trans (GW.trans (Hs.trans (Ij.trans st)))) Hq⟩,HK.vw (((Iw.mono GW.gg).mono Hs.gg).mono Ij.gg) e5,e6⟩⟩⟩⟩⟩
end
section
variable{X:Cx}
def z7(fa fb fc:FX):FX:=fun env=>(fa env).bind fun p=>(fb p.2).bind fun q=>(fc q.2).bind fun t=>.ok ((.t [.f,q.1.1,t.1.1],.tup [p.1.2,q.1.2,t.1.2]),t.2)
theorem z8{a b c:Expr}{fa fb fc:FX}{x1}{pos:Pos}(ha:QE X a fa)(hb:QE X b fb)(hc:QE X c fc)(h1:starEach [a,b,c] X.env=(false,eval a X.env)::starEach [b,c] X.env:=by rfl)(h2:starEach [b,c] X.env=(false,eval b X.env)::starEach [c] X.env:=by rfl)(h3:starEach [c] X.env=(false,eval c X.env)::starEach [] X.env:=by rfl):
  QE X (.Tuple [a,b,c] x1 pos) (z7 fa fb fc):=
 a7 (sJ (cU ha (cU hb (cU hc i4 h3) h2) h1)) fun σ H Q G9=>by
  obtain⟨G,env,fp,r,env',rel,e,k⟩:=G9;obtain⟨⟨r1,GN⟩,e1,e⟩:=ai e;obtain⟨⟨⟨o2,d2⟩,GY⟩,e2,e⟩:=ai e;obtain⟨⟨⟨o3,d3⟩,HE⟩,e3,e⟩:=ai e;cases e;refine⟨G,env,fp,r1,GN,rel,e1,fun v H1 G1 Hi Hc GP=>?_⟩;obtain⟨G2,b,rv,GO,GW⟩:=GP.freeze;refine⟨G2,GN,b,(o2,d2),GY,GO,e2,fun v2 H3 G3 Iz Hs Hk=>?_⟩;obtain⟨a3,b3,ef3,ro3,PL,bk3⟩:=Hk.frame;refine⟨G3,GY,b3,(o3,d3),HE,PL,e3,fun v3 H4 G4 NT Ij HK=>⟨by rw[line_eq];exact(by decide:3<=16777216),fun p hp=>?_⟩⟩;obtain⟨LS,Mx⟩:=bk3 G4 H4 _ _ NT Ij HK;rw[<-ef3]at Mx;obtain⟨IQ,Jx⟩:=LS.newF (u:=.tup [v,v2,v3]) hp;refine k _ _ _ _ (Hc.trans (GW.trans (Hs.trans (Mx.trans Jx)))) ?_;obtain⟨y,ys,ey,v',a',b',N4,ef,q1,q2⟩:=IQ.rep;cases ey;cases N4;obtain⟨y,ys,ey,v'',PM,b'',N4,ef',q3,q4⟩:=q2;cases ey;cases N4;subst ef';refine⟨⟨some (.ref p),σ,rfl,.ref p,a'++PM,b'',rfl,by rw[ef,Tx],?_,q4⟩,IQ.nd,IQ.gn,IQ.gh⟩;show RepO X.K _ _ (.t [.f,o2,o3]) (.tup [r1.2,d2,d3]) (.ref p) (a'++PM);rw[RepO];refine⟨p,[v,v2,v3],rfl,aP,?_⟩;rw[RepT];refine⟨v,[v2,v3],[],a'++PM,rfl,rfl,fF.mpr ⟨Rep.mono (Hs.gg.trans (Mx.gg.trans Jx.gg)) rv,rfl⟩,?_⟩;rw[RepT];refine⟨v2,[v3],a',PM,rfl,rfl,q1,?_⟩;rw[RepT];refine⟨v3,[],PM,[],rfl,by rw[Ta],q3,?_⟩;rw[RepT];exact⟨rfl,rfl⟩
end
section
variable{X:Cx}{scope:Scope}{N:List Str}{tg iter elt:Expr}{ifs:List Expr}{pos:Pos}{fi:FI}{a:FG}{c:FT}{f:FX}
end
end PV
namespace L2
open PySem PySem.Spec PyProof.Rows NX
section
variable{X:Cx}{tg:Expr}
end
end L2
namespace PV
open PySem PySem.Spec PyProof.Rows L2 NX
section
variable{X:Cx}{tg:Expr}
end
abbrev FB:=PV.Env->Bool
def GK(g:FS)(x:FB):FB:=fun env=>match g env with
 | .ok (.nx e)=>x e
 |_=>false
def PN(c:FT)(x:FB):FB:=fun env=>match c env with
 | .ok (true,e)=>x e
 |_=>false
def uC(fs:FOs):FB:=fun env=>match fs env with
 | .ok (os,_)=>decide (os.length<=3)
 |_=>false
inductive tX(K:W.Frag)(x:FB)(Ww:Hp->Prop)(σ:L2.St)(H:Hp):Prop
 |mk:∀G env fp,Rel K G H env σ fp->x env=true->(∀H' G' GS,Step G H fp G' H' GS->Rel K G' H' [] [] []->Ww H')->tX K x Ww σ H
def QX(X:Cx)(st:List Stmt)(x:FB)(Ww:Hp->Prop):Prop:=PX X st (tX X.K x Ww)
section
variable{X:Cx}{st:Stmt}{Nr:List Stmt}{g:FS}{x:FB}{Ww:Hp->Prop}{c:FT}{pos np Hd:Pos}{e:Expr}{es:List Expr}{fs:FOs}{C:Addr}{y:Str}
theorem EJ{a b:List Stmt}{ct:Expr}(hc:QT X.nox ct c)(ha:QX X a x Ww):QX X (.If ct a b pos::Nr) (PN c x) Ww:=xZ (Ep (PT.nox hc) ha) fun σ H G9=>by
 obtain⟨G,env,fp,rel,e,k⟩:=G9;unfold PN at e;match q:c env,e with
 | .ok (true,GN),e=>exact⟨G,env,fp,true,GN,rel,q,fun H1 G1 Hi Hc GP=>⟨rfl,G1,GN,Hi,GP,e,fun H' G' GS st r=>k H' G' GS (Hc.trans st) r⟩⟩
theorem ql{K:W.Frag}{G:Hp}{σ:L2.St}:∀{os:List Opd}{vs:List V},jO K G σ os vs->vs.length=os.length
 |[],_,r=>by have r:_=[]:=r;rw[r];rfl
 |_::_,_,⟨y,ys,e,_,q⟩=>by rw[e,S5,S5,ql q]
theorem wY(O:NN X.mg X.base y C)(acc:Acc X C Ww)(hc:X.calm=true)(hg:Gl X y)(ha:KC X.nox (e::es) fs)(Ie:(y==("__debug__" : Str))=false:=by decide)
  (he:starEach (e::es) X.env=(false,eval e X.env)::starEach es X.env:=by rfl) (Ic:(backTo Hd (starEach es X.env)).any (·.1)=false:=by rfl):
  QX X (.Raise (some (.Call (.Name y np) (e::es) [] Hd)) none pos::Nr) (uC fs) Ww:=xZ (wy O acc hc hg (BY ha) Ie he Ic) fun σ H G9=>by
 obtain⟨G,env,fp,rel,e,k⟩:=G9;unfold uC at e;match q:fs env,e with
 | .ok (os,GN),e=>
  refine⟨G,env,fp,os,GN,rel,q,fun vs H1 G1 Hi Hc GP Iw=>⟨?_,k H1 G1 Hi Hc GP.nilF⟩⟩;rw[ql Iw];have e:decide (os.length<=3)=true:=e;have:=Uy e;rw[line_eq];lia
end
inductive spX(K:W.Frag)(C:Addr)(F:List D->Bool)(vs:List V)(H:Hp)(Q:VK)(E:XK):Prop
 |mk:∀G ds,Same G H->Reps K G ds vs->F ds=true->(∀H' G' GS,Step G H [] G' H' GS->Rel K G' H' [] [] []->E (.ref C) none H')->spX K C F vs H Q E
def wZ(np nn:Nat)(x:FB):List D->Bool:=fun ds=>decide (ds.length=np)&&x (ds.map (fun d=>some (O.f,d))++List.replicate nn none)
theorem CB{P:Program}{w:World}{K:W.Frag}{mg:Str->Option Value}{base:Heap}{x:Str}{st:Stmt}{N ps:List Str}{k:Nat}{gx:FB}{C:Addr}(Df:Def K mg x st)(sc:FnScope N ps (defScope st))
  (hb:∀(kV doc pm:Value) (an:Option Addr) (Hf ct:Value) (us:List Value),us.length=ps.length->bindArgs (PySem.W.fnOf x x (dt st) (bU st) (defScope st) .none kV doc pm an Hf ct) ⟨us,[]⟩=pure (ps.zip us))
  (body:∀(f:Addr) (Hf:Value) (A:Around) (outer:List PySem.Env) (s:Shared) (H:Hp) (E:XK),Room k (A.deeper (envOfC x (defScope st) s.heap.objs.size f Hf))->QX (qS (OO P w base C) P w K mg base N x (defScope st) f Hf A outer s H E) (bU st) gx (fun H'=>E (.ref C) none H')):
  CtX P w K mg base x (k+1) C (spX K C (wZ ps.length (N.length-ps.length) gx)):=by
 obtain⟨f,fd,F,m⟩:=Df;refine⟨f,fd,ps,zo F sc (fun vs H Q E h=>?_) (fun Hf A outer s H vs Q E hr h=>?_),m,F.kp,F.binds hb⟩
 ·obtain⟨G,ds,_,rs,e,_⟩:=h;unfold wZ at e;have:=Uy ((SY _ _).mp e).1;rw[rs.length,this]
 ·obtain⟨G,ds,gh,rs,e,q⟩:=h;unfold wZ at e;have hl:=Uy ((SY _ _).mp e).1;have e:=((SY _ _).mp e).2;refine⟨_,body f Hf A outer s H E hr,G,ds.map (fun d=>some (O.f,d))++List.replicate (N.length-ps.length) none,[],⟨?_,Uu,(fun _ h=>nomatch h),gh⟩,e,q⟩;have:=d7 (K:=K) (G:=G) (H:=H) (N.length-ps.length) rs;unfold L2.hJ;rw[rs.length,hl];exact this
abbrev N7:=PV.Env->Option PV.Env
inductive tQX(K:W.Frag)(x:N7)(σ:L2.St)(H:Hp)(Ww:Hp->Prop):Prop
 |mk:∀G env fp env',Rel K G H env σ fp->x env=some env'->(∀H' G' GS,Step G H fp G' H' GS->Rel K G' H' env' σ GS->Ww H')->tQX K x σ H Ww
def DM(F:List D->Bool)(fs:FOs):N7:=fun env=>match fs env with
 | .ok (os,e)=>match gD e os with
  | .ok ds=>if F ds then some e else none
  |_=>none
 |_=>none
def Sr(X:Cx)(e:Expr)(C:Addr)(x:N7):Prop:=Rl X e C (tQX X.K x)
def Ss(X:Cx)(st:List Stmt)(C:Addr)(x:N7):Prop:=Ro X st C (tQX X.K x)
section
variable{md:Mode}{X:Cx}{x:Str}{p pos:Pos}{e a b:Expr}{es:List Expr}{C:Addr}{F:List D->Bool}{fs:FOs}{k:Nat}{xe:N7}{cT:List Stmt}
theorem z9(c:CtX X.prog X.w X.K X.mg X.base x k C (spX X.K C F))(hr:Room k X.A)(hg:Gl X x)(ha:KC X.nox (e::es) fs)(Ie:(x==("__debug__" : Str))=false:=by decide)
  (he:starEach (e::es) X.env=(false,eval e X.env)::starEach es X.env:=by rfl) (Ic:(backTo pos (starEach es X.env)).any (·.1)=false:=by rfl):Sr X (.Call (.Name x p) (e::es) [] pos) C (DM F fs):=
 fun pr s σ H Ww I ⟨G,env,fp,env',rel,e,kk⟩=>wz c hr hg ha Ie he Ic pr s σ H Ww I (by
  unfold DM at e;match q:fs env,e with
  | .ok (os,e1),e=>
   dsimp only at e;match q2:gD e1 os,e with
   | .ok ds,e=>
    dsimp only at e;split at e
    ·rename_i hF;cases e;refine⟨G,env,fp,os,_,rel,q,fun vs H1 G1 Hi Hc GP Iw=>?_⟩;obtain⟨G2,LM,Mv,Jd,_,Je⟩:=GP.lend;refine⟨G2,ds,Mv,fG LM Jd Iw q2,hF,fun H' G' GS st Hq=>?_⟩;obtain⟨k1,_⟩:=Je H' G' [] (.f,.non) .non (st.trans (Step.cut fun _ h=>nomatch h)) (Hq.push lR);obtain⟨G3,Iz,Hs,Hk⟩:=k1 rfl;obtain⟨fq,HK,Ij⟩:=Hk.drop;exact kk H' G3 fq (Hc.trans (Hs.trans Ij)) HK
    ·cases e)
theorem w5(h:Sr X e C xe)(hs:swapsWith e none pos.line X.env=pure false:=by rfl):Ss X (.Expr e pos::cT) C xe:=wA h hs
end
noncomputable def fBodyJ(j np nn:Nat)(c:O)(g:FS)(p:Addr):List D->Res R
 |d0::ds=>if ds.length+1=np/\j<=ds.length then(g ((ds.take j).map (fun d=>some (O.f,d))++some (.pin p c,d0)::((ds.drop j).map (fun d=>some (O.f,d))++List.replicate nn none))).bind fun o=>match o with
  | .rt r=>.ok r
  |_=>.bad
  else .bad
 |[]=>.bad
inductive spJ(j:Nat)(K:W.Frag)(c:O)(F:Addr->List D->Res R)(vs:List V)(H:Hp)(Q:VK)(zz:XK):Prop
 |mk:∀va v vb,vs=va++v::vb->va.length=j->spM K c F (v::(va++vb)) H Q zz->spJ j K c F vs H Q zz
theorem qm{K:W.Frag}{G H:Hp}{es:PV.Env}{us:L2.St}{fp:List Addr}(h:RepE K G H es us fp):∀{ds:List D}{vs:List V},Reps K G ds vs->RepE K G H (ds.map (fun d=>some (O.f,d))++es) (vs.map some++us) fp
 |[],vs,r=>by
  rw[Reps]at r;subst r;exact h
 |d::ds,vs,r=>by
  rw[Reps]at r;obtain⟨y,ys,e,r1,r2⟩:=r;subst e;exact⟨some y,_,rfl,y,[],fp,rfl,rfl,fF.mpr ⟨r1,rfl⟩,qm h r2⟩
theorem k8{K:W.Frag}{G:Hp}:∀{j:Nat}{ds:List D}{va vb:List V},va.length=j->Reps K G ds (va++vb)->Reps K G (ds.take j) va/\Reps K G (ds.drop j) vb
 | 0,ds,[],vb,_,r=>⟨by rw[W0];exact .nil,r⟩
 |j+1,[],v::va,vb,_,r=>by
  rw[Reps]at r;cases r
 |j+1,d::ds,v::va,vb,hl,r=>by
  rw[UG,Reps]at r;obtain⟨y,ys,e,r1,r2⟩:=r;cases e;obtain⟨q1,q2⟩:=k8 (Nat.succ.inj hl) r2;exact⟨.cons r1 q1,q2⟩
theorem CD{P:Program}{w:World}{K:W.Frag}{mg:Str->Option Value}{base:Heap}{x:Str}{st:Stmt}{N ps:List Str}{j k:Nat}{c:O}{g:FS}(Df:Def K mg x st)(sc:FnScope N ps (defScope st))
  (hb:∀(kV doc pm:Value) (an:Option Addr) (Hf ct:Value) (us:List Value),us.length=ps.length->bindArgs (PySem.W.fnOf x x (dt st) (bU st) (defScope st) .none kV doc pm an Hf ct) ⟨us,[]⟩=pure (ps.zip us))
  (body:∀(f:Addr) (Hf:Value) (A:Around) (outer:List PySem.Env) (s:Shared) (H:Hp) (E:XK),Room k (A.deeper (envOfC x (defScope st) s.heap.objs.size f Hf))->K7 (md:=.mut) (qS Li P w K mg base N x (defScope st) f Hf A outer s H E).nox (bU st) g):
  Ct P w K mg base x (k+1) (spJ j K c (fBodyJ j ps.length (N.length-ps.length) c g)):=by
 obtain⟨f,fd,F,m⟩:=Df;refine⟨f,fd,ps,F.ok sc (fun vs H Q E h=>?_) (fun Hf A outer s H vs Q E hr h=>?_),m,F.kp,F.binds hb⟩
 ·obtain⟨va,v,vb,QA,QB,G,p,JP,d0,ds,r,Ln,_,ev,_,_,_,rs,e,_⟩:=h;cases ev;unfold fBodyJ at e;dsimp only at e;split at e
  ·rename_i hl;have:=rs.length;rw[Tq]at this;rw[QA,Tq,S5];lia
  ·cases e
 ·obtain⟨va,v,vb,QA,QB,G,p,JP,d0,ds,r,Ln,gh,ev,r0,nd,gn,rs,e,q⟩:=h;cases ev;unfold fBodyJ at e;dsimp only at e;split at e
  ·rename_i hl;have hlen:=rs.length;rw[Tq]at hlen;obtain⟨ra,rb⟩:=k8 QB rs;refine⟨_,body f Hf A outer s H E hr,G,(ds.take j).map (fun d=>some (O.f,d))++some (.pin p c,d0)::((ds.drop j).map (fun d=>some (O.f,d))++List.replicate (N.length-ps.length) none),Ln,⟨?_,nd,gn,gh⟩,?_⟩
   ·have z:=d7 (K:=K) (G:=G) (H:=H) (N.length-ps.length) rb;have z2:RepE K G H (some (.pin p c,d0)::((ds.drop j).map (fun d=>some (O.f,d))++List.replicate (N.length-ps.length) none)) (some (.ref p)::(vb.map some++List.replicate (N.length-ps.length) none)) Ln:=
     ⟨some (.ref p),_,rfl,.ref p,Ln,[],rfl,(Ta _).symm,by rw[RepO];exact⟨rfl,r0⟩,z⟩
    have z3:=qm z2 ra;unfold L2.hJ;have e1:vs.length=ps.length:=by rw[QA,Tq,S5];lia
    rw[e1,QA,Tb,S7,Tx,UG];exact z3
   ·obtain⟨o,eo,e⟩:=ai e;rw[eo];cases o with
    |rt r'=>
     cases e;exact fun v H' G' GS st rel=>q v H' G' GS st rel
    |nx env'=>cases e
    |bk env'=>cases e
    |ct env'=>cases e
  ·cases e
noncomputable def uD(j:Nat)(c:O)(F:Addr->List D->Res R)(i:Nat)(fs:FOs):FX:=fun env=>(fs env).bind fun p=>match p.1[j]? with
 |some (.var j')=>if j'=i then(match p.2[i]? with
  |some (some (ow,d0))=>if nQ c ow then(gD (p.2.set i none) (p.1.eraseIdx j)).bind fun ds=>(iT F c d0 ds).bind fun x=>if aM x.1.1 x.1.2&&aM c x.2 then .ok (x.1,(p.2.set i none).set i (some (ow,x.2))) else .ok (x.1,((p.2.set i none).map frz).set i (some (ow,x.2))) else .bad
  |_=>.bad) else .bad
 |_=>.bad
theorem k9{K:W.Frag}{G:Hp}{σ:L2.St}:∀{j:Nat}{os:List Opd}{vs:List V}{o:Opd},jO K G σ os vs->os[j]?=some o->∃va y vb,vs=va++y::vb/\va.length=j/\OpdOk K G σ o y/\jO K G σ (os.eraseIdx j) (va++vb)
 | 0,o'::os,_,o,⟨y,ys,e,k1,k2⟩,h=>by
  cases h;exact⟨[],y,ys,e,rfl,k1,k2⟩
 |j+1,o'::os,_,o,⟨y,ys,e,k1,k2⟩,h=>by
  obtain⟨va,z,vb,e2,hl,q1,q2⟩:=k9 (j:=j) k2 (by simpa using h);exact⟨y::va,z,vb,by rw[e,e2];rfl,by rw[S5,hl],q1,y,va++vb,rfl,k1,q2⟩
section
variable{X:Cx}{x:Str}{p pos:Pos}{e:Expr}{es:List Expr}{fs:FOs}
theorem Aa{F:Addr->List D->Res R}{c:O}{i j0 k:Nat}(C:Ct X.prog X.w X.K X.mg X.base x k (spJ j0 X.K c F))(hr:Room k X.A)(hg:Gl X x)(ha:KC X (e::es) fs)(Ie:(x==("__debug__" : Str))=false:=by decide)
  (he:starEach (e::es) X.env=(false,eval e X.env)::starEach es X.env:=by rfl) (Ic:(backTo pos (starEach es X.env)).any (·.1)=false:=by rfl):QE X (.Call (.Name x p) (e::es) [] pos) (uD j0 c F i fs):=
 a7 (yW C hr hg ha Ie he Ic) fun σ H Q G9=>by
  obtain⟨G,env,fp,r,env',rel,e,k⟩:=G9;obtain⟨⟨os,e1⟩,ha,e⟩:=ai e;dsimp only at e;split at e
  ·rename_i j K4;split at e
   ·rename_i hj;subst hj;split at e
    ·rename_i ow d0 hi;split at e
     ·rename_i how;obtain⟨ds,hd,e⟩:=ai e;obtain⟨z,hz,e⟩:=ai e;refine⟨G,env,fp,_,e1,rel,ha,fun vs H1 G1 Hi Hc GP Iw=>?_⟩;show spJ j0 X.K c F (vs++[]) H1 Q _;rw[Ta];obtain⟨va,y,vb,ey,QB,k1,k2⟩:=k9 Iw K4;refine⟨va,y,vb,ey,QB,?_⟩;obtain⟨v0,a,b,ev,r0,r2,pm⟩:=GP.rep.take hi;have k1:σ[j]?=some (some y):=k1;rw[k1]at ev;cases ev;obtain⟨⟨q,hq⟩,rc,back⟩:=yf how r0;subst hq;have nd:=Th.mp (pm.nodup_iff.mp GP.nd);have N1:Rel X.K G1 H1 (e1.set j none) σ b:=⟨r2,nd.2.1,fun w hw=>GP.gn w (pm.mem_iff.mpr (SS _ hw)),GP.gh⟩
      obtain⟨G2,LM,Mv,RD,Jd,Je⟩:=N1.lendM2 a (fun w hw hb=>nd.2.2 w hw w hb rfl) (fun w hw=>GP.gn w (pm.mem_iff.mpr (SW _ hw)));refine⟨G2,q,va++vb,d0,ds,_,a,Mv,rfl,rc.step LM (fun _ _=>rfl),nd.1,RD,fG LM Jd k2 hd,qh hz q,fun v H' G' GS st rt=>?_⟩;obtain⟨o',d',p',c',RC,er,rl⟩:=rt;cases er;have fin:∀(ee:PV.Env),ee.length=e1.length->(∃G3 Iz,Step G1 H1 (a++b) G3 H' Iz/\Rel X.K G3 H' (some z.1::some (.pin q c,z.2)::ee) (some v::some (.ref q)::σ) Iz)->(z.1,ee.set j (some (ow,z.2)))=(r,env')->Q v H':=by
       rintro ee RE ⟨G3,Iz,Hs,Hk⟩ RF;cases RF;obtain⟨a1,b1,ef,ro,HL,comb⟩:=Rel.frame Hk;have N3:Rel X.K G3 H' (some (ow,z.2)::ee) (some (.ref q)::σ) b1:=by
        obtain⟨y2,ys2,N4,v2,a2,b2,PD,RG,PF,RH⟩:=HL.rep;cases N4;cases PD;rw[RepO]at PF;exact⟨⟨_,_,rfl,_,a2,b2,rfl,RG,back _ _ _ _ PF.2,RH⟩,HL.nd,HL.gn,HL.gh⟩
       obtain⟨fq,N5,RI⟩:=N3.back (i:=j) (by rw[RE];exact(List.getElem?_eq_some_iff.mp hi).1) k1;obtain⟨N6,PH⟩:=comb G3 H' _ _ fq RI N5;rw[<-ef]at PH;exact k v H' G3 _ (Hc.trans ((Hs.perm (fun w=>pm.mem_iff.symm) (fun w hw=>hw)).trans PH)) N6
      obtain⟨b1,b2⟩:=Je H' G' GS _ _ st rl;split at e
      ·rename_i JO;rw[SY]at JO;have e:=Res.ok.inj e;refine fin (e1.set j none) (by rw[Tz]) (b1 fun w hw=>?_) e;rcases S3.mp hw with hw|hw
       ·cases hw;exact JO.1
       ·rw[Te]at hw;cases hw;simp only[aM];exact JO.2
      ·have e:=Res.ok.inj e;exact fin ((e1.set j none).map frz) (by rw[SO,Tz]) b2 e
     ·cases e
    ·cases e
   ·cases e
  ·cases e
end
section
variable{X:Cx}{x:Str}{p pos:Pos}{e:Expr}{es:List Expr}{f0:FX}{fs:FOs}
end
end PV
namespace NX
open PySem PySem.Spec PyProof.Rows L2
noncomputable def PQ(o:Obj)(n:Nat)(a:Addr):It:=
 ⟨fun i H=>∃kvs k v,H a=some (.frz o (.dK kvs))/\kvs.length=n/\kvs[i]?=some (k,v),
  fun i H x H'=>H'=H/\∀kvs k v,H a=some (.frz o (.dK kvs))->kvs[i]?=some (k,v)->x=kV k,
  fun i H=>∃kvs,H a=some (.frz o (.dK kvs))/\kvs.length=n/\kvs.length<=i⟩
theorem uE{P:Program}{w:World}{K:W.Frag}{tg:Expr}(o:Obj)(es:Array DictEntry)(ep n:Nat)(a it:Addr)(hd:o.data=.dict es ep):
  Turn P w K tg (PQ o n a) [it] it (fun i h=>h.IsKeyIter it a i n ep) where
 mem:=by simp
 obj:=fun i h st b hb=>by
  have e:b=it:=by simpa using hb
  subst e;obtain⟨o,e,c,d⟩:=st;exact⟨o,e,fun v z=>by rw[d]at z;cases z⟩
 keep:=fun i h h' st k=>by
  obtain⟨o,e,c,d⟩:=st;exact⟨o,k it (by simp) o e,c,d⟩
 item:=by
  intro X hP hw hK hc i pr s σ H E I hf st hg;subst hP hw hK;obtain⟨kvs,k,v,ha,hn,hx⟩:=hg;obtain⟨ho,vs,r,hm⟩:=qi I hd ha;have hl:vs.length=n:=by rw[<-hn];exact r.length.symm
  subst hl;obtain⟨u,hu,ru⟩:=Cu r hx;obtain⟨f0,f1,f2,f3,f4,f5⟩:=hf it (by simp);refine wpAny_pyNext_dict_item st hm hu fun key h' IX Jl sb=>?_
  have I1:Inv X pr σ H {s with heap:=h'}:=I.turned (t':=s.toks) (fun b o hb e=>(sb.2 b hb).trans e) f0 f1 f3 f4 f5;obtain⟨o',e,c,d⟩:=id Jl;exact⟨key,rfl,si (s:={s with heap:=h'}) e c d (by decide) ⟨kV k,H,I1,Cs IX,⟨rfl,fun kvs' k' v' h1 h2=>by
   rw[ha]at h1;cases h1;rw[hx]at h2;cases h2;rfl⟩,Jl,fun b hb=>(hf b hb).1⟩⟩
 done:=by
  intro X hP hw hK hc i pr s σ H E I hf st hg;subst hP hw hK;obtain⟨kvs,ha,hn,hi⟩:=hg;obtain⟨ho,vs,r,hm⟩:=qi I hd ha;have hl:vs.length=n:=by rw[<-hn];exact r.length.symm
  subst hl;obtain⟨f0,f1,f2,f3,f4,f5⟩:=hf it (by simp);exact wpAny_pyNext_dict_end (I.ok.hd hc) st hm (List.getElem?_eq_none (by lia)) fun h' eb=>⟨rfl,I.turned (t':=s.toks) (fun b o hb e=>eb b o hb e) f0 f1 f3 f4 f5⟩
 self:=fun _ _ _ _ _ st h=>wpAny_pyIter_keyiter st h
def Gj(td:TE):TI:=fun σ H R=>td σ H fun v H1=>∃a o kvs,v=.ref a/\H1 a=some (.frz o (.dK kvs))/\R (PQ o kvs.length a) H1
theorem Ab{X:Cx}{l tg:Expr}{td:TE}(hl:PE X l td):PI X tg l (Gj td):=by
 intro pr s σ H R I h;refine He (hl pr s σ H _ I h) fun v s1 Hh=>?_
 obtain⟨x,H1,I1,r1,a,o,kvs,ex,ha,q⟩:=Hh;subst ex;cases r1;obtain⟨ho,z,nm,vs,r,o',Kb,Ny,g1,ex,dat,cT⟩:=(show ObjOk X.prog X.w H1 s1.heap a (.frz o (.dK kvs)) from I1.hok a _ ha)
 have e:=g1.symm.trans ho;cases e;have K8:s1.heap.DictAt (mixKind X.prog X.w) a vs Ny:=⟨_,Kb,g1,ex,dat,cT⟩
 refine wpAny_pyIter_dict nm K8 ?_;refine⟨s1.heap.objs.size,[s1.heap.objs.size],_,PQ _ kvs.length a,H1,rfl,I1.kept (t':=s1.toks) fun b o e=>Heap.get?_push_of_some _ e,uE _ Kb Ny kvs.length a _ dat,⟨_,Heap.get?_push_size _ rfl,rfl,?_⟩,fun b hb=>?_,q⟩
 ·rw[r.length];rfl
 ·have e:b=s1.heap.objs.size:=by simpa using hb
  subst e;exact I1.fpOk (SV _) (I1.hok.fresh (SV _))
theorem gy{X:Cx}{pr:List (Addr×Obj)}{σ:L2.St}{H:Hp}{s:Shared}{a:Addr}{o:Obj}{kvs:List (Key×V)}(I:Inv X pr σ H s)(ha:H a=some (.frz o (.dK kvs)))(h0:∀q u,X.H₀ a≠some (.frz q u)):Inv X pr σ (upd H a (.dK kvs)) s:=by
 have ok:=(show ObjOk X.prog X.w H s.heap a (.frz o (.dK kvs)) from I.hok a _ ha)
 have nn:∀c,H c=none->c≠a:=fun c e z=>by rw[z,ha]at e;cases e
 have nt:∀c xs,H c=some (.tup xs)->c≠a:=fun c xs e z=>by rw[z,ha]at e;cases e
 have nb:∀c ps,H c=some (.tbl ps)->c≠a:=fun c ps e z=>by rw[z,ha]at e;cases e
 have no:∀c b,H c=some (.own b)->c≠a:=fun c b e z=>by rw[z,ha]at e;cases e
 have nf:∀c,H c=none->upd H a (.dK kvs) c=none:=fun c e=>by rw[az (nn c e)];exact e
 refine⟨I.ok,I.os,I.bare,⟨I.base.keep,I.base.slot,fun b q e n x=>nf b (I.base.free b q e n x),I.base.there,fun b xs e=>?_,fun b q u e=>?_,fun b ps e=>?_⟩,I.loc,I.cell,nf _ I.free,fun x c e=>nf _ (I.freeC x c e),fun p hp=>?_,fun c ob e=>?_,I.len⟩
 ·have h:=I.base.tups b xs e;rw[az (nt b xs h)];exact h
 ·have:b≠a:=fun z=>h0 q u (z▸e)
  rw[az this];exact I.base.frzs b q u e
 ·obtain⟨m,h⟩:=I.base.tbls b ps e;exact⟨m,by rw[az (nb b _ h)];exact h⟩
 ·obtain⟨h1,h2,h3⟩:=I.pin p hp;exact⟨h1,nf _ h2,h3⟩
 ·by_cases ec:c=a
  ·subst ec;rw[aP]at e;cases e;exact(show ObjOk X.prog X.w H s.heap c (.dK kvs) from ok.2).stay (fun _ _ _ q=>q) (fun d q=>by rw[az (no d _ q)];exact q) fun d l q=>by rw[az (nt d l q)];exact q
  ·rw[az ec]at e;exact(I.hok c ob e).stay (fun _ _ _ q=>q) (fun d q=>by rw[az (no d _ q)];exact q) fun d l q=>by rw[az (nt d l q)];exact q
noncomputable def PR(a:Addr)(o:Obj)(kvs:List (Key×V))(D:Ends):Ends:=
 ⟨fun σ H=>H a=some (.frz o (.dK kvs))/\D.nx σ (upd H a (.dK kvs)),fun v H=>H a=some (.frz o (.dK kvs))/\D.rt v (upd H a (.dK kvs)),fun σ H=>H a=some (.frz o (.dK kvs))/\D.bk σ (upd H a (.dK kvs)),fun σ H=>H a=some (.frz o (.dK kvs))/\D.ct σ (upd H a (.dK kvs))⟩
def EK(t:TS):TS:=fun D σ H=>∃a kvs,H a=some (.dK kvs)/\∀o,t (PR a o kvs D) σ (upd H a (.frz o (.dK kvs)))
theorem Ac{X:Cx}{st:Stmt}{t:TS}(h:PS X st t):PS X st (EK t):=by
 rintro pr s σ H D I ⟨a,kvs,ha,k⟩;obtain⟨z,nm,vs,r,o,es,ep,g1,cT⟩:=(show ObjOk X.prog X.w H s.heap a (.dK kvs) from I.hok a _ ha)
 have h0:∀q u,X.H₀ a≠some (.frz q u):=fun q u e=>by
  have:=I.base.frzs a q u e;rw[ha]at this;cases this
 refine He (h pr s σ _ _ (wW I ha g1) (k o)) fun f s' sp=>?_
 cases f with
 |next=>obtain⟨σ',H',I',e,q⟩:=sp;exact⟨σ',_,gy I' e h0,q⟩
 |brk=>obtain⟨σ',H',I',e,q⟩:=sp;exact⟨σ',_,gy I' e h0,q⟩
 |cont=>obtain⟨σ',H',I',e,q⟩:=sp;exact⟨σ',_,gy I' e h0,q⟩
 |ret u=>obtain⟨v,σ',H',I',rv,e,q⟩:=sp;exact⟨v,σ',_,gy I' e h0,rv,q⟩
end NX
namespace PV
open PySem PySem.Spec PyProof.Rows L2 NX
section
variable{K:W.Frag}{G H:Hp}{es:PV.Env}{vs:L2.St}{fp:List Addr}
theorem Rel.asD{i:Nat}{p:Addr}{d:D}(q:Rel K G H es vs fp)(e:es[i]?=some (some (.pin p .d,d))):vs[i]?=some (some (.ref p))/\∃fq,Rel K G H (es.set i (some (.d,d))) vs fq/\Step G H fp G H fq:=by
 obtain⟨v,fq,ev,g,st,Jl⟩:=q.out e;obtain⟨y,ys,e0,v',a,b,e1,e2,r1,r2⟩:=g.rep;cases e0;cases e1;rw[RepO]at r1;obtain⟨ep,r1⟩:=r1;subst ep;have g2:Rel K G H (some (.d,d)::es.set i none) (some (.ref p)::vs) fq:=⟨⟨_,_,rfl,_,a,b,rfl,e2,r1,r2⟩,g.nd,g.gn,g.gh⟩
 obtain⟨fz,g3,Hs⟩:=g2.back (i:=i) (by rw[Tz];exact(List.getElem?_eq_some_iff.mp e).1) ev;rw[UM]at g3;exact⟨ev,fz,g3,st.trans Hs⟩
theorem Rel.asP{i:Nat}{p:Addr}{d:D}(q:Rel K G H es vs fp)(e:es[i]?=some (some (.d,d)))(hv:vs[i]?=some (some (.ref p))):∃fq,Rel K G H (es.set i (some (.pin p .d,d))) vs fq/\Step G H fp G H fq:=by
 obtain⟨v,fq,ev,g,st,Jl⟩:=q.out e;rw[hv]at ev;cases ev;obtain⟨y,ys,e0,v',a,b,e1,e2,r1,r2⟩:=g.rep;cases e0;cases e1;have g2:Rel K G H (some (.pin p .d,d)::es.set i none) (some (.ref p)::vs) fq:=⟨⟨_,_,rfl,_,a,b,rfl,e2,by rw[RepO];exact⟨rfl,r1⟩,r2⟩,g.nd,g.gn,g.gh⟩
 obtain⟨fz,g3,Hs⟩:=g2.back (i:=i) (by rw[Tz];exact(List.getElem?_eq_some_iff.mp e).1) hv;rw[UM]at g3;exact⟨fz,g3,st.trans Hs⟩
theorem Rel.chgP{i:Nat}{pp:Addr}{tk:Bool}{ks ws:List D}(q:Rel K G H es vs fp)(e:es[i]?=some (some (.pin pp .d,.dct tk ks ws))):∃p xs u,vs[i]?=some (some (.ref p))/\H p=some u/\DictO u tk ks xs/\Reps K G ws xs/\
  ∀u' IM IJ LK,DictO u' tk IM IJ->Reps K G LK IJ->∃fq,Rel K G (upd H p u') (es.set i (some (.pin pp .d,.dct tk IM LK))) vs fq/\Step G H fp G (upd H p u') fq:=by
 have hi:i<es.length:=(List.getElem?_eq_some_iff.mp e).1;obtain⟨hv,fa,qa,sa⟩:=q.asD e;obtain⟨p,xs,u,ev,hp,dd,rs,cg⟩:=qa.chgD (i:=i) (by rw[List.getElem?_set_self hi]);rw[hv]at ev;cases ev;refine⟨pp,xs,u,hv,hp,dd,rs,fun u' IM IJ LK d' r'=>?_⟩;obtain⟨fb,qb,sb⟩:=cg u' IM IJ LK d' r';rw[UM]at qb;obtain⟨fc,qc,sc⟩:=qb.asP (i:=i) (by rw[List.getElem?_set_self hi]) hv;rw[UM]at qc;exact⟨fc,qc,sa.trans (sb.trans sc)⟩
end
noncomputable def sPutP(i:Nat)(fk fv:FX):FS:=fun env=>(fv env).bind fun p=>(fk p.2).bind fun q=>match p.2[i]?,q.2[i]? with
 |some (some _),some (some (.pin pp .d,.dct tk ks vs))=>if dP tk q.1.2&&decide (ks.length<sizeLine) then .ok (.nx (q.2.set i (some (.pin pp .d,.dct tk (o5 ks vs q.1.2 p.1.2).1 (o5 ks vs q.1.2 p.1.2).2)))) else .bad
 |_,_=>.bad
section
variable{md:Mode}{X:Cx}
theorem Ad{i:Nat}{o ix value:Expr}{fk fv:FX}{pos pos':Pos}(hu:X.A.units+1<cLine)(ho:PE X o (pG i))(hi:QE X ix fk)(hv:QE X value fv)(hs:swapsWith value (some (.Subscript o ix pos')) pos.line X.env=pure false:=by rfl):
  QS (md:=md) X (.Assign [.Subscript o ix pos'] value pos) (sPutP i fk fv):=dF (zg hu ho hi hv hs) fun Dd σ H G9=>by
 obtain⟨G,env,fp,rel,k⟩:=G9;unfold sPutP at k;match q1:fv env,k with
 | .ok (r1,GN),k=>
  have k:OutOk X.K G H fp Dd ((fk GN).bind fun q=>match GN[i]?,q.2[i]? with
   |some (some _),some (some (.pin pp .d,.dct tk ks vs))=>if dP tk q.1.2&&decide (ks.length<sizeLine) then .ok (.nx (q.2.set i (some (.pin pp .d,.dct tk (o5 ks vs q.1.2 r1.2).1 (o5 ks vs q.1.2 r1.2).2)))) else .bad
   |_,_=>.bad):=k
  match q2:fk GN,k with
  | .ok (r2,GY),k=>
   have k:OutOk X.K G H fp Dd (match GN[i]?,GY[i]? with
    |some (some _),some (some (.pin pp .d,.dct tk ks vs))=>if dP tk r2.2&&decide (ks.length<sizeLine) then .ok (.nx (GY.set i (some (.pin pp .d,.dct tk (o5 ks vs r2.2 r1.2).1 (o5 ks vs r2.2 r1.2).2)))) else .bad
    |_,_=>.bad):=k
   split at k
   ·rename_i rr pp tk ks ws h1 h2;split at k
    ·rename_i hc;rw[SY,S9]at hc;refine⟨G,env,fp,r1,GN,rel,q1,fun y H1 G1 Hi Hc GP=>?_⟩;obtain⟨G2,b,ry,GO,GW⟩:=GP.freeze;obtain⟨v0,OS,_⟩:=GO.view h1;refine⟨v0,OS,G2,GN,b,r2,GY,GO,q2,fun z H3 G3 Iz Hs Hk=>?_⟩;obtain⟨G4,b4,rz,HK,Ij⟩:=Hk.freeze;obtain⟨p,xs,u,ep,hp,dd,rs,cg⟩:=HK.chgP h2;rw[OS]at ep;cases ep;have Qz:Rep X.K G4 r1.2 y:=Rep.mono (Hs.gg.trans Ij.gg) ry;cases tk with
     |true=>
      obtain⟨kvs,eu,ek,ex,KI⟩:=dd;subst eu;subst ex;have hk:=hc.1;unfold dP at hk;rw[S1 rfl,T7]at hk;obtain⟨kk,hk⟩:=hk;obtain⟨pz,ez,gz,dz⟩:=cF hk rz;subst ez;obtain⟨t1,t2⟩:=nK (K:=X.K) (G:=G4) kT yb (k:=kk) rs Qz;have ek:ks=kvs.map fun kv=>kT kv.1:=ek
      rw[<-ek,<-dz]at t1 t2;have hfk:∀key∈kk,rh key:=by
       cases hd:r2.2 with
       |tup ds=>
        rw[hd]at hk rz;obtain⟨_,IJ,_,_,Ju⟩:=tL rz;exact um hk Ju
       |_=>rw[hd]at hk;cases hk
      obtain⟨fq,IQ,Jx⟩:=cg (.dT (jq kvs kk y)) _ _ _ ⟨jq kvs kk y,rfl,t1.symm,rfl,p8 (P:=fun ks=>∀k∈ks,rh k) KI hfk⟩ t2;have hlen:kvs.length<sizeLine:=by have:=hc.2;rw[ek,SO]at this;exact this
      exact⟨p,_,rfl,DPut.t hp (HK.gh _ _ gz) hlen,k _ _ G4 fq (Hc.trans (GW.trans (Hs.trans (Ij.trans Jx)))) IQ⟩
     |false=>
      obtain⟨kvs,eu,ek,ex,KI⟩:=dd;subst eu;subst ex;have hk:=hc.1;unfold dP at hk;rw[S4 SX,T7]at hk;obtain⟨kk,hk⟩:=hk;obtain⟨ez,dz⟩:=gw hk rz;subst ez;obtain⟨t1,t2⟩:=nK (K:=X.K) (G:=G4) kD ug (k:=kk) rs Qz;rw[<-ek,<-dz]at t1 t2;obtain⟨fq,IQ,Jx⟩:=cg (.dK (jq kvs kk y)) _ _ _ ⟨jq kvs kk y,rfl,t1.symm,rfl,p8 (P:=rh) KI (uk hk rz)⟩ t2;have hlen:kvs.length<sizeLine:=by have:=hc.2;rw[ek,SO]at this;exact this
      exact⟨p,_,rfl,DPut.k hp hlen,k _ _ G4 fq (Hc.trans (GW.trans (Hs.trans (Ij.trans Jx)))) IQ⟩
    ·exact k.elim
   ·exact k.elim
end
def cleanE(i:Nat)(env:PV.Env):Bool:=(env.set i none).all fun r=>match r with
 |some r=>aM r.1 r.2
 |none=>true
def w6(i:Nat)(p:Addr)(env:PV.Env):Bool:=match env[i]? with
 |some (some (.pin q .f,_))=>decide (q=p)
 |_=>false
noncomputable def rF(i:Nat)(p:Addr)(d:D):Out->Res Out
 | .nx env=>if w6 i p env&&cleanE i env then .ok (.nx (env.set i (some (.pin p .d,d)))) else .bad
 | .rt (.t [o,.pin q .f],.tup [r,_])=>if decide (q=p)&&aM o r then .ok (.rt (.t [o,.pin p .d],.tup [r,d])) else .bad
 |_=>.bad
def Ae(i:Nat)(a:FG)(g:FS):FS:=fun env=>match env[i]? with
 |some (some (.pin p .d,.dct false ks vs))=>(dW a g ks (env.set i (some (.pin p .f,.dct false ks vs)))).bind (rF i p (.dct false ks vs))
 |_=>.bad
def off(G:Hp)(p:Addr):Hp:=fun z=>if z=p then none else G z
theorem nW{K:W.Frag}{G H G' H':Hp}{fp Hi GS:List Addr}{p:Addr}{kvs:List (Key×V)}{o:Obj}{es:PV.Env}{σ:L2.St}{i:Nat}{d':D}{vs:List D}(gp:G p=none)(pf:p∈fp)(f1:∀z∈Hi,z∈fp)
  (st:Step (upd G p (.frz o (.dK kvs))) (upd H p (.frz o (.dK kvs))) Hi G' H' GS) (rel:Rel K G' H' es σ GS) (hi:es[i]?=some (some (.pin p .f,d'))) (cl:cleanE i es=true) (hf:∀kv∈kvs,rh kv.1) (rs:Reps K G vs (kvs.map (·.2))):
  H' p=some (.frz o (.dK kvs))/\∃G2 fz,Step G H fp G2 (upd H' p (.dK kvs)) fz/\Rel K G2 (upd H' p (.dK kvs)) (es.set i (some (.pin p .d,.dct false (kvs.map fun kv=>kD kv.1) vs))) σ fz:=by
 have RJ:G' p=some (.frz o (.dK kvs)):=st.gg p _ aP;refine⟨rel.gh p _ RJ,?_⟩;obtain⟨v,fq,ev,g,Hc,_⟩:=rel.out hi;have GW:=st.trans Hc;obtain⟨y,ys,e0,v',a,b,e1,e2,r1,r2⟩:=g.rep;cases e0;cases e1;rw[RepO]at r1;obtain⟨ep,r1⟩:=r1;obtain⟨_,ea⟩:=fF.mp r1;subst ea;subst ep;have e2:fq=b:=e2;subst e2;have np:∀z∈fq,z≠p:=fun z hz e=>by
  have:=g.gn z hz;rw[e,RJ]at this;cases this
 have RK:(off G' p) p=none:=S1 rfl;have PU:∀z,z≠p->(off G' p) z=G' z:=fun z h=>S4 h
 have gg:Same G (off G' p):=fun z u e=>by
  have hz:z≠p:=fun h=>by rw[h,gp]at e;cases e
  rw[PU z hz];exact st.gg z u (by rw[az hz];exact e)
 have rc:RepE K (off G' p) H' (es.set i none) σ fq:=by
  refine RepE.clean (fun z u t e=>?_) (fun r hr=>?_) r2
  ·have hz:z≠p:=fun h=>by rw[h,RJ]at e;cases e;cases t
   rw[PU z hz];exact e
  ·have:=Ti.mp cl _ hr;exact this
 have GO:Rel K (off G' p) (upd H' p (.dK kvs)) (some (.pin p .d,.dct false (kvs.map fun kv=>kD kv.1) vs)::es.set i none) (some (.ref p)::σ) (p::fq):=by
  refine⟨⟨some (.ref p),σ,rfl,.ref p,[p],fq,rfl,rfl,?_,rc.step (.refl _) fun z hz=>az (np z hz)⟩,Tt.mpr ⟨fun h=>np p h rfl,g.nd⟩,fun z hz=>?_,fun z u e=>?_⟩
  ·rw[RepO];refine⟨rfl,?_⟩;rw[RepO];exact⟨p,kvs.map (·.2),.dK kvs,rfl,aP,⟨kvs,rfl,rfl,rfl,hf⟩,rfl,Reps.mono gg rs⟩
  ·rcases S3.mp hz with h|h
   ·rw[h];exact RK
   ·rw[PU z (np z h)];exact g.gn z h
  ·by_cases hz:z=p
   ·rw[hz,RK]at e;cases e
   ·rw[PU z hz]at e;rw[az hz];exact rel.gh z u e
 have stp:Step G H fp (off G' p) (upd H' p (.dK kvs)) (p::fq):=by
  refine⟨gg,fun z u e n=>?_,fun z hz=>?_,fun z u e=>?_,fun z u e=>?_⟩
  ·have hz:z≠p:=fun h=>n (h▸pf)
   rw[az hz];exact GW.keep z u (by rw[az hz];exact e) fun h=>n (f1 z h)
  ·rcases S3.mp hz with h|h
   ·exact .inl (h▸pf)
   ·rcases GW.fpn z h with h2|h2
    ·exact .inl (f1 z h2)
    ·rw[az (np z h)]at h2;exact .inr h2
  ·by_cases hz:z=p
   ·rw[hz,RK]at e;cases e
   ·rw[PU z hz]at e;rcases GW.gnew z u e with h|h|h|⟨t,h⟩
    ·rw[az hz]at h;exact .inl h
    ·exact .inr (.inl (f1 z h))
    ·rw[az hz]at h;exact .inr (.inr (.inl h))
    ·rw[az hz]at h;exact .inr (.inr (.inr ⟨t,h⟩))
  ·by_cases hz:z=p
   ·exact⟨_,by rw[hz,aP]⟩
   ·obtain⟨u',h⟩:=GW.there z u (by rw[az hz];exact e);exact⟨u',by rw[az hz];exact h⟩
 obtain⟨fz,g3,Hs⟩:=GO.back (i:=i) (by rw[Tz];exact(List.getElem?_eq_some_iff.mp hi).1) ev;rw[UM]at g3;exact⟨_,fz,stp.trans Hs,g3⟩
theorem w9{K:W.Frag}{G H:Hp}{fp f1 b0:List Addr}{p:Addr}{kvs:List (Key×V)}{o:Obj}{i:Nat}{vs:List D}{D0:Ends}{r:Res Out}(gp:G p=none)(QC:Step G H fp G H (p::b0))(QD:∀z∈f1,z∈p::b0)(hf:∀kv∈kvs,rh kv.1)(rs:Reps K G vs (kvs.map (·.2)))
  (k:OutOk (md:=.mut) K G H fp D0 (r.bind (rF i p (.dct false (kvs.map fun kv=>kD kv.1) vs)))):OutOk (md:=.mut) K (upd G p (.frz o (.dK kvs))) (upd H p (.frz o (.dK kvs))) f1 (PR p o kvs D0) r:=by
 cases r with
 |bad=>exact k
 |exc c=>exact k
 |ok out=>
  have k:OutOk (md:=.mut) K G H fp D0 (rF i p (.dct false (kvs.map fun kv=>kD kv.1) vs) out):=k;unfold rF at k;split at k
  ·rename_i e';split at k
   ·rename_i JO;rw[SY]at JO;obtain⟨h1,h2⟩:=JO;unfold w6 at h1;split at h1
    ·rename_i q' d' hq';rw[S9]at h1;subst h1;intro σ' H' G' GS st rl;obtain⟨z,G2,fz,GW,RL⟩:=nW (G:=G) (H:=H) (fp:=q'::b0) gp SN QD st rl hq' h2 hf rs;exact⟨z,k σ' _ G2 fz (QC.trans GW) RL⟩
    ·cases h1
   ·exact k.elim
  ·rename_i o' q' r d0 _;split at k
   ·rename_i JO;rw[SY,S9]at JO;obtain⟨h1,h2⟩:=JO;subst h1;rintro v H' G' GS st ⟨o2,d2,p2,c2,d02,er,rl⟩;cases er;obtain⟨z,G2,fz,GW,RL⟩:=nW (G:=G) (H:=H) (fp:=q'::b0) (i:=1) gp SN QD st rl rfl (by show(List.all [some (o',r),none] _)=true;simp only[U9,List.all_nil,h2,Ul]) hf rs;exact⟨z,k v _ G2 fz (QC.trans GW) ⟨_,_,_,_,_,rfl,RL⟩⟩
   ·exact k.elim
  ·exact k.elim
theorem uF{K:W.Frag}{G:Hp}{a:Addr}{o:Obj}{kvs:List (Key×V)}(h:G a=some (.frz o (.dK kvs)))(hf:∀kv∈kvs,rh kv.1):Walk K G (PQ o kvs.length a) (kvs.map fun kv=>kD kv.1):=by
 intro G' H' es vs fp gg rel i;have h':H' a=some (.frz o (.dK kvs)):=rel.gh _ _ (gg _ _ h);refine⟨fun d hd=>?_,fun e=>⟨kvs,h',rfl,by rw[SO]at e;lia⟩⟩;rw[List.getElem?_map]at hd;cases hk:kvs[i]? with
 |none=>rw[hk]at hd;cases hd
 |some kv=>
  rw[hk]at hd;cases hd;refine⟨⟨kvs,kv.1,kv.2,h',rfl,hk⟩,fun y H2 ⟨e,hy⟩=>?_⟩;subst e;have:=hy kvs kv.1 kv.2 h' hk;subst this;exact⟨G',uf (hf _ (Ts hk)),rel,.refl⟩
section
variable{X:Cx}
theorem Af{i:Nat}{tg iter:Expr}{body:List Stmt}{a:FG}{g:FS}{pos:Pos}(hp:PassesOwn (model X.prog X.w) X.A X.env X.xe)(hc:X.calm=true)(hn:PE X iter (pG i))(hg:QG X tg a)(hb:K7 (md:=.mut) X body g)(hs:∀x,foldedSetIterable iter X.env x=pure x:=by intro _;rfl):
  QS (md:=.mut) X (.For tg iter body [] pos) (Ae i a g):=
 dF (Ac (xO hp hc (Ab hn) hg hb hs)) fun D0 σ H G9=>by
  obtain⟨G,env,fp,rel,k⟩:=G9;unfold Ae at k;split at k
  ·rename_i p ks vs hi;obtain⟨v,fq,ev,g1,QC,_⟩:=rel.out hi;obtain⟨y,ys,e0,v',a0,b0,e1,e2,r1,r2⟩:=g1.rep;cases e0;cases e1;rw[RepO]at r1;obtain⟨ep,r1⟩:=r1;subst ep;rw[RepO]at r1;obtain⟨p',xs,o0,ev1,hH,dd,ea,rs⟩:=r1;cases ev1;subst ea;subst e2;obtain⟨kvs,eo,ek,ex,hf⟩:=(show ∃kvs:List (Key×V),o0=.dK kvs/\ks=kvs.map (fun kv=>kD kv.1)/\xs=kvs.map (·.2)/\∀kv∈kvs,rh kv.1 from dd)
   subst eo ex ek;have nd:=Tt.mp (show(p::b0).Nodup from g1.nd);have gp:G p=none:=g1.gn p SN;have Su:∀z∈b0,z≠p:=fun z hz e=>nd.1 (e▸hz)
   refine⟨p,kvs,hH,fun o=>?_⟩;have Sv:Same G (upd G p (.frz o (.dK kvs))):=fun z u e=>by rw[az (aU e gp)];exact e
   have relA:Rel X.K (upd G p (.frz o (.dK kvs))) (upd H p (.frz o (.dK kvs))) (some (.pin p .f,.dct false (kvs.map fun kv=>kD kv.1) vs)::env.set i none) (some (.ref p)::σ) b0:=by
    refine⟨⟨_,_,rfl,.ref p,[],b0,rfl,rfl,?_,r2.step Sv fun z hz=>az (Su z hz)⟩,nd.2,fun z hz=>?_,fun z u e=>?_⟩
    ·rw[RepO];refine⟨rfl,fF.mpr ⟨?_,rfl⟩⟩;rw[Rep];exact⟨p,kvs.map (·.2),.dK kvs,rfl,.inr ⟨o,aP⟩,⟨kvs,rfl,rfl,rfl,hf⟩,Reps.mono Sv rs⟩
    ·rw[az (Su z hz)];exact g1.gn z (SU _ hz)
    ·by_cases hz:z=p
     ·subst hz;rw[aP]at e ⊢;exact e
     ·rw[az hz]at e ⊢;exact g1.gh z u e
   obtain⟨f1,GP,Hc⟩:=relA.back (i:=i) (by rw[Tz];exact(List.getElem?_eq_some_iff.mp hi).1) ev;rw[UM]at GP;have QD:∀z∈f1,z∈p::b0:=fun z hz=>by
    rcases Hc.fpn z hz with h|h
    ·exact SU _ h
    ·exfalso;obtain⟨u,hu⟩:=GP.rep.live z hz;rw[h]at hu;cases hu
   refine⟨.ref p,ev,p,o,kvs,rfl,aP,?_⟩;have k1:=w9 (o:=o) (G:=G) (H:=H) (fp:=fp) gp QC QD hf rs k;have wk:Walk X.K (upd G p (.frz o (.dK kvs))) (PQ o kvs.length p) (kvs.map fun kv=>kD kv.1):=uF aP hf;generalize (kvs.map fun kv=>kD kv.1)=ds at k1 wk GP;refine⟨fun j m σ' H'=>m=ds.length-j/\j<=ds.length/\∃G' env' GS,Same (upd G p (.frz o (.dK kvs))) G'/\Rel X.K G' H' env' σ' GS/\OutOk (md:=.mut) X.K G' H' GS (PR p o kvs D0) (dW a g (ds.drop j) env'),⟨_,rfl,Tw _,_,_,f1,.refl _,GP,k1⟩,?_⟩;rintro j m σ2 H2 ⟨rfl,hj,G2,GY,Hv,gg,GO,k2⟩;obtain⟨w1,w2⟩:=wk G2 H2 _ _ _ gg GO j;by_cases HC:j<ds.length
   ·have hd:ds[j]?=some ds[j]:=List.getElem?_eq_getElem HC;obtain⟨go,yl⟩:=w1 _ hd;rw[Vd HC]at k2;refine .inr ⟨go,fun σ' H'=>∃G' env' GS,Same (upd G p (.frz o (.dK kvs))) G'/\Rel X.K G' H' env' σ' GS/\OutOk (md:=.mut) X.K G' H' GS (PR p o kvs D0) (dW a g (ds.drop (j+1)) env'),fun σ' H' z=>⟨ds.length-(j+1),by lia,rfl,HC,z⟩,fun x H3 y=>?_⟩;obtain⟨G3,rx,Hk,Hs⟩:=yl x H3 y;unfold dW at k2;match q3:a ds[j] GY,k2 with
    | .ok HE,k2=>
     refine⟨G3,GY,Hv,ds[j],HE,Hk,rx,q3,fun σ4 G4 NT Ij HK=>⟨G4,HE,NT,HK,?_⟩⟩;have k3:OutOk (md:=.mut) X.K G2 H2 Hv (PR p o kvs D0) ((g HE).bind fun o=>match o with | .nx e=>dW a g (ds.drop (j+1)) e | .ct e=>dW a g (ds.drop (j+1)) e | .bk e=>.ok (.nx e) | .rt r=>.ok (.rt r)):=k2;match q4:g HE,k3 with
     | .ok (.nx e),k3=>exact fun σ' H' G' GS st rel=>⟨G',e,GS,gg.trans (Hs.gg.trans (Ij.gg.trans st.gg)),rel,OutOk.after (Hs.trans (Ij.trans st)) k3⟩
     | .ok (.ct e),k3=>exact fun σ' H' G' GS st rel=>⟨G',e,GS,gg.trans (Hs.gg.trans (Ij.gg.trans st.gg)),rel,OutOk.after (Hs.trans (Ij.trans st)) k3⟩
     | .ok (.bk e),k3=>exact fun σ' H' G' GS st rel=>k3 σ' H' G' GS (Hs.trans (Ij.trans st)) rel
     | .ok (.rt r),k3=>exact fun v H' G' GS st rel=>k3 v H' G' GS (Hs.trans (Ij.trans st)) rel
   ·have e:j=ds.length:=by lia
    subst e;rw[Wt]at k2;exact .inl ⟨w2 rfl,k2 σ2 H2 G2 Hv .refl GO⟩
  ·exact k.elim
end
end PV
namespace NX
open PySem PySem.Spec PyProof.Rows L2
section
variable{X:Cx}
end
end NX
namespace PV
open PySem PySem.Spec PyProof.Rows L2 NX
section
variable{X:Cx}
end
inductive Ext:Hp->Hp->Prop
 |refl {H:Hp}:Ext H H
 |new {H H1:Hp}{p:Addr}{xs:List V}:Ext H H1->H1 p=none->Ext H (upd H1 p (.tup xs))
theorem Ext.trans{H H1 H2:Hp}(a:Ext H H1)(b:Ext H1 H2):Ext H H2:=by
 induction b with
 |refl=>exact a
 |new _ hp ih=>exact .new ih hp
theorem Ext.rel{K:W.Frag}{G H H':Hp}{env:PV.Env}{σ:L2.St}{fp:List Addr}(e:Ext H H')(r:Rel K G H env σ fp):∃G',Rel K G' H' env σ fp/\Step G H fp G' H' fp:=by
 induction e with
 |refl=>exact⟨G,r,.refl⟩
 |new _ hp ih=>
  obtain⟨G1,r1,s1⟩:=ih;obtain⟨r2,s2⟩:=r1.newF hp;exact⟨_,r2,s1.trans s2⟩
inductive BExp where
 |con (b:Bool)|var (j:Nat)|not (x:BExp)|and (x y:BExp)
abbrev Kn:=List (Nat×Bool)
def N8(kn:Kn):BExp->Option Bool
 | .con b=>some b
 | .var j=>kn.lookup j
 | .not x=>(N8 kn x).map (!·)
 | .and x y=>(N8 kn x).bind fun b=>if b=true then N8 kn y else some false
def CF(kn:Kn)(σ:L2.St):Prop:=∀j b,kn.lookup j=some b->σ[j]?=some (some (.bl b))
inductive tBE(i:Nat)(a:Addr)(x:BExp)(σ:L2.St)(H:Hp)(Q:VK):Prop
 |mk:∀kn b,σ[i]?=some (some (.ref a))->CF kn σ->N8 kn x=some b->(∀H',Ext H H'->Q (.bl b) H')->tBE i a x σ H Q
def BE(X:Cx)(e:Expr)(i:Nat)(a:Addr)(x:BExp):Prop:=PE X e (tBE i a x)
section
variable{X:Cx}{a:Addr}{o:Obj}{i:Nat}{e b:Expr}{cT:List Expr}{x y:BExp}{pos p q:Pos}{n:Str}
theorem yg(h:BE X e i a x)(h2:BE X (.BoolOp .And (b::cT) pos) i a y):BE X (.BoolOp .And (e::b::cT) pos) i a (.and x y):=a7 (Bi h h2) fun σ H Q G9=>by
 obtain⟨kn,c,hi,hk,ev,k⟩:=G9;unfold N8 at ev;obtain⟨b1,e1,ev⟩:=TH.mp ev;refine⟨kn,b1,hi,hk,e1,fun H1 x1=>⟨b1,rfl,?_⟩⟩;cases b1 with
 |true=>exact DJ ⟨kn,c,hi,hk,by rwa [S1 rfl]at ev,fun H2 x2=>k H2 (x1.trans x2)⟩
 |false=>
  rw[S4 SX]at ev;cases ev;exact iteF (k H1 x1)
theorem CG{op}(h:BE X e i a x):BE X (.BoolOp op [e] pos) i a x:=Bh h
theorem CI(h:BE X e i a x):BE X (.UnaryOp .Not e pos) i a (.not x):=a7 (Bj h) fun σ H Q G9=>by
 obtain⟨kn,c,hi,hk,ev,k⟩:=G9;unfold N8 at ev;obtain⟨b1,e1,ev⟩:=Tg.mp ev;subst ev;exact⟨kn,b1,hi,hk,e1,fun H1 x1=>⟨b1,rfl,k H1 x1⟩⟩
theorem CJ{j:Nat}(h:PE X e (pG j)):BE X e i a (.var j):=a7 h fun σ H Q ⟨kn,c,hi,hk,ev,k⟩=>⟨.bl c,hk j c ev,k H .refl⟩
theorem uG:∀{cs:List Addr}{GQ:List Value},Vals (cs.map V.ref) GQ->GQ=cs.map Value.ref
 |[],_,.nil=>rfl
 |c::cs,_,.cons h r=>by rw[S7,uG r,show _=Value.ref c from h]
theorem l8{C:Addr}{vs:Array Value}(hp:(a,o)∈X.pn)(hc:o.cls=.ref C)(hv:o.data=.fields vs)(k:Asks X.K C):c6 X (.builtin "isinstance") (fun xs H Q=>
  (∃c b,xs=[.ref a,.ref c]/\PySem.W.kitOne X.K (.ref C) (.ref c)=some b/\Q (.bl b) H)\/(∃T b,xs=[.ref a,.ty T]/\PySem.W.kitOne X.K (.ref C) (.type T)=some b/\Q (.bl b) H)\/
  ∃(tp:Addr) (cs:List Addr) (b:Bool),xs=[.ref a,.ref tp]/\H tp=some (.tup (cs.map V.ref))/\PySem.W.kitAny X.K (.ref C) (cs.map Value.ref)=some b/\Q (.bl b) H):=by
 intro pr s σ H xs us Q I r h;obtain⟨pa,_⟩:=I.pin (a,o) (SW _ hp);have ex:ExAt a C s.heap:=⟨o,vs,pa,hc,hv⟩
 have fin:∀b,Q (.bl b) H->∀tk,EP X pr σ Q (.bool b) {s with toks:=tk}:=fun b q tk=>⟨.bl b,H,I.tok tk,rfl,q⟩
 rcases h with⟨c,b,rfl,e,q⟩|⟨T,b,rfl,e,q⟩|⟨tp,cs,b,rfl,ht,e,q⟩
 ·obtain⟨u,w',rfl,r1,r2⟩:=sI r;cases(show u=Value.ref a from r1);cases(show w'=Value.ref c from r2);exact PySem.W.kia_one (oW k) I.kIn ex e (fun z=>nomatch z) (fin b q)
 ·obtain⟨u,w',rfl,r1,r2⟩:=sI r;cases(show u=Value.ref a from r1);cases(show w'=Value.type T from r2);exact PySem.W.kia_one (oW k) I.kIn ex e (fun z=>nomatch z) (fin b q)
 ·obtain⟨u,w',rfl,r1,r2⟩:=sI r;cases(show u=Value.ref a from r1);cases(show w'=Value.ref tp from r2);obtain⟨_,GQ,rv,ot,e1,e2,⟨n,e3⟩,_⟩:=I.hok tp _ ht;cases uG rv;obtain⟨c',d',da',RY⟩:=ot;dsimp only at e2 e3;subst e2;subst e3;exact PySem.W.kia_tup (oW k) I.kIn ex e1 e (fun z=>nomatch z) (fin b q)
variable{C:Addr}{vs:Array Value}
theorem EL{x:Str}{c:Addr}{b:Bool}(hp:(a,o)∈X.pn)(hc:o.cls=.ref C)(hv:o.data=.fields vs)(k:Asks X.K C)(he:PE X e (pG i))(hg:Gl X "isinstance")(hm:X.mg "isinstance" = none)(RM:Gl X x)(RN:X.mg x=some (.ref c))(hb:PySem.W.kitOne X.K (.ref C) (.ref c)=some b)(Ie:(x==("__debug__" : Str))=false:=by decide)
  (hs:starEach [e,.Name x q] X.env=(false,eval e X.env)::starEach [.Name x q] X.env:=by rfl) (PY:starEach [.Name x q] X.env=(false,eval (.Name x q) X.env)::starEach [] X.env:=by rfl) (Ic:(backTo pos (starEach [.Name x q] X.env)).any (·.1)=false:=by rfl):
  BE X (.Call (.Name "isinstance" p) [e,.Name x q] [] pos) i a (.con b):=
 a7 (jy (l8 hp hc hv k) hg hm eF (cU he (cU (sd (v:=.ref c) RM RN rfl Ie) i4 PY) hs) (by decide) (by decide) hs Ic) fun σ H Q G9=>by
  obtain⟨kn,c',hi,hk,ev,kk⟩:=G9;cases ev;exact⟨.ref a,hi,.inl ⟨c,b,rfl,hb,kk H .refl⟩⟩
theorem CK{x:Str}{T:String}{b:Bool}(hp:(a,o)∈X.pn)(hc:o.cls=.ref C)(hv:o.data=.fields vs)(k:Asks X.K C)(he:PE X e (pG i))(hg:Gl X "isinstance")(hm:X.mg "isinstance" = none)(RM:Gl X x)(RN:X.mg x=none)(hv2:bootBuiltins x=some (.type T))(hb:PySem.W.kitOne X.K (.ref C) (.type T)=some b)(hn:x≠"__name__":=by decide)(Ie:(x==("__debug__" : Str))=false:=by decide)
  (hs:starEach [e,.Name x q] X.env=(false,eval e X.env)::starEach [.Name x q] X.env:=by rfl) (PY:starEach [.Name x q] X.env=(false,eval (.Name x q) X.env)::starEach [] X.env:=by rfl) (Ic:(backTo pos (starEach [.Name x q] X.env)).any (·.1)=false:=by rfl):
  BE X (.Call (.Name "isinstance" p) [e,.Name x q] [] pos) i a (.con b):=
 a7 (jy (l8 hp hc hv k) hg hm eF (cU he (cU (yC (v:=.ty T) RM RN hv2 rfl hn Ie) i4 PY) hs) (by decide) (by decide) hs Ic) fun σ H Q G9=>by
  obtain⟨kn,c',hi,hk,ev,kk⟩:=G9;cases ev;exact⟨.ref a,hi,.inr (.inl ⟨T,b,rfl,hb,kk H .refl⟩)⟩
def xa(cs:List Addr):TA:=fun _ H Q=>Q (cs.map V.ref) H
theorem CL{es:List Expr}{cs:List Addr}{b:Bool}{kt}{Kc:Pos}(hp:(a,o)∈X.pn)(hc:o.cls=.ref C)(hv:o.data=.fields vs)(k:Asks X.K C)(he:PE X e (pG i))(hg:Gl X "isinstance")(hm:X.mg "isinstance" = none)(hes:PA X es (xa cs))(hl:cs.length<=100)(hb:PySem.W.kitAny X.K (.ref C) (cs.map Value.ref)=some b)
  (hs:starEach [e,.Tuple es kt Kc] X.env=(false,eval e X.env)::starEach [.Tuple es kt Kc] X.env:=by rfl) (PY:starEach [.Tuple es kt Kc] X.env=(false,eval (.Tuple es kt Kc) X.env)::starEach [] X.env:=by rfl) (Ic:(backTo pos (starEach [.Tuple es kt Kc] X.env)).any (·.1)=false:=by rfl):
  BE X (.Call (.Name "isinstance" p) [e,.Tuple es kt Kc] [] pos) i a (.con b):=
 a7 (jy (l8 hp hc hv k) hg hm eF (cU he (cU (sJ hes) i4 PY) hs) (by decide) (by decide) hs Ic) fun σ H Q G9=>by
  obtain⟨kn,c',hi,hk,ev,kk⟩:=G9;cases ev;exact⟨.ref a,hi,by rw[SO,line_eq];lia,fun tp Rp=>.inr (.inr ⟨tp,cs,b,rfl,aP,hb,kk _ (.new .refl Rp)⟩)⟩
theorem CM:PA X [] (xa []):=kU i4 fun _ _ _ h=>h
theorem g5{x:Str}{c:Addr}{es:List Expr}{cs:List Addr}(hg:Gl X x)(hm:X.mg x=some (.ref c))(h:PA X es (xa cs))(Ie:(x==("__debug__" : Str))=false:=by decide)(hs:starEach (.Name x q::es) X.env=(false,eval (.Name x q) X.env)::starEach es X.env:=by rfl):PA X (.Name x q::es) (xa (c::cs)):=
 kU (cU (sd (v:=.ref c) hg hm rfl Ie) h hs) fun _ _ _ h=>h
def DN:List (Nat×BExp)->Kn->Option (List (Nat×Bool))
 |[],_=>some []
 |(j,x)::L,kn=>(N8 kn x).bind fun b=>(DN L ((j,b)::kn)).map fun r=>(j,b)::r
def Fs(r:List (Nat×Bool))(σ:L2.St):L2.St:=r.foldl (fun σ z=>σ.set z.1 (some (.bl z.2))) σ
inductive tSu(i:Nat)(a:Addr)(L:List (Nat×BExp))(D:Ends)(σ:L2.St)(H:Hp):Prop
 |mk:∀kn r,σ[i]?=some (some (.ref a))->CF kn σ->DN L kn=some r->(∀H',Ext H H'->D.nx (Fs r σ) H')->tSu i a L D σ H
def BS(X:Cx)(st:List Stmt)(i:Nat)(a:Addr)(L:List (Nat×BExp)):Prop:=PSs X st (tSu i a L)
theorem CN:BS X [] i a []:=oY sf fun D σ H G9=>by
 obtain⟨kn,r,hi,hk,e,k⟩:=G9;cases e;exact k H .refl
theorem yh{j:Nat}{pos':Pos}{L:List (Nat×BExp)}{Nr:List Stmt}(hN:X.N.Nodup)(hj:X.N[j]?=some n)(hx:Loc X.env.scope n)(he:BE X e i a x)(h:BS X Nr i a L)(Lx:i≠j)(hs:swapsWith e (some (.Name n pos')) pos.line X.env=pure false:=by rfl)(hf:X.fn n=true\/X.env.scope.names.lookup n=some .local:=by first|exact .inl rfl|exact .inr rfl|assumption):
  BS X (.Assign [.Name n pos'] e pos::Nr) i a ((j,x)::L):=fun pr s σ H D I G9=>by
 obtain⟨kn,r,hi,hk,e,k⟩:=G9;unfold DN at e;obtain⟨b,e1,e⟩:=TH.mp e;obtain⟨r',e2,e⟩:=Tg.mp e;subst e;have hl:j<σ.length:=by rw[I.len];exact(List.getElem?_eq_some_iff.mp hj).1
 refine pH (xN (i:=j) hN hj hx he hs hf) h pr s σ H D I ⟨kn,b,hi,hk,e1,fun H1 x1=>⟨(j,b)::kn,r',by rw[List.getElem?_set_ne (Ui Lx)];exact hi,fun j' b' z=>?_,e2,fun H2 x2=>k H2 (x1.trans x2)⟩⟩;by_cases hjj:j'=j
 ·subst hjj;rw[List.lookup_cons_self]at z;cases z;exact List.getElem?_set_self hl
 ·rw[TV,show(j'==j)=false from T4.mpr hjj]at z;rw[List.getElem?_set_ne (Ui hjj)];exact hk j' b' z
end
def setB(r:List (Nat×Bool))(env:PV.Env):PV.Env:=r.foldl (fun env z=>env.set z.1 (some (.f,.bl z.2))) env
def qo(i:Nat)(x:N7)(g:FS)(r:List (Nat×Bool)):FS:=fun env=>match x env with
 |some e=>match e[i]? with
  |some none=>if(r.all fun z=>decide (z.1<e.length) && !(z.1==i))=true then .ok (.nx (setB r e)) else .bad
  |_=>.bad
 |none=>g env
theorem qp{K:W.Frag}{G H:Hp}{i:Nat}:∀(r:List (Nat×Bool)) {env:PV.Env}{σ:L2.St}{fp:List Addr},Rel K G H env σ fp->env[i]?=some none->(∀z∈r,z.1<env.length/\z.1≠i)->∃GS,Rel K G H (setB r env) (Fs r σ) GS/\Step G H fp G H GS/\(setB r env)[i]?=some none
 |[],_,_,fp,rel,hi,_=>⟨fp,rel,.refl,hi⟩
 |z::r,env,σ,fp,rel,hi,h=>by
  obtain⟨h1,h2⟩:=h z SN;obtain⟨fq,GO,GW⟩:=(rel.push (cy z.2)).store h1;obtain⟨GS,Hk,Hs,h3⟩:=qp r GO (by rw[List.getElem?_set_ne h2];exact hi) fun y hy=>by
   rw[Tz];exact h y (SU _ hy)
  exact⟨GS,Hk,GW.trans Hs,h3⟩
section
variable{md:Mode}{X:Cx}{x:Str}{pos:Pos}{C:Addr}{xe:N7}
theorem xb{body Kg:List Stmt}{b0:Stmt}{np Mt:Pos}{g:FS}{n:Str}{i:Nat}{L:List (Nat×BExp)}{r:List (Nat×Bool)}(O:NN X.mg X.base x C)(hg:Gl X x)(hn:K7 (md:=md) X.nox body g)(hx:Ss X body C xe)
  (hh:∀a o vs,o.cls=.ref C->o.data=.fields vs->BS (asX X a o) (b0::Kg) i a L) (hL:DN L []=some r) (hN:X.N.Nodup) (hi:X.N[i]?=some n) (hl:X.env.kindOf n=some .local) (Qv:X.env.scope.names.lookup n=some .local)
  (hs:X.stack=X.env::X.outer:=by rfl) (hf:X.env.frame=some X.env.locals:=by rfl) (Ie:(x==("__debug__" : Str))=false:=by decide):
  QS (md:=md) X (.Try body [.ExceptHandler (some (.Name x np)) (some n) (b0::Kg) Mt] [] [] pos) (qo i xe g r):=dF (wH (t:=tQS (md:=md) X.K g) (th:=fun a=>tSu i a L) (tx:=tQX X.K xe) O hg hn hx (fun a o vs h1 h2=>hh a o vs h1 h2) hN hi hl Qv hs hf Ie) fun D σ H G9=>by
 obtain⟨G,env,fp,rel,kk⟩:=G9;unfold qo at kk;cases q:xe env with
 |none=>
  rw[q]at kk;exact .inl ⟨G,env,fp,rel,kk⟩
 |some e=>
  rw[q]at kk;dsimp only at kk;split at kk
  ·rename_i c1;split at kk;case isFalse=>exact kk.elim
   rename_i c2;refine .inr ⟨G,env,fp,e,rel,q,fun H' G' GS st Hq a=>?_⟩;have hlen:=Hq.rep.length;have Po:i<e.length:=(List.getElem?_eq_some_iff.mp c1).1;refine⟨[],r,List.getElem?_set_self (by lia),(fun j b z=>by cases z),hL,fun H2 x2=>?_⟩;obtain⟨G2,GO,GW⟩:=x2.rel (Hq.any (y:=some (.ref a)) (.inl c1));obtain⟨fq,Hk,Hs,h3⟩:=qp (i:=i) r GO c1 fun z hz=>by
    have:=Ti.mp c2 z hz;rw[SY,S9]at this;exact⟨this.1,by simpa using this.2⟩
   exact kk _ H2 G2 fq (st.trans (GW.trans Hs)) (Hk.any (y:=none) (.inl h3))
  ·exact kk.elim
end
def sortedT:List D->Res R
 |[.tup ds]=>if ds.length<64 then match eB ds with
  |some l=>.ok (.l .f,.lst ((bP JZ l).map D.str))
  |none=>.bad
  else .bad
 |_=>.bad
theorem lb{X:Cx}(hc:X.calm=true):c6 X (.builtin "sorted") (rC X.K sortedT):=by
 rintro pr s σ H xs us Q I rx ⟨G,fp,es,vs,ds,r,⟨rel,k⟩,vd,e⟩;unfold sortedT at e;split at e
 ·rename_i ds;split at e
  ·rename_i Kz;split at e
   ·rename_i ls hls;cases e;obtain⟨v,ev,p,ys,ep,sq,rs⟩:=mH vd;subst ev;subst ep;obtain⟨hy,hz⟩:=eQ hls rs;subst hy;have hlen:ls.length<64:=by have:=rs.length;rw[SO]at this;lia
    refine nj hc pr s σ H _ us Q I rx ⟨p,ls,rfl,SqT.of (rel.gh _ _ sq),hlen,fun q ms hq pm sm=>?_⟩;have em:=fL l5 pm (Rz (fun a b h=>by unfold JZ;rw[TF];exact h) sm);obtain⟨GO,GW⟩:=rel.newL hq (dI (K:=X.K) (G:=G) (f:=D.str) (g:=fun l=>V.str (S l)) (l:=ms) fun a ha=>fH (hz a (pm.mem_iff.mp ha)));rw[<-em]at k;exact k _ _ G _ GW GO
   ·cases e
  ·cases e
 ·cases e
end PV
namespace LW
open PySem L2 NX PV
abbrev xc(f:FX):FI:=IC (B3 f) (IC (gU f) (gW f))
def j7:FS:=(fg (aD c5 (aq (aF (.int 1))) (aq (zJ (dy (xc (aD Hj (av 0) (aq (aF (.int 1))))) [none,none,none] (lS 3 (aS (aG 0) (aS (aG 1) (aS (aG 2) fA)))) gH (bo maxD (ag (av 0) (ag (av 2) aE)))) (aF (.int 0))))))
def b6:List D->Res R:=fBody 1 0 j7
def nX:FS:=(fg (dy (xc (aD Hj (av 0) (aq (aF (.int 1))))) [none,none,none,some 1,some 2] (lS 3 (aS (aG 0) (aS (aG 1) (aS (aG 2) fA)))) (rW (HA (bI Js (av 0) (av 3))) (HA (bI Js (av 1) (av 4)))) (aH 2)))
def eC:List D->Res R:=fBody 3 0 nX
def fP:FS:=(fg (bo df (ag (aq (dy (xc (aD Hj (av 0) (aq (aF (.int 1))))) [none] (aG 0) gH (aD Hj (av 0) (aq (aF (.int 0)))))) aE)))
def bH:List D->Res R:=fBody 1 0 fP
noncomputable def qq:FS:=(sSeq (cx 3 (Cp nN (aq (aD Hj (av 0) (aq (aF (.int 0))))) (ag (av 2) aE)))
  (fg (bo B9 (ag (aq (dy (rE (ag (aq (aH 1)) (ag (aq (aD Hj (av 0) (aq (aF (.int 1))))) aE))) [none,none,some 3] (lS 2 (aS (aG 0) (aS (aG 1) fA))) gH (aD Pq (av 0) (aq (aD Hj (aq (aD Hj (av 1) (aq (aF (.int 1))))) (av 2)))))) aE))))
def gA:List D->Res R:=fBody 3 1 qq
noncomputable def uH:FS:=(sSeq (Jr (AY (HA (dD gA (ag (av 0) (ag (av 1) (ag (av 2) aE))))))
  (fg (aF .non))
  dn)
  (sSeq (cx 3 (Cp nN (aq (aD Hj (av 0) (aq (aF (.int 0))))) (ag (av 2) aE)))
  (fg (bo df (ag (aq (dy (rE (ag (aq (aH 1)) (ag (aq (aD Hj (av 0) (aq (aF (.int 1))))) aE))) [none,none,some 3] (lS 2 (aS (aG 0) (aS (aG 1) fA))) gH (aD c5 (aq (aD wM (av 0) (aq (aD Hj (aq (aD Hj (av 1) (aq (aF (.int 1))))) (av 2))))) (aq (aD Hj (aq (aD Hj (av 1) (aq (aF (.int 2))))) (av 2)))))) aE)))))
def iU:List D->Res R:=fBody 3 1 uH
noncomputable def dA:FS:=(Jr (rW (HA (bI Ks (av 4) (av 1))) (HA (bI Js (aq (aD Hj (aq (aD Lm (av 0) (av 4))) (aq (aF (.int 0))))) (av 2))))
  (j6 0 (fK (aA (aF (.str [111,110,101])) (aA (aD Hj (aq (aD Lm (av 0) (av 4))) (aq (aF (.int 1)))) (aA (aH 3) bj)))))
  dn)
def il:FS:=(Ae 0 (aG 4)
  dA)
noncomputable def nY:FS:=(sSeq (Jr (HA (bI uw (av 1) (av 0)))
  (sPutP 0 (aH 1) (fK (aA (aH 2) (aA (aH 3) bj))))
  (Jr (HA (bI Ks (aq (aD Hj (aq (aD Lm (av 0) (av 1))) (aq (aF (.int 0))))) (av 2)))
  (j6 0 (fK (aA (aF (.str [116,119,111])) (aA (aD Hj (aq (aD Lm (av 0) (av 1))) (aq (aF (.int 1)))) (aA (aH 3) bj)))))
  dn))
  (j6 0 (aF .non)))
def yi:FS:=(sSeq il
  nY)
def j8:Addr->List D->Res R:=k7 4 1 (.d) yi
def b7:FS:=(sSeq (cx 10 (eFunW (.d) j8 2 (ag (av 2) (ag (av 9) (ag (av 7) (ag (aq (aD c5 (av 5) (aq (fK (aA (aH 6) bj))))) aE))))))
  (Jr (HA (bI isnO (av 10) (aq (aF .non))))
  (j6 2 (aH 10))
  dn))
def eS:FS:=(tR (xc (aH 8)) (aG 9)
  b7)
noncomputable def b8:FS:=(sSeq (cx 7 (dD iU (ag (av 1) (ag (av 4) (ag (av 6) aE)))))
  (sSeq (cx 8 (dD eC (ag (av 0) (ag (av 3) (ag (av 6) aE)))))
  (sSeq (Jr (rW (HA (bI NU (av 7) (aq (aF .non)))) (HA (aD Pm (aq (bo jt (ag (av 8) aE))) (aq (aF (.int 0))))))
  (j6 2 (fK (aA (aF (.str [115,116,117,99,107])) (aA (aH 5) (aA (aH 6) bj)))))
  dn)
  (sSeq (Jr (rW (HA (bI isnO (av 7) (aq (aF .non)))) (HA (bI Js (aq (bo jt (ag (av 8) aE))) (aq (aF (.int 0))))))
  (j6 2 (fK (aA (aF (.str [102,114,101,101])) (aA (aH 5) (aA (aH 6) bj)))))
  dn)
  eS))))
def g6:FS:=(tR (xc (aD Hj (av 0) (aq (aF (.int 0))))) (aG 6)
  b8)
def je:FS:=(j6 2 (aF .non))
def nZ:FS:=(sSeq (cx 4 (aD Hj (aq (aD Lm (av 2) (av 3))) (aq (aF (.int 0)))))
  (sSeq (cx 5 (aD Hj (aq (aD Lm (av 2) (av 3))) (aq (aF (.int 1)))))
  (sSeq g6
  je)))
def dg:Addr->List D->Res R:=fBodyJ 2 4 7 (.d) nZ
noncomputable def eD:FS:=(sSeq (cx 4 (uD 2 (.d) dg 2 (ag (av 0) (ag (av 1) (ag (av 2) (ag (aq (aD Hj (aq (bo ux (ag (av 2) aE))) (av 3))) aE))))))
  (sSeq (Jr (HA (bI isnO (av 4) (aq (aF .non))))
  (fg (lQ 4))
  dn)
  (cx 3 (aD c5 (av 3) (aq (aF (.int 1)))))))
def l9:FS:=(c9 (HA (aD KJ (av 3) (aq (bo jt (ag (av 2) aE)))))
  eD 100000)
def og:FS:=(fg (fK (aA (aF (.str [115,97,109,101])) (aA (dy (dv (aq (dD b6 (ag (av 0) aE)))) [none,some 2] (aG 0) gH (aD Hj (aq (aD Lm (av 1) (av 0))) (aq (aF (.int 0))))) bj))))
noncomputable def yj:FS:=(sSeq (Jr (HA (bI Ks (aq (aD Hj (av 0) (aq (aF (.int 0))))) (aq (aD Hj (av 1) (aq (aF (.int 0)))))))
  x4
  dn)
  (sSeq (cx 2 (uv (aF (.int 0)) (fK (aA (dD bH (ag (av 1) aE)) (aA (fK bj) bj)))))
  (sSeq (cx 3 (aF (.int 0)))
  (sSeq l9
  og))))
def iq:List D->Res R:=fBody 2 3 yj
noncomputable def lg:List D->Bool:=wZ 2 3 (PN (HA (bI Ks (aq (aD Hj (av 0) (aq (aF (.int 0))))) (aq (aD Hj (av 1) (aq (aF (.int 0))))))) (uC (ag (aq (aF (.str [116,104,101,32,99,104,97,114,116,32,97,110,100,32,116,104,101,32,110,101,116,32,104,97,118,101,32,110,111,116,32,116,104,101,32,115,97,109,101,32,109,111,118,101,115]))) aE)))
def gJ:FS:=(sSeq (Jr (HA (aD KJ (av 1) (aq (bo jt (ag (av 0) aE)))))
  (fg (aD Hj (av 0) (av 1)))
  dn)
  (fg (aF (.int 0))))
def aw:List D->Res R:=fBody 2 0 gJ
noncomputable def jg:FS:=(sSeq (cx 2 (aD c5 (aq (aD gE (av 0) (aq (aF (.int 2147483647))))) (aq (aD l7 (aq (aF (.int 48271))) (aq (aD c5 (av 1) (aq (aF (.int 1)))))))))
  (sSeq (cx 2 (aD gE (aq (aD c5 (aq (aD l7 (av 2) (av 2))) (aq (aD l7 (aq (aF (.int 69621))) (av 1))))) (aq (aF (.int 2147483647)))))
  (fg (aD gE (aq (aD c5 (aq (aD c5 (aq (aD l7 (av 2) (av 2))) (aq (aD l7 (aq (aF (.int 16807))) (av 1))))) (aq (aF (.int 1))))) (aq (aF (.int 2147483647)))))))
def aR:List D->Res R:=fBody 2 1 jg
noncomputable def cP:FS:=(sSeq (cx 7 (zT (av 2) rA (jR (aH 3))))
  (sSeq (wU 7 (aH 4) (aD gE (aq (aD c5 (aq (aD Hj (av 7) (av 4))) (av 6))) (aq (aF (.int 26)))))
  (sSeq (Jr (HA (bI Js (aq (aD gE (aq (aD fB (av 0) (aq (aF (.int 64))))) (aq (aF (.int 4))))) (aq (aF (.int 1)))))
  (cx 7 (zT (av 2) rA (jR (aD c5 (av 6) (aq (aF (.int 1)))))))
  dn)
  (jr (tV 5 (EC uz (aq (aF (.str []))) (ag (aq (dy (IC (iS 7) (IC (gU (aH 7)) (gW (aH 7)))) [none,some 1] (aG 0) gH (aD Hj (av 1) (av 0)))) aE)))))))
def gK:FS:=(tR (dv (aq (aF (.int 5)))) (aG 6)
  cP)
def fQ:FS:=(sSeq (Jr (HA (bI My (aq (aF (.str [109,111,118,101,115]))) (av 5)))
  (cx 5 (dy (IC (iS 5) (IC (gU (aH 5)) (gW (aH 5)))) [none] (aG 0) gH (aD c5 (aq (aF (.str [115]))) (av 0))))
  dn)
  (fg (bo fM (ag (av 5) aE))))
noncomputable def jh:FS:=(sSeq (cx 1 (aF (.str [97,98,99,100,101,102,103,104,105,106,107,108,109,110,111,112,113,114,115,116,117,118,119,120,121,122])))
  (sSeq (cx 2 (dy (dv (aq (aF (.int 8)))) [none,some 0] (aG 0) gH (aD gE (aq (dD aR (ag (av 1) (ag (av 0) aE)))) (aq (aF (.int 26))))))
  (sSeq (cx 3 (aD c5 (aq (aF (.int 1))) (aq (aD gE (av 0) (aq (aF (.int 8)))))))
  (sSeq (cx 4 (aD gE (aq (aD fB (av 0) (aq (aF (.int 8))))) (av 3)))
  (sSeq (cx 5 (o4 bj))
  (sSeq gK
  fQ))))))
def bJ:List D->Res R:=fBody 1 7 jh
noncomputable def cz:FS:=(sSeq (Jr (HA (aD KJ (av 5) (aq (aD Hj (aq (aD Hj (av 6) (aq (aF (.int 1))))) (av 3)))))
  (fg (aF .non))
  dn)
  (jr (tV 4 (aD c5 (aq (aD wM (av 5) (aq (aD Hj (aq (aD Hj (av 6) (aq (aF (.int 1))))) (av 3))))) (aq (aD Hj (aq (aD Hj (av 6) (aq (aF (.int 2))))) (av 3)))))))
def eT:FS:=(tR (rE (ag (aq (aH 1)) (ag (aq (aD Hj (av 0) (aq (aF (.int 1))))) aE))) (lS 2 (aS (aG 5) (aS (aG 6) fA)))
  cz)
def gL:FS:=(fg (bo df (ag (av 4) aE)))
def j9:FS:=(sSeq (cx 3 (Cp nN (aq (aD Hj (av 0) (aq (aF (.int 0))))) (ag (av 2) aE)))
  (sSeq (cx 4 (o4 bj))
  (sSeq eT
  gL)))
def cG:List D->Res R:=fBody 3 4 j9
noncomputable def bL:FS:=(sSeq (cx 6 (dD cG (ag (av 0) (ag (aq (aD Hj (av 2) (av 4))) (ag (av 5) aE)))))
  (Jr (HA (bI isnO (av 6) (aq (aF .non))))
  (sSeq (Jr (HA (bI uw (av 6) (av 2)))
  (sSeq (Jr (HA (bI Js (aq (bo jt (ag (av 2) aE))) (av 1)))
  (fg (aF .non))
  dn)
  (jr (tV 2 (aH 6))))
  dn)
  (jr (tV 3 (fK (aA (aH 4) (aA (aH 5) (aA (EH pb (av 2) (ag (av 6) aE)) bj)))))))
  dn))
def fR:FS:=(tR (xc (aD Hj (av 0) (aq (aF (.int 0))))) (aG 5)
  bL)
def ir:FS:=(cx 4 (aD c5 (av 4) (aq (aF (.int 1)))))
def cp:FS:=(sSeq fR
  ir)
def dM:FS:=(c9 (HA (aD KJ (av 4) (aq (bo jt (ag (av 2) aE)))))
  cp 100000)
def iu:FS:=(fg (fK (aA (bo fM (ag (av 3) aE)) (aA (aH 2) bj))))
noncomputable def lh:FS:=(sSeq (cx 2 (o4 (aA (bo df (ag (aq (dy (xc (aD Hj (av 0) (aq (aF (.int 1))))) [none,none,none] (lS 3 (aS (aG 0) (aS (aG 1) (aS (aG 2) fA)))) gH (aH 0))) aE)) bj)))
  (sSeq (cx 3 (o4 bj))
  (sSeq (cx 4 (aF (.int 0)))
  (sSeq dM
  iu))))
def br:List D->Res R:=fBody 2 5 lh
def dQ:FS:=(cx 3 (dD aR (ag (aq (aD c5 (av 4) (av 3))) (ag (av 2) aE))))
def iw:FS:=(tR (xc (EI (av 0) (jR (aD c5 (av 1) (av 2))) (jR (aD c5 (av 1) (aq (aF (.int 84))))) (jR (aF (.int 6))))) (aG 4)
  dQ)
def gM:FS:=(fg (lQ 3))
def ka:FS:=(sSeq (cx 3 (aD c5 (aq (aF (.int 7))) (av 2)))
  (sSeq iw
  gM))
def cX:List D->Res R:=fBody 3 2 ka
noncomputable def dB:FS:=(sSeq (cx 5 (dD aR (ag (av 0) (ag (av 4) aE))))
  (sSeq (cx 6 (aD wM (aq (aD gE (av 5) (aq (aF (.int 5))))) (aq (aF (.int 2)))))
  (sSeq (cx 7 (aD fB (aq (aD gE (aq (aD fB (av 5) (aq (aF (.int 8))))) (aq (aF (.int 4))))) (aq (aF (.int 3)))))
  (sSeq (jr (tV 2 (aD c5 (aq (bo maxD (ag (aq (aF (.int 0))) (ag (aq (aD wM (aq (aF (.int 0))) (av 6))) aE)))) (av 7))))
  (jr (tV 3 (aD c5 (aq (bo maxD (ag (aq (aF (.int 0))) (ag (av 6) aE)))) (av 7))))))))
def gN:FS:=(tR (dv (av 1)) (aG 4)
  dB)
def fS:FS:=(fg (z7 (aD gE (aq (aD fB (av 0) (aq (aF (.int 16))))) (aq (aF (.int 4)))) (lQ 2) (lQ 3)))
def ji:FS:=(sSeq (cx 2 (o4 bj))
  (sSeq (cx 3 (o4 bj))
  (sSeq gN
  fS)))
def cJ:List D->Res R:=fBody 2 6 ji
noncomputable def iy:FS:=(sSeq (cx 2 (aD c5 (aq (aF (.int 1))) (aq (aD gE (av 1) (aq (aD rX (aq (aF (.int 10))) (aq (aF (.int 50)))))))))
  (sSeq (Cj (aH 0) (lS 3 (aS (aG 3) (aS (aG 4) (aS (aG 5) fA)))))
  (sSeq (cx 4 (bo df (ag (aq (dy (IC (iS 4) (IC (gU (aH 4)) (gW (aH 4)))) [none,some 2] (aG 0) gH (aD l7 (av 1) (av 0)))) aE)))
  (fg (fK (aA (aD c5 (aq (aD l7 (av 2) (av 3))) (aq (aD gE (aq (aD fB (av 1) (aq (aF (.int 7))))) (av 2)))) (aA (aH 4) (aA (bo df (ag (aq (dy (IC (iS 5) (IC (gU (aH 5)) (gW (aH 5)))) [none,some 2] (aG 0) gH (aD l7 (av 1) (av 0)))) aE)) bj))))))))
def bM:List D->Res R:=fBody 2 4 iy
noncomputable def cD:FS:=(sSeq (cx 5 (dD cX (ag (av 0) (ag (av 1) (ag (av 4) aE)))))
  (sSeq (cx 6 (dD cJ (ag (av 5) (ag (av 2) aE))))
  (sSeq (jr (tV 3 (dD bM (ag (av 6) (ag (aq (dD aw (ag (av 0) (ag (aq (aD c5 (av 1) (av 4))) aE)))) aE)))))
  (Jr (HA (aD Pm (aq (aD gE (aq (aD fB (av 5) (aq (aF (.int 64))))) (aq (aF (.int 3))))) (aq (aF (.int 0)))))
  (sSeq (cx 7 (fK (aA (aD gE (aq (aD fB (av 5) (aq (aF (.int 256))))) (aq (aF (.int 4)))) (aA (aD Hj (aq (aH 6)) (aq (aF (.int 2)))) (aA (aD Hj (aq (aH 6)) (aq (aF (.int 1)))) bj)))))
  (jr (tV 3 (dD bM (ag (av 7) (ag (aq (dD aw (ag (av 0) (ag (aq (aD c5 (aq (aD c5 (av 1) (aq (aF (.int 6))))) (av 4))) aE)))) aE))))))
  dn))))
def fT:FS:=(tR (dv (aq (aD c5 (aq (aF (.int 1))) (aq (aD gE (aq (aD fB (aq (dD aw (ag (av 0) (ag (aq (aF (.int 1))) aE)))) (aq (aF (.int 4))))) (aq (aF (.int 4)))))))) (aG 4)
  cD)
def e8:FS:=(fg (lQ 3))
def iz:FS:=(sSeq (cx 3 (o4 bj))
  (sSeq fT
  e8))
def cq:List D->Res R:=fBody 3 5 iz
noncomputable def jj:FS:=(sSeq (cx 1 (dD bJ (ag (aq (dD aw (ag (av 0) (ag (aq (aF (.int 0))) aE)))) aE)))
  (sSeq (cx 2 (dD aw (ag (av 0) (ag (aq (aF (.int 1))) aE))))
  (sSeq (cx 3 (aD c5 (aq (aF (.int 1))) (aq (aD gE (av 2) (aq (aF (.int 3)))))))
  (sSeq (cx 4 (aD gE (aq (aD fB (av 2) (aq (aF (.int 32))))) (aq (aD wM (aq (aF (.int 6))) (av 3)))))
  (fg (bo df (ag (aq (zT (av 1) (jR (aH 4)) (jR (aD c5 (av 4) (av 3))))) aE)))))))
def cK:List D->Res R:=fBody 1 4 jj
noncomputable def lj:FS:=(sSeq (cx 2 (dD cK (ag (av 0) aE)))
  (sSeq (cx 3 (bo jt (ag (av 2) aE)))
  (sSeq (cx 4 (dD cq (ag (av 0) (ag (av 1) (ag (av 3) aE)))))
  (sSeq (Jr (HA (bI isnO (aq (dD br (ag (aq (fK (aA (aH 2) (aA (aH 4) bj)))) (ag (aq (aF (.int 8))) aE)))) (aq (aF .non))))
  (fg (fK (aA (aH 2) (aA (aH 4) bj))))
  dn)
  (sSeq (cx 5 (bo df (ag (aq (dy (IC (iS 2) (IC (gU (aH 2)) (gW (aH 2)))) [none] (aG 0) gH (aF (.int 1)))) aE)))
  (sSeq (cx 6 (bo df (ag (aq (dy (IC (iS 2) (IC (gU (aH 2)) (gW (aH 2)))) [none] (aG 0) gH (aF (.int 0)))) aE)))
  (sSeq (Jr (HA (bI isnO (aq (dD br (ag (aq (fK (aA (aH 2) (aA (aD c5 (av 4) (aq (o4 (aA (fK (aA (aF (.int 2)) (aA (aH 5) (aA (aH 6) bj)))) bj)))) bj)))) (ag (aq (aF (.int 8))) aE)))) (aq (aF .non))))
  (fg (fK (aA (aH 2) (aA (aD c5 (av 4) (aq (o4 (aA (fK (aA (aF (.int 2)) (aA (aH 5) (aA (aH 6) bj)))) bj)))) bj))))
  dn)
  (fg (fK (aA (aH 2) (aA (aD c5 (av 4) (aq (o4 (aA (fK (aA (aF (.int 1)) (aA (aH 5) (aA (aH 6) bj)))) bj)))) bj)))))))))))
def cY:List D->Res R:=fBody 2 5 lj
noncomputable def iA:FS:=(sSeq (cx 2 (aD c5 (aq (dD bJ (ag (aq (dD aw (ag (av 0) (ag (aq (aF (.int 0))) aE)))) aE))) (aq (o4 (aA (aF (.str [97])) (aA (aF (.str [122,122])) bj))))))
  (sSeq (cx 3 (dD aR (ag (aq (dD aw (ag (av 0) (ag (aq (aF (.int 1))) aE)))) (ag (aq (aF (.int 8))) aE))))
  (sSeq (cx 4 (dy (IC (iS 2) (IC (gU (aH 2)) (gW (aH 2)))) [none,some 1] (aG 0) (HA (bI uw (av 0) (av 1))) (aH 0)))
  (sSeq (cx 5 (aD Hj (av 4) (aq (aD gE (av 3) (aq (bo jt (ag (av 4) aE)))))))
  (sSeq (Jr (HA (bI Js (aq (aD gE (aq (aD fB (av 3) (aq (aF (.int 8))))) (aq (aF (.int 3))))) (aq (aF (.int 0)))))
  (fg (bo df (ag (aq (bo sortedT (ag (aq (aD c5 (av 1) (aq (fK (aA (aH 5) bj))))) aE))) aE)))
  dn)
  (sSeq (Jr (HA (bI Js (aq (aD gE (aq (aD fB (av 3) (aq (aF (.int 8))))) (aq (aF (.int 3))))) (aq (aF (.int 1)))))
  (fg (zT (av 1) rA (jR (ED (aq (aF (.int 1)))))))
  dn)
  (fg (bo df (ag (aq (bo sortedT (ag (aq (aD c5 (aq (zT (av 1) (jR (aF (.int 1))) rA)) (aq (fK (aA (aH 5) bj))))) aE))) aE)))))))))
def cu:List D->Res R:=fBody 2 4 iA
noncomputable def gO:FS:=(sSeq (cx 2 (dy (xc (aD Hj (av 0) (aq (aF (.int 1))))) [none,some 1] (aG 0) (rW (HA (bI My (aq (aD Hj (av 0) (aq (aF (.int 1))))) (av 1))) (rW (HA (bI Js (aq (aD Hj (av 0) (aq (aF (.int 0))))) (aq (aF (.int 0))))) (HA (bI Js (aq (aD Hj (av 0) (aq (aF (.int 2))))) (aq (aF (.int 0))))))) (aH 0)))
  (fg (fK (aA (aH 1) (aA (aH 2) bj)))))
def bQ:List D->Res R:=fBody 2 1 gO
def gP:FS:=(sSeq (cx 2 (aF (.bl false)))
  (sSeq (qo 3 (DM lg (ag (av 0) (ag (av 1) aE)))
  (jr (dD iq (ag (av 0) (ag (av 1) aE)))) [(4,false),(2,true)])
  (fg (lQ 2))))
def bh:List D->Res R:=fBody 2 3 gP
noncomputable def CO:FS:=(sSeq (cx 1 (dD cY (ag (av 0) (ag (aq (aF (.int 2))) aE))))
  (sSeq (Cj (dD br (ag (av 1) (ag (aq (aF (.int 8))) aE))) (lS 2 (aS (aG 2) (aS (aG 3) fA))))
  (sSeq (cx 4 (fK (aA (aD Hj (av 1) (aq (aF (.int 0)))) (aA (aH 2) bj))))
  (sSeq (cx 5 (dD cu (ag (av 0) (ag (aq (aD Hj (av 1) (aq (aF (.int 0))))) aE))))
  (sSeq (Jr (AY (HA (dD bh (ag (aq (dD bQ (ag (av 4) (ag (av 5) aE)))) (ag (av 1) aE)))))
  (fg (aF (.bl false)))
  dn)
  (sSeq (cx 6 (bo df (ag (aq (dy (dv (aq (bo jt (ag (av 5) aE)))) [none,some 0] (aG 0) gH (aD gE (aq (dD aw (ag (av 1) (ag (aq (aD c5 (aq (aF (.int 2))) (av 0))) aE)))) (aq (aD rX (aq (aF (.int 10))) (aq (aF (.int 60)))))))) aE)))
  (sSeq (cx 7 (fK (aA (aH 5) (aA (o4 (aA (fK (aA (aD gE (aq (dD aw (ag (av 0) (ag (aq (aF (.int 8))) aE)))) (aq (aD rX (aq (aF (.int 10))) (aq (aF (.int 60)))))) (aA (aH 6) (aA (aH 6) bj)))) bj)) bj))))
  (sSeq (Jr (Rw (AY (HA (dD bh (ag (av 4) (ag (av 7) aE))))) (AY (HA (dD bh (ag (av 4) (ag (aq (fK (aA (aH 5) (aA (o4 bj) bj)))) aE))))))
  (fg (aF (.bl false)))
  dn)
  (fg (bI Js (aq (dD iq (ag (av 4) (ag (av 1) aE)))) (aq (fK (aA (aF (.str [115,97,109,101])) (aA (aH 3) bj))))))))))))))
def Ag:List D->Res R:=fBody 1 7 CO
end LW
namespace LW
open PySem PySem.Spec PyProof.Rows L2 NX PV
theorem DO{α:Type}{Q:List α->Prop}(h:∀a,Q [a]):∀us,us.length=1->Q us
 |[a],_=>h a
theorem uI{α:Type}{Q:List α->Prop}(h:∀a b,Q [a,b]):∀us,us.length=2->Q us
 |[a,b],_=>h a b
theorem AZ{α:Type}{Q:List α->Prop}(h:∀a b c,Q [a,b,c]):∀us,us.length=3->Q us
 |[a,b,c],_=>h a b c
theorem Ft{α:Type}{Q:List α->Prop}(h:∀a b c d,Q [a,b,c,d]):∀us,us.length=4->Q us
 |[a,b,c,d],_=>h a b c d
theorem iC{X:Cx}{tg e:Expr}{f:FX}(h:QE X e f):QI X tg e (IC (B3 f) (IC (gU f) (gW f))):=uc (zu h) (uc (i9 h) (ja h))
def top(i:Nat):Stmt:=PySem.Challenge.pw_netfinder_k28_other_moves.main.body.getD i (.Pass ⟨0,0,0,0⟩)
theorem Gk:Str.ofString "two" = S [116,119,111]:=by decide +kernel
theorem Gm:Str.ofString "one" = S [111,110,101]:=by decide +kernel
theorem Gn:Str.ofString "free" = S [102,114,101,101]:=by decide +kernel
theorem Gp:Str.ofString "stuck" = S [115,116,117,99,107]:=by decide +kernel
theorem Fv:Str.ofString "same" = S [115,97,109,101]:=by decide +kernel
theorem Gq:Str.ofString "the chart and the net have not the same moves" = S [116,104,101,32,99,104,97,114,116,32,97,110,100,32,116,104,101,32,110,101,116,32,104,97,118,101,32,110,111,116,32,116,104,101,32,115,97,109,101,32,109,111,118,101,115]:=by decide +kernel
theorem Gs:Str.ofString "moves" = S [109,111,118,101,115]:=by decide +kernel
theorem Gu:Str.ofString "s" = S [115]:=by decide +kernel
theorem Gv:Str.ofString "" = S []:=by decide +kernel
theorem Gw:Str.ofString "abcdefghijklmnopqrstuvwxyz" = S [97,98,99,100,101,102,103,104,105,106,107,108,109,110,111,112,113,114,115,116,117,118,119,120,121,122]:=by decide +kernel
theorem EM:Str.ofString "zz" = S [122,122]:=by decide +kernel
theorem EN:Str.ofString "a" = S [97]:=by decide +kernel
section
variable{P:Program}{w:World}{K:W.Frag}{mg:Str->Option Value}{base:Heap}
abbrev g7:Stmt:=top 11
theorem oh:FnScope ["chart"] ["chart"] (defScope g7):=fs
theorem oi(Df:Def K mg "states_of" g7)(Jf:mg "max" = none):Ct P w K mg base "states_of" 1 (spF K b6):=
 d9 Df oh (fun _ _ _ _ _ _=>DO fun _=>rfl) fun f Hf A outer s H E hr=>
  (aB (bg (aI aO (aa aj) (aa (zL rfl (by rfl) Jf (cn [none,none,none] ["first","move","second"] rfl (bW (iC (a9 (ae (pv 0)) (aa aj)))) (fun _ _ _ _ _=>(have h:=(show List.Nodup (["first","move","second"]:List Str) from by decide +kernel);(i7 rfl (a8 (aN (i:=0) h rfl (lo rfl)) (a8 (aN (i:=1) h rfl (lo rfl)) (a8 (aN (i:=2) h rfl (lo rfl)) fI)))))) (fun _ _ _ _ _=>cO) (fun _ _ _ _ _=>(bA (tZ rfl) (by rfl) Jf uo (af (ae (pv 0)) (af (ae (pv 2)) au))))) aj)))))
abbrev kc:Stmt:=top 12
theorem rH:FnScope ["chart","state","move"] ["chart","state","move"] (defScope kc):=fs
theorem rJ(Df:Def K mg "goes_to" kc):Ct P w K mg base "goes_to" 1 (spF K eC):=
 d9 Df rH (fun _ _ _ _ _ _=>AZ fun _ _ _=>rfl) fun f Hf A outer s H E hr=>
  (aB (bg (cn [none,none,none,some 1,some 2] ["first","by","second","state","move"] rfl (bW (iC (a9 (ae (pv 0)) (aa aj)))) (fun _ _ _ _ _=>(have h:=(show List.Nodup (["first","by","second","state","move"]:List Str) from by decide +kernel);(i7 rfl (a8 (aN (i:=0) h rfl (lo rfl)) (a8 (aN (i:=1) h rfl (lo rfl)) (a8 (aN (i:=2) h rfl (lo rfl)) fI)))))) (fun _ _ _ _ _=>(oZ (QW.qt (kX (aY (jV hr.units) (ae (pv 0)) (ae (pv 3)) (bu _)) (jP (aY (jV hr.units) (ae (pv 1)) (ae (pv 4)) (bu _))))))) (fun _ _ _ _ _=>(ax (pv 2))))))
abbrev dC:Stmt:=top 14
theorem jv:FnScope ["net"] ["net"] (defScope dC):=fs
theorem jw(Df:Def K mg "first_marking" dC)(GZ:mg "tuple" = none):Ct P w K mg base "first_marking" 1 (spF K bH):=
 d9 Df jv (fun _ _ _ _ _ _=>DO fun _=>rfl) fun f Hf A outer s H E hr=>
  (aB (bg (bG cC (by rfl) GZ cB (af (aa (cn [none] ["place"] rfl (bW (iC (a9 (ae (pv 0)) (aa aj)))) (fun _ _ _ _ _=>(aN (i:=0) (show List.Nodup (["place"]:List Str) from by decide +kernel) rfl (lo rfl))) (fun _ _ _ _ _=>cO) (fun _ _ _ _ _=>(a9 (ae (pv 0)) (aa aj))))) au))))
abbrev ma:Stmt:=top 15
theorem oj:FnScope ["net","marking","move","at"] ["net","marking","move"] (defScope ma):=fs
theorem uJ(Df:Def K mg "can_go" ma)(Ki:mg "all" = none)(Jg:mg "zip" = none):Ct P w K mg base "can_go" 1 (spF K gA):=
 d9 Df oj (fun _ _ _ _ _ _=>AZ fun _ _ _=>rfl) fun f Hf A outer s H E hr=>
  (ah (aK (i:=3) oj.nd rfl (lo rfl) (uu UR Vl gZ (aa (a9 (ae (pv 0)) (aa aj))) (af (ae (pv 2)) au)))
  (aB (bg (bA (Ca rfl) (by rfl) Ki Ck (af (aa (cn [none,none,some 3] ["beads","place","at"] rfl (bW (o6 (by rfl) Jg (af (aa (ax (pv 1))) (af (aa (a9 (ae (pv 0)) (aa aj))) au)))) (fun _ _ _ _ _=>(have h:=(show List.Nodup (["beads","place","at"]:List Str) from by decide +kernel);(i7 rfl (a8 (aN (i:=0) h rfl (lo rfl)) (a8 (aN (i:=1) h rfl (lo rfl)) fI))))) (fun _ _ _ _ _=>cO) (fun _ _ _ _ _=>(B1 (Ce hr.units0) (ae (pv 0)) (aa (a9 (aa (a9 (ae (pv 1)) (aa aj))) (ae (pv 2)))) (bu _))))) au)))))
abbrev pe:Stmt:=top 16
theorem qr:FnScope ["net","marking","move","at"] ["net","marking","move"] (defScope pe):=fs
theorem xf(Df:Def K mg "moved" pe)(LU:Ct P w K mg base "can_go" 1 (spF K gA))(GZ:mg "tuple" = none)(Jg:mg "zip" = none):Ct P w K mg base "moved" 2 (spF K iU):=
 d9 Df qr (fun _ _ _ _ _ _=>AZ fun _ _ _=>rfl) fun f Hf A outer s H E hr=>
  (ah (du (pW (pV (aV LU hr.m (by rfl) (af (ae (pv 0)) (af (ae (pv 1)) (af (ae (pv 2)) au))))))
  (aB (bg eZ))
  bq)
  (ah (aK (i:=3) qr.nd rfl (lo rfl) (uu UR Vl gZ (aa (a9 (ae (pv 0)) (aa aj))) (af (ae (pv 2)) au)))
  (aB (bg (bG cC (by rfl) GZ cB (af (aa (cn [none,none,some 3] ["beads","place","at"] rfl (bW (o6 (by rfl) Jg (af (aa (ax (pv 1))) (af (aa (a9 (ae (pv 0)) (aa aj))) au)))) (fun _ _ _ _ _=>(have h:=(show List.Nodup (["beads","place","at"]:List Str) from by decide +kernel);(i7 rfl (a8 (aN (i:=0) h rfl (lo rfl)) (a8 (aN (i:=1) h rfl (lo rfl)) fI))))) (fun _ _ _ _ _=>cO) (fun _ _ _ _ _=>(aI aO (aa (aI nu (ae (pv 0)) (aa (a9 (aa (a9 (ae (pv 1)) (aa aj))) (ae (pv 2)))))) (aa (a9 (aa (a9 (ae (pv 1)) (aa aj))) (ae (pv 2)))))))) au))))))
abbrev uK:Stmt:=top 18
theorem uL:FnScope ["got","state","marking","way","other"] ["got","state","marking","way"] (defScope uK):=fs
theorem Ah(Df:Def K mg "give" uK):Ct P w K mg base "give" 1 (spM K (.d) j8):=
 Cr Df uL (fun _ _ _ _ _ _=>Ft fun _ _ _ _=>rfl) fun f Hf A outer s H E hr=>
  (ah (Af T3 rfl (pv 0) (aN (i:=4) uL.nd rfl (lo rfl))
  (aB (du (QW.qt (kX (aY (wQ hr.units) (ae (pv 4)) (ae (pv 1)) (bu _)) (jP (aY (jV hr.units) (aa (a9 (aa (o8 (hu_of hr) (ae (pv 0)) (ae (pv 4)))) (aa aj))) (ae (pv 2)) (bu _)))))
  (aB (g0 (i:=0) (bB (ao (d4 Gm (by decide)) (ao (a9 (aa (o8 (hu_of hr) (ae (pv 0)) (ae (pv 4)))) (aa aj)) (ao (ax (pv 3)) aJ))))))
  bq)))
  (ah (du (aY (o9 hr.u65) (ae (pv 1)) (ae (pv 0)) (by with_unfolding_all rfl))
  (aB (Ad (hu_of hr) (pv 0) (ax (pv 1)) (bB (ao (ax (pv 2)) (ao (ax (pv 3)) aJ)))))
  (aB (du (aY (wQ hr.units) (aa (a9 (aa (o8 (hu_of hr) (ae (pv 0)) (ae (pv 1)))) (aa aj))) (ae (pv 2)) (bu _))
  (aB (g0 (i:=0) (bB (ao (d4 Gk (by decide)) (ao (a9 (aa (o8 (hu_of hr) (ae (pv 0)) (ae (pv 1)))) (aa aj)) (ao (ax (pv 3)) aJ))))))
  bq)))
  (aB (g0 (i:=0) eZ))))
abbrev ke:Stmt:=top 19
theorem cM:FnScope ["chart","net","got","state","marking","way","move","coming","seconds","second","against"] ["chart","net","got","state"] (defScope ke):=fs
theorem rK(Df:Def K mg "look_at" ke)(N9:Ct P w K mg base "give" 1 (spM K (.d) j8))(Lo:Ct P w K mg base "goes_to" 1 (spF K eC))(Mz:Ct P w K mg base "moved" 2 (spF K iU))(Hw:mg "len" = none):Ct P w K mg base "look_at" 3 (spJ 2 K (.d) dg):=
 CD Df cM (fun _ _ _ _ _ _=>Ft fun _ _ _ _=>rfl) fun f Hf A outer s H E hr=>
  (ah (aK (i:=4) cM.nd rfl (lo rfl) (a9 (aa (o8 (hu_of hr) (ae (pv 2)) (ae (pv 3)))) (aa aj)))
  (ah (aK (i:=5) cM.nd rfl (lo rfl) (a9 (aa (o8 (hu_of hr) (ae (pv 2)) (ae (pv 3)))) (aa aj)))
  (ah (i8 T3 rfl (iC (a9 (ae (pv 0)) (aa aj))) (aN (i:=6) cM.nd rfl (lo rfl))
  (ah (aK (i:=7) cM.nd rfl (lo rfl) (aV Mz hr.m (by rfl) (af (ae (pv 1)) (af (ae (pv 4)) (af (ae (pv 6)) au)))))
  (ah (aK (i:=8) cM.nd rfl (lo rfl) (aV Lo hr.m (by rfl) (af (ae (pv 0)) (af (ae (pv 3)) (af (ae (pv 6)) au)))))
  (ah (du (QW.qt (kX (aY EB (ae (pv 7)) (aa eZ) (bu _)) (jP (kW B6 (aa (bA eR (by rfl) Hw bt_len (af (ae (pv 8)) au))) (aa aj) (bu _)))))
  (aB (g0 (i:=2) (bB (ao (d4 Gp (by decide)) (ao (ax (pv 5)) (ao (ax (pv 6)) aJ))))))
  bq)
  (ah (du (QW.qt (kX (aY kZ (ae (pv 7)) (aa eZ) (bu _)) (jP (aY (jV hr.units) (aa (bA eR (by rfl) Hw bt_len (af (ae (pv 8)) au))) (aa aj) (bu _)))))
  (aB (g0 (i:=2) (bB (ao (d4 Gn (by decide)) (ao (ax (pv 5)) (ao (ax (pv 6)) aJ))))))
  bq)
  (aB (i8 T3 rfl (iC (ax (pv 8))) (aN (i:=9) cM.nd rfl (lo rfl))
  (ah (aK (i:=10) cM.nd rfl (lo rfl) (zZ (i:=2) N9 hr.m (by rfl) (af (ae (pv 2)) (af (ae (pv 9)) (af (ae (pv 7)) (af (aa (aI aO (ae (pv 5)) (aa (bB (ao (ax (pv 6)) aJ))))) au))))))
  (aB (du (aY kZ (ae (pv 10)) (aa eZ) (bu _))
  (aB (g0 (i:=2) (ax (pv 10))))
  bq))))))))))
  (aB (g0 (i:=2) eZ)))))
abbrev qu:Stmt:=top 20
theorem iV:FnScope ["chart","net","got","looked_at","against"] ["chart","net"] (defScope qu):=fs
theorem Ai(Df:Def K mg "held" qu)(Jv:Ct P w K mg base "first_marking" 1 (spF K bH))(Lp:Ct P w K mg base "look_at" 3 (spJ 2 K (.d) dg))(Kj:Ct P w K mg base "states_of" 1 (spF K b6))(Hw:mg "len" = none)(JD:mg "list" = none)(Hr:mg "range" = none):Ct P w K mg base "held" 4 (spF K iq):=
 d9 Df iV (fun _ _ _ _ _ _=>uI fun _ _=>rfl) fun f Hf A outer s H E hr=>
  (ah (du (aY (wQ hr.units) (aa (a9 (ae (pv 0)) (aa aj))) (aa (a9 (ae (pv 1)) (aa aj))) (bu _))
  (aB wJ)
  bq)
  (ah (aK (i:=2) iV.nd rfl (lo rfl) (wV aj (bB (ao (aV Jv hr.m (by rfl) (af (ae (pv 1)) au)) (ao (bB aJ) aJ)))))
  (ah (aK (i:=3) iV.nd rfl (lo rfl) aj)
  (ah (pX 100000 T3 (kW (p7 hr.units0) (ae (pv 3)) (aa (bA eR (by rfl) Hw bt_len (af (ae (pv 2)) au))) (bu _))
  (ah (aK (i:=4) iV.nd rfl (lo rfl) (Aa (j0:=2) (i:=2) Lp hr.m (by rfl) (af (ae (pv 0)) (af (ae (pv 1)) (af (ae (pv 2)) (af (aa (a9 (aa (bG (wX rfl) (by rfl) JD yX (af (ae (pv 2)) au))) (ae (pv 3)))) au))))))
  (ah (du (aY kZ (ae (pv 4)) (aa eZ) (bu _))
  (aB (bg (iP (pv 4))))
  bq)
  (aB (aK (i:=3) iV.nd rfl (lo rfl) (aI aO (ae (pv 3)) (aa aj)))))))
  (aB (bg (bB (ao (d4 Fv (by decide)) (ao (cn [none,some 2] ["state","got"] rfl (bW (d5 (by rfl) Hr (aa (aV Kj hr.m (by rfl) (af (ae (pv 0)) au))))) (fun _ _ _ _ _=>(aN (i:=0) (show List.Nodup (["state","got"]:List Str) from by decide +kernel) rfl (lo rfl))) (fun _ _ _ _ _=>cO) (fun _ _ _ _ _=>(a9 (aa (o8 (hu_of hr) (ae (pv 1)) (ae (pv 0)))) (aa aj)))) aJ)))))))))
theorem xg(Df:Def K mg "held" qu){GR:Addr}(Hg:NN mg base "OtherMoves" GR):CtX P w K mg base "held" 4 GR (spX K GR lg):=
 CB Df iV (fun _ _ _ _ _ _=>uI fun _ _=>rfl) fun f Hf A outer s H E hr=>
  (EJ (aY (wQ hr.units) (aa (a9 (ae (pv 0)) (aa aj))) (aa (a9 (ae (pv 1)) (aa aj))) (bu _)) (wY Hg BW rfl (by rfl) (af (aa (d4 Gq (by decide))) au)))
abbrev dR:Stmt:=top 22
theorem kg:FnScope ["_law_script","_law_k"] ["_law_script","_law_k"] (defScope dR):=fs
theorem kh(Df:Def K mg "_law_cell_at" dR)(Hw:mg "len" = none):Ct P w K mg base "_law_cell_at" 1 (spF K aw):=
 d9 Df kg (fun _ _ _ _ _ _=>uI fun _ _=>rfl) fun f Hf A outer s H E hr=>
  (ah (du (kW (p7 hr.units0) (ae (pv 1)) (aa (bA eR (by rfl) Hw bt_len (af (ae (pv 0)) au))) (bu _))
  (aB (bg (a9 (ae (pv 0)) (ae (pv 1)))))
  bq)
  (aB (bg aj)))
abbrev fU:Stmt:=top 23
theorem eU:FnScope ["_law_cell","_law_k","_law_number"] ["_law_cell","_law_k"] (defScope fU):=fs
theorem me(Df:Def K mg "_law_mixed" fU):Ct P w K mg base "_law_mixed" 1 (spF K aR):=
 d9 Df eU (fun _ _ _ _ _ _=>uI fun _ _=>rfl) fun f Hf A outer s H E hr=>
  (ah (aK (i:=2) eU.nd rfl (lo rfl) (aI aO (aa (aI b5 (ae (pv 0)) (aa aj))) (aa (aI fN (aa aj) (aa (aI aO (ae (pv 1)) (aa aj)))))))
  (ah (aK (i:=2) eU.nd rfl (lo rfl) (aI b5 (aa (aI aO (aa (aI fN (ae (pv 2)) (ae (pv 2)))) (aa (aI fN (aa aj) (ae (pv 1)))))) (aa aj)))
  (aB (bg (aI b5 (aa (aI aO (aa (aI aO (aa (aI fN (ae (pv 2)) (ae (pv 2)))) (aa (aI fN (aa aj) (ae (pv 1)))))) (aa aj))) (aa aj))))))
abbrev fV:Stmt:=top 24
theorem aX:FnScope ["_law_cell","_law_letters","_law_base","_law_width","_law_spot","_law_names_here","_law_k","_law_moved_on"] ["_law_cell"] (defScope fV):=fs
theorem mf(Df:Def K mg "_law_names" fV)(Hl:Ct P w K mg base "_law_mixed" 1 (spF K aR))(Hr:mg "range" = none)(Hu:mg "sorted" = none):Ct P w K mg base "_law_names" 2 (spF K bJ):=
 d9 Df aX (fun _ _ _ _ _ _=>DO fun _=>rfl) fun f Hf A outer s H E hr=>
  (ah (aK (i:=1) aX.nd rfl (lo rfl) (d4 Gw (by decide)))
  (ah (jB (i:=2) [none,some 0] ["_law_j","_law_cell"] aX.nd rfl (lo rfl) rfl (bW (d5 (by rfl) Hr (aa aj))) (fun _ _ _ _ _=>(aN (i:=0) (show List.Nodup (["_law_j","_law_cell"]:List Str) from by decide +kernel) rfl (lo rfl))) (fun _ _ _ _ _=>cO) (fun _ _ _ _ _=>(aI b5 (aa (aV Hl hr.m (by rfl) (af (ae (pv 1)) (af (ae (pv 0)) au)))) (aa aj))))
  (ah (aK (i:=3) aX.nd rfl (lo rfl) (aI aO (aa aj) (aa (aI b5 (ae (pv 0)) (aa aj)))))
  (ah (aK (i:=4) aX.nd rfl (lo rfl) (aI b5 (aa (aI dj (ae (pv 0)) (aa aj))) (ae (pv 3))))
  (ah (aK (i:=5) aX.nd rfl (lo rfl) (eg aJ))
  (ah (i8 T3 rfl (d5 (by rfl) Hr (aa aj)) (aN (i:=6) aX.nd rfl (lo rfl))
  (ah (aK (i:=7) aX.nd rfl (lo rfl) (nM (ae (pv 2)) lW (eJ (ax (pv 3)))))
  (ah (zW (pv 7) (ax (pv 4)) (aI b5 (aa (aI aO (aa (a9 (ae (pv 7)) (ae (pv 4)))) (ae (pv 6)))) (aa aj)))
  (ah (du (aY (jV hr.units) (aa (aI b5 (aa (aI dj (ae (pv 0)) (aa aj))) (aa aj))) (aa aj) (bu _))
  (aB (aK (i:=7) aX.nd rfl (lo rfl) (nM (ae (pv 2)) lW (eJ (aI aO (ae (pv 6)) (aa aj))))))
  bq)
  (aB (eI (de (pv 5) (Cg PySem.F.slot_str_join PySem.F.type_str_join zX (aa (d4 Gv (by decide))) (af (aa (cn [none,some 1] ["_law_j","_law_letters"] rfl (dJ (gY (pv 7)) (dJ (bW (i9 (ax (pv 7)))) (bW (ja (ax (pv 7)))))) (fun _ _ _ _ _=>(aN (i:=0) (show List.Nodup (["_law_j","_law_letters"]:List Str) from by decide +kernel) rfl (lo rfl))) (fun _ _ _ _ _=>cO) (fun _ _ _ _ _=>(a9 (ae (pv 1)) (ae (pv 0)))))) au)))))))))
  (ah (du (aY (ye hr.u65) (aa (d4 Gs (by decide))) (ae (pv 5)) (by with_unfolding_all rfl))
  (aB (jB (i:=5) [none] ["_law_name"] aX.nd rfl (lo rfl) rfl (dJ (gY (pv 5)) (dJ (bW (i9 (ax (pv 5)))) (bW (ja (ax (pv 5)))))) (fun _ _ _ _ _=>(aN (i:=0) (show List.Nodup (["_law_name"]:List Str) from by decide +kernel) rfl (lo rfl))) (fun _ _ _ _ _=>cO) (fun _ _ _ _ _=>(aI aO (aa (d4 Gu (by decide))) (ae (pv 0))))))
  bq)
  (aB (bg (bA (nJ rfl) (by rfl) Hu ij (af (ae (pv 5)) au)))))))))))
abbrev g8:Stmt:=top 25
theorem dh:FnScope ["_law_net_here","_law_marking","_law_move","_law_k","_law_after","_law_beads","_law_place_here"] ["_law_net_here","_law_marking","_law_move"] (defScope g8):=fs
theorem om(Df:Def K mg "_law_step" g8)(GZ:mg "tuple" = none)(Jg:mg "zip" = none):Ct P w K mg base "_law_step" 1 (spF K cG):=
 d9 Df dh (fun _ _ _ _ _ _=>AZ fun _ _ _=>rfl) fun f Hf A outer s H E hr=>
  (ah (aK (i:=3) dh.nd rfl (lo rfl) (uu UR Vl gZ (aa (a9 (ae (pv 0)) (aa aj))) (af (ae (pv 2)) au)))
  (ah (aK (i:=4) dh.nd rfl (lo rfl) (eg aJ))
  (ah (i8 T3 rfl (o6 (by rfl) Jg (af (aa (ax (pv 1))) (af (aa (a9 (ae (pv 0)) (aa aj))) au))) (i7 rfl (a8 (aN (i:=5) dh.nd rfl (lo rfl)) (a8 (aN (i:=6) dh.nd rfl (lo rfl)) fI)))
  (ah (du (kW (p7 hr.units0) (ae (pv 5)) (aa (a9 (aa (a9 (ae (pv 6)) (aa aj))) (ae (pv 3)))) (bu _))
  (aB (bg eZ))
  bq)
  (aB (eI (de (pv 4) (aI aO (aa (aI nu (ae (pv 5)) (aa (a9 (aa (a9 (ae (pv 6)) (aa aj))) (ae (pv 3)))))) (aa (a9 (aa (a9 (ae (pv 6)) (aa aj))) (ae (pv 3))))))))))
  (aB (bg (bG cC (by rfl) GZ cB (af (ae (pv 4)) au)))))))
abbrev iW:Stmt:=top 26
theorem cH:FnScope ["_law_net_here","_law_most","_law_markings","_law_arcs","_law_done","_law_move","_law_after"] ["_law_net_here","_law_most"] (defScope iW):=fs
theorem pg(Df:Def K mg "_law_run" iW)(Kk:Ct P w K mg base "_law_step" 1 (spF K cG))(Hw:mg "len" = none)(Hu:mg "sorted" = none)(GZ:mg "tuple" = none):Ct P w K mg base "_law_run" 2 (spF K br):=
 d9 Df cH (fun _ _ _ _ _ _=>uI fun _ _=>rfl) fun f Hf A outer s H E hr=>
  (ah (aK (i:=2) cH.nd rfl (lo rfl) (eg (ao (bG cC (by rfl) GZ cB (af (aa (cn [none,none,none] ["_law_beads","_law_takes","_law_gives"] rfl (bW (iC (a9 (ae (pv 0)) (aa aj)))) (fun _ _ _ _ _=>(have h:=(show List.Nodup (["_law_beads","_law_takes","_law_gives"]:List Str) from by decide +kernel);(i7 rfl (a8 (aN (i:=0) h rfl (lo rfl)) (a8 (aN (i:=1) h rfl (lo rfl)) (a8 (aN (i:=2) h rfl (lo rfl)) fI)))))) (fun _ _ _ _ _=>cO) (fun _ _ _ _ _=>(ax (pv 0))))) au)) aJ)))
  (ah (aK (i:=3) cH.nd rfl (lo rfl) (eg aJ))
  (ah (aK (i:=4) cH.nd rfl (lo rfl) aj)
  (ah (pX 100000 T3 (kW (p7 hr.units0) (ae (pv 4)) (aa (bA eR (by rfl) Hw bt_len (af (ae (pv 2)) au))) (bu _))
  (ah (i8 T3 rfl (iC (a9 (ae (pv 0)) (aa aj))) (aN (i:=5) cH.nd rfl (lo rfl))
  (ah (aK (i:=6) cH.nd rfl (lo rfl) (aV Kk hr.m (by rfl) (af (ae (pv 0)) (af (aa (a9 (ae (pv 2)) (ae (pv 4)))) (af (ae (pv 5)) au)))))
  (aB (du (aY kZ (ae (pv 6)) (aa eZ) (bu _))
  (ah (du (aY (o9 hr.u65) (ae (pv 6)) (ae (pv 2)) (by with_unfolding_all rfl))
  (ah (du (aY (jV hr.units) (aa (bA eR (by rfl) Hw bt_len (af (ae (pv 2)) au))) (ae (pv 1)) (bu _))
  (aB (bg eZ))
  bq)
  (aB (eI (de (pv 2) (ax (pv 6))))))
  bq)
  (aB (eI (de (pv 3) (bB (ao (ax (pv 4)) (ao (ax (pv 5)) (ao (Cw Wo PySem.F.type_list_index (pd hr.u65) (ae (pv 2)) (af (ae (pv 6)) au)) aJ))))))))
  bq))))
  (aB (aK (i:=4) cH.nd rfl (lo rfl) (aI aO (ae (pv 4)) (aa aj))))))
  (aB (bg (bB (ao (bA (nJ rfl) (by rfl) Hu ij (af (ae (pv 3)) au)) (ao (ax (pv 2)) aJ)))))))))
abbrev g9:Stmt:=top 27
theorem dN:FnScope ["_law_script","_law_first","_law_k","_law_number","_law_cell"] ["_law_script","_law_first","_law_k"] (defScope g9):=fs
theorem oq(Df:Def K mg "_law_fold" g9)(Hl:Ct P w K mg base "_law_mixed" 1 (spF K aR)):Ct P w K mg base "_law_fold" 2 (spF K cX):=
 d9 Df dN (fun _ _ _ _ _ _=>AZ fun _ _ _=>rfl) fun f Hf A outer s H E hr=>
  (ah (aK (i:=3) dN.nd rfl (lo rfl) (aI aO (aa aj) (ae (pv 2))))
  (ah (i8 T3 rfl (iC (CA (ae (pv 0)) (eJ (aI aO (ae (pv 1)) (ae (pv 2)))) (eJ (aI aO (ae (pv 1)) (aa aj))) (eJ aj))) (aN (i:=4) dN.nd rfl (lo rfl))
  (aB (aK (i:=3) dN.nd rfl (lo rfl) (aV Hl hr.m (by rfl) (af (aa (aI aO (ae (pv 4)) (ae (pv 3)))) (af (ae (pv 2)) au))))))
  (aB (bg (iP (pv 3))))))
abbrev fW:Stmt:=top 28
theorem bN:FnScope ["_law_number","_law_count","_law_takes","_law_gives","_law_j","_law_mixed_here","_law_step_here","_law_loop"] ["_law_number","_law_count"] (defScope fW):=fs
theorem ml(Df:Def K mg "_law_place" fW)(Hl:Ct P w K mg base "_law_mixed" 1 (spF K aR))(Jf:mg "max" = none)(Hr:mg "range" = none):Ct P w K mg base "_law_place" 2 (spF K cJ):=
 d9 Df bN (fun _ _ _ _ _ _=>uI fun _ _=>rfl) fun f Hf A outer s H E hr=>
  (ah (aK (i:=2) bN.nd rfl (lo rfl) (eg aJ))
  (ah (aK (i:=3) bN.nd rfl (lo rfl) (eg aJ))
  (ah (i8 T3 rfl (d5 (by rfl) Hr (ae (pv 1))) (aN (i:=4) bN.nd rfl (lo rfl))
  (ah (aK (i:=5) bN.nd rfl (lo rfl) (aV Hl hr.m (by rfl) (af (ae (pv 0)) (af (ae (pv 4)) au))))
  (ah (aK (i:=6) bN.nd rfl (lo rfl) (aI nu (aa (aI b5 (ae (pv 5)) (aa aj))) (aa aj)))
  (ah (aK (i:=7) bN.nd rfl (lo rfl) (aI dj (aa (aI b5 (aa (aI dj (ae (pv 5)) (aa aj))) (aa aj))) (aa aj)))
  (ah (eI (de (pv 2) (aI aO (aa (bA (tZ rfl) (by rfl) Jf uo (af (aa aj) (af (aa (aI nu (aa aj) (ae (pv 6)))) au)))) (ae (pv 7)))))
  (aB (eI (de (pv 3) (aI aO (aa (bA (tZ rfl) (by rfl) Jf uo (af (aa aj) (af (ae (pv 6)) au)))) (ae (pv 7)))))))))))
  (aB (bg (z8 (aI b5 (aa (aI dj (ae (pv 0)) (aa aj))) (aa aj)) (iP (pv 2)) (iP (pv 3))))))))
abbrev eV:Stmt:=top 29
theorem bR:FnScope ["_law_place_here","_law_cell","_law_factor","_law_beads","_law_takes","_law_gives"] ["_law_place_here","_law_cell"] (defScope eV):=fs
theorem kI(Df:Def K mg "_law_scaled" eV)(GZ:mg "tuple" = none):Ct P w K mg base "_law_scaled" 1 (spF K bM):=
 d9 Df bR (fun _ _ _ _ _ _=>uI fun _ _=>rfl) fun f Hf A outer s H E hr=>
  (ah (aK (i:=2) bR.nd rfl (lo rfl) (aI aO (aa aj) (aa (aI b5 (ae (pv 1)) (aa (aI tS (aa aj) (aa aj)))))))
  (ah (yc (ax (pv 0)) (i7 rfl (a8 (aN (i:=3) bR.nd rfl (lo rfl)) (a8 (aN (i:=4) bR.nd rfl (lo rfl)) (a8 (aN (i:=5) bR.nd rfl (lo rfl)) fI)))))
  (ah (aK (i:=4) bR.nd rfl (lo rfl) (bG cC (by rfl) GZ cB (af (aa (cn [none,some 2] ["_law_take","_law_factor"] rfl (dJ (gY (pv 4)) (dJ (bW (i9 (ax (pv 4)))) (bW (ja (ax (pv 4)))))) (fun _ _ _ _ _=>(aN (i:=0) (show List.Nodup (["_law_take","_law_factor"]:List Str) from by decide +kernel) rfl (lo rfl))) (fun _ _ _ _ _=>cO) (fun _ _ _ _ _=>(aI fN (ae (pv 1)) (ae (pv 0)))))) au)))
  (aB (bg (bB (ao (aI aO (aa (aI fN (ae (pv 2)) (ae (pv 3)))) (aa (aI b5 (aa (aI dj (ae (pv 1)) (aa aj))) (ae (pv 2))))) (ao (ax (pv 4)) (ao (bG cC (by rfl) GZ cB (af (aa (cn [none,some 2] ["_law_give","_law_factor"] rfl (dJ (gY (pv 5)) (dJ (bW (i9 (ax (pv 5)))) (bW (ja (ax (pv 5)))))) (fun _ _ _ _ _=>(aN (i:=0) (show List.Nodup (["_law_give","_law_factor"]:List Str) from by decide +kernel) rfl (lo rfl))) (fun _ _ _ _ _=>cO) (fun _ _ _ _ _=>(aI fN (ae (pv 1)) (ae (pv 0)))))) au)) aJ)))))))))
abbrev eW:Stmt:=top 30
theorem bS:FnScope ["_law_script","_law_first","_law_count","_law_places_here","_law_k","_law_number","_law_place_here","_law_mate"] ["_law_script","_law_first","_law_count"] (defScope eW):=fs
theorem kJ(Df:Def K mg "_law_places" eW)(GV:Ct P w K mg base "_law_cell_at" 1 (spF K aw))(Kl:Ct P w K mg base "_law_fold" 2 (spF K cX))(J0:Ct P w K mg base "_law_place" 2 (spF K cJ))(IS:Ct P w K mg base "_law_scaled" 1 (spF K bM))(Hr:mg "range" = none):Ct P w K mg base "_law_places" 3 (spF K cq):=
 d9 Df bS (fun _ _ _ _ _ _=>AZ fun _ _ _=>rfl) fun f Hf A outer s H E hr=>
  (ah (aK (i:=3) bS.nd rfl (lo rfl) (eg aJ))
  (ah (i8 T3 rfl (d5 (by rfl) Hr (aa (aI aO (aa aj) (aa (aI b5 (aa (aI dj (aa (aV GV hr.m (by rfl) (af (ae (pv 0)) (af (aa aj) au)))) (aa aj))) (aa aj)))))) (aN (i:=4) bS.nd rfl (lo rfl))
  (ah (aK (i:=5) bS.nd rfl (lo rfl) (aV Kl hr.m (by rfl) (af (ae (pv 0)) (af (ae (pv 1)) (af (ae (pv 4)) au)))))
  (ah (aK (i:=6) bS.nd rfl (lo rfl) (aV J0 hr.m (by rfl) (af (ae (pv 5)) (af (ae (pv 2)) au))))
  (ah (eI (de (pv 3) (aV IS hr.m (by rfl) (af (ae (pv 6)) (af (aa (aV GV hr.m (by rfl) (af (ae (pv 0)) (af (aa (aI aO (ae (pv 1)) (ae (pv 4)))) au)))) au)))))
  (aB (du (kW B6 (aa (aI b5 (aa (aI dj (ae (pv 5)) (aa aj))) (aa aj))) (aa aj) (bu _))
  (ah (aK (i:=7) bS.nd rfl (lo rfl) (bB (ao (aI b5 (aa (aI dj (ae (pv 5)) (aa aj))) (aa aj)) (ao (a9 (aa (ax (pv 6))) (aa aj)) (ao (a9 (aa (ax (pv 6))) (aa aj)) aJ)))))
  (aB (eI (de (pv 3) (aV IS hr.m (by rfl) (af (ae (pv 7)) (af (aa (aV GV hr.m (by rfl) (af (ae (pv 0)) (af (aa (aI aO (aa (aI aO (ae (pv 1)) (aa aj))) (ae (pv 4)))) au)))) au)))))))
  bq))))))
  (aB (bg (iP (pv 3))))))
abbrev fX:Stmt:=top 31
theorem cQ:FnScope ["_law_script","_law_names_here","_law_cell","_law_count","_law_start"] ["_law_script"] (defScope fX):=fs
theorem mn(Df:Def K mg "_law_moves" fX)(GV:Ct P w K mg base "_law_cell_at" 1 (spF K aw))(Ik:Ct P w K mg base "_law_names" 2 (spF K bJ))(GZ:mg "tuple" = none):Ct P w K mg base "_law_moves" 3 (spF K cK):=
 d9 Df cQ (fun _ _ _ _ _ _=>DO fun _=>rfl) fun f Hf A outer s H E hr=>
  (ah (aK (i:=1) cQ.nd rfl (lo rfl) (aV Ik hr.m (by rfl) (af (aa (aV GV hr.m (by rfl) (af (ae (pv 0)) (af (aa aj) au)))) au)))
  (ah (aK (i:=2) cQ.nd rfl (lo rfl) (aV GV hr.m (by rfl) (af (ae (pv 0)) (af (aa aj) au))))
  (ah (aK (i:=3) cQ.nd rfl (lo rfl) (aI aO (aa aj) (aa (aI b5 (ae (pv 2)) (aa aj)))))
  (ah (aK (i:=4) cQ.nd rfl (lo rfl) (aI b5 (aa (aI dj (ae (pv 2)) (aa aj))) (aa (aI nu (aa aj) (ae (pv 3))))))
  (aB (bg (bG cC (by rfl) GZ cB (af (aa (nM (ae (pv 1)) (eJ (ax (pv 4))) (eJ (aI aO (ae (pv 4)) (ae (pv 3)))))) au))))))))
abbrev iX:Stmt:=top 32
theorem cZ:FnScope ["_law_script","_law_first","_law_moves_here","_law_count","_law_places_here","_law_ones","_law_noughts"] ["_law_script","_law_first"] (defScope iX):=fs
theorem ph(Df:Def K mg "_law_net" iX)(J2:Ct P w K mg base "_law_moves" 3 (spF K cK))(JQ:Ct P w K mg base "_law_places" 3 (spF K cq))(Il:Ct P w K mg base "_law_run" 2 (spF K br))(Hw:mg "len" = none)(GZ:mg "tuple" = none):Ct P w K mg base "_law_net" 4 (spF K cY):=
 d9 Df cZ (fun _ _ _ _ _ _=>uI fun _ _=>rfl) fun f Hf A outer s H E hr=>
  (ah (aK (i:=2) cZ.nd rfl (lo rfl) (aV J2 hr.m (by rfl) (af (ae (pv 0)) au)))
  (ah (aK (i:=3) cZ.nd rfl (lo rfl) (bA eR (by rfl) Hw bt_len (af (ae (pv 2)) au)))
  (ah (aK (i:=4) cZ.nd rfl (lo rfl) (aV JQ hr.m (by rfl) (af (ae (pv 0)) (af (ae (pv 1)) (af (ae (pv 3)) au)))))
  (ah (du (aY kZ (aa (aV Il hr.m (by rfl) (af (aa (bB (ao (ax (pv 2)) (ao (ax (pv 4)) aJ)))) (af (aa aj) au)))) (aa eZ) (bu _))
  (aB (bg (bB (ao (ax (pv 2)) (ao (ax (pv 4)) aJ)))))
  bq)
  (ah (aK (i:=5) cZ.nd rfl (lo rfl) (bG cC (by rfl) GZ cB (af (aa (cn [none] ["_law_move"] rfl (dJ (gY (pv 2)) (dJ (bW (i9 (ax (pv 2)))) (bW (ja (ax (pv 2)))))) (fun _ _ _ _ _=>(aN (i:=0) (show List.Nodup (["_law_move"]:List Str) from by decide +kernel) rfl (lo rfl))) (fun _ _ _ _ _=>cO) (fun _ _ _ _ _=>aj))) au)))
  (ah (aK (i:=6) cZ.nd rfl (lo rfl) (bG cC (by rfl) GZ cB (af (aa (cn [none] ["_law_move"] rfl (dJ (gY (pv 2)) (dJ (bW (i9 (ax (pv 2)))) (bW (ja (ax (pv 2)))))) (fun _ _ _ _ _=>(aN (i:=0) (show List.Nodup (["_law_move"]:List Str) from by decide +kernel) rfl (lo rfl))) (fun _ _ _ _ _=>cO) (fun _ _ _ _ _=>aj))) au)))
  (ah (du (aY kZ (aa (aV Il hr.m (by rfl) (af (aa (bB (ao (ax (pv 2)) (ao (aI aO (ae (pv 4)) (aa (eg (ao (bB (ao aj (ao (ax (pv 5)) (ao (ax (pv 6)) aJ)))) aJ)))) aJ)))) (af (aa aj) au)))) (aa eZ) (bu _))
  (aB (bg (bB (ao (ax (pv 2)) (ao (aI aO (ae (pv 4)) (aa (eg (ao (bB (ao aj (ao (ax (pv 5)) (ao (ax (pv 6)) aJ)))) aJ)))) aJ)))))
  bq)
  (aB (bg (bB (ao (ax (pv 2)) (ao (aI aO (ae (pv 4)) (aa (eg (ao (bB (ao aj (ao (ax (pv 5)) (ao (ax (pv 6)) aJ)))) aJ)))) aJ))))))))))))
abbrev eX:Stmt:=top 33
theorem cA:FnScope ["_law_script","_law_moves_here","_law_names_here","_law_number","_law_spare","_law_name"] ["_law_script","_law_moves_here"] (defScope eX):=fs
theorem kK(Df:Def K mg "_law_others" eX)(GV:Ct P w K mg base "_law_cell_at" 1 (spF K aw))(Hl:Ct P w K mg base "_law_mixed" 1 (spF K aR))(Ik:Ct P w K mg base "_law_names" 2 (spF K bJ))(Hw:mg "len" = none)(Hu:mg "sorted" = none)(GZ:mg "tuple" = none):Ct P w K mg base "_law_others" 3 (spF K cu):=
 d9 Df cA (fun _ _ _ _ _ _=>uI fun _ _=>rfl) fun f Hf A outer s H E hr=>
  (ah (aK (i:=2) cA.nd rfl (lo rfl) (aI aO (aa (aV Ik hr.m (by rfl) (af (aa (aV GV hr.m (by rfl) (af (ae (pv 0)) (af (aa aj) au)))) au))) (aa (eg (ao (d4 EN (by decide)) (ao (d4 EM (by decide)) aJ))))))
  (ah (aK (i:=3) cA.nd rfl (lo rfl) (aV Hl hr.m (by rfl) (af (aa (aV GV hr.m (by rfl) (af (ae (pv 0)) (af (aa aj) au)))) (af (aa aj) au))))
  (ah (jB (i:=4) [none,some 1] ["_law_name","_law_moves_here"] cA.nd rfl (lo rfl) rfl (dJ (gY (pv 2)) (dJ (bW (i9 (ax (pv 2)))) (bW (ja (ax (pv 2)))))) (fun _ _ _ _ _=>(aN (i:=0) (show List.Nodup (["_law_name","_law_moves_here"]:List Str) from by decide +kernel) rfl (lo rfl))) (fun _ _ _ _ _=>(oZ (aY (o9 hr.u65) (ae (pv 0)) (ae (pv 1)) (by with_unfolding_all rfl)))) (fun _ _ _ _ _=>(ax (pv 0))))
  (ah (aK (i:=5) cA.nd rfl (lo rfl) (a9 (ae (pv 4)) (aa (aI b5 (ae (pv 3)) (aa (bA eR (by rfl) Hw bt_len (af (ae (pv 4)) au)))))))
  (ah (du (aY (jV hr.units) (aa (aI b5 (aa (aI dj (ae (pv 3)) (aa aj))) (aa aj))) (aa aj) (bu _))
  (aB (bg (bG cC (by rfl) GZ cB (af (aa (bA (lb rfl) (by rfl) Hu ij (af (aa (aI aO (ae (pv 1)) (aa (bB (ao (ax (pv 5)) aJ))))) au))) au))))
  bq)
  (ah (du (aY (jV hr.units) (aa (aI b5 (aa (aI dj (ae (pv 3)) (aa aj))) (aa aj))) (aa aj) (bu _))
  (aB (bg (nM (ae (pv 1)) lW (eJ (Cm (aa aj))))))
  bq)
  (aB (bg (bG cC (by rfl) GZ cB (af (aa (bA (lb rfl) (by rfl) Hu ij (af (aa (aI aO (aa (nM (ae (pv 1)) (eJ aj) lW)) (aa (bB (ao (ax (pv 5)) aJ))))) au))) au))))))))))
abbrev dS:Stmt:=top 34
theorem fY:FnScope ["_law_chart","_law_moves_here","_law_arcs"] ["_law_chart","_law_moves_here"] (defScope dS):=fs
theorem ki(Df:Def K mg "_law_renamed" dS):Ct P w K mg base "_law_renamed" 1 (spF K bQ):=
 d9 Df fY (fun _ _ _ _ _ _=>uI fun _ _=>rfl) fun f Hf A outer s H E hr=>
  (ah (jB (i:=2) [none,some 1] ["_law_arc","_law_moves_here"] fY.nd rfl (lo rfl) rfl (bW (iC (a9 (ae (pv 0)) (aa aj)))) (fun _ _ _ _ _=>(aN (i:=0) (show List.Nodup (["_law_arc","_law_moves_here"]:List Str) from by decide +kernel) rfl (lo rfl))) (fun _ _ _ _ _=>(oZ (QW.qt (kX (aY (ye hr.u65) (aa (a9 (ae (pv 0)) (aa aj))) (ae (pv 1)) (by with_unfolding_all rfl)) (kX (aY (jV hr.units) (aa (a9 (ae (pv 0)) (aa aj))) (aa aj) (bu _)) (jP (aY (jV hr.units) (aa (a9 (ae (pv 0)) (aa aj))) (aa aj) (bu _)))))))) (fun _ _ _ _ _=>(ax (pv 0))))
  (aB (bg (bB (ao (ax (pv 1)) (ao (ax (pv 2)) aJ))))))
abbrev dU:Stmt:=top 35
theorem b9:FnScope ["_law_chart","_law_net_here","_law_refused_here","e","_law_other"] ["_law_chart","_law_net_here"] (defScope dU):=fs
theorem kj(Df:Def K mg "_law_refused" dU){HF:Addr}{Ig:Addr}{HS:Addr}{ID:Addr}{IE:Addr}{Hx:Addr}{Ih:Addr}{GR:Addr}{HG:Addr}(MA:CtX P w K mg base "held" 4 GR (spX K GR lg))(KL:Ct P w K mg base "held" 4 (spF K iq))(KN:mg "NetError" = some (.ref HF))(LV:mg "NoCase" = some (.ref Ig))(Lq:mg "NoChart" = some (.ref HS))(MB:mg "NoNet" = some (.ref ID))(MC:mg "NoRun" = some (.ref IE))(Km:mg "NoStretch" = some (.ref Hx))(LX:mg "NoText" = some (.ref Ih))(KO:mg "TooGreat" = some (.ref HG))(GX:PySem.W.kitOne K (.ref GR) (.type "ValueError")=some true)(GL:PySem.W.kitAny K (.ref GR) [.ref Ig,.ref HS,.ref ID,.ref IE,.ref Hx,.ref Ih,.ref HG]=some false)(Hb:PySem.W.kitOne K (.ref GR) (.ref HF)=some true)(Hm:Asks K GR)(Hg:NN mg base "OtherMoves" GR)(Hy:mg "ValueError" = none)(Hn:mg "isinstance" = none):Ct P w K mg base "_law_refused" 5 (spF K bh):=
 d9 Df b9 (fun _ _ _ _ _ _=>uI fun _ _=>rfl) fun f Hf A outer s H E hr=>
  (ah (aK (i:=2) b9.nd rfl (lo rfl) zq)
  (ah (xb (i:=3) Hg (by rfl) (aB (eI (aV KL hr.m (by rfl) (af (ae (pv 0)) (af (ae (pv 1)) au))))) (w5 (z9 MA hr.m (by rfl) (af (ae (pv 0)) (af (ae (pv 1)) au)))) (fun a o vs h1 h2=>(yh (j:=4) b9.nd rfl (Or.inl rfl) (CL SN h1 h2 Hm (pv 3) (by rfl) Hn (g5 (by rfl) LV (g5 (by rfl) Lq (g5 (by rfl) MB (g5 (by rfl) MC (g5 (by rfl) Km (g5 (by rfl) LX (g5 (by rfl) KO CM))))))) (by show(7:Nat)<=100;decide) GL)
  (yh (j:=2) b9.nd rfl (Or.inl rfl) (yg (EL SN h1 h2 Hm (pv 3) (by rfl) Hn (by rfl) KN Hb) (yg (CK SN h1 h2 Hm (pv 3) (by rfl) Hn (by rfl) Hy (by decide +kernel) GX) (CG (CI (CJ (pv 4))))))
  CN (by decide)) (by decide))) rfl b9.nd rfl rfl rfl)
  (aB (bg (iP (pv 2))))))
abbrev mq:Stmt:=top 36
theorem jk:FnScope ["_law_script","_law_net_here","_law_arcs","_law_markings","_law_chart","_law_others_here","_law_numbers","_law_other_net"] ["_law_script"] (defScope mq):=fs
theorem CP{f:Addr}{fd:FuncData}(F:Fun K "law" "law" mq f fd)(GV:Ct P w K mg base "_law_cell_at" 1 (spF K aw))(KP:Ct P w K mg base "_law_net" 4 (spF K cY))(JR:Ct P w K mg base "_law_others" 3 (spF K cu))(HU:Ct P w K mg base "_law_refused" 5 (spF K bh))(JE:Ct P w K mg base "_law_renamed" 1 (spF K bQ))(Il:Ct P w K mg base "_law_run" 2 (spF K br))(KL:Ct P w K mg base "held" 4 (spF K iq))(Hw:mg "len" = none)(Hr:mg "range" = none)(GZ:mg "tuple" = none):FnOk P w K mg base Li 6 f fd ["_law_script"] (spF K Ag):=
 fnok_of F jk fun Hf A outer s H E hr=>
  (ah (aK (i:=1) jk.nd rfl (lo rfl) (aV KP hr.m (by rfl) (af (ae (pv 0)) (af (aa aj) au))))
  (ah (yc (aV Il hr.m (by rfl) (af (ae (pv 1)) (af (aa aj) au))) (i7 rfl (a8 (aN (i:=2) jk.nd rfl (lo rfl)) (a8 (aN (i:=3) jk.nd rfl (lo rfl)) fI))))
  (ah (aK (i:=4) jk.nd rfl (lo rfl) (bB (ao (a9 (ae (pv 1)) (aa aj)) (ao (ax (pv 2)) aJ))))
  (ah (aK (i:=5) jk.nd rfl (lo rfl) (aV JR hr.m (by rfl) (af (ae (pv 0)) (af (aa (a9 (ae (pv 1)) (aa aj))) au))))
  (ah (du (pW (pV (aV HU hr.m (by rfl) (af (aa (aV JE hr.m (by rfl) (af (ae (pv 4)) (af (ae (pv 5)) au)))) (af (ae (pv 1)) au)))))
  (aB (bg zq))
  bq)
  (ah (aK (i:=6) jk.nd rfl (lo rfl) (bG cC (by rfl) GZ cB (af (aa (cn [none,some 0] ["_law_k","_law_script"] rfl (bW (d5 (by rfl) Hr (aa (bA eR (by rfl) Hw bt_len (af (ae (pv 5)) au))))) (fun _ _ _ _ _=>(aN (i:=0) (show List.Nodup (["_law_k","_law_script"]:List Str) from by decide +kernel) rfl (lo rfl))) (fun _ _ _ _ _=>cO) (fun _ _ _ _ _=>(aI b5 (aa (aV GV hr.m (by rfl) (af (ae (pv 1)) (af (aa (aI aO (aa aj) (ae (pv 0)))) au)))) (aa (aI tS (aa aj) (aa aj))))))) au)))
  (ah (aK (i:=7) jk.nd rfl (lo rfl) (bB (ao (ax (pv 5)) (ao (eg (ao (bB (ao (aI b5 (aa (aV GV hr.m (by rfl) (af (ae (pv 0)) (af (aa aj) au)))) (aa (aI tS (aa aj) (aa aj)))) (ao (ax (pv 6)) (ao (ax (pv 6)) aJ)))) aJ)) aJ))))
  (ah (du (QW.qt (Er (pW (pV (aV HU hr.m (by rfl) (af (ae (pv 4)) (af (ae (pv 7)) au))))) (B2 (pW (pV (aV HU hr.m (by rfl) (af (ae (pv 4)) (af (aa (bB (ao (ax (pv 5)) (ao (eg aJ) aJ)))) au))))))))
  (aB (bg zq))
  bq)
  (aB (bg (zr (jV hr.units) (aa (aV KL hr.m (by rfl) (af (ae (pv 4)) (af (ae (pv 1)) au)))) (aa (bB (ao (d4 Fv (by decide)) (ao (ax (pv 3)) aJ)))) (bu _))))))))))))
end
end LW
namespace PV
open PySem L2 NX
class Cont (α β:Type) where
 run:α->Res β
def Res.bnd{α β:Type}[f:Cont α β](x:Res α):Res β:=x.bind f.run
theorem Ht{α β:Type}(a:α)(f:α->Res β):Res.bnd (Res.ok a) (f:=⟨f⟩)=f a:=id rfl
section
variable(env:PV.Env)(i n:Nat)(d:D)(f g:FX)(c c':FT)(fo QF fo'':FO)(fs:FOs)(fd:FDs)(s t:FS)(op op':D->D->Res R)(F:List D->Res R)(a:FG)(as:Mw)(fi fj:FI)(fp GS:FP)(T:String)
theorem Oa:aF d env=.ok ((.f,d),env):=id rfl
theorem K9:aH i env=match env[i]? with|some (some r)=>.ok ((.f,r.2),env.set i (some (fz r.1,r.2)))|_=>.bad:=id rfl
theorem PZ:fz .f=.f:=id rfl
theorem P0(c:O):fz (.l c)=.f:=id rfl
theorem P1(cs:List O):fz (.t cs)=.f:=id rfl
theorem MD(p:Addr):wI (.pin p .f)=true:=id rfl
theorem LY(p:Addr):wI (.pin p .d)=true:=id rfl
theorem ME:lQ i env=match env[i]? with|some (some r)=>.ok (r,env.set i none)|_=>.bad:=id rfl
theorem Ob:aq f env=Res.bnd (f env) (f:=⟨fun p=>.ok (.val p.1.2,p.2)⟩):=id rfl
theorem Oc:av i env=match env[i]? with|some (some _)=>.ok (.var i,env)|_=>.bad:=id rfl
theorem MF:aE env=.ok ([],env):=id rfl
theorem LZ:ag fo fs env=Res.bnd (fo env) (f:=⟨fun p=>Res.bnd (fs p.2) (f:=⟨fun q=>.ok (p.1::q.1,q.2)⟩)⟩):=id rfl
theorem MG:bj env=.ok ([],env):=id rfl
theorem L0:aA f fd env=Res.bnd (f env) (f:=⟨fun p=>Res.bnd (fd p.2) (f:=⟨fun q=>.ok (p.1.2::q.1,q.2)⟩)⟩):=id rfl
theorem Od:Iu env (.val d)=.ok d:=id rfl
theorem Oe:Iu env (.var i)=match env[i]? with|some (some r)=>if wI r.1 then .ok r.2 else .bad|_=>.bad:=id rfl
theorem MH:rV env (.val d)=.ok d:=id rfl
theorem MI:rV env (.var i)=match env[i]? with|some (some r)=>.ok r.2|_=>.bad:=id rfl
theorem MJ:oK env []=.ok []:=id rfl
theorem MK(o:Opd)(os:List Opd):oK env (o::os)=Res.bnd (Iu env o) (f:=⟨fun d=>Res.bnd (oK env os) (f:=⟨fun ds=>.ok (d::ds)⟩)⟩):=id rfl
theorem L1:gD env []=.ok []:=id rfl
theorem L3(o:Opd)(os:List Opd):gD env (o::os)=Res.bnd (rV env o) (f:=⟨fun d=>Res.bnd (gD env os) (f:=⟨fun ds=>.ok (d::ds)⟩)⟩):=id rfl
theorem ML:wI .f=true:=id rfl
theorem MN:wI (.l .f)=true:=id rfl
theorem MO:wI .d=true:=id rfl
theorem Of:aD op fo QF env=Res.bnd (fo env) (f:=⟨fun p=>Res.bnd (QF p.2) (f:=⟨fun q=>Res.bnd (Iu q.2 p.1) (f:=⟨fun a=>Res.bnd (Iu q.2 q.1) (f:=⟨fun b=>Res.bnd (op a b) (f:=⟨fun r=>.ok (r,q.2)⟩)⟩)⟩)⟩)⟩):=id rfl
theorem MP:bI op fo QF env=Res.bnd (fo env) (f:=⟨fun p=>Res.bnd (QF p.2) (f:=⟨fun q=>Res.bnd (rV q.2 p.1) (f:=⟨fun a=>Res.bnd (rV q.2 q.1) (f:=⟨fun b=>Res.bnd (op a b) (f:=⟨fun r=>.ok (r,q.2)⟩)⟩)⟩)⟩)⟩):=id rfl
theorem P2:HA f env=Res.bnd (f env) (f:=⟨fun p=>match p.1.2 with | .bl k=>.ok (k,p.2)|_=>.bad⟩):=id rfl
theorem Og:rW c c' env=Res.bnd (c env) (f:=⟨fun p=>if p.1 then c' p.2 else .ok (false,p.2)⟩):=id rfl
theorem P4:Rw c c' env=Res.bnd (c env) (f:=⟨fun p=>if p.1 then .ok (true,p.2) else c' p.2⟩):=id rfl
theorem Oh:AY c env=Res.bnd (c env) (f:=⟨fun p=>.ok (!p.1,p.2)⟩):=id rfl
theorem MQ:bo F fs env=Res.bnd (fs env) (f:=⟨fun p=>Res.bnd (oK p.2 p.1) (f:=⟨fun ds=>Res.bnd (F ds) (f:=⟨fun r=>.ok (r,p.2)⟩)⟩)⟩):=id rfl
theorem Oi:dD F fs env=Res.bnd (fs env) (f:=⟨fun p=>Res.bnd (gD p.2 p.1) (f:=⟨fun ds=>Res.bnd (F ds) (f:=⟨fun r=>.ok (r,if aM r.1 r.2 then p.2 else p.2.map frz)⟩)⟩)⟩):=id rfl
theorem Oj:fK fd env=Res.bnd (fd env) (f:=⟨fun p=>if p.1.length<=1000 then .ok ((.f,.tup p.1),p.2) else .bad⟩):=id rfl
theorem Ol:o4 fd env=Res.bnd (fd env) (f:=⟨fun p=>if p.1.length<=1000 then .ok ((.l .f,.lst p.1),p.2) else .bad⟩):=id rfl
theorem MR:rA env=.ok (none,env):=id rfl
theorem MS:jR f env=Res.bnd (f env) (f:=⟨fun p=>match p.1.2 with | .int i=>.ok (some i,p.2)|_=>.bad⟩):=id rfl
theorem Om:tV i f env=if tU env i then(Res.bnd (f env) (f:=⟨fun(p:R×PV.Env)=>match p.2[i]? with
 |some (some (.l .f,.lst ds))=>if ds.length<sizeLine then .ok ((.f,.non),p.2.set i (some (.l .f,.lst (ds++[p.1.2])))) else .bad
 |_=>.bad⟩)) else .bad:=id rfl
theorem MT:tU env i=match env[i]? with|some (some (_,.lst _))=>true|_=>false:=id rfl
theorem MU:zJ f g env=Res.bnd (f env) (f:=⟨fun p=>Res.bnd (g p.2) (f:=⟨fun q=>match(nE p.1.2).bind dm,q.1.2 with|some ns,.int d=>.ok ((.f,.int (NX.maxD ns d)),q.2)|_,_=>.bad⟩)⟩):=id rfl
theorem Oo(gg:List Nat->List D->Res R):EC gg fo fs env=Res.bnd (fo env) (f:=⟨fun p=>match Iu p.2 p.1 with
 | .ok (.str l)=>Res.bnd (fs p.2) (f:=⟨fun q=>Res.bnd (oK q.2 q.1) (f:=⟨fun ds=>Res.bnd (gg l ds) (f:=⟨fun r=>.ok (r,q.2)⟩)⟩)⟩)
 |_=>.bad⟩):=id rfl
theorem MV(ix:List (Option Nat)):dy fi ix a c f env=Res.bnd (fi env) (f:=⟨fun p=>Res.bnd (cV a c f p.1 (dw ix p.2)) (f:=⟨fun ds=>if ds.length<=sizeLine then .ok ((.l .f,.lst ds),if flatDs ds then p.2 else p.2.map frz) else .bad⟩)⟩):=id rfl
theorem KQ:dw [] env=[]:=id rfl
theorem KR(ix:List (Option Nat)):dw (none::ix) env=none::dw ix env:=id rfl
theorem KS(ix:List (Option Nat)):dw (some i::ix) env=(match env[i]? with|some (some r)=>some (O.f,r.2)|_=>none)::dw ix env:=id rfl
theorem CQ:gH env=.ok (true,env):=id rfl
theorem qw(ds:List D):cV a c f (d::ds) env=Res.bnd (a d env) (f:=⟨fun e=>Res.bnd (c e) (f:=⟨fun p=>if p.1 then(Res.bnd (f p.2) (f:=⟨fun q=>Res.bnd (cV a c f ds q.2) (f:=⟨fun rs=>.ok (q.1.2::rs)⟩)⟩)) else cV a c f ds p.2⟩)⟩):=id rfl
theorem CS:B3 f env=Res.bnd (f env) (f:=⟨fun p=>match p.1.2 with | .lst ds=>.ok (ds,p.2)|_=>.bad⟩):=id rfl
theorem uM:gU f env=Res.bnd (f env) (f:=⟨fun p=>match p.1.2 with | .tup ds=>.ok (ds,p.2)|_=>.bad⟩):=id rfl
theorem uN:gW f env=Res.bnd (f env) (f:=⟨fun p=>match p.1.2 with | .str l=>.ok (l.map fun c=>.str [c],p.2)|_=>.bad⟩):=id rfl
theorem pj:IC fi fj env=match fi env with | .ok a=>.ok a|_=>fj env:=by
 unfold IC;cases fi env <;> rfl
theorem Oq:IC (B3 f) (IC (gU f) (gW f)) env=Res.bnd (f env) (f:=⟨fun p=>match p.1.2 with
 | .lst ds=>.ok (ds,p.2)
 | .tup ds=>.ok (ds,p.2)
 | .str l=>.ok (l.map fun c=>.str [c],p.2)
 |_=>.bad⟩):=by
 rw[pj,pj,CS,uM,uN];cases f env with
 |ok p=>
  obtain⟨⟨o,d⟩,e⟩:=p;cases d <;> rfl
 |exc c=>rfl
 |bad=>rfl
theorem MW:IC (iS i) (IC (gU (aH i)) (gW (aH i))) env=match env[i]? with
 |some (some (_,.lst ds))=>.ok (ds,env)
 |some (some (o,.tup ds))=>.ok (ds,env.set i (some (fz o,.tup ds)))
 |some (some (o,.str l))=>.ok (l.map fun c=>.str [c],env.set i (some (fz o,.str l)))
 |_=>.bad:=by
 rw[pj,pj,uM,uN,K9];unfold iS;cases env[i]? with
 |none=>rfl
 |some r=>
  cases r with
  |none=>rfl
  |some r=>
   obtain⟨o,d⟩:=r;cases d <;> rfl
theorem JX:dv fo env=Res.bnd (fo env) (f:=⟨fun p=>Res.bnd (Iu p.2 p.1) (f:=⟨fun d=>match d with
 | .int j=>if -4611686018427387904<=j/\j<4611686018427387904 then .ok ((List.range j.toNat).map fun(k:Nat)=>D.int (k:Int),p.2) else .bad
 |_=>.bad⟩)⟩):=id rfl
theorem mr(k1 k2:Bool):rq k1 k2 fs env=Res.bnd (fs env) (f:=⟨fun p=>match p.1 with
 |[.val d1,.val d2]=>Res.bnd (iQ k1 d1) (f:=⟨fun a=>Res.bnd (iQ k2 d2) (f:=⟨fun b=>.ok ((a.zip b).map fun z=>D.tup [z.1,z.2],p.2)⟩)⟩)
 |_=>.bad⟩):=id rfl
theorem IL:aG i d env=if i<env.length then .ok (env.set i (some (.f,d))) else .bad:=id rfl
theorem MX:fA [] env=.ok env:=id rfl
theorem Ii(ds:List D):aS a as (d::ds) env=Res.bnd (a d env) (f:=⟨fun e=>as ds e⟩):=id rfl
theorem KU(ds:List D):lS n as (.tup ds) env=if ds.length=n then as ds env else .bad:=id rfl
theorem HV:sSeq s t env=Res.bnd (s env) (f:=⟨fun o=>match o with | .nx e=>t e|o=>.ok o⟩):=id rfl
theorem MY:dn env=.ok (.nx env):=id rfl
theorem L4:cx i f env=Res.bnd (f env) (f:=⟨fun p=>if i<p.2.length then .ok (.nx (p.2.set i (some p.1))) else .bad⟩):=id rfl
theorem MZ:jr f env=Res.bnd (f env) (f:=⟨fun p=>.ok (.nx p.2)⟩):=id rfl
theorem Ot:fg f env=Res.bnd (f env) (f:=⟨fun p=>.ok (.rt p.1)⟩):=id rfl
theorem P5:Jr c s t env=Res.bnd (c env) (f:=⟨fun p=>if p.1 then s p.2 else t p.2⟩):=id rfl
theorem Ou:tR fi a s env=Res.bnd (fi env) (f:=⟨fun p=>dW a s p.1 p.2⟩):=id rfl
theorem M0:dW a s [] env=.ok (.nx env):=id rfl
theorem cR(ds:List D):dW a s (d::ds) env=Res.bnd (a d env) (f:=⟨fun e=>Res.bnd (s e) (f:=⟨fun o=>match o with
 | .nx e=>dW a s ds e
 | .ct e=>dW a s ds e
 | .bk e=>.ok (.nx e)
 | .rt r=>.ok (.rt r)⟩)⟩):=id rfl
theorem dO:c9 c s (n+1) env=Res.bnd (c env) (f:=⟨fun p=>if p.1 then(Res.bnd (s p.2) (f:=⟨fun o=>match o with
  | .nx e=>c9 c s n e
  | .ct e=>c9 c s n e
  | .bk e=>.ok (.nx e)
  | .rt r=>.ok (.rt r)⟩)) else .ok (.nx p.2)⟩):=id rfl
theorem Ov:Cj f a env=Res.bnd (f env) (f:=⟨fun p=>Res.bnd (a p.1.2 p.2) (f:=⟨fun e=>.ok (.nx e)⟩)⟩):=id rfl
theorem bE(ds:List D)(nn:Nat)(h:ds.length=n):fBody n nn s ds=Res.bnd (s (ds.map (fun d=>some (O.f,d))++List.replicate nn none)) (f:=⟨fun o=>match o with
 | .rt r=>.ok r
 | .nx _=>.ok (.f,.non)
 |_=>.bad⟩):=by
 unfold fBody;rw[S1 h];all_goals cases s (ds.map (fun d=>some (O.f,d))++List.replicate nn none) with
 |ok o=>cases o <;> rfl
 |exc c=>rfl
 |bad=>rfl
end
theorem line_le{n:Nat}(h:n<=16777216):n<=sizeLine:=by rw[line_eq];exact h
section
variable(a b:Int)(x y:List Nat)(p q:Bool)(ds es:List D)
theorem EO:Js (.int a) (.int b)=.ok (.f,.bl (a==b)):=by simp only[Js,plainD,GU,Ul,Vu]
theorem ER:Js (.str x) (.str y)=.ok (.f,.bl (x==y)):=by simp only[Js,plainD,GU,Ul,Vu]
theorem ES:Ks (.int a) (.int b)=.ok (.f,.bl (!(a==b))):=by simp only[Ks,plainD,GU,Ul,Vu]
theorem CT:wM (.int a) (.int b)=.ok (.f,.int (a-b)):=id rfl
theorem Aj:fB (.int a) (.int b)=if 0<b/\b<1073741824 then .ok (.f,.int (a / b)) else .bad:=id rfl
theorem CU:gE (.int a) (.int b)=if 0<b then .ok (.f,.int (a%b)) else .bad:=id rfl
theorem CV:rX (.int a) (.int b)=if 0<=b/\b<=1000000/\a.natAbs<2 ^ 64 then .ok (.f,.int (a ^ b.toNat)) else .bad:=id rfl
theorem ET:KJ (.int a) (.int b)=.ok (.f,.bl (decide (a<b))):=id rfl
theorem EU:Pm (.int a) (.int b)=.ok (.f,.bl (decide (b<a))):=id rfl
theorem EV:Pq (.int a) (.int b)=.ok (.f,.bl (decide (b<=a))):=id rfl
theorem CW:jt [.lst ds]=.ok (.f,.int ds.length):=id rfl
theorem CY:jt [.tup ds]=.ok (.f,.int ds.length):=id rfl
theorem xh:df [.lst ds]=.ok (.f,.tup ds):=id rfl
theorem EW:Hj (.lst ds) (.int a)=match IU ds a with|some d=>.ok (.f,d)|none=>.bad:=id rfl
theorem EX:Hj (.tup ds) (.int a)=match IU ds a with|some d=>.ok (.f,d)|none=>.bad:=id rfl
theorem EY:Hj (.str x) (.int a)=match IU x a with|some c=>.ok (.f,.str [c])|none=>.bad:=id rfl
theorem CZ:maxD [.int a,.int b]=.ok (.f,.int (if a<b then b else a)):=id rfl
theorem yk(bs:List Bool):B9 [.lst (bs.map D.bl)]=.ok (.f,.bl (bs.all id)):=by
 unfold B9;show(match ny (bs.map D.bl) with|some bs=>_|none=>_)=_;rw[tW]
theorem QH{α:Type}(d:α)(l:List α):IU (d::l) 0=some d:=by
 have:=gQ (xs:=d::l) (j:=0) (v:=d) rfl;simpa using this
theorem OT{α:Type}(c d:α)(l:List α):IU (c::d::l) 1=some d:=by
 have:=gQ (xs:=c::d::l) (j:=1) (v:=d) rfl;simpa using this
end
theorem Ha(l:List Int):flatDs (l.map D.int)=true:=by
 rw[ck,Uv,Ti];intro b _;rfl
theorem qx(l:List Bool):flatDs (l.map D.bl)=true:=by
 rw[ck,Uv,Ti];intro b _;rfl
theorem flat_strs(l:List (List Nat)):flatDs (l.map D.str)=true:=by
 rw[ck,Uv,Ti];intro b _;rfl
theorem pk(d:D):aM .f d=flatD d:=by rw[aM]
theorem xi(ds:List D):aM (.l .f) (.lst ds)=flatDs ds:=by rw[aM,lU]
theorem jC(i:Int):flatD (.int i)=true:=by rw[flatD];all_goals simp
theorem pq(i:Bool):flatD (.bl i)=true:=by rw[flatD];all_goals simp
theorem bX(ds:List D):flatD (.tup ds)=flatDs ds:=by rw[flatD]
theorem iY(n:Nat)(l:List Int):plainDs n (l.map D.int)=true:=by
 induction l with
 |nil=>rfl
 |cons a l ih=>rw[S7,plainDs,ih,plainD];all_goals simp
theorem gB(n:Nat)(l:List (List Nat)):plainDs n (l.map D.str)=true:=by
 induction l with
 |nil=>rfl
 |cons a l ih=>rw[S7,plainDs,ih,plainD];all_goals simp
theorem eqDs_ints:∀a b:List Int,iJ (a.map D.int) (b.map D.int)=(a==b)
 |[],[]=>by simp[iJ]
 |[],_::_=>by simp[iJ]
 |_::_,[]=>by simp[iJ]
 |a::r,b::t=>by
  rw[S7,S7,iJ,GU,eqDs_ints r t,To];simp
theorem xj(a:Int)(l:List Int):vH (.int a) (l.map D.int)=decide (a∈l):=by
 unfold vH;rw[Vk,To,Us,S9];constructor
 ·rintro⟨x,hx,e⟩;have e:GU (.int x) (.int a)=true:=e;rw[GU,Tu]at e;rw[<-e];exact hx
 ·intro h;refine⟨a,h,?_⟩;show GU (.int a) (.int a)=true;rw[GU,Uq]
theorem xk(a:List Nat)(l:List (List Nat)):vH (.str a) (l.map D.str)=decide (a∈l):=by
 unfold vH;rw[Vk,To,Us,S9];constructor
 ·rintro⟨x,hx,e⟩;have e:GU (.str x) (.str a)=true:=e;rw[GU,Tu]at e;rw[<-e];exact hx
 ·intro h;refine⟨a,h,?_⟩;show GU (.str a) (.str a)=true;rw[GU,Uq]
theorem Fw(a:Int)(l:List Int):Kt (.int a) (.lst (l.map D.int))=.ok (.f,.bl (decide (a∈l))):=by
 unfold Kt;dsimp only;rw[iY,xj,plainD];all_goals simp
theorem mw{α:Type}{a:FG}{c:FT}{f:FX}{e:α->D}{p:α->Bool}{r:α->D}(I:PV.Env->Prop)(l:List α)
  (h:∀x∈l,∀env,I env->∃GN,a (e x) env=.ok GN/\∃GY,c GN=.ok (p x,GY)/\if p x then ∃o HE,f GY=.ok ((o,r x),HE)/\I HE else I GY):∀env,I env->cV a c f (l.map e) env=.ok ((l.filter p).map r):=by
 induction l with
 |nil=>intro env _;rfl
 |cons x l ih=>
  intro env hI;obtain⟨GN,h1,GY,h2,h3⟩:=h x SN env hI;have ih:=ih fun y hy=>h y (SU _ hy)
  rw[S7,qw,h1,Ht,h2,Ht];cases hp:p x with
  |true=>
   rw[hp]at h3;obtain⟨o,HE,h4,h5⟩:=h3;rw[S1 rfl,h4,Ht,ih HE h5,Ht,List.filter_cons_of_pos hp];rfl
  |false=>
   rw[hp]at h3;rw[S4 SX,ih GY h3,List.filter_cons_of_neg (by rw[hp];exact SX)]
theorem cE{α:Type}{a:FG}{f:FX}{e:α->D}{r:α->D}(I:PV.Env->Prop)(l:List α)
  (h:∀x∈l,∀env,I env->∃GN,a (e x) env=.ok GN/\∃o HE,f GN=.ok ((o,r x),HE)/\I HE):∀env,I env->cV a gH f (l.map e) env=.ok (l.map r):=by
 induction l with
 |nil=>intro env _;rfl
 |cons x l ih=>
  intro env hI;obtain⟨GN,h1,o,HE,h4,h5⟩:=h x SN env hI;have ih:=ih fun y hy=>h y (SU _ hy)
  rw[S7,qw,h1,Ht,CQ,Ht,S1 rfl,h4,Ht,ih HE h5];rfl
theorem Ak{a:FG}{g:FS}(P:Nat->PV.Env->Prop)(ds:List D)(h:∀i d env,ds[i]?=some d->P i env->∃GN,a d env=.ok GN/\∃GY,(g GN=.ok (.nx GY)\/g GN=.ok (.ct GY))/\P (i+1) GY):
  ∀env,P 0 env->∃env',dW a g ds env=.ok (.nx env')/\P ds.length env':=by
 have key:∀(l:List D) (k:Nat) (env:PV.Env),(∀i d,l[i]?=some d->ds[k+i]?=some d)->P k env->∃env',dW a g l env=.ok (.nx env')/\P (k+l.length) env':=by
  intro l;induction l with
  |nil=>exact fun k env _ hp=>⟨env,rfl,hp⟩
  |cons d l ih=>
   intro k env hd hp;obtain⟨GN,h1,GY,h2,h3⟩:=h k d env (hd 0 d rfl) hp;obtain⟨env',h4,h5⟩:=ih (k+1) GY (fun i d e=>by have:=hd (i+1) d (by simpa using e);rw[show k+1+i=k+(i+1) by lia];exact this) h3;refine⟨env',?_,by rw[S5,show k+(l.length+1)=k+1+l.length by lia];exact h5⟩;rw[cR,h1,Ht];rcases h2 with h2|h2
   ·rw[h2,Ht];exact h4
   ·rw[h2,Ht];exact h4
 intro env hp;obtain⟨env',h1,h2⟩:=key ds 0 env (fun i d e=>by rw[XB];exact e) hp;exact⟨env',h1,by rw[XB]at h2;exact h2⟩
section
variable(env:PV.Env)(fo:FO)(fp GS:FP)(a b:Int)(ds:List D)(x:List Nat)
theorem Ox:zT fo fp GS env=Res.bnd (fo env) (f:=⟨fun p=>Res.bnd (fp p.2) (f:=⟨fun q=>Res.bnd (GS q.2) (f:=⟨fun t=>Res.bnd (Iu t.2 p.1) (f:=⟨fun d=>Res.bnd (NW d q.1 t.1) (f:=⟨fun r=>.ok (r,t.2)⟩)⟩)⟩)⟩)⟩):=id rfl
theorem Oy:ED fo env=Res.bnd (fo env) (f:=⟨fun p=>Res.bnd (Iu p.2 p.1) (f:=⟨fun d=>match d with
 | .int i=>.ok ((.f,.int (-i)),p.2)
 |_=>.bad⟩)⟩):=id rfl
theorem C0(lo hi:Option Int):NW (.lst ds) lo hi=.ok (.l .f,.lst (gI ds lo hi)):=id rfl
theorem uO(lo hi:Option Int)(h:HT.sIx ds.length 0 lo=0/\HT.sIx ds.length ds.length hi=ds.length):gI ds lo hi=ds:=by
 unfold gI;rw[h.1,h.2,V2,XC,UB (SV _)]
theorem C1(lo hi:Option Int):NW (.tup ds) lo hi=.ok (.f,.tup (gI ds lo hi)):=by
 unfold NW;dsimp only;split
 ·rename_i h;rw[uO ds lo hi h]
 ·rename_i h;unfold OR;dsimp only;rw[S1 h]
theorem uP:zQ (.int a) (.int b)=if dk a||dk b then .ok (.f,.int (a*b)) else if a.natAbs<2 ^ 1000/\b.natAbs<2 ^ 1000 then .ok (.f,.int (a*b)) else .bad:=id rfl
end
section
variable(env:PV.Env)(fo:FO)(fs:FOs)(f g:FX)(a b c:Int)(ds es:List D)(x y:List Nat)
theorem Oz(gg:List D->List D->Res R):Cp gg fo fs env=Res.bnd (fo env) (f:=⟨fun p=>Res.bnd (Iu p.2 p.1) (f:=⟨fun d=>match d with
 | .tup _=>Res.bnd (fs p.2) (f:=⟨fun q=>Res.bnd (Iu q.2 p.1) (f:=⟨fun d2=>match d2 with
  | .tup l=>Res.bnd (oK q.2 q.1) (f:=⟨fun ds=>Res.bnd (gg l ds) (f:=⟨fun r=>.ok (r,q.2)⟩)⟩)
  |_=>.bad⟩)⟩)
 |_=>.bad⟩)⟩):=id rfl
theorem Fx(d:D):(∃l,iQ true d=.ok l/\iQ false d=.bad/\nE d=some l)\/(∃l,iQ true d=.bad/\iQ false d=.ok l/\nE d=some l)\/(iQ true d=.bad/\iQ false d=.bad/\nE d=none):=by
 cases d with
 |lst l=>exact .inl ⟨l,rfl,rfl,rfl⟩
 |tup l=>exact .inr (.inl ⟨l,rfl,rfl,rfl⟩)
 |_=>exact .inr (.inr ⟨rfl,rfl,rfl⟩)
def xl(k1 k2:Bool)(e:PV.Env)(d1 d2:D):Res (List D×PV.Env):=(iQ k1 d1).bind fun a=>(iQ k2 d2).bind fun b=>.ok ((a.zip b).map fun z=>D.tup [z.1,z.2],e)
def EZ(e:PV.Env)(d1 d2:D):Res (List D×PV.Env):=match nE d1,nE d2 with|some a,some b=>.ok ((a.zip b).map fun z=>D.tup [z.1,z.2],e)|_,_=>.bad
def Nu(a b:Res (List D×PV.Env)):Res (List D×PV.Env):=match a with | .ok a=>.ok a|_=>b
def vI(g:D->D->Res (List D×PV.Env))(os:List Opd):Res (List D×PV.Env):=match os with|[.val d1,.val d2]=>g d1 d2|_=>.bad
theorem px(g h:D->D->Res (List D×PV.Env))(os:List Opd):Nu (vI g os) (vI h os)=vI (fun a b=>Nu (g a b) (h a b)) os:=by
 unfold vI;split <;> rfl
theorem Al(e:PV.Env)(a b:D):Nu (xl true true e a b) (Nu (xl true false e a b) (Nu (xl false true e a b) (xl false false e a b)))=EZ e a b:=by
 unfold xl EZ;rcases Fx a with⟨l,h1,h2,h3⟩|⟨l,h1,h2,h3⟩|⟨h1,h2,h3⟩ <;> rcases Fx b with⟨m,i1,i2,i3⟩|⟨m,i1,i2,i3⟩|⟨i1,i2,i3⟩ <;> rw[h1,h2,h3,i1,i2,i3] <;> rfl
theorem M1:rE fs env=Res.bnd (fs env) (f:=⟨fun p=>match p.1 with
 |[.val d1,.val d2]=>(match nE d1,nE d2 with|some a,some b=>.ok ((a.zip b).map fun z=>D.tup [z.1,z.2],p.2)|_,_=>.bad)
 |_=>.bad⟩):=by
 unfold rE;rw[pj,pj,pj,mr,mr,mr,mr];cases fs env with
 |ok p=>
  show Nu (vI (xl true true p.2) p.1) (Nu (vI (xl true false p.2) p.1) (Nu (vI (xl false true p.2) p.1) (vI (xl false false p.2) p.1)))=vI (EZ p.2) p.1;rw[px,px,px];exact TY (fun g=>vI g p.1) (funext fun a=>funext fun b=>Al p.2 a b)
 |_=>rfl
theorem M3:nE (.lst ds)=some ds:=id rfl
theorem M4:nE (.tup ds)=some ds:=id rfl
theorem M5(i:Nat):wU i f g env=Res.bnd (g env) (f:=⟨fun(p:R×PV.Env)=>Res.bnd (f p.2) (f:=⟨fun(q:R×PV.Env)=>match p.2[i]?,q.2[i]? with
 |some (some _),some (some (.l .f,.lst ds))=>(match q.1.2 with
  | .int k=>(match ixN ds.length k with
   |some j=>.ok (.nx (q.2.set i (some (.l .f,.lst (ds.set j p.1.2)))))
   |none=>.bad)
  |_=>.bad)
 |_,_=>.bad⟩)⟩):=id rfl
theorem Am:l7 (.int a) (.int b)=zQ (.int a) (.int b):=id rfl
theorem L5:uv f g env=Res.bnd (f env) (f:=⟨fun p=>Res.bnd (g p.2) (f:=⟨fun q=>if dP false p.1.2 then .ok ((.d,.dct false [p.1.2] [q.1.2]),q.2) else .bad⟩)⟩):=id rfl
theorem C2(d:D):My d (.lst ds)=Kt d (.lst ds):=id rfl
theorem An(d:D):uw d (.lst ds)=x9 d (.lst ds):=id rfl
theorem C3:dP false (.int a)=true:=id rfl
theorem C4:dP false (.str x)=true:=id rfl
theorem Ao:c5 (.int a) (.int b)=.ok (.f,.int (a+b)):=id rfl
theorem Ap:c5 (.str x) (.str y)=if x.length+y.length<=sizeLine then .ok (.f,.str (x++y)) else .bad:=id rfl
theorem uQ:c5 (.lst ds) (.lst es)=if ds.length+es.length<=sizeLine then .ok (.l .f,.lst (ds++es)) else .bad:=id rfl
theorem Aq:c5 (.tup ds) (.tup es)=if ds.length+es.length<=sizeLine\/ds=[] then .ok (.f,.tup (ds++es)) else .bad:=by
 unfold c5;cases ds with
 |nil=>rw[S1 (.inr rfl)];rfl
 |cons d ds=>
  dsimp only;unfold addD;dsimp only;by_cases h:(d::ds).length+es.length<=sizeLine
  ·rw[S1 ⟨nofun,h⟩,S1 (.inl h)]
  ·rw[S4 (fun z=>h z.2),S4 (fun z=>z.elim h nofun)]
end
section
variable(env:PV.Env)(f g:FX)(ds ks:List D)(i:Nat)
end
section
variable(env:PV.Env)(f:FX)(fs:FOs)(ds:List D)(i:Nat)
theorem Fy:Gh i env=match env[i]? with
 |some (some (ow,.lst ds))=>if isLf ow then(match ds.getLast? with
  |some d=>.ok ((.f,d),env.set i (some (ow,.lst ds.dropLast)))
  |none=>.bad) else .bad
 |_=>.bad:=id rfl
theorem fZ:j6 i f env=Res.bnd (f env) (f:=⟨fun(p:R×PV.Env)=>match p.2[i]? with
 |some (some (.pin q c,d))=>.ok (.rt (.t [p.1.1,.pin q c],.tup [p.1.2,d]))
 |_=>.bad⟩):=by
 first
  |exact id rfl
  |(unfold j6;rfl)
theorem xm(np nn:Nat)(c:O)(g:FS)(p:Addr)(d0:D)(h:ds.length+1=np):k7 np nn c g p (d0::ds)=Res.bnd (g (some (.pin p c,d0)::(ds.map (fun d=>some (O.f,d))++List.replicate nn none))) (f:=⟨fun o=>match o with
  | .rt r=>.ok r
  |_=>.bad⟩):=by
 unfold k7;dsimp only;rw[S1 h];rfl
end
noncomputable def pv:=(Zz @Ht (Zz @Oa (Zz @K9 (Zz @ME (Zz @Ob (Zz @Oc (Zz @MF (Zz @LZ (Zz @MG (Zz @L0 (Zz @Od (Zz @Oe (Zz @MH (Zz @MI (Zz @MJ (Zz @MK (Zz @L1 (Zz @L3 (Zz @ML (Zz @MN (Zz @MO (Zz @Of (Zz @MP (Zz @P2 (Zz @Og (Zz @P4 (Zz @Oh (Zz @MQ (Zz @Oi (Zz @Oj (Zz @Ol (Zz @Ox (Zz @Oy (Zz @MR (Zz @MS (Zz @Om (Zz @MT (Zz @MU (Zz @Oo (Zz @MV (Zz @KQ (Zz @KR (Zz @KS (Zz @Oq (Zz @MW (Zz @JX (Zz @IL (Zz @MX (Zz @Ii (Zz @KU (Zz @HV (Zz @MY (Zz @L4 (Zz @MZ (Zz @Ot (Zz @P5 (Zz @Ou (Zz @M0 (Zz @Ov (Zz @List.getElem?_cons_zero.{0} (Zz @List.getElem?_cons_succ.{0} (Zz @List.set_cons_zero.{0} (Zz @List.set_cons_succ.{0} (Zz @List.length_cons.{0} (Zz @List.length_nil.{0} (Zz @List.map_cons.{0,0} (Zz @List.map_nil.{0,0} (Zz @List.replicate_succ.{0} (Zz @List.replicate_zero.{0} (Zz @List.cons_append.{0} (Zz @List.nil_append.{0} (Zz @Nat.zero_add (Zz @Oz (Zz @M1 (Zz @M3 (Zz @M4 (Zz @M5 (Zz @L5 (Zz @PZ (Zz @P0 (Zz @P1 (Zz @MD @LY))))))))))))))))))))))))))))))))))))))))))))))))))))))))))))))))))))))))))))))))))
noncomputable def op:=(Zz @EO (Zz @ER (Zz @ES (Zz @CT (Zz @ET (Zz @EU (Zz @EV (Zz @CW (Zz @CY (Zz @xh (Zz @EW (Zz @EX (Zz @EY (Zz @C0 (Zz @C1 (Zz @CZ (Zz @QH (Zz @OT (Zz @yk (Zz @pk (Zz @xi (Zz @jC (Zz @pq (Zz @Ha (Zz @qx (Zz @PV.flat_strs (Zz @bX (Zz @Ao (Zz @Am (Zz @C2 (Zz @An (Zz @C3 @C4))))))))))))))))))))))))))))))))
theorem dV(n:Nat)(w:PV.Env):(∃d,Iu w (.var n)=.ok d)\/Iu w (.var n)=.bad:=by
 unfold Iu;dsimp only;split
 ·split
  ·exact .inl ⟨_,rfl⟩
  ·exact .inr rfl
 ·exact .inr rfl
section
variable(w:PV.Env)(op:D->D->Res R)(F:List D->Res R)(f g h:FX)(n n' n'':Nat)(x y:D)
end
section
variable(a b c d e g h i j k l m:Option R)(z:PV.Env)(r:R)(o:O)(x:D){ρ:Type}
end
end PV
namespace LW
open PySem L2 NX PV
theorem for_list{α:Type}{a:FG}{g:FS}{e:α->D}(l:List α)(P:Nat->PV.Env->Prop)
  (h:∀k x env,l[k]?=some x->P k env->∃GN,a (e x) env=.ok GN/\∃GY,g GN=.ok (.nx GY)/\P (k+1) GY):∀env,P 0 env->∃env',dW a g (l.map e) env=.ok (.nx env')/\P l.length env':=by
 intro env h0;have:=Ak (a:=a) (g:=g) P (l.map e) (fun i d env hi hp=>by
  rw[List.getElem?_map,Tg]at hi;obtain⟨x,hx,rfl⟩:=hi;obtain⟨GN,h1,GY,h2,h3⟩:=h i x env hx hp;exact⟨GN,h1,GY,.inl h2,h3⟩) env h0
 rwa [SO]at this
theorem pA{a:FG}{g:FS}{e:Nat->D}(n:Nat)(P:Nat->PV.Env->Prop)
  (h:∀k env,k<n->P k env->∃GN,a (e k) env=.ok GN/\∃GY,g GN=.ok (.nx GY)/\P (k+1) GY):∀env,P 0 env->∃env',dW a g ((List.range n).map e) env=.ok (.nx env')/\P n env':=by
 intro env h0;have:=for_list (a:=a) (g:=g) (e:=e) (List.range n) P (fun k x env hk hp=>by
  obtain⟨h1,h2⟩:=List.getElem?_eq_some_iff.mp hk;rw[Tr]at h1;rw[Xi]at h2;subst h2;exact h k env h1 hp) env h0
 rwa [Tr]at this
abbrev LNN:=List (List Nat)
theorem bV{α β:Type}{l:List α}(f:α->β):(l.map f).length=l.length:=SO f
theorem fD:(false=true)=False:=Um
theorem rL{α:Type}{l:List α}{i:Nat}{a:α}(h:l[i]?=some a):∃h:i<l.length,l[i]=a:=List.getElem?_eq_some_iff.mp h
theorem oM{α:Type}{l:List α}{i:Nat}(h:i<l.length):l[i]?=some l[i]:=List.getElem?_eq_getElem h
theorem e9{α β:Type}{f:α->β}{a:α}{l:List α}:(a::l).map f=f a::l.map f:=S7
theorem ou{α:Type}{a b:α}(h:a∈[b]):a=b:=Te.mp h
theorem rY{α β:Type}{f:α->β}{l:List α}{b:β}(h:b∈l.map f):∃a,a∈l/\f a=b:=T9.mp h
theorem vJ{α:Type}{a:α}{s t:List α}(h:a∈s++t):a∈s\/a∈t:=Tn.mp h
theorem jD{α:Type}{s t:List α}:(s++t).length=s.length+t.length:=Tq
theorem ay{s t:FS}{env env':PV.Env}(h:s env=.ok (.nx env')):sSeq s t env=t env':=by rw[HV,h,Ht]
theorem cb{ds:List D}(h:ds.length<=16777216):ds.length<=sizeLine:=line_le h
theorem ll{l:List Int}{k:Nat}(h:k<l.length):IU (l.map D.int) (k:Int)=some (.int (l.getD k 0)):=gQ (by rw[List.getElem?_map,List.getD_eq_getElem?_getD,oM h];rfl)
theorem C5{l:LNN}{k:Nat}(h:k<l.length):IU (l.map D.str) (k:Int)=some (.str l[k]):=gQ (by rw[List.getElem?_map,oM h];rfl)
theorem at2{α:Type}(a b c:α):IU [a,b,c] (2:Int)=some c:=rfl
theorem dq:∀l:LNN,eB (l.map D.str)=some l
 |[]=>rfl
 |a::l=>by
  rw[e9,eB,dq l];rfl
theorem kl(x y:D)(t1 t2:Option R)(cT:PV.Env):lS 2 (aS (aG 0) (aS (aG 1) fA)) (.tup [x,y]) (t1::t2::cT)=.ok (some (.f,x)::some (.f,y)::cT):=by
 rw[KU,S1 (by simp),Ii,IL,S1 (by simp),Ht,Ii,IL,S1 (by simp),Ht];rfl
theorem eE{α:Type}(lt:α->α->Bool)(l:List α):(bP lt l).length=l.length:=(cW lt l).length_eq
theorem uR(l:LNN)(h:l.length<64):fM [.lst (l.map D.str)]=.ok (.l .f,.lst ((bP JZ l).map D.str)):=by
 unfold fM;dsimp only;rw[S1 (by rw[bV];exact h)];unfold jY;cases l with
 |nil=>rfl
 |cons a l=>
  have e:dm ((a::l).map D.str)=none:=rfl;rw[e,dq]
def JS:List Nat:=[97,98,99,100,101,102,103,104,105,106,107,108,109,110,111,112,113,114,115,116,117,118,119,120,121,122]
theorem C6(j:Nat)(h:j<26):JS[j]?=some (97+j):=by
 have:∀j:_root_.Fin 26,JS[j.1]?=some (97+j.1):=by decide
 exact this ⟨j,h⟩
theorem C7(j:Int)(h0:0<=j)(h:j<26):IU JS j=some (97+j.toNat):=by
 obtain⟨n,rfl⟩:=Ug h0;exact gQ (C6 n (by lia))
theorem fC(x b:Int)(h:0<b):0<=x%b/\x%b<b:=⟨Int.emod_nonneg _ (by lia),Int.emod_lt_of_pos _ h⟩
theorem E1(n:Nat)(h:n<=200):rX (.int 10) (.int (n:Int))=.ok (.f,.int (10 ^ n)):=by
 rw[CV,S1 (by lia),T8]
theorem jE(x b:Int)(h:0<b):gE (.int x) (.int b)=.ok (.f,.int (x%b)):=by rw[CU,S1 h]
theorem iZ(x b:Int)(h:0<b)(h2:b<1073741824):fB (.int x) (.int b)=.ok (.f,.int (x / b)):=by rw[Aj,S1 ⟨h,h2⟩]
theorem Gx(x y:List Nat)(h:x.length+y.length<=1000):c5 (.str x) (.str y)=.ok (.f,.str (x++y)):=by rw[Ap,S1 (line_le (by lia))]
theorem qy{α:Type}(l:List α)(k:Nat):gI l none (some (k:Int))=l.take k:=by
 unfold gI;rw[HT.lz,HT.lA,V2,XC];by_cases h:k<=l.length
 ·rw[VY h]
 ·rw[Nat.min_eq_right (by lia),UB (SV _),UB (by lia)]
theorem xn{α:Type}(l:List α)(k:Nat):gI l (some (k:Int)) none=l.drop k:=by
 unfold gI;rw[HT.lz,HT.lA];by_cases h:k<=l.length
 ·rw[VY h,UB (by rw[Up];exact SV _)]
 ·rw[Nat.min_eq_right (by lia),WC (SV _),WC (by lia),List.take_nil]
theorem f7{α:Type}(f:Nat->α)(n:Nat)(h:∀i j,i<n->j<n->f i=f j->i=j):((List.range n).map f).Nodup:=by
 rw[Va,Vy];refine List.pairwise_lt_range.imp_of_mem fun{a b} ha hb hl e=>?_
 have:=h a b (TB.mp ha) (TB.mp hb) e;lia
theorem Fz(j:Int)(h0:0<=j)(h:j<=1000)(fo:FO)(env env':PV.Env)(o:Opd)(e1:fo env=.ok (o,env'))(e2:Iu env' o=.ok (.int j)):dv fo env=.ok ((List.range j.toNat).map fun(k:Nat)=>D.int (k:Int),env'):=by
 rw[JX,e1,Ht];dsimp only;rw[e2,Ht];dsimp only;rw[S1 (by lia)]
theorem Ar{α:Type}(l:List α)(a b:Nat)(h:a<=b)(hb:b<=l.length):gI l (some (a:Int)) (some (b:Int))=(l.drop a).take (b-a):=by
 unfold gI;rw[HT.lA,HT.lA,VY hb,VY (Tp h hb)]
theorem ox(x:Int)(h:-1000000<=x)(h2:x<=1000000):dk x=true:=by
 unfold dk;rw[S9];lia
theorem uS(d:D)(h:plainD 40 d=true):Js d d=.ok (.f,.bl true):=by
 unfold Js;rw[h,ie d 40 h];rfl
theorem uT(d:D)(h:plainD 40 d=true):Ks d d=.ok (.f,.bl false):=by
 unfold Ks;rw[h,ie d 40 h];rfl
theorem xo(l:List Int):plainD 40 (.tup (l.map D.int))=true:=by
 rw[plainD,iY]
theorem As(n k:Nat)(h:k<n):ixN n (k:Int)=some k:=by
 unfold ixN;rw[S1 (by lia),S1 (by lia)];rfl
theorem isT(ds:List D):Fo "tuple" (.tup ds)=true:=rfl
theorem pB{α β:Type}(f:α->β)(l:List α)(lo hi:Option Int):gI (l.map f) lo hi=(gI l lo hi).map f:=by
 unfold gI;rw[bV,<-List.map_drop,<-Xk]
theorem km{α:Type}{l:List α}(h:l.length<=100000):l.length<sizeLine:=S6 (UZ _) (line_le (by lia))
section
variable(env:PV.Env)(f:FX)(fs:FOs)(fo:FO)
theorem Au(i:Nat)(c:O)(F:Addr->List D->Res R):eFunW c F i fs env=Res.bnd (fs env) (f:=⟨fun p=>match p.1 with
 | .var j::os=>if j=i then(match p.2[i]? with
  |some (some (ow,d0))=>if nQ c ow then Res.bnd (gD (p.2.set i none) os) (f:=⟨fun ds=>Res.bnd (iT F c d0 ds) (f:=⟨fun x=>if aM x.1.1 x.1.2&&aM c x.2 then .ok (x.1,(p.2.set i none).set i (some (ow,x.2))) else .ok (x.1,((p.2.set i none).map frz).set i (some (ow,x.2)))⟩)⟩) else .bad
  |_=>.bad) else .bad
 |_=>.bad⟩):=id rfl
theorem A3(r:R):frz (some r)=some (.f,r.2):=id rfl
theorem A4:frz none=none:=id rfl
theorem ym(gg:List D->List D->Res R):EH gg fo fs env=Res.bnd (fo env) (f:=⟨fun p=>Res.bnd (Iu p.2 p.1) (f:=⟨fun d=>match d with
 | .lst _=>Res.bnd (fs p.2) (f:=⟨fun q=>Res.bnd (Iu q.2 p.1) (f:=⟨fun d2=>match d2 with
  | .lst l=>Res.bnd (oK q.2 q.1) (f:=⟨fun ds=>Res.bnd (gg l ds) (f:=⟨fun r=>.ok (r,q.2)⟩)⟩)
  |_=>.bad⟩)⟩)
 |_=>.bad⟩)⟩):=id rfl
end
theorem o_isnT(ds:List D):isnO (.tup ds) .non=.ok (.f,.bl true):=id rfl
theorem lq:isnO .non .non=.ok (.f,.bl false):=id rfl
abbrev Ho:=Int×List Nat×Int
def eA(a:Ho):D:=.tup [.int a.1,.str a.2.1,.int a.2.2]
theorem mx:∀(n:Nat) {l:List Int},l.Nodup->(∀x∈l,0<=x/\x<(n:Int))->l.length<=n
 | 0,l,_,hb=>by
  cases l with
  |nil=>exact SV _
  |cons a l=>have:=hb a SN;lia
 |n+1,l,nd,hb=>by
  have h1:=mx n (l:=l.erase (n:Int)) (nd.erase _) fun x hx=>by
   have h2:=(nd.mem_erase_iff.mp hx)
   have h3:=hb x h2.2;have h4:=h2.1;lia
  have:=List.length_erase_le (a:=(n:Int)) (l:=l);have h5:l.length<=(l.erase (n:Int)).length+1:=by
   by_cases hm:(n:Int)∈l
   ·rw[We hm];have:=WD hm;lia
   ·rw[List.erase_of_not_mem hm];lia
  lia
def HB(names:LNN)(ap:List Ho):D:=.tup [.tup (names.map D.str),.lst (ap.map eA)]
theorem ko(a:Ho)(t1 t2 t3:Option R)(cT:PV.Env):lS 3 (aS (aG 0) (aS (aG 1) (aS (aG 2) fA))) (eA a) (t1::t2::t3::cT)=.ok (some (.f,.int a.1)::some (.f,.str a.2.1)::some (.f,.int a.2.2)::cT):=by
 unfold eA;rw[KU,S1 (by simp),Ii,IL,S1 (by simp),Ht,Ii,IL,S1 (by simp),Ht,Ii,IL,S1 (by simp),Ht];rfl
theorem my{α:Type}{f:α->D}{p:α->Bool}{l:List α}(h:l.length<=16777216):((l.filter p).map f).length<=sizeLine:=by
 rw[bV];exact line_le (Tp (List.length_filter_le _ _) h)
theorem C8(l:List Int):(nE (.lst (l.map D.int))).bind dm=some l:=rB l
def qz(a:Ho):Int:=if a.1<a.2.2 then a.2.2 else a.1
def aQ(ap:List Ho):Int:=1+NX.maxD (ap.map qz) 0
theorem qA{α:Type}{f:α->D}{l:List α}(h:∀a,flatD (f a)=true):flatDs (l.map f)=true:=by
 rw[ck,Uv,Ti];intro a _;exact h a
theorem pC(names:LNN)(ap:List Ho)(hl:ap.length<=16777216):b6 [HB names ap]=.ok (.f,.int (aQ ap)):=by
 unfold b6 j7;rw[bE (h:=by rfl)];simp only[pv,seval,op,HB];rw[cE (r:=fun a:Ho=>D.int (qz a)) (fun env=>∃t1 t2 t3,env=[t1,t2,t3]) ap ?_ _ ⟨_,_,_,rfl⟩]
 ·rw[Ht,S1 (cb (by rw[bV];exact hl)),Ht,qA fun a=>jC _];simp only[pv,seval,op];have e:(some (ap.map fun a=>D.int (qz a))).bind dm=some (ap.map qz):=by
   have:=C8 (ap.map qz);rw[Td]at this;exact this
  rw[e];rfl
 ·rintro a _ env ⟨t1,t2,t3,rfl⟩;refine⟨_,ko a t1 t2 t3 _,?_⟩;simp only[pv,seval,op];exact⟨_,_,rfl,_,_,_,rfl⟩
theorem Av(a:Ho):flatD (eA a)=true:=rfl
theorem Aw(as:List Ho):flatDs (as.map eA)=true:=by
 rw[ck,Uv,Ti];exact fun p _=>Av p
theorem E2(w:LNN)(m:List Nat)(h:w.length<=1000):c5 (.tup (w.map D.str)) (.tup [.str m])=.ok (.f,.tup ((w++[m]).map D.str)):=by
 rw[Aq,S1 (.inl (line_le (by rw[bV,S5,TL];lia))),Tb];rfl
def ak(a:Ho):List Key:=[.inl a.1,.inr (S a.2.1),.inl a.2.2]
def f9(a b:Ho):Bool:=di (ak a) (ak b)
theorem S_inj{a b:List Nat}(h:S a=S b):a=b:=by
 have:=TY (fun s:Str=>s.cps.toList) h;simpa only[cN] using this
theorem E3(a:Ho):kT (ak a)=eA a:=by
 unfold kT ak eA;simp only[e9,TC,kD,cN]
theorem uU{α β:Type}(f:α->β)(lt:β->β->Bool)(x:α):∀l:List α,ins lt (f x) (l.map f)=(ins (fun a b=>lt (f a) (f b)) x l).map f
 |[]=>rfl
 |y::ys=>by
  rw[e9,ins,ins];cases lt (f y) (f x) with
  |true=>rw[S1 rfl,S1 rfl,uU f lt x ys,e9]
  |false=>rw[S4 SX,S4 SX,e9,e9]
theorem oy{α β:Type}(f:α->β)(lt:β->β->Bool):∀l:List α,bP lt (l.map f)=(bP (fun a b=>lt (f a) (f b)) l).map f
 |[]=>rfl
 |x::l=>by
  show ins lt (f x) (bP lt (l.map f))=_;rw[oy f lt l,uU];rfl
theorem uV(as:List Ho):as.map eA=(as.map ak).map kT:=by
 rw[Td];exact T6 fun a _=>(E3 a).symm
theorem gc:∀(l:List Int) (b:Int),b<=l.foldl max b/\(∀x∈l,x<=l.foldl max b)/\(l.foldl max b=b\/l.foldl max b∈l)
 |[],b=>⟨X8 _,fun _ h=>(nomatch h),.inl rfl⟩
 |a::l,b=>by
  obtain⟨h1,h2,h3⟩:=gc l (max b a);rw[U4];refine⟨by lia,fun x hx=>?_,?_⟩
  ·rcases S3.mp hx with rfl|hx
   ·lia
   ·exact h2 x hx
  ·rcases h3 with h3|h3
   ·rw[h3];by_cases h:b<=a
    ·exact .inr (by rw[Int.max_eq_right h];exact SN)
    ·exact .inl (Int.max_eq_left (by lia))
   ·exact .inr (SU _ h3)
theorem xp{ns:List Int}{x:Int}(h:x∈ns):x<=qW ns:=(gc ns _).2.1 x h
theorem xq{ns:List Int}(h:ns≠[]):qW ns∈ns:=by
 cases ns with
 |nil=>exact absurd rfl h
 |cons a l=>
  rcases(gc (a::l) a).2.2 with e|e
  ·show List.foldl max a (a::l)∈a::l;rw[e];exact SN
  ·exact e
theorem Ax{ns:List Int}{d x:Int}(h:x∈ns):x<=NX.maxD ns d:=by
 unfold NX.maxD;rw[S4 (List.ne_nil_of_mem h)];exact xp h
theorem uW(ns:List Int)(d:Int):(ns=[]/\NX.maxD ns d=d)\/NX.maxD ns d∈ns:=by
 unfold NX.maxD;by_cases h:ns=[]
 ·exact .inl ⟨h,S1 h⟩
 ·rw[S4 h];exact .inr (xq h)
theorem pD(a:Ho):a.1<=qz a/\a.2.2<=qz a/\(qz a=a.1\/qz a=a.2.2):=by
 unfold qz;split
 ·exact⟨by lia,by lia,.inr rfl⟩
 ·exact⟨by lia,by lia,.inl rfl⟩
theorem oz{ap:List Ho}{a:Ho}(h:a∈ap):a.1<aQ ap/\a.2.2<aQ ap:=by
 have h1:=Ax (d:=0) (T9.mpr ⟨a,h,rfl⟩:qz a∈ap.map qz);obtain⟨h2,h3,_⟩:=pD a;unfold aQ;lia
theorem rM{ap:List Ho}(h:∀a∈ap,0<=a.1/\0<=a.2.2):1<=aQ ap:=by
 unfold aQ;rcases uW (ap.map qz) 0 with⟨_,e⟩|e
 ·lia
 ·obtain⟨a,ha,e2⟩:=rY e;have:=h a ha;obtain⟨h1,h2,_⟩:=pD a;lia
theorem kq{α:Type}(lt:α->α->Bool){l:List α}{a:α}:a∈bP lt l<->a∈l:=(cW lt l).mem_iff
structure Ra(names:LNN)(as:List Ho)(mZ:Nat):Prop where
 mm:1<=mZ/\mZ<=12
 len:as.length<=60
 bd:∀a∈as,(0<=a.1/\a.1<(mZ:Int))/\0<=a.2.2/\a.2.2<(mZ:Int)
 nm:∀a∈as,a.2.1∈names
 rc:∀j:Nat,1<=j->j<mZ->∃a∈as,a.2.2=(j:Int)/\∃b:Nat,b<j/\a.1=(b:Int)
theorem kr{ap:List Ho}{mZ:Nat}(hm:1<=mZ)(h:∀a∈ap,(0<=a.1/\a.1<(mZ:Int))/\0<=a.2.2/\a.2.2<(mZ:Int)):1<=aQ ap/\aQ ap<=(mZ:Int):=by
 refine⟨rM fun a ha=>?_,?_⟩
 ·have:=h a ha;lia
 ·unfold aQ;rcases uW (ap.map qz) 0 with⟨_,e⟩|e
  ·lia
  ·obtain⟨a,ha,e2⟩:=rY e;have:=h a ha;obtain⟨h1,h2,h3⟩:=pD a;lia
theorem Ra.sort{names:LNN}{as:List Ho}{mZ:Nat}(r:Ra names as mZ):Ra names (bP f9 as) mZ:=by
 have mem:∀{a:Ho},a∈bP f9 as<->a∈as:=kq f9;refine⟨r.mm,by rw[eE];exact r.len,fun a ha=>r.bd a (mem.mp ha),fun a ha=>r.nm a (mem.mp ha),fun j h1 h2=>?_⟩;obtain⟨a,ha,q⟩:=r.rc j h1 h2;exact⟨a,mem.mpr ha,q⟩
theorem Ay(as:List Ho)(h:as.length<64):fM [.lst (as.map eA)]=.ok (.l .f,.lst ((bP f9 as).map eA)):=by
 have key:jY (as.map eA)=some ((bP f9 as).map eA):=by
  cases as with
  |nil=>rfl
  |cons a as=>
   have e1:jb ((a::as).map eA)=some ((a::as).map ak):=by rw[uV,iR]
   have e2:sameKinds (ak a) (as.map ak)=true:=by
    unfold sameKinds;rw[Uv,SY,Ti];exact⟨rfl,fun b _=>rfl⟩
   unfold jY;rw[e1,e9,e9];dsimp only[eA,dm,eB];rw[S1 e2,<-e9,oy ak di,uV];rfl
 unfold fM;dsimp only;rw[S1 (by rw[bV];exact h),key]
theorem rN{α:Type}{l:List α}{x:α}{j:Nat}{y:α}(h:(l++[x])[j]?=some y):l[j]?=some y\/(j=l.length/\y=x):=by
 by_cases hj:j<l.length
 ·rw[List.getElem?_append_left hj]at h;exact .inl h
 ·rw[List.getElem?_append_right (by lia)]at h;by_cases e:j-l.length=0
  ·rw[e]at h;exact .inr ⟨by lia,by simpa using h.symm⟩
  ·rw[List.getElem?_eq_none (by simp;lia)]at h;cases h
def cell(ns:List Int)(k:Nat):Int:=ns.getD k 0
theorem iE(ns:List Int)(k:Nat):aw [.lst (ns.map D.int),.int (k:Int)]=.ok (.f,.int (cell ns k)):=by
 unfold aw gJ cell;rw[bE (h:=by rfl)];simp only[pv,seval,op,bV];by_cases h:k<ns.length
 ·have h1:(k:Int)<(ns.length:Int):=by lia
  simp only[h1,Vi,pv,seval,ll h]
 ·have h1:¬ (k:Int)<(ns.length:Int):=by lia
  simp only[h1,UW,pv,seval,fD,List.getD_eq_getElem?_getD,List.getElem?_eq_none (Nat.le_of_not_lt h),UD]
theorem C9(x y:Int)(h:dk x=true):zQ (.int x) (.int y)=.ok (.f,.int (x*y)):=by rw[uP,h,Bool.true_or,S1 rfl]
theorem FA(x y:Int)(h:dk y=true):zQ (.int x) (.int y)=.ok (.f,.int (x*y)):=by rw[uP,h,Bool.or_true,S1 rfl]
theorem qB(x:Int)(h:0<=x)(h2:x<=4294967296):dk x=true:=by
 unfold dk;rw[S9];lia
def vK(c k:Int):Int:=((((c%2147483647+48271*(k+1))*(c%2147483647+48271*(k+1))+69621*k)%2147483647)*(((c%2147483647+48271*(k+1))*(c%2147483647+48271*(k+1))+69621*k)%2147483647)+16807*k+1)%2147483647
theorem mz(c k:Int)(hk:0<=k)(Qu:k<=1000):aR [.int c,.int k]=.ok (.f,.int (vK c k)):=by
 have b1:=fC c 2147483647 (by decide);have b2:=fC ((c%2147483647+48271*(k+1))*(c%2147483647+48271*(k+1))+69621*k) 2147483647 (by decide);unfold aR jg vK;rw[bE (h:=by rfl)];rw[ay (env':=[some (.f,.int c),some (.f,.int k),some (.f,.int (c%2147483647+48271*(k+1)))]) (by simp only[pv,↓reduceIte,Nat.reduceAdd,Nat.reduceLT,Nat.reduceLeDiff,Nat.reduceEqDiff,op,jE _ 2147483647 (by decide),C9 48271 (k+1) (by decide)])];have hs:dk (c%2147483647+48271*(k+1))=true:=qB _ (by lia) (by lia);generalize c%2147483647+48271*(k+1)=x at *;rw[ay (env':=[some (.f,.int c),some (.f,.int k),some (.f,.int ((x*x+69621*k)%2147483647))]) (by simp only[pv,↓reduceIte,Nat.reduceAdd,Nat.reduceLT,Nat.reduceLeDiff,Nat.reduceEqDiff,op,jE _ 2147483647 (by decide),C9 x x hs,C9 69621 k (by decide)])];generalize (x*x+69621*k)%2147483647=y at *;have hs:dk y=true:=qB _ (by lia) (by lia);simp only[pv,↓reduceIte,Nat.reduceAdd,Nat.reduceLT,Nat.reduceLeDiff,Nat.reduceEqDiff,op,jE _ 2147483647 (by decide),C9 y y hs,C9 16807 k (by decide)]
theorem qC:∀l:List Nat,joinL [] (l.map fun c=>[c])=l
 |[]=>rfl
 |[c]=>rfl
 |c::d::l=>by
  have ih:=qC (d::l);show[c]++[]++joinL [] ((d::l).map fun c=>[c])=_;rw[ih];rfl
theorem uX:∀l:List Nat,((l.map fun c=>[c]).map List.length).sum=l.length
 |[]=>rfl
 |c::l=>by
  rw[e9,e9,Xj,uX l];show 1+l.length=l.length+1;lia
theorem Az(l:List Nat)(h:l.length<=1000):uz [] [.lst ((l.map fun c=>[c]).map D.str)]=.ok (.f,.str l):=by
 unfold uz;dsimp only;rw[dq];dsimp only;rw[S1 (by rw[uX,TL,Nat.mul_zero];lia),qC]
theorem qD(a:List Nat)(l:LNN):Kt (.str a) (.lst (l.map D.str))=.ok (.f,.bl (decide (a∈l))):=by
 unfold Kt;dsimp only;rw[gB,xk,plainD];all_goals simp
def Ly(base:List Int)(wd sp:Nat)(tk:Bool)(k:Nat):List Int:=if tk then base.take (k+1) else(base.take wd).set sp ((base.getD sp 0+(k:Int))%26)
def JT(base:List Int)(wd sp:Nat)(tk:Bool)(k:Nat):List Nat:=(Ly base wd sp tk k).map fun j=>97+j.toNat
theorem AB(l:List Int)(hb:∀j∈l,0<=j/\j<26):cV (aG 0) gH (aD Hj (av 1) (av 0)) (l.map D.int) [none,some (.f,.str JS)]=.ok (((l.map fun j=>97+j.toNat).map fun c=>[c]).map D.str):=by
 rw[cE (r:=fun j:Int=>D.str [97+j.toNat]) (fun env=>∃t,env=[t,some (.f,.str JS)]) l ?_ _ ⟨none,rfl⟩]
 ·rw[Td,Td];rfl
 ·rintro j hj env ⟨t,rfl⟩;obtain⟨h0,h1⟩:=hb j hj;refine⟨[some (.f,.int j),some (.f,.str JS)],rfl,.f,[some (.f,.int j),some (.f,.str JS)],?_,_,rfl⟩;simp only[pv,seval,op,C7 j h0 h1]
theorem E4(base:List Int)(hb:∀j∈base,0<=j/\j<26)(wd sp:Nat)(tk:Bool)(k:Nat):∀j∈Ly base wd sp tk k,0<=j/\j<26:=by
 intro j hj;unfold Ly at hj;split at hj
 ·exact hb j (WZ hj)
 ·rcases List.mem_or_eq_of_mem_set hj with h|h
  ·exact hb j (WZ h)
  ·rw[h];exact fC _ _ (by decide)
theorem uY(base:List Int)(hl:base.length=8)(wd sp:Nat)(tk:Bool)(k:Nat):(Ly base wd sp tk k).length<=8:=by
 unfold Ly;split
 ·rw[TJ];lia
 ·rw[Tz,TJ];lia
theorem Dc(HZ:Int)(base:List Int)(hl:base.length=8)(hb:∀j∈base,0<=j/\j<26)(wd sp:Nat)(hw:wd<=8)(hs:sp<wd)(tk:Bool)(QJ:(HZ / 64%4==1)=tk)(l:LNN)(RO:l.length<=10)(k:Nat)(t7:Option R):
  ∃u7,cP [some (.f,.int HZ),some (.f,.str JS),some (.l .f,.lst (base.map D.int)),some (.f,.int (wd:Int)),some (.f,.int (sp:Int)),some (.l .f,.lst (l.map D.str)),some (.f,.int (k:Int)),t7]=.ok (.nx [some (.f,.int HZ),some (.f,.str JS),some (.l .f,.lst (base.map D.int)),some (.f,.int (wd:Int)),some (.f,.int (sp:Int)),some (.l .f,.lst ((l++[JT base wd sp tk k]).map D.str)),some (.f,.int (k:Int)),u7]):=by
 have L6:gI (base.map D.int) none (some (wd:Int))=(base.take wd).map D.int:=by rw[qy,Xk]
 have K8:IU ((base.take wd).map D.int) (sp:Int)=some (.int (base.getD sp 0)):=by
  rw[ll (by rw[TJ];lia)];congr 2
  rw[List.getD_eq_getElem?_getD,List.getD_eq_getElem?_getD,List.getElem?_take_of_lt hs]
 have IV:ixN (base.take wd).length (sp:Int)=some sp:=As _ _ (by rw[TJ];lia);have hnl:=uY base hl wd sp tk k;have M6:=AB (Ly base wd sp tk k) (E4 base hb wd sp tk k);have hj:=Az (JT base wd sp tk k) (by unfold JT;rw[bV];lia);have hz:(l.map D.str).length<sizeLine:=km (by rw[bV];lia);have hzl:(((JT base wd sp tk k).map fun c=>[c]).map D.str).length<=sizeLine:=cb (by unfold JT;rw[bV,bV,bV];lia);have P6:=PV.flat_strs ((JT base wd sp tk k).map fun c=>[c]);have M6:cV (aG 0) gH (aD Hj (av 1) (av 0)) ((Ly base wd sp tk k).map D.int) [none,some (.f,.str JS)]=.ok (((JT base wd sp tk k).map fun c=>[c]).map D.str):=M6;unfold cP;rw[ay (env':=[some (.f,.int HZ),some (.f,.str JS),some (.l .f,.lst (base.map D.int)),some (.f,.int (wd:Int)),some (.f,.int (sp:Int)),some (.l .f,.lst (l.map D.str)),some (.f,.int (k:Int)),some (.l .f,.lst ((base.take wd).map D.int))]) (by simp only[pv,seval,op,L6])];rw[ay (env':=[some (.f,.int HZ),some (.f,.str JS),some (.l .f,.lst (base.map D.int)),some (.f,.int (wd:Int)),some (.f,.int (sp:Int)),some (.l .f,.lst (l.map D.str)),some (.f,.int (k:Int)),some (.l .f,.lst (((base.take wd).set sp ((base.getD sp 0+(k:Int))%26)).map D.int))]) (by
  rw[List.map_set];simp only[pv,seval,op,K8,jE _ 26 (by decide),bV,IV])]
 rw[ay (env':=[some (.f,.int HZ),some (.f,.str JS),some (.l .f,.lst (base.map D.int)),some (.f,.int (wd:Int)),some (.f,.int (sp:Int)),some (.l .f,.lst (l.map D.str)),some (.f,.int (k:Int)),some (.l .f,.lst ((Ly base wd sp tk k).map D.int))]) (by
  unfold Ly;cases tk with
  |true=>
   have P7:gI (base.map D.int) none (some ((k:Int)+1))=(base.take (k+1)).map D.int:=by rw[show(k:Int)+1=((k+1:Nat):Int) by lia,qy,Xk]
   simp only[pv,seval,op,iZ _ 64 (by decide) (by decide),jE _ 4 (by decide),QJ,P7]
  |false=>simp only[pv,seval,op,iZ _ 64 (by decide) (by decide),jE _ 4 (by decide),QJ,fD])]
 refine⟨some (.l .f,.lst ((Ly base wd sp tk k).map D.int)),?_⟩;generalize Ly base wd sp tk k=W at *;generalize JT base wd sp tk k=V at *;rw[Tb,e9,TC];generalize (aD Hj (av 1) (av 0))=GG at M6 ⊢;simp only[pv,seval,op,M6,hzl,P6,hj,hz]
theorem AD(base:List Int)(hl:base.length=8)(hb:∀j∈base,0<=j/\j<26)(wd sp:Nat)(hw:wd<=8)(hs:sp<wd)(tk:Bool)(k k':Nat)(hk:k<=5)(hk':k'<=5)(e:JT base wd sp tk k=JT base wd sp tk k'):k=k':=by
 unfold JT Ly at e;cases tk with
 |true=>
  have:=TY List.length e;simp only[Vu,bV,TJ]at this;lia
 |false=>
  have e2:=TY (fun l=>l[sp]?) e;have HC:sp<(base.take wd).length:=by rw[TJ];lia
  simp only[fD,VL,List.getElem?_map,List.getElem?_set_self HC,Option.map_some,Wf]at e2;have b1:=fC (base.getD sp 0+(k:Int)) 26 (by decide);have b2:=fC (base.getD sp 0+(k':Int)) 26 (by decide);generalize base.getD sp 0=z at *;lia
theorem uZ(HZ:Int):∃l:LNN,l.length=5/\l.Nodup/\l.Pairwise (fun a b=>JZ b a=false)/\bJ [.int HZ]=.ok (.l .f,.lst (l.map D.str)):=by
 unfold bJ jh;rw[bE (h:=by rfl)];rw[ay (env':=[some (.f,.int HZ),some (.f,.str JS),none,none,none,none,none,none]) (by simp only[pv,seval,op];rfl)];have hc:cV (aG 0) gH (aD gE (aq (dD aR (ag (av 1) (ag (av 0) aE)))) (aq (aF (.int 26)))) ((List.range 8).map fun(k:Nat)=>D.int (k:Int)) [none,some (.f,.int HZ)]=.ok (((List.range 8).map fun(k:Nat)=>vK HZ (k:Int)%26).map D.int):=by
  rw[cE (r:=fun k:Nat=>D.int (vK HZ (k:Int)%26)) (fun env=>∃t,env=[t,some (.f,.int HZ)]) (List.range 8) ?_ _ ⟨none,rfl⟩]
  ·rw[Td];rfl
  ·rintro k hk env ⟨t,rfl⟩;have hk:=TB.mp hk;refine⟨[some (.f,.int (k:Int)),some (.f,.int HZ)],rfl,.f,[some (.f,.int (k:Int)),some (.f,.int HZ)],?_,_,rfl⟩;simp only[pv,seval,op,mz HZ (k:Int) (by lia) (by lia),jE _ 26 (by decide)]
 have QK:((List.range 8).map fun(k:Nat)=>vK HZ (k:Int)%26).length=8:=rfl;have O5:∀j∈((List.range 8).map fun(k:Nat)=>vK HZ (k:Int)%26),0<=j/\j<26:=by
  intro j hj;obtain⟨k,_,rfl⟩:=rY hj;exact fC _ _ (by decide)
 generalize ((List.range 8).map fun(k:Nat)=>vK HZ (k:Int)%26)=base at hc QK O5;have hlen:(base.map D.int).length<=sizeLine:=cb (by rw[bV];lia);have Nv:=Ha base;rw[ay (env':=[some (.f,.int HZ),some (.f,.str JS),some (.l .f,.lst (base.map D.int)),none,none,none,none,none]) (by
  generalize (aD gE (aq (dD aR (ag (av 1) (ag (av 0) aE)))) (aq (aF (.int 26))))=GG at hc ⊢;simp only[pv,seval,op];rw[S1 (by decide)];simp only[pv,seval,op,show(8:Int).toNat=8 from rfl,hc,hlen,Nv])]
 have m8:=fC HZ 8 (by decide);obtain⟨wd,ew⟩:=Ug (show 0<=1+HZ%8 by lia);have msp:=fC (HZ / 8) (wd:Int) (by lia);obtain⟨sp,es⟩:=Ug msp.1;rw[ay (env':=[some (.f,.int HZ),some (.f,.str JS),some (.l .f,.lst (base.map D.int)),some (.f,.int (wd:Int)),none,none,none,none]) (by simp only[pv,seval,op,jE _ 8 (by decide),ew])];rw[ay (env':=[some (.f,.int HZ),some (.f,.str JS),some (.l .f,.lst (base.map D.int)),some (.f,.int (wd:Int)),some (.f,.int (sp:Int)),none,none,none]) (by simp only[pv,seval,op,iZ _ 8 (by decide) (by decide),jE _ (wd:Int) (by lia),es])];rw[ay (env':=[some (.f,.int HZ),some (.f,.str JS),some (.l .f,.lst (base.map D.int)),some (.f,.int (wd:Int)),some (.f,.int (sp:Int)),some (.l .f,.lst []),none,none]) (by simp only[pv,seval,op])];obtain⟨tk,QJ⟩:∃tk,(HZ / 64%4==1)=tk:=⟨_,rfl⟩
 obtain⟨env',ef,t6,t7,rfl⟩:=pA (a:=aG 6) (g:=cP) (e:=fun k=>D.int (k:Int)) 5 (fun i env=>∃(t6 t7:Option R),env=[some (.f,.int HZ),some (.f,.str JS),some (.l .f,.lst (base.map D.int)),some (.f,.int (wd:Int)),some (.f,.int (sp:Int)),some (.l .f,.lst (((List.range i).map (JT base wd sp tk)).map D.str)),t6,t7]) (by
  rintro k env hk ⟨t6,t7,rfl⟩;obtain⟨u7,e⟩:=Dc HZ base QK O5 wd sp (by lia) (by lia) tk QJ ((List.range k).map (JT base wd sp tk)) (by rw[bV,Tr];lia) k t7;rw[show((List.range k).map (JT base wd sp tk))++[JT base wd sp tk k]=(List.range (k+1)).map (JT base wd sp tk) by rw[List.range_succ,Tb];rfl]at e;exact⟨_,rfl,_,e,_,_,rfl⟩) _ ⟨none,none,rfl⟩
 rw[List.range_zero,TC,TC]at ef;rw[ay (env':=_) (by
  unfold gK;simp only[pv,seval,op];rw[S1 (by decide)];simp only[pv,seval,op,show(5:Int).toNat=5 from rfl];exact ef)]
 unfold fQ;have L7:((List.range 5).map (JT base wd sp tk)).length=5:=by rw[bV,Tr]
 have NR:((List.range 5).map (JT base wd sp tk)).Nodup:=f7 _ 5 fun i j hi hj e=>AD base QK O5 wd sp (by lia) (by lia) tk i j (by lia) (by lia) e
 have Sw:∀n∈((List.range 5).map (JT base wd sp tk)),n.length<=8:=by
  intro n hn;obtain⟨k,_,rfl⟩:=rY hn;unfold JT;rw[bV];exact uY base QK wd sp tk k
 generalize ((List.range 5).map (JT base wd sp tk))=l at L7 NR Sw;by_cases hm:[109,111,118,101,115]∈l
 ·have Ke:cV (aG 0) gH (aD c5 (aq (aF (.str [115]))) (av 0)) (l.map D.str) [none]=.ok ((l.map fun n=>115::n).map D.str):=by
   rw[cE (r:=fun n:List Nat=>D.str (115::n)) (fun env=>∃t,env=[t]) l ?_ _ ⟨none,rfl⟩]
   ·rw[Td];rfl
   ·rintro n hn env ⟨t,rfl⟩;have:=Sw n hn;refine⟨[some (.f,.str n)],rfl,.f,[some (.f,.str n)],?_,_,rfl⟩;simp only[pv,seval,op,Gx [115] n (by rw[Tc];lia)]
  have RP:((l.map fun n=>115::n).map D.str).length<=sizeLine:=cb (by rw[bV,bV];lia);have hnd2:(l.map fun n=>115::n).Nodup:=by
   rw[Va,Vy];exact(Va.mp NR).imp fun{a b} h e=>h (UY e).2
  have P6:=PV.flat_strs (l.map fun n=>115::n);rw[ay (env':=[some (.f,.int HZ),some (.f,.str JS),some (.l .f,.lst (base.map D.int)),some (.f,.int (wd:Int)),some (.f,.int (sp:Int)),some (.l .f,.lst ((l.map fun n=>115::n).map D.str)),t6,t7]) (by
   generalize (aD c5 (aq (aF (.str [115]))) (av 0))=GG at Ke ⊢;simp only[pv,seval,op,qD,hm,Vi,Ke,RP,P6])]
  refine⟨bP JZ (l.map fun n=>115::n),by rw[eE,bV];exact L7,(cW JZ _).nodup_iff.mpr hnd2,dH l5 _,?_⟩;simp only[pv,seval,op,uR (l.map fun n=>115::n) (by rw[bV];lia)]
 ·rw[ay (env':=[some (.f,.int HZ),some (.f,.str JS),some (.l .f,.lst (base.map D.int)),some (.f,.int (wd:Int)),some (.f,.int (sp:Int)),some (.l .f,.lst (l.map D.str)),t6,t7]) (by simp only[pv,seval,op,qD,hm,UW,fD])];refine⟨bP JZ l,by rw[eE];exact L7,(cW JZ _).nodup_iff.mpr NR,dH l5 _,?_⟩;simp only[pv,seval,op,uR l (by lia)]
theorem De(env:PV.Env)(fo:FO)(fp GS fq:FP):EI fo fp GS fq env=Res.bnd (fo env) (f:=⟨fun p=>Res.bnd (fp p.2) (f:=⟨fun q=>Res.bnd (GS q.2) (f:=⟨fun t=>Res.bnd (fq t.2) (f:=⟨fun u=>Res.bnd (Iu u.2 p.1) (f:=⟨fun d=>Res.bnd (Cy d q.1 t.1 u.1) (f:=⟨fun r=>.ok (r,u.2)⟩)⟩)⟩)⟩)⟩)⟩):=id rfl
theorem AE(env:PV.Env)(fa fb fc:FX):z7 fa fb fc env=Res.bnd (fa env) (f:=⟨fun p=>Res.bnd (fb p.2) (f:=⟨fun q=>Res.bnd (fc q.2) (f:=⟨fun t=>.ok ((.t [.f,q.1.1,t.1.1],.tup [p.1.2,q.1.2,t.1.2]),t.2)⟩)⟩)⟩):=id rfl
theorem xr{α β:Type}(f:α->β)(l:List α)(lo hi:Option Int)(c:Int):fO (l.map f) lo hi c=(fO l lo hi c).map f:=by
 unfold fO;rw[bV,List.map_filterMap];congr 1
 funext i
 rw[List.getElem?_map]
theorem E5(ds:List D)(lo hi:Option Int):Cy (.lst ds) lo hi (some 6)=.ok (.l .f,.lst (fO ds lo hi 6)):=id rfl
theorem Dg(ns:List Int)(first k:Int)(hk:0<=k/\k<=1000):∃v:Int,cX [.lst (ns.map D.int),.int first,.int k]=.ok (.f,.int v):=by
 unfold cX ka;rw[bE (h:=by rfl)];rw[ay (env':=[some (.f,.lst (ns.map D.int)),some (.f,.int first),some (.f,.int k),some (.f,.int (7+k)),none]) (by simp only[pv,↓reduceIte,Nat.reduceAdd,Nat.reduceLT,Nat.reduceLeDiff,Nat.reduceEqDiff,op])];obtain⟨env',ef,v,t4,rfl⟩:=for_list (a:=aG 4) (g:=dQ) (e:=D.int) (fO ns (some (first+k)) (some (first+84)) 6) (fun j env=>∃(v:Int) (t4:Option R),env=[some (.f,.lst (ns.map D.int)),some (.f,.int first),some (.f,.int k),some (.f,.int v),t4]) (by
  rintro j c env hj ⟨v,t4,rfl⟩;refine⟨_,rfl,_,?_,vK (c+v) k,some (.f,.int c),rfl⟩;unfold dQ;simp only[pv,↓reduceIte,Nat.reduceAdd,Nat.reduceLT,Nat.reduceLeDiff,Nat.reduceEqDiff,op,mz (c+v) k hk.1 hk.2]) _ ⟨7+k,none,rfl⟩
 rw[ay (env':=_) (by
  unfold iw;simp only[pv,↓reduceIte,Nat.reduceAdd,Nat.reduceLT,Nat.reduceLeDiff,Nat.reduceEqDiff,op,De,E5,xr];exact ef)]
 unfold gM;exact⟨v,by simp only[pv,↓reduceIte,Nat.reduceAdd,Nat.reduceLT,Nat.reduceLeDiff,Nat.reduceEqDiff,op]⟩
def Tk(l:List Int)(cnt:Nat):Prop:=l.length=cnt/\∀x∈l,0<=x/\x<=10
theorem Tk.app{l:List Int}{cnt:Nat}(h:Tk l cnt){x:Int}(hx:0<=x/\x<=10):Tk (l++[x]) (cnt+1):=by
 refine⟨by rw[jD,h.1];rfl,fun y hy=>?_⟩;rcases vJ hy with hy|hy
 ·exact h.2 y hy
 ·rw[ou hy];exact hx
theorem AF(number:Int)(cnt:Nat)(hc:cnt<=10):∃(b:Int) (ts gs:List Int),(0<=b/\b<=10)/\Tk ts cnt/\Tk gs cnt/\cJ [.int number,.int (cnt:Int)]=.ok (.t [.f,.l .f,.l .f],.tup [.int b,.lst (ts.map D.int),.lst (gs.map D.int)]):=by
 unfold cJ ji;rw[bE (h:=by rfl)];rw[ay (env':=[some (.f,.int number),some (.f,.int (cnt:Int)),some (.l .f,.lst []),none,none,none,none,none]) (by simp only[pv,seval,op])];rw[ay (env':=[some (.f,.int number),some (.f,.int (cnt:Int)),some (.l .f,.lst []),some (.l .f,.lst []),none,none,none,none]) (by simp only[pv,seval,op])];obtain⟨env',ef,ts,gs,t4,t5,t6,t7,h1,h2,rfl⟩:=pA (a:=aG 4) (g:=dB) (e:=fun k=>D.int (k:Int)) cnt (fun i env=>∃(ts gs:List Int) (t4 t5 t6 t7:Option R),Tk ts i/\Tk gs i/\env=[some (.f,.int number),some (.f,.int (cnt:Int)),some (.l .f,.lst (ts.map D.int)),some (.l .f,.lst (gs.map D.int)),t4,t5,t6,t7]) (by
  rintro j env hj ⟨ts,gs,t4,t5,t6,t7,h1,h2,rfl⟩;have z1:(ts.map D.int).length<sizeLine:=km (by rw[bV,h1.1];lia);have z2:(gs.map D.int).length<sizeLine:=km (by rw[bV,h2.1];lia);have P8:=mz number (j:Int) (by lia) (by lia);generalize vK number (j:Int)=x at P8;have b1:=fC x 5 (by decide);have b2:=fC (x / 8) 4 (by decide);refine⟨[some (.f,.int number),some (.f,.int (cnt:Int)),some (.l .f,.lst (ts.map D.int)),some (.l .f,.lst (gs.map D.int)),some (.f,.int (j:Int)),t5,t6,t7],rfl,_,?_,ts++[(if 0<0-(x%5-2) then 0-(x%5-2) else 0)+x / 8%4 / 3],gs++[(if 0<x%5-2 then x%5-2 else 0)+x / 8%4 / 3],some (.f,.int (j:Int)),some (.f,.int x),some (.f,.int (x%5-2)),some (.f,.int (x / 8%4 / 3)),h1.app ?_,h2.app ?_,rfl⟩
  ·unfold dB;rw[ay (env':=[some (.f,.int number),some (.f,.int (cnt:Int)),some (.l .f,.lst (ts.map D.int)),some (.l .f,.lst (gs.map D.int)),some (.f,.int (j:Int)),some (.f,.int x),t6,t7]) (by simp only[pv,seval,op,P8])];rw[ay (env':=[some (.f,.int number),some (.f,.int (cnt:Int)),some (.l .f,.lst (ts.map D.int)),some (.l .f,.lst (gs.map D.int)),some (.f,.int (j:Int)),some (.f,.int x),some (.f,.int (x%5-2)),t7]) (by simp only[pv,seval,op,jE _ 5 (by decide)])];generalize x%5-2=y;rw[ay (env':=[some (.f,.int number),some (.f,.int (cnt:Int)),some (.l .f,.lst (ts.map D.int)),some (.l .f,.lst (gs.map D.int)),some (.f,.int (j:Int)),some (.f,.int x),some (.f,.int y),some (.f,.int (x / 8%4 / 3))]) (by simp only[pv,seval,op,jE _ 4 (by decide),iZ _ 8 (by decide) (by decide),iZ _ 3 (by decide) (by decide)])];generalize x / 8%4 / 3=z;rw[Tb,Tb,e9,e9,TC];rw[ay (env':=[some (.f,.int number),some (.f,.int (cnt:Int)),some (.l .f,.lst (ts.map D.int++[.int ((if 0<0-y then 0-y else 0)+z)])),some (.l .f,.lst (gs.map D.int)),some (.f,.int (j:Int)),some (.f,.int x),some (.f,.int y),some (.f,.int z)]) (by simp only[pv,seval,op,z1])];simp only[pv,seval,op,z2]
  ·split <;> lia
  ·split <;> lia) _ ⟨[],[],none,none,none,none,⟨rfl,(fun _ h=>nomatch h)⟩,⟨rfl,(fun _ h=>nomatch h)⟩,rfl⟩
 rw[TC]at ef;rw[ay (env':=_) (by
  unfold gN;simp only[pv,seval,op];rw[S1 (by lia)];simp only[pv,seval,op,T8];exact ef)]
 unfold fS;have b:=fC (number / 16) 4 (by decide);exact⟨number / 16%4,ts,gs,by lia,h1,h2,by simp only[pv,seval,op,AE,iZ _ 16 (by decide) (by decide),jE _ 4 (by decide)]⟩
abbrev Pl:=Int×List Int×List Int
def eP(p:Pl):D:=.tup [.int p.1,.tup (p.2.1.map D.int),.tup (p.2.2.map D.int)]
def JN(p:Pl)(cnt:Nat):Prop:=p.2.1.length=cnt/\p.2.2.length=cnt
theorem Dh(f:Int)(l:List Int)(h:∀x∈l,0<=x/\x<=10):cV (aG 0) gH (aD l7 (av 1) (av 0)) (l.map D.int) [none,some (.f,.int f)]=.ok ((l.map fun x=>f*x).map D.int):=by
 rw[cE (r:=fun x:Int=>D.int (f*x)) (fun env=>∃t,env=[t,some (.f,.int f)]) l ?_ _ ⟨none,rfl⟩]
 ·rw[Td];rfl
 ·rintro x hx env ⟨t,rfl⟩;have:=h x hx;refine⟨[some (.f,.int x),some (.f,.int f)],rfl,.f,[some (.f,.int x),some (.f,.int f)],?_,_,rfl⟩;simp only[pv,seval,op,FA f x (ox x (by lia) (by lia))]
theorem qE(b:Int)(hb:0<=b/\b<=10)(ts gs:List Int)(cnt:Nat)(hc:cnt<=10)(h1:Tk ts cnt)(h2:Tk gs cnt)(HZ:Int):∃p:Pl,JN p cnt/\bM [.tup [.int b,.lst (ts.map D.int),.lst (gs.map D.int)],.int HZ]=.ok (.f,eP p):=by
 have p50:rX (.int 10) (.int 50)=.ok (.f,.int (10 ^ 50)):=E1 50 (by decide);have m50:=fC HZ (10 ^ 50) (by decide);unfold bM iy;rw[bE (h:=by rfl)];rw[ay (env':=[some (.f,.tup [.int b,.lst (ts.map D.int),.lst (gs.map D.int)]),some (.f,.int HZ),some (.f,.int (1+HZ%10 ^ 50)),none,none,none]) (by simp only[pv,↓reduceIte,Nat.reduceAdd,Nat.reduceLT,Nat.reduceLeDiff,Nat.reduceEqDiff,op,p50,jE _ (10 ^ 50) (by decide)])];have hf:0<1+HZ%10 ^ 50:=by
  generalize HZ%10 ^ 50=q at m50;lia
 generalize 1+HZ%10 ^ 50=f at hf;rw[ay (env':=[some (.f,.tup [.int b,.lst (ts.map D.int),.lst (gs.map D.int)]),some (.f,.int HZ),some (.f,.int f),some (.f,.int b),some (.f,.lst (ts.map D.int)),some (.f,.lst (gs.map D.int))]) (by simp only[pv,↓reduceIte,Nat.reduceAdd,Nat.reduceLT,Nat.reduceLeDiff,Nat.reduceEqDiff,op])];have c1:=Dh f ts h1.2;have c2:=Dh f gs h2.2;have l1:((ts.map fun x=>f*x).map D.int).length<=sizeLine:=cb (by rw[bV,bV,h1.1];lia);have l2:((gs.map fun x=>f*x).map D.int).length<=sizeLine:=cb (by rw[bV,bV,h2.1];lia);have f1:=Ha (ts.map fun x=>f*x);have f2:=Ha (gs.map fun x=>f*x);refine⟨(f*b+HZ / 7%f,ts.map fun x=>f*x,gs.map fun x=>f*x),⟨by rw[bV];exact h1.1,by rw[bV];exact h2.1⟩,?_⟩;unfold eP;dsimp only;generalize (ts.map fun x=>f*x).map D.int=T1 at *;generalize (gs.map fun x=>f*x).map D.int=T2 at *;have Sy:=FA f b (ox b (by lia) (by lia));have P9:=jE (HZ / 7) f hf;have hdiv:=iZ HZ 7 (by decide) (by decide);generalize f*b=fb at Sy ⊢;generalize (HZ / 7)%f=cf at P9 ⊢;rw[ay (env':=[some (.f,.tup [.int b,.lst (ts.map D.int),.lst (gs.map D.int)]),some (.f,.int HZ),some (.f,.int f),some (.f,.int b),some (.f,.tup T1),some (.f,.lst (gs.map D.int))]) (by
  generalize (aD l7 (av 1) (av 0))=GG at c1 ⊢;simp only[pv,↓reduceIte,Nat.reduceAdd,Nat.reduceLT,Nat.reduceLeDiff,Nat.reduceEqDiff,op,c1,l1,f1])]
 have Sz:∀GG,GG=(aD l7 (av 1) (av 0))->cV (aG 0) gH GG (gs.map D.int) [none,some (.f,.int f)]=.ok T2:=fun GG h=>by rw[h];exact c2
 rw[show(fg (fK (aA (aD c5 (aq (aD l7 (av 2) (av 3))) (aq (aD gE (aq (aD fB (av 1) (aq (aF (.int 7))))) (av 2)))) (aA (aH 4) (aA (bo df (ag (aq (dy (IC (iS 5) (IC (gU (aH 5)) (gW (aH 5)))) [none,some 2] (aG 0) gH (aD l7 (av 1) (av 0)))) aE)) bj)))))=(fun GG=>fg (fK (aA (aD c5 (aq (aD l7 (av 2) (av 3))) (aq (aD gE (aq (aD fB (av 1) (aq (aF (.int 7))))) (av 2)))) (aA (aH 4) (aA (bo df (ag (aq (dy (IC (iS 5) (IC (gU (aH 5)) (gW (aH 5)))) [none,some 2] (aG 0) gH GG)) aE)) bj))))) (aD l7 (av 1) (av 0)) from rfl];generalize eGG:(aD l7 (av 1) (av 0))=GG;have c2:=Sz GG eGG.symm;clear eGG Sz;simp only[pv,↓reduceIte,Nat.reduceAdd,Nat.reduceLT,Nat.reduceLeDiff,Nat.reduceEqDiff,op,Sy,P9,hdiv,c2,l2,f2]
theorem xt(ns:List Int)(first:Nat)(cnt:Nat)(hc:cnt<=10)(ps:List Pl)(SA:∀p∈ps,JN p cnt)(hl:ps.length<=100)(k:Nat)(hk:k<=100)(t5 t6 t7:Option R):
  ∃(OA:List Pl) (u5 u6 u7:Option R),(∀p∈OA,JN p cnt)/\ps.length+1<=OA.length/\OA.length<=ps.length+2/\cD [some (.f,.lst (ns.map D.int)),some (.f,.int (first:Int)),some (.f,.int (cnt:Int)),some (.l .f,.lst (ps.map eP)),some (.f,.int (k:Int)),t5,t6,t7]=.ok (.nx [some (.f,.lst (ns.map D.int)),some (.f,.int (first:Int)),some (.f,.int (cnt:Int)),some (.l .f,.lst (OA.map eP)),some (.f,.int (k:Int)),u5,u6,u7]):=by
 obtain⟨v,ev⟩:=Dg ns (first:Int) (k:Int) (by lia);obtain⟨b,ts,gs,hb,h1,h2,ep⟩:=AF v cnt hc;have c1:=iE ns (first+k);rw[show((first+k:Nat):Int)=(first:Int)+(k:Int) by lia]at c1;have c2:=iE ns (first+6+k);rw[show((first+6+k:Nat):Int)=(first:Int)+6+(k:Int) by lia]at c2;obtain⟨p1,SD,e1⟩:=qE b hb ts gs cnt hc h1 h2 (cell ns (first+k));have m4:=fC (v / 256) 4 (by decide);obtain⟨p2,Pd,e2⟩:=qE (v / 256%4) (by lia) gs ts cnt hc h2 h1 (cell ns (first+6+k));have JO:aM (.t [.f,.l .f,.l .f]) (.tup [.int b,.lst (ts.map D.int),.lst (gs.map D.int)])=true:=by
  have f1:=Ha ts;have f2:=Ha gs;simp only[aM,nq,flatD];rw[<-ck,<-ck,f1,f2];rfl
 have QL:∀p:Pl,flatD (eP p)=true:=fun p=>by
  unfold eP;rw[bX];simp only[flatDs,bX,Ha,jC];rfl
 have hz1:(ps.map eP).length<sizeLine:=km (by rw[bV];lia);have Mi:(ps.map eP++[eP p1]).length<sizeLine:=km (by rw[jD,bV,Tc];lia);unfold cD;rw[ay (env':=[some (.f,.lst (ns.map D.int)),some (.f,.int (first:Int)),some (.f,.int (cnt:Int)),some (.l .f,.lst (ps.map eP)),some (.f,.int (k:Int)),some (.f,.int v),t6,t7]) (by simp only[pv,↓reduceIte,Nat.reduceAdd,Nat.reduceLT,Nat.reduceLeDiff,Nat.reduceEqDiff,op,ev])];rw[ay (env':=[some (.f,.lst (ns.map D.int)),some (.f,.int (first:Int)),some (.f,.int (cnt:Int)),some (.l .f,.lst (ps.map eP)),some (.f,.int (k:Int)),some (.f,.int v),some (.t [.f,.l .f,.l .f],.tup [.int b,.lst (ts.map D.int),.lst (gs.map D.int)]),t7]) (by simp only[pv,↓reduceIte,Nat.reduceAdd,Nat.reduceLT,Nat.reduceLeDiff,Nat.reduceEqDiff,op,ep,JO])];rw[ay (env':=[some (.f,.lst (ns.map D.int)),some (.f,.int (first:Int)),some (.f,.int (cnt:Int)),some (.l .f,.lst (ps.map eP++[eP p1])),some (.f,.int (k:Int)),some (.f,.int v),some (.t [.f,.l .f,.l .f],.tup [.int b,.lst (ts.map D.int),.lst (gs.map D.int)]),t7]) (by simp only[pv,↓reduceIte,Nat.reduceAdd,Nat.reduceLT,Nat.reduceLeDiff,Nat.reduceEqDiff,op,c1,e1,QL,hz1])];by_cases h3:0<v / 64%3
 ·refine⟨ps++[p1,p2],some (.f,.int v),some (.f,.tup [.int b,.lst (ts.map D.int),.lst (gs.map D.int)]),some (.f,.tup [.int (v / 256%4),.lst (gs.map D.int),.lst (ts.map D.int)]),fun p hp=>?_,by rw[jD];simp,by rw[jD];simp,?_⟩
  ·rcases vJ hp with hp|hp
   ·exact SA p hp
   ·rcases S3.mp hp with rfl|hp
    ·exact SD
    ·rw[ou hp];exact Pd
  ·rw[Tb,e9,e9,TC,show ps.map eP++[eP p1,eP p2]=(ps.map eP++[eP p1])++[eP p2] by rw[Tx];rfl];simp only[pv,↓reduceIte,Nat.reduceAdd,Nat.reduceLT,Nat.reduceLeDiff,Nat.reduceEqDiff,op,iZ _ 64 (by decide) (by decide),iZ _ 256 (by decide) (by decide),jE _ 3 (by decide),jE _ 4 (by decide),gt_iff_lt,h3,Vi,at2,c2,e2,QL,Mi]
 ·refine⟨ps++[p1],some (.f,.int v),some (.t [.f,.l .f,.l .f],.tup [.int b,.lst (ts.map D.int),.lst (gs.map D.int)]),t7,fun p hp=>?_,by rw[jD];simp,by rw[jD];simp,?_⟩
  ·rcases vJ hp with hp|hp
   ·exact SA p hp
   ·rw[ou hp];exact SD
  ·rw[Tb,e9,TC];simp only[pv,↓reduceIte,Nat.reduceAdd,Nat.reduceLT,Nat.reduceLeDiff,Nat.reduceEqDiff,op,iZ _ 64 (by decide) (by decide),jE _ 3 (by decide),gt_iff_lt,h3,UW,fD]
theorem xu(ns:List Int)(first:Nat)(cnt:Nat)(hc:cnt<=10):∃ps:List Pl,(∀p∈ps,JN p cnt)/\ps≠[]/\ps.length<=8/\cq [.lst (ns.map D.int),.int (first:Int),.int (cnt:Int)]=.ok (.l .f,.lst (ps.map eP)):=by
 have c1:aw [.lst (ns.map D.int),.int 1]=.ok (.f,.int (cell ns 1)):=iE ns 1;have m4:=fC (cell ns 1 / 4) 4 (by decide);unfold cq iz;rw[bE (h:=by rfl)];rw[ay (env':=[some (.f,.lst (ns.map D.int)),some (.f,.int (first:Int)),some (.f,.int (cnt:Int)),some (.l .f,.lst []),none,none,none,none]) (by simp only[pv,seval,op])];obtain⟨env',ef,ps,t4,t5,t6,t7,h1,h2,h3,rfl⟩:=pA (a:=aG 4) (g:=cD) (e:=fun k=>D.int (k:Int)) (1+cell ns 1 / 4%4).toNat (fun i env=>∃(ps:List Pl) (t4 t5 t6 t7:Option R),(∀p∈ps,JN p cnt)/\i<=ps.length/\ps.length<=2*i/\env=[some (.f,.lst (ns.map D.int)),some (.f,.int (first:Int)),some (.f,.int (cnt:Int)),some (.l .f,.lst (ps.map eP)),t4,t5,t6,t7]) (by
  rintro k env hk ⟨ps,t4,t5,t6,t7,h1,h2,h3,rfl⟩;obtain⟨OA,u5,u6,u7,h1',Rh,h3',e⟩:=xt ns first cnt hc ps h1 (by lia) k (by lia) t5 t6 t7
  exact⟨_,rfl,_,e,OA,_,_,_,_,h1',by lia,by lia,rfl⟩) _ ⟨[],none,none,none,none,(fun _ h=>nomatch h),SV _,SV _,rfl⟩
 rw[TC]at ef;rw[ay (env':=_) (by
  unfold fT;simp only[pv,seval,op,c1,iZ _ 4 (by decide) (by decide),jE _ 4 (by decide)];rw[S1 (by lia)];simp only[pv,seval,op];exact ef)]
 unfold e8;refine⟨ps,h1,?_,by lia,by simp only[pv,seval,op]⟩;intro h;rw[h,TL]at h2;lia
theorem Di{α:Type}{l:List α}(h:l.Nodup)(lo hi:Option Int):(gI l lo hi).Nodup:=by
 unfold gI;exact(h.sublist (List.drop_sublist _ _)).sublist (V6 _ _)
theorem Dj{α:Type}{l:List α}{r:α->α->Prop}(h:l.Pairwise r)(lo hi:Option Int):(gI l lo hi).Pairwise r:=by
 unfold gI;exact(h.sublist (List.drop_sublist _ _)).sublist (V6 _ _)
theorem AG(ns:List Int):∃names:LNN,names≠[]/\names.length<=3/\names.Nodup/\names.Pairwise (fun a b=>JZ b a=false)/\cK [.lst (ns.map D.int)]=.ok (.f,.tup (names.map D.str)):=by
 have c0:aw [.lst (ns.map D.int),.int 0]=.ok (.f,.int (cell ns 0)):=iE ns 0;have c1:aw [.lst (ns.map D.int),.int 1]=.ok (.f,.int (cell ns 1)):=iE ns 1;obtain⟨l,hl,NR,hpw,en⟩:=uZ (cell ns 0);have m3:=fC (cell ns 1) 3 (by decide);unfold cK jj;rw[bE (h:=by rfl)];rw[ay (env':=[some (.f,.lst (ns.map D.int)),some (.l .f,.lst (l.map D.str)),none,none,none]) (by simp only[pv,seval,op,c0,en])];rw[ay (env':=[some (.f,.lst (ns.map D.int)),some (.l .f,.lst (l.map D.str)),some (.f,.int (cell ns 1)),none,none]) (by simp only[pv,seval,op,c1])];rw[ay (env':=[some (.f,.lst (ns.map D.int)),some (.l .f,.lst (l.map D.str)),some (.f,.int (cell ns 1)),some (.f,.int (1+cell ns 1%3)),none]) (by simp only[pv,seval,op,jE _ 3 (by decide)])];obtain⟨cnt,ec⟩:=Ug (show 0<=1+cell ns 1%3 by lia);rw[ec];have ms:=fC (cell ns 1 / 32) (6-(cnt:Int)) (by lia);obtain⟨st,es⟩:=Ug ms.1;rw[ay (env':=[some (.f,.lst (ns.map D.int)),some (.l .f,.lst (l.map D.str)),some (.f,.int (cell ns 1)),some (.f,.int (cnt:Int)),some (.f,.int (st:Int))]) (by simp only[pv,seval,op,iZ _ 32 (by decide) (by decide),jE _ (6-(cnt:Int)) (by lia),es])];have L6:=Ar l st (st+cnt) (by lia) (by lia);have hlen:(gI l (some (st:Int)) (some ((st+cnt:Nat):Int))).length=cnt:=by
  rw[L6,TJ,Up];lia
 rw[show((st+cnt:Nat):Int)=(st:Int)+(cnt:Int) by lia]at hlen;refine⟨gI l (some (st:Int)) (some ((st:Int)+(cnt:Int))),?_,by lia,Di NR _ _,Dj hpw _ _,?_⟩
 ·intro h;rw[h,TL]at hlen;lia
 ·simp only[pv,seval,op,pB]
def cv(k:Nat):List (Int×Pl)->Option (List Int)
 |[]=>some []
 |z::zs=>if z.1<z.2.2.1.getD k 0 then none else(cv k zs).map fun r=>(z.1-z.2.2.1.getD k 0+z.2.2.2.getD k 0)::r
theorem oA(k:Nat):∀{zs:List (Int×Pl)}{r:List Int},cv k zs=some r->r.length=zs.length
 |[],r,h=>by cases h;rfl
 |z::zs,r,h=>by
  rw[cv]at h;split at h
  ·cases h
  ·rw[Tg]at h;obtain⟨r',h1,rfl⟩:=h;rw[S5,S5,oA k h1]
theorem qF(k:Nat):∀{zs:List (Int×Pl)}{r:List Int}{j:Nat}{z:Int×Pl},cv k zs=some r->zs[j]?=some z->¬ z.1<z.2.2.1.getD k 0/\r[j]?=some (z.1-z.2.2.1.getD k 0+z.2.2.2.getD k 0)
 |[],r,j,z,h,e=>by cases e
 |y::zs,r,j,z,h,e=>by
  rw[cv]at h;split at h
  ·cases h
  ·rename_i hn;rw[Tg]at h;obtain⟨r',h1,rfl⟩:=h;cases j with
   |zero=>
    rw[List.getElem?_cons_zero]at e;cases e;exact⟨hn,rfl⟩
   |succ j=>
    rw[List.getElem?_cons_succ]at e ⊢;exact qF k h1 e
theorem Dk(A0 A1 A2:Option R)(k cnt:Nat)(hk:k<cnt)(acc:List Int)(hl:acc.length<=1000)(z:Int×Pl)(hz:JN z.2 cnt):cz [A0,A1,A2,some (.f,.int (k:Int)),some (.l .f,.lst (acc.map D.int)),some (.f,.int z.1),some (.f,eP z.2)]=if z.1<z.2.2.1.getD k 0 then .ok (.rt (.f,.non)) else .ok (.nx [A0,A1,A2,some (.f,.int (k:Int)),some (.l .f,.lst ((acc++[z.1-z.2.2.1.getD k 0+z.2.2.2.getD k 0]).map D.int)),some (.f,.int z.1),some (.f,eP z.2)]):=by
 have h1:IU (z.2.2.1.map D.int) (k:Int)=some (.int (z.2.2.1.getD k 0)):=ll (by rw[hz.1];exact hk);have h2:IU (z.2.2.2.map D.int) (k:Int)=some (.int (z.2.2.2.getD k 0)):=ll (by rw[hz.2];exact hk);have RP:(acc.map D.int).length<sizeLine:=km (by rw[bV];lia);unfold cz eP;by_cases h:z.1<z.2.2.1.getD k 0
 ·rw[S1 h];simp only[pv,↓reduceIte,Nat.reduceAdd,Nat.reduceLT,Nat.reduceLeDiff,Nat.reduceEqDiff,op,h1,h,Vi]
 ·rw[S4 h,Tb,e9,TC];simp only[pv,↓reduceIte,Nat.reduceAdd,Nat.reduceLT,Nat.reduceLeDiff,Nat.reduceEqDiff,op,h1,h2,at2,h,UW,fD,RP]
theorem oB(A0 A1 A2:Option R)(k cnt:Nat)(hk:k<cnt):∀(zs:List (Int×Pl)) (acc:List Int) (t5 t6:Option R),acc.length+zs.length<=1000->(∀z∈zs,JN z.2 cnt)->
  (cv k zs=none/\dW (lS 2 (aS (aG 5) (aS (aG 6) fA))) cz (zs.map fun z:Int×Pl=>D.tup [D.int z.1,eP z.2]) [A0,A1,A2,some (.f,.int (k:Int)),some (.l .f,.lst (acc.map D.int)),t5,t6]=.ok (.rt (.f,.non)))\/
  ∃r u5 u6,cv k zs=some r/\dW (lS 2 (aS (aG 5) (aS (aG 6) fA))) cz (zs.map fun z:Int×Pl=>D.tup [D.int z.1,eP z.2]) [A0,A1,A2,some (.f,.int (k:Int)),some (.l .f,.lst (acc.map D.int)),t5,t6]=.ok (.nx [A0,A1,A2,some (.f,.int (k:Int)),some (.l .f,.lst ((acc++r).map D.int)),u5,u6])
 |[],acc,t5,t6,_,_=>.inr ⟨[],t5,t6,rfl,by rw[Ta];rfl⟩
 |z::zs,acc,t5,t6,hl,hp=>by
  have h1:=Dk A0 A1 A2 k cnt hk acc (by rw[S5]at hl;lia) z (hp z SN);have ha:lS 2 (aS (aG 5) (aS (aG 6) fA)) (D.tup [D.int z.1,eP z.2]) [A0,A1,A2,some (.f,.int (k:Int)),some (.l .f,.lst (acc.map D.int)),t5,t6]=.ok [A0,A1,A2,some (.f,.int (k:Int)),some (.l .f,.lst (acc.map D.int)),some (.f,.int z.1),some (.f,eP z.2)]:=by simp only[pv,↓reduceIte,Nat.reduceAdd,Nat.reduceLT,Nat.reduceLeDiff,Nat.reduceEqDiff]
  rw[e9,cR,ha,Ht,h1,cv];by_cases h:z.1<z.2.2.1.getD k 0
  ·left;rw[S1 h,S1 h];exact⟨rfl,by rw[Ht]⟩
  ·rw[S4 h,S4 h,Ht];rcases oB A0 A1 A2 k cnt hk zs (acc++[z.1-z.2.2.1.getD k 0+z.2.2.2.getD k 0]) (some (.f,.int z.1)) (some (.f,eP z.2)) (by rw[S5]at hl;rw[jD,Tc];lia) (fun y hy=>hp y (SU _ hy)) with⟨e1,e2⟩|⟨r,u5,u6,e1,e2⟩
   ·left;exact⟨by rw[e1];rfl,e2⟩
   ·right;refine⟨_,u5,u6,by rw[e1];rfl,?_⟩;rw[Tx]at e2;exact e2
def eN(names:LNN)(ps:List Pl):D:=.tup [.tup (names.map D.str),.lst (ps.map eP)]
def eM(m:List Int):D:=.tup (m.map D.int)
theorem pE {names : LNN} {m : List Nat} (h : m ∈ names) : nN (names.map D.str) [.str m] = .ok (.f, .int ((names.idxOf m : Nat) : Int)) := by
  first
    | (unfold nN
       dsimp only
       rw [dq]
       dsimp only
       rw [S1 h])
    | (unfold nN
       simp only [dq, h, Vu])
theorem jF{α β:Type}(f:α->D)(g:β->D)(xs:List α)(ys:List β):((xs.map f).zip (ys.map g)).map (fun z=>D.tup [z.1,z.2])=(xs.zip ys).map fun z=>D.tup [f z.1,g z.2]:=by
 rw[List.zip_map,Td];rfl
theorem Dl(names:LNN)(ps:List Pl)(hl:ps.length<=100)(hp:∀p∈ps,JN p names.length)(m:List Int)(mv:List Nat)(hm:mv∈names):
  (cv (names.idxOf mv) (m.zip ps)=none/\cG [eN names ps,eM m,.str mv]=.ok (.f,.non))\/∃r,cv (names.idxOf mv) (m.zip ps)=some r/\cG [eN names ps,eM m,.str mv]=.ok (.f,eM r):=by
 have IV:=pE hm;have hk:=Ue hm;generalize names.idxOf mv=k at IV hk;unfold cG j9 eN eM;rw[bE (h:=by rfl)];rw[ay (env':=[some (.f,.tup [.tup (names.map D.str),.lst (ps.map eP)]),some (.f,.tup (m.map D.int)),some (.f,.str mv),some (.f,.int (k:Int)),none,none,none]) (by simp only[pv,seval,op,IV])];rw[ay (env':=[some (.f,.tup [.tup (names.map D.str),.lst (ps.map eP)]),some (.f,.tup (m.map D.int)),some (.f,.str mv),some (.f,.int (k:Int)),some (.l .f,.lst []),none,none]) (by simp only[pv,seval,op])];rcases oB (some (.f,.tup [.tup (names.map D.str),.lst (ps.map eP)])) (some (.f,.tup (m.map D.int))) (some (.f,.str mv)) k names.length hk (m.zip ps) [] none none (by rw[TL,Vr];lia) (fun z hz=>hp _ (UQ (show(z.1,z.2)∈m.zip ps from hz)).2) with⟨e1,e2⟩|⟨r,u5,u6,e1,e2⟩
 ·left;refine⟨e1,?_⟩;rw[TC]at e2;unfold eT;simp only[pv,seval,op,jF,e2]
 ·right;refine⟨r,e1,?_⟩;rw[TC,U7]at e2;unfold eT gL;simp only[pv,seval,op,jF,e2]
theorem eqDs_ints:∀a b:List Int,iJ (a.map D.int) (b.map D.int)=decide (a=b)
 |[],[]=>rfl
 |[],_::_=>rfl
 |_::_,[]=>rfl
 |x::a,y::b=>by
  rw[e9,e9,iJ,eqDs_ints a b,GU,To];simp
theorem u3(a b:List Int):GU (eM a) (eM b)=decide (a=b):=by
 unfold eM;rw[GU,eqDs_ints]
theorem gf(a:List Int):plainD 40 (eM a)=true:=xo a
theorem mC(l:List (List Int)):plainDs 40 (l.map eM)=true:=by
 induction l with
 |nil=>rfl
 |cons a l ih=>
  rw[e9,plainDs,ih,Wn];exact gf a
theorem ku{α:Type}[DecidableEq α](a:α):∀l:List α,a∉l->((l++[a]).findIdx fun x=>decide (x=a))=l.length
 |[],_=>by simp
 |x::l,h=>by
  rw[S3,not_or]at h;rw[UG,List.findIdx_cons,ku a l h.2,Tj (fun e=>h.1 e.symm)];rfl
theorem E6{α:Type}[DecidableEq α]{e:α->D}(he:∀a b,GU (e a) (e b)=decide (a=b))(hp:∀l:List α,plainDs 40 (l.map e)=true)(hq:∀a,plainD 40 (e a)=true)(l:List α)(a:α)(h:a∉l):pb (l.map e++[e a]) [e a]=.ok (.f,.int (l.length:Int)):=by
 have e0:l.map e++[e a]=(l++[a]).map e:=by rw[Tb];rfl
 have e1:((l++[a]).map e).any (fun d=>GU d (e a))=true:=by
  rw[Vk,Us];exact⟨a,SS _ (Te.mpr rfl),by show GU (e a) (e a)=true;rw[he,Tv rfl]⟩
 have e2:((l++[a]).map e).findIdx (fun d=>GU d (e a))=l.length:=by
  rw[List.findIdx_map];rw[<-ku a l h];congr 1
  funext x
  exact he x a
 unfold pb;dsimp only;rw[e0,hq,hp,e1,e2];rfl
theorem Gy{α:Type}[DecidableEq α]{e:α->D}(he:∀a b,GU (e a) (e b)=decide (a=b))(hp:∀l:List α,plainDs 40 (l.map e)=true)(hq:∀a,plainD 40 (e a)=true)(l:List α)(a:α):x9 (e a) (.lst (l.map e))=.ok (.f,.bl (!decide (a∈l))):=by
 have e1:vH (e a) (l.map e)=decide (a∈l):=by
  unfold vH;rw[Vk,To,Us,S9];constructor
  ·rintro⟨x,hx,e1⟩;have e1:GU (e x) (e a)=true:=e1;rw[he,S9]at e1;rw[<-e1];exact hx
  ·intro h;refine⟨a,h,?_⟩;show GU (e a) (e a)=true;rw[he,S9]
 unfold x9 Kt;dsimp only;rw[hq,hp,Ul,S1 rfl,e1];rfl
structure Rm(names:LNN)(ps:List Pl)(S:List (List Int))(A:List Ho)(m:Nat):Prop where
 nd:S.Nodup
 z:S[0]?=some (ps.map (·.1))
 ln:∀s∈S,s.length=ps.length
 le:S.length<=8
 ab:∀a∈A,a.2.1∈names/\∃i j:Nat,i<m/\a.1=(i:Int)/\a.2.2=(j:Int)/\∃s t,S[i]?=some s/\S[j]?=some t/\cv (names.idxOf a.2.1) (s.zip ps)=some t
 rc:∀j:Nat,1<=j->j<S.length->∃a∈A,a.2.2=(j:Int)/\∃b:Nat,b<j/\a.1=(b:Int)
theorem Rm.more{names:LNN}{ps:List Pl}{S:List (List Int)}{A:List Ho}{m m':Nat}(r:Rm names ps S A m)(h:m<=m'):Rm names ps S A m':=⟨r.nd,r.z,r.ln,r.le,fun a ha=>by
 obtain⟨h1,i,j,h2,h3⟩:=r.ab a ha;exact⟨h1,i,j,by lia,h3⟩,r.rc⟩
theorem Rm.old{names:LNN}{ps:List Pl}{S:List (List Int)}{A:List Ho}{d:Nat}(r:Rm names ps S A (d+1)){mv:List Nat}(hn:mv∈names){s t:List Int}(hs:S[d]?=some s){i:Nat}(ht:S[i]?=some t)(hf:cv (names.idxOf mv) (s.zip ps)=some t):Rm names ps S (A++[((d:Int),mv,(i:Int))]) (d+1):=by
 refine⟨r.nd,r.z,r.ln,r.le,fun a ha=>?_,fun j j1 j2=>?_⟩
 ·rcases vJ ha with ha|ha
  ·exact r.ab a ha
  ·rw[ou ha];exact⟨hn,d,i,by lia,rfl,rfl,s,t,hs,ht,hf⟩
 ·obtain⟨a,ha,q⟩:=r.rc j j1 j2;exact⟨a,SW _ ha,q⟩
theorem Rm.new{names:LNN}{ps:List Pl}{S:List (List Int)}{A:List Ho}{d:Nat}(r:Rm names ps S A (d+1)){mv:List Nat}(hn:mv∈names){s t:List Int}(hs:S[d]?=some s)(ht:t∉S)(hf:cv (names.idxOf mv) (s.zip ps)=some t)(h8:S.length<8):Rm names ps (S++[t]) (A++[((d:Int),mv,(S.length:Int))]) (d+1):=by
 have hd:=(rL hs).1;have hl:(S++[t]).length=S.length+1:=by rw[jD];rfl
 have up:∀{i:Nat}{x:List Int},S[i]?=some x->(S++[t])[i]?=some x:=fun{i x} h=>by
  rw[List.getElem?_append_left (rL h).1];exact h
 refine⟨Th.mpr ⟨r.nd,Tt.mpr ⟨Uh,Uu⟩,fun x hx y hy=>?_⟩,up r.z,fun x hx=>?_,by lia,fun a ha=>?_,fun j j1 j2=>?_⟩
 ·rw[ou hy];rintro rfl;exact ht hx
 ·rcases vJ hx with hx|hx
  ·exact r.ln x hx
  ·rw[ou hx,oA _ hf,Vr,r.ln s (Ts hs),Nat.min_self]
 ·rcases vJ ha with ha|ha
  ·obtain⟨h1,i,j,h2,h3,h4,x,y,h5,h6,h7⟩:=r.ab a ha;exact⟨h1,i,j,h2,h3,h4,x,y,up h5,up h6,h7⟩
  ·rw[ou ha];exact⟨hn,d,S.length,by lia,rfl,rfl,s,t,up hs,by rw[List.getElem?_append_right (SV _),WS];rfl,hf⟩
 ·by_cases e:j=S.length
  ·subst e;exact⟨_,SS _ (Te.mpr rfl),rfl,d,hd,rfl⟩
  ·obtain⟨a,ha,q⟩:=r.rc j j1 (by lia);exact⟨a,SW _ ha,q⟩
theorem lr(t:List Int):flatD (eM t)=true:=by
 unfold eM;rw[bX,Ha]
def Fu(names:LNN)(ps:List Pl)(S:List (List Int))(A:List Ho)(d j:Nat):Prop:=∀i k:Nat,(i<d\/(i=d/\k<j))->∀mv,names[k]?=some mv->∀s t,S[i]?=some s->cv (names.idxOf mv) (s.zip ps)=some t->∃m:Nat,S[m]?=some t/\((i:Int),mv,(m:Int))∈A
theorem Fu.next{names:LNN}{ps:List Pl}{S S':List (List Int)}{A A':List Ho}{d j:Nat}(fu:Fu names ps S A d j){s0:List Int}(hd:S[d]?=some s0)(up:∀(i:Nat) (x:List Int),S[i]?=some x->S'[i]?=some x)(ua:∀a∈A,a∈A'){mv:List Nat}(hj:names[j]?=some mv)(new:∀t,cv (names.idxOf mv) (s0.zip ps)=some t->∃m:Nat,S'[m]?=some t/\((d:Int),mv,(m:Int))∈A'):Fu names ps S' A' d (j+1):=by
 intro i k h mv' hk s t hs hf;have hdl:=(rL hd).1;have Po:i<S.length:=by lia
 have RQ:S[i]?=some s:=by
  have:=up i _ (oM Po);rw[hs]at this;rw[oM Po,this]
 by_cases h2:i<d\/(i=d/\k<j)
 ·obtain⟨m,h3,h4⟩:=fu i k h2 mv' hk s t RQ hf;exact⟨m,up _ _ h3,ua _ h4⟩
 ·have e1:i=d:=by lia
  have e2:k=j:=by lia
  subst e1 e2;rw[hj]at hk;cases hk;rw[hd]at RQ;cases RQ;exact new t hf
theorem Fu.row{names:LNN}{ps:List Pl}{S:List (List Int)}{A:List Ho}{d:Nat}(fu:Fu names ps S A d names.length):Fu names ps S A (d+1) 0:=fun i k h mv hk s t hs hf=>fu i k (by
 have:=(rL hk).1;lia) mv hk s t hs hf
def Lz(k:Nat)(p:Pl):Int:=p.2.1.getD k 0
def QM(k:Nat)(p:Pl):Int:=p.2.2.getD k 0
def Dm(k:Nat)(zs:List (Int×Pl)):Bool:=zs.all fun z=>decide (Lz k z.2<=z.1)
theorem qG(k:Nat):∀zs:List (Int×Pl),cv k zs=if Dm k zs then some (zs.map fun z=>z.1-Lz k z.2+QM k z.2) else none
 |[]=>rfl
 |z::zs=>by
  rw[cv,qG k zs];unfold Dm;rw[U9];by_cases h:z.1<z.2.2.1.getD k 0
  ·have h2:decide (Lz k z.2<=z.1)=false:=Tj (by unfold Lz;lia);rw[S1 h,h2,Vb,S4 SX]
  ·have h2:decide (Lz k z.2<=z.1)=true:=Tv (by unfold Lz;lia);rw[S4 h,h2,VO];cases(zs.all fun z=>decide (Lz k z.2<=z.1)) with
   |true=>rw[S1 rfl,S1 rfl];rfl
   |false=>rw[S4 SX,S4 SX];rfl
theorem AH(names:LNN)(ps:List Pl)(hl:ps.length<=100):bH [eN names ps]=.ok (.f,eM (ps.map (·.1))):=by
 have hc:cV (aG 0) gH (aD Hj (av 0) (aq (aF (.int 0)))) (ps.map eP) [none]=.ok ((ps.map (·.1)).map D.int):=by
  rw[Td];refine cE (fun env=>∃t,env=[t]) _ ?_ _ ⟨_,rfl⟩;rintro p _ env ⟨t,rfl⟩;refine⟨[some (.f,eP p)],by simp only[pv,seval],?_⟩;unfold eP;simp only[pv,seval,op,QH];exact⟨_,_,rfl,_,rfl⟩
 have Qa:((ps.map (·.1)).map D.int).length<=sizeLine:=line_le (by rw[bV,bV];lia);unfold bH fP eN;rw[bE (h:=by rfl)];simp only[pv,seval,op,OT,hc,Qa,Ha];rfl
theorem Dn{p:Pl}{k cnt:Nat}(h:JN p cnt)(hk:k<cnt):IU (p.2.1.map D.int) (k:Int)=some (.int (Lz k p)):=ll (by rw[h.1];exact hk)
theorem E7{p:Pl}{k cnt:Nat}(h:JN p cnt)(hk:k<cnt):IU (p.2.2.map D.int) (k:Int)=some (.int (QM k p)):=ll (by rw[h.2];exact hk)
theorem xv(names:LNN)(ps:List Pl)(hl:ps.length<=100)(hp:∀p∈ps,JN p names.length)(m:List Int)(mv:List Nat)(hm:mv∈names):gA [eN names ps,eM m,.str mv]=.ok (.f,.bl (Dm (names.idxOf mv) (m.zip ps))):=by
 have IV:=pE hm;have hk:=Ue hm;generalize names.idxOf mv=k at IV hk;have hc:cV (lS 2 (aS (aG 0) (aS (aG 1) fA))) gH (aD Pq (av 0) (aq (aD Hj (aq (aD Hj (av 1) (aq (aF (.int 1))))) (av 2)))) ((m.zip ps).map fun z=>D.tup [.int z.1,eP z.2]) [none,none,some (.f,.int (k:Int))]=.ok (((m.zip ps).map fun z=>decide (Lz k z.2<=z.1)).map D.bl):=by
  rw[Td];refine cE (fun env=>∃t u,env=[t,u,some (.f,.int (k:Int))]) _ ?_ _ ⟨_,_,rfl⟩;rintro⟨x,p⟩ hz env ⟨t,u,rfl⟩;have e1:=Dn (hp p (UQ hz).2) hk;refine⟨_,kl _ _ _ _ _,?_⟩;unfold eP;simp only[pv,seval,op,OT,e1];exact⟨_,_,rfl,_,_,rfl⟩
 have Qa:(((m.zip ps).map fun z=>decide (Lz k z.2<=z.1)).map D.bl).length<=sizeLine:=line_le (by rw[bV,bV,Vr];lia);unfold gA qq eN eM;rw[bE (h:=by rfl)];rw[ay (env':=[some (.f,.tup [.tup (names.map D.str),.lst (ps.map eP)]),some (.f,.tup (m.map D.int)),some (.f,.str mv),some (.f,.int (k:Int))]) (by simp only[pv,seval,op,QH,IV])];simp only[pv,seval,op,OT,jF,hc,Qa,qx,yk];unfold Dm;rw[Uv];rfl
def eO:Option (List Int)->D
 |none=>.non
 |some r=>eM r
theorem AI(o:Option (List Int)):flatD (eO o)=true:=by
 cases o with
 |none=>rfl
 |some r=>exact lr r
theorem AJ(names:LNN)(ps:List Pl)(hl:ps.length<=100)(hp:∀p∈ps,JN p names.length)(m:List Int)(mv:List Nat)(hm:mv∈names):iU [eN names ps,eM m,.str mv]=.ok (.f,eO (cv (names.idxOf mv) (m.zip ps))):=by
 have hg:=xv names ps hl hp m mv hm;have IV:=pE hm;have hk:=Ue hm;rw[qG];generalize names.idxOf mv=k at IV hk hg;have hc:cV (lS 2 (aS (aG 0) (aS (aG 1) fA))) gH (aD c5 (aq (aD wM (av 0) (aq (aD Hj (aq (aD Hj (av 1) (aq (aF (.int 1))))) (av 2))))) (aq (aD Hj (aq (aD Hj (av 1) (aq (aF (.int 2))))) (av 2)))) ((m.zip ps).map fun z=>D.tup [.int z.1,eP z.2]) [none,none,some (.f,.int (k:Int))]=.ok (((m.zip ps).map fun z=>z.1-Lz k z.2+QM k z.2).map D.int):=by
  rw[Td];refine cE (fun env=>∃t u,env=[t,u,some (.f,.int (k:Int))]) _ ?_ _ ⟨_,_,rfl⟩;rintro⟨x,p⟩ hz env ⟨t,u,rfl⟩;have e1:=Dn (hp p (UQ hz).2) hk;have e2:=E7 (hp p (UQ hz).2) hk;refine⟨_,kl _ _ _ _ _,?_⟩;unfold eP;simp only[pv,seval,op,OT,at2,e1,e2];exact⟨_,_,rfl,_,_,rfl⟩
 have Qa:(((m.zip ps).map fun z=>z.1-Lz k z.2+QM k z.2).map D.int).length<=sizeLine:=line_le (by rw[bV,bV,Vr];lia);unfold iU uH;rw[bE (h:=by rfl)];cases hz:Dm k (m.zip ps) with
 |false=>
  rw[hz]at hg;simp only[pv,seval,hg,pk,pq,Ve,fD];rfl
 |true=>
  rw[hz]at hg;unfold eN eM at hg ⊢;rw[ay (env':=[some (.f,.tup [.tup (names.map D.str),.lst (ps.map eP)]),some (.f,.tup (m.map D.int)),some (.f,.str mv),none]) (by simp only[pv,seval,hg,pk,pq,Vs,fD])];rw[ay (env':=[some (.f,.tup [.tup (names.map D.str),.lst (ps.map eP)]),some (.f,.tup (m.map D.int)),some (.f,.str mv),some (.f,.int (k:Int))]) (by simp only[pv,seval,op,QH,IV])];simp only[pv,seval,op,OT,jF,hc,Qa,Ha];rfl
abbrev Rn:=List (List Int)×List Ho
def pos(S:List (List Int))(t:List Int):Nat:=S.findIdx fun x=>decide (x=t)
noncomputable def kx(names:LNN)(ps:List Pl)(d:Nat)(mv:List Nat)(r:Rn):Option Rn:=match cv (names.idxOf mv) ((r.1.getD d []).zip ps) with
 |none=>some r
 |some t=>if t∈r.1 then some (r.1,r.2++[((d:Int),mv,(pos r.1 t:Int))]) else if r.1.length=8 then none else some (r.1++[t],r.2++[((d:Int),mv,(r.1.length:Int))])
def ve(names:LNN)(ps:List Pl)(d:Nat):LNN->Rn->Option Rn
 |[],r=>some r
 |mv::l,r=>(kx names ps d mv r).bind (ve names ps d l)
def yn(names:LNN)(ps:List Pl):Nat->Nat->Rn->Option Rn
 | 0,_,r=>some r
 |f+1,d,r=>if d<r.1.length then(ve names ps d names r).bind (yn names ps f (d+1)) else some r
theorem Gz{α:Type}[DecidableEq α]{e:α->D}(he:∀a b,GU (e a) (e b)=decide (a=b))(hp:∀l:List α,plainDs 40 (l.map e)=true)(hq:∀a,plainD 40 (e a)=true)(l:List α)(a:α)(h:a∈l):pb (l.map e) [e a]=.ok (.f,.int ((l.findIdx fun x=>decide (x=a):Nat):Int)):=by
 have e1:(l.map e).any (fun d=>GU d (e a))=true:=by
  rw[Vk,Us];exact⟨a,h,by show GU (e a) (e a)=true;rw[he,Tv rfl]⟩
 have e2:(l.map e).findIdx (fun d=>GU d (e a))=l.findIdx fun x=>decide (x=a):=by
  rw[List.findIdx_map];congr 1
  funext x
  exact he x a
 unfold pb;dsimp only;rw[hq,hp,e1,e2];rfl
theorem Dp(names:LNN)(ps:List Pl)(hl:ps.length<=100)(hp:∀p∈ps,JN p names.length)(S:List (List Int))(A:List Ho)(hA:A.length<=1000)(hS:S.length<=8)(d:Nat)(hd:d<S.length)(mv:List Nat)(hn:mv∈names)(t6:Option R):
  match kx names ps d mv (S,A) with
  |some (S',A')=>∃u6,bL [some (.f,eN names ps),some (.f,.int 8),some (.l .f,.lst (S.map eM)),some (.l .f,.lst (A.map eA)),some (.f,.int ((d:Nat):Int)),some (.f,.str mv),t6]=.ok (.nx [some (.f,eN names ps),some (.f,.int 8),some (.l .f,.lst (S'.map eM)),some (.l .f,.lst (A'.map eA)),some (.f,.int ((d:Nat):Int)),some (.f,.str mv),u6])
  |none=>bL [some (.f,eN names ps),some (.f,.int 8),some (.l .f,.lst (S.map eM)),some (.l .f,.lst (A.map eA)),some (.f,.int ((d:Nat):Int)),some (.f,.str mv),t6]=.ok (.rt (.f,.non)):=by
 have M7:S[d]?=some S[d]:=oM hd;have RS:S.getD d []=S[d]:=by rw[List.getD_eq_getElem?_getD,M7];rfl
 have K8:IU (S.map eM) (d:Int)=some (eM S[d]):=gQ (by rw[List.getElem?_map,M7];rfl);have hzA:(A.map eA).length<sizeLine:=km (by rw[bV];lia);have hzS:(S.map eM).length<sizeLine:=km (by rw[bV];lia);have QN:flatD .non=true:=rfl;unfold kx;dsimp only;rw[RS];unfold bL;rcases Dl names ps hl hp S[d] mv hn with⟨hf,e⟩|⟨t,hf,e⟩
 ·rw[hf];dsimp only;refine⟨some (.f,.non),?_⟩;rw[ay (env':=[some (.f,eN names ps),some (.f,.int 8),some (.l .f,.lst (S.map eM)),some (.l .f,.lst (A.map eA)),some (.f,.int ((d:Nat):Int)),some (.f,.str mv),some (.f,.non)]) (by simp only[pv,↓reduceIte,Nat.reduceAdd,Nat.reduceLT,Nat.reduceLeDiff,Nat.reduceEqDiff,op,K8,e,QN])];simp only[pv,↓reduceIte,Nat.reduceAdd,Nat.reduceLT,Nat.reduceLeDiff,Nat.reduceEqDiff,op,lq,fD]
 ·rw[hf];dsimp only;have hft:=lr t;have OB:=Gy u3 mC gf S t;have RT:isnO (eM t) .non=.ok (.f,.bl true):=id rfl;rw[ay (env':=[some (.f,eN names ps),some (.f,.int 8),some (.l .f,.lst (S.map eM)),some (.l .f,.lst (A.map eA)),some (.f,.int ((d:Nat):Int)),some (.f,.str mv),some (.f,eM t)]) (by simp only[pv,↓reduceIte,Nat.reduceAdd,Nat.reduceLT,Nat.reduceLeDiff,Nat.reduceEqDiff,op,K8,e,hft])];by_cases hm:t∈S
  ·rw[S1 hm];have IV:=Gz u3 mC gf S t hm;dsimp only;refine⟨some (.f,eM t),?_⟩;unfold pos;rw[Tb];simp only[pv,↓reduceIte,Nat.reduceAdd,Nat.reduceLT,Nat.reduceLeDiff,Nat.reduceEqDiff,op,RT,OB,hm,Vi,Vs,fD,ym,IV,hzA];rfl
  ·rw[S4 hm];by_cases h9:S.length=8
   ·rw[S1 h9];dsimp only;have he:((S.length:Int)==8)=true:=by rw[h9];rfl
    simp only[pv,↓reduceIte,Nat.reduceAdd,Nat.reduceLT,Nat.reduceLeDiff,Nat.reduceEqDiff,op,RT,OB,hm,UW,Ve,bV,he]
   ·rw[S4 h9];dsimp only;have he:((S.length:Int)==8)=false:=by
     rw[T4];lia
    have IV:=E6 u3 mC gf S t hm;refine⟨some (.f,eM t),?_⟩;rw[Tb,Tb,e9,TC];have hzS':S.length<sizeLine:=km (by lia);have hzA':A.length<sizeLine:=km (by lia);simp only[pv,↓reduceIte,Nat.reduceAdd,Nat.reduceLT,Nat.reduceLeDiff,Nat.reduceEqDiff,op,RT,OB,hm,UW,Ve,fD,bV,he,ym,IV,hzA',hzS'];rfl
theorem vf{names:LNN}{ps:List Pl}{d:Nat}{mv:List Nat}{r r':Rn}(h:kx names ps d mv r=some r')(h8:r.1.length<=8):r.1.length<=r'.1.length/\r'.1.length<=8/\r'.2.length<=r.2.length+1:=by
 unfold kx at h;split at h
 ·cases h;lia
 ·split at h
  ·cases h;refine⟨SV _,h8,?_⟩;rw[jD];exact SV _
  ·split at h
   ·cases h
   ·cases h;dsimp only;rw[jD,jD,Tc,Tc];lia
theorem AK{names:LNN}{ps:List Pl}{d:Nat}:∀(l:LNN) {r r':Rn},ve names ps d l r=some r'->r.1.length<=8->r.1.length<=r'.1.length/\r'.1.length<=8/\r'.2.length<=r.2.length+l.length
 |[],r,r',h,h8=>by
  cases h;exact⟨SV _,h8,SV _⟩
 |mv::l,r,r',h,h8=>by
  unfold ve at h;obtain⟨r1,h1,h2⟩:=TH.mp h;have b1:=vf h1 h8;have b2:=AK l h2 b1.2.1;rw[S5];lia
theorem yo(names:LNN)(ps:List Pl)(hl:ps.length<=100)(hp:∀p∈ps,JN p names.length)(d:Nat):∀(l:LNN),(∀mv∈l,mv∈names)->∀(r:Rn),r.2.length+l.length<=1000->r.1.length<=8->d<r.1.length->∀t5 t6:Option R,
  match ve names ps d l r with
  |some r'=>∃u5 u6,dW (aG 5) bL (l.map D.str) [some (.f,eN names ps),some (.f,.int 8),some (.l .f,.lst (r.1.map eM)),some (.l .f,.lst (r.2.map eA)),some (.f,.int ((d:Nat):Int)),t5,t6]=.ok (.nx [some (.f,eN names ps),some (.f,.int 8),some (.l .f,.lst (r'.1.map eM)),some (.l .f,.lst (r'.2.map eA)),some (.f,.int ((d:Nat):Int)),u5,u6])
  |none=>dW (aG 5) bL (l.map D.str) [some (.f,eN names ps),some (.f,.int 8),some (.l .f,.lst (r.1.map eM)),some (.l .f,.lst (r.2.map eA)),some (.f,.int ((d:Nat):Int)),t5,t6]=.ok (.rt (.f,.non))
 |[],_,r,_,_,_,t5,t6=>⟨t5,t6,rfl⟩
 |mv::l,hm,r,hA,h8,hd,t5,t6=>by
  have h1:=Dp names ps hl hp r.1 r.2 (by lia) h8 d hd mv (hm mv SN) t6;have ha:aG 5 (.str mv) [some (.f,eN names ps),some (.f,.int 8),some (.l .f,.lst (r.1.map eM)),some (.l .f,.lst (r.2.map eA)),some (.f,.int ((d:Nat):Int)),t5,t6]=.ok [some (.f,eN names ps),some (.f,.int 8),some (.l .f,.lst (r.1.map eM)),some (.l .f,.lst (r.2.map eA)),some (.f,.int ((d:Nat):Int)),some (.f,.str mv),t6]:=rfl;unfold ve;cases hs:kx names ps d mv r with
  |none=>
   have NH:kx names ps d mv (r.1,r.2)=none:=hs;rw[NH]at h1;dsimp only[Option.bind]at h1 ⊢;rw[e9,cR,ha,Ht,h1,Ht]
  |some r1=>
   have NH:kx names ps d mv (r.1,r.2)=some r1:=hs;have b:=vf hs h8;rw[NH]at h1;obtain⟨u6,h1⟩:=h1;rw[S5]at hA;have ih:=yo names ps hl hp d l (fun x hx=>hm x (SU _ hx)) r1 (by lia) b.2.1 (by lia) (some (.f,.str mv)) u6;dsimp only[Option.bind];cases hr:ve names ps d l r1 with
   |none=>
    rw[hr]at ih;dsimp only at ih ⊢;rw[e9,cR,ha,Ht,h1,Ht];exact ih
   |some r2=>
    rw[hr]at ih;dsimp only at ih ⊢;obtain⟨v5,v6,ih⟩:=ih;refine⟨v5,v6,?_⟩;rw[e9,cR,ha,Ht,h1,Ht];exact ih
theorem Dq(names:LNN)(hn:names.length<=3)(ps:List Pl)(hl:ps.length<=100)(hp:∀p∈ps,JN p names.length):∀(f F d:Nat) (r:Rn),r.1.length<=8->d<=r.1.length->r.2.length<=3*d->9<=f+d->f<=F->∀t5 t6:Option R,
  match yn names ps f d r with
  |some r'=>r'.2.length<=24/\∃u4 u5 u6,c9 (HA (aD KJ (av 4) (aq (bo jt (ag (av 2) aE))))) cp F [some (.f,eN names ps),some (.f,.int 8),some (.l .f,.lst (r.1.map eM)),some (.l .f,.lst (r.2.map eA)),some (.f,.int ((d:Nat):Int)),t5,t6]=.ok (.nx [some (.f,eN names ps),some (.f,.int 8),some (.l .f,.lst (r'.1.map eM)),some (.l .f,.lst (r'.2.map eA)),u4,u5,u6])
  |none=>c9 (HA (aD KJ (av 4) (aq (bo jt (ag (av 2) aE))))) cp F [some (.f,eN names ps),some (.f,.int 8),some (.l .f,.lst (r.1.map eM)),some (.l .f,.lst (r.2.map eA)),some (.f,.int ((d:Nat):Int)),t5,t6]=.ok (.rt (.f,.non))
 | 0,F,d,r,h8,hd,hA,hf,hF,t5,t6=>by lia
 |f+1,0,d,r,h8,hd,hA,hf,hF,t5,t6=>by lia
 |f+1,F+1,d,r,h8,hd,hA,hf,hF,t5,t6=>by
  unfold yn;by_cases HC:d<r.1.length
  ·rw[S1 HC];have h1:=yo names ps hl hp d names (fun _ h=>h) r (by lia) h8 HC t5 t6;have hc:(HA (aD KJ (av 4) (aq (bo jt (ag (av 2) aE))))) [some (.f,eN names ps),some (.f,.int 8),some (.l .f,.lst (r.1.map eM)),some (.l .f,.lst (r.2.map eA)),some (.f,.int ((d:Nat):Int)),t5,t6]=.ok (true,[some (.f,eN names ps),some (.f,.int 8),some (.l .f,.lst (r.1.map eM)),some (.l .f,.lst (r.2.map eA)),some (.f,.int ((d:Nat):Int)),t5,t6]):=by
    have:(d:Int)<(r.1.length:Int):=by lia
    simp only[pv,seval,op,bV,this,Vi]
   have go:∀q:Res Out,dW (aG 5) bL (names.map D.str) [some (.f,eN names ps),some (.f,.int 8),some (.l .f,.lst (r.1.map eM)),some (.l .f,.lst (r.2.map eA)),some (.f,.int ((d:Nat):Int)),t5,t6]=q->fR [some (.f,eN names ps),some (.f,.int 8),some (.l .f,.lst (r.1.map eM)),some (.l .f,.lst (r.2.map eA)),some (.f,.int ((d:Nat):Int)),t5,t6]=q:=fun q h=>by
    unfold fR;unfold eN at h ⊢;simp only[pv,seval,op];exact h
   cases hr:ve names ps d names r with
   |none=>
    rw[hr]at h1;dsimp only[Option.bind]at h1 ⊢;rw[dO,hc,Ht];dsimp only;rw[S1 rfl];unfold cp;rw[HV,go _ h1,Ht];rfl
   |some r1=>
    rw[hr]at h1;dsimp only[Option.bind]at h1 ⊢;obtain⟨u5,u6,h1⟩:=h1;have b:=AK names hr h8;have e2:cp [some (.f,eN names ps),some (.f,.int 8),some (.l .f,.lst (r.1.map eM)),some (.l .f,.lst (r.2.map eA)),some (.f,.int ((d:Nat):Int)),t5,t6]=.ok (.nx [some (.f,eN names ps),some (.f,.int 8),some (.l .f,.lst (r1.1.map eM)),some (.l .f,.lst (r1.2.map eA)),some (.f,.int ((d+1:Nat):Int)),u5,u6]):=by
     unfold cp;rw[ay (go _ h1)];unfold ir;simp only[pv,seval,op,Int.natCast_add,V1]
    have ih:=Dq names hn ps hl hp f F (d+1) r1 b.2.1 (by lia) (by lia) (by lia) (by lia) u5 u6;cases hq:yn names ps f (d+1) r1 with
    |none=>
     rw[hq]at ih;dsimp only at ih ⊢;rw[dO,hc,Ht];dsimp only;rw[S1 rfl,e2,Ht];exact ih
    |some r2=>
     rw[hq]at ih;dsimp only at ih ⊢;obtain⟨hb,v4,v5,v6,ih⟩:=ih;refine⟨hb,v4,v5,v6,?_⟩;rw[dO,hc,Ht];dsimp only;rw[S1 rfl,e2,Ht];exact ih
  ·rw[S4 HC];dsimp only;refine⟨by lia,some (.f,.int ((d:Nat):Int)),t5,t6,?_⟩;have hc:(HA (aD KJ (av 4) (aq (bo jt (ag (av 2) aE))))) [some (.f,eN names ps),some (.f,.int 8),some (.l .f,.lst (r.1.map eM)),some (.l .f,.lst (r.2.map eA)),some (.f,.int ((d:Nat):Int)),t5,t6]=.ok (false,[some (.f,eN names ps),some (.f,.int 8),some (.l .f,.lst (r.1.map eM)),some (.l .f,.lst (r.2.map eA)),some (.f,.int ((d:Nat):Int)),t5,t6]):=by
    have:¬ (d:Int)<(r.1.length:Int):=by lia
    simp only[pv,seval,op,bV,this,UW]
   rw[dO,hc,Ht];rfl
abbrev iF(names:LNN)(ps:List Pl):Option Rn:=yn names ps 9 0 ([ps.map (·.1)],[])
theorem yp(names:LNN)(hn:names.length<=3)(ps:List Pl)(hl:ps.length<=100)(hp:∀p∈ps,JN p names.length):
  br [eN names ps,.int 8]=.ok (.f,match iF names ps with
   |some r=>.tup [.lst ((bP f9 r.2).map eA),.lst (r.1.map eM)]
   |none=>.non):=by
 unfold br lh;rw[bE (h:=by rfl)];have hc:cV (lS 3 (aS (aG 0) (aS (aG 1) (aS (aG 2) fA)))) gH (aH 0) (ps.map eP) [none,none,none]=.ok ((ps.map (·.1)).map D.int):=by
  rw[cE (r:=fun p:Pl=>D.int p.1) (fun env=>∃t u w,env=[t,u,w]) ps ?_ _ ⟨none,none,none,rfl⟩]
  ·rw[Td];rfl
  ·rintro p _ env ⟨t,u,w,rfl⟩;exact⟨[some (.f,.int p.1),some (.f,.tup (p.2.1.map D.int)),some (.f,.tup (p.2.2.map D.int))],by unfold eP;simp only[pv,↓reduceIte,Nat.reduceAdd,Nat.reduceLT,Nat.reduceLeDiff,Nat.reduceEqDiff],.f,_,rfl,_,_,_,rfl⟩
 have hlen:((ps.map (·.1)).map D.int).length<=sizeLine:=cb (by rw[bV,bV];lia);have P6:=Ha (ps.map (·.1));rw[ay (env':=[some (.f,eN names ps),some (.f,.int 8),some (.l .f,.lst [eM (ps.map (·.1))]),none,none,none,none]) (by
  unfold eN eM;simp only[pv,↓reduceIte,Nat.reduceAdd,Nat.reduceLT,Nat.reduceLeDiff,Nat.reduceEqDiff,op,hc,hlen,P6])]
 rw[ay (env':=[some (.f,eN names ps),some (.f,.int 8),some (.l .f,.lst [eM (ps.map (·.1))]),some (.l .f,.lst []),none,none,none]) (by simp only[pv,↓reduceIte,Nat.reduceAdd,Nat.reduceLT,Nat.reduceLeDiff,Nat.reduceEqDiff,op])];rw[ay (env':=[some (.f,eN names ps),some (.f,.int 8),some (.l .f,.lst [eM (ps.map (·.1))]),some (.l .f,.lst []),some (.f,.int 0),none,none]) (by simp only[pv,↓reduceIte,Nat.reduceAdd,Nat.reduceLT,Nat.reduceLeDiff,Nat.reduceEqDiff,op])];have w:=Dq names hn ps hl hp 9 100000 0 ([ps.map (·.1)],[]) (by show 1<=8;decide) (Tw _) (SV _) (by decide) (by decide) none none;unfold iF;cases hr:yn names ps 9 0 ([ps.map (·.1)],[]) with
 |some r=>
  rw[hr]at w;obtain⟨hA,u4,u5,u6,w⟩:=w;rw[ay (env':=_) (by
   unfold dM;exact w)]
  unfold iu;simp only[pv,↓reduceIte,Nat.reduceAdd,Nat.reduceLT,Nat.reduceLeDiff,Nat.reduceEqDiff,op,Ay r.2 (by lia)]
 |none=>
  rw[hr]at w;have w2:dM [some (.f,eN names ps),some (.f,.int 8),some (.l .f,.lst [eM (ps.map (·.1))]),some (.l .f,.lst []),some (.f,.int 0),none,none]=.ok (.rt (.f,.non)):=by
   unfold dM;exact w
  rw[HV,w2];simp only[pv,↓reduceIte,Nat.reduceAdd,Nat.reduceLT,Nat.reduceLeDiff,Nat.reduceEqDiff]
theorem yq{S:List (List Int)}{t:List Int}(h:t∈S):S[pos S t]?=some t:=by
 have h3:(S.findIdx fun x=>decide (x=t))<S.length:=List.findIdx_lt_length_of_exists ⟨t,h,Tv rfl⟩;have h4:=WY (p:=fun x=>decide (x=t)) (xs:=S) (w:=h3);unfold pos;rw[oM h3];congr 1
 simpa using h4
def Zr(names:LNN)(ps:List Pl):Prop:=∃S A m,Rm names ps S A m/\S.length=8
section
variable{names:LNN}{ps:List Pl}
theorem AL{d j:Nat}{mv:List Nat}{r:Rn}(rm:Rm names ps r.1 r.2 (d+1))(hd:d<r.1.length)(hj:names[j]?=some mv)(fu:Fu names ps r.1 r.2 d j):
  match kx names ps d mv r with
  |some r'=>Rm names ps r'.1 r'.2 (d+1)/\Fu names ps r'.1 r'.2 d (j+1)
  |none=>Zr names ps:=by
 have hn:=Ts hj;have M7:r.1[d]?=some r.1[d]:=oM hd;have RS:r.1.getD d []=r.1[d]:=by rw[List.getD_eq_getElem?_getD,M7];rfl
 unfold kx;rw[RS];cases hf:cv (names.idxOf mv) (r.1[d].zip ps) with
 |none=>exact⟨rm,fu.next M7 (fun _ _ h=>h) (fun _ h=>h) hj fun t h=>by rw[hf]at h;cases h⟩
 |some t=>
  dsimp only;by_cases hm:t∈r.1
  ·rw[S1 hm];exact⟨rm.old hn M7 (yq hm) hf,fu.next M7 (fun _ _ h=>h) (fun _ h=>SW _ h) hj fun t' h=>by rw[hf]at h;cases h;exact⟨_,yq hm,SS _ (Te.mpr rfl)⟩⟩
  ·rw[S4 hm];by_cases h9:r.1.length=8
   ·rw[S1 h9];exact⟨_,_,_,rm,h9⟩
   ·rw[S4 h9];have:=rm.le;exact⟨rm.new hn M7 hm hf (by lia),fu.next M7 (fun i x h=>by rw[List.getElem?_append_left (rL h).1];exact h) (fun _ h=>SW _ h) hj fun t' h=>by rw[hf]at h;cases h;exact⟨r.1.length,by rw[List.getElem?_append_right (SV _),WS];rfl,SS _ (Te.mpr rfl)⟩⟩
theorem yr{d:Nat}:∀(l:LNN) (j:Nat) (r:Rn),names.drop j=l->Rm names ps r.1 r.2 (d+1)->d<r.1.length->Fu names ps r.1 r.2 d j->
  match ve names ps d l r with
  |some r'=>Rm names ps r'.1 r'.2 (d+1)/\Fu names ps r'.1 r'.2 d (j+l.length)
  |none=>Zr names ps
 |[],j,r,_,rm,_,fu=>⟨rm,fu⟩
 |mv::l,j,r,hl,rm,hd,fu=>by
  have hj:names[j]?=some mv:=by
   have:(names.drop j)[0]?=some mv:=by rw[hl];rfl
   rw[List.getElem?_drop]at this;exact this
  have Rr:names.drop (j+1)=l:=by
   rw[<-List.tail_drop,hl];rfl
  have h1:=AL rm hd hj fu;unfold ve;cases hs:kx names ps d mv r with
  |none=>
   rw[hs]at h1;exact h1
  |some r1=>
   rw[hs]at h1;have b:=vf hs rm.le;have ih:=yr l (j+1) r1 Rr h1.1 (by lia) h1.2;rw[S5,show j+(l.length+1)=j+1+l.length by lia];exact ih
theorem yt(hn:names.length<=3):∀(f d:Nat) (r:Rn),Rm names ps r.1 r.2 d->d<=r.1.length->r.2.length<=3*d->Fu names ps r.1 r.2 d 0->9<=f+d->
  match yn names ps f d r with
  |some r'=>(∃m,Rm names ps r'.1 r'.2 m)/\Fu names ps r'.1 r'.2 r'.1.length 0/\r'.2.length<=24
  |none=>Zr names ps
 | 0,d,r,rm,hd,_,_,hf=>by
  have:=rm.le;lia
 |f+1,d,r,rm,hd,hA,fu,hf=>by
  have h8:=rm.le;unfold yn;by_cases HC:d<r.1.length
  ·rw[S1 HC];have h1:=yr names 0 r rfl (rm.more (U5 d)) HC fu;cases hs:ve names ps d names r with
   |none=>
    rw[hs]at h1;exact h1
   |some r1=>
    rw[hs,XB]at h1;have b:=AK names hs h8;exact yt hn f (d+1) r1 h1.1 (by lia) (by lia) h1.2.row (by lia)
  ·rw[S4 HC];have:d=r.1.length:=by lia
   exact⟨⟨d,rm⟩,this▸fu,by lia⟩
theorem rm0:Rm names ps [ps.map (·.1)] [] 0:=⟨Tt.mpr ⟨Uh,Uu⟩,rfl,fun x hx=>by rw[ou hx,bV],by simp,(fun _ h=>nomatch h),fun j j1 j2=>by rw[Tc]at j2;lia⟩
theorem ky(hn:names.length<=3):
  match iF names ps with
  |some r'=>(∃m,Rm names ps r'.1 r'.2 m)/\Fu names ps r'.1 r'.2 r'.1.length 0/\r'.2.length<=24
  |none=>Zr names ps:=yt hn 9 0 ([ps.map (·.1)],[]) rm0 (Tw _) (SV _) (fun i k h=>by lia) (by decide)
end
section
variable{names:LNN}{ps OA:List Pl}{h:List Int->List Int}{Sf:List (List Int)}
def hR(h:List Int->List Int)(r:Rn):Rn:=(r.1.map h,r.2)
end
theorem flat_P(p:Pl):flatD (eP p)=true:=by
 unfold eP;rw[bX];simp only[flatDs,bX,Ha,jC];rfl
theorem AM(ps:List Pl):flatDs (ps.map eP)=true:=by
 rw[ck,Uv,Ti];exact fun p _=>flat_P p
theorem mD{α:Type}[DecidableEq α]:∀(l m:List α),l.Nodup->(∀x∈l,x∈m)->l.length<=m.length
 |[],m,_,_=>Tw _
 |a::l,m,nd,h=>by
  rw[Tt]at nd;have ha:=h a SN;have:=mD l (m.erase a) nd.2 fun x hx=>(List.mem_erase_of_ne (fun e=>nd.1 (by rw[<-e];exact hx))).mpr (h x (SU _ hx))
  rw[We ha]at this;have:=WD ha;rw[S5];lia
def mI(names:LNN)(b:Int):Pl:=(b,names.map fun _=>1,names.map fun _=>0)
theorem qH(names:LNN)(c:Int){k:Nat}(h:k<names.length):(names.map fun _=>c).getD k 0=c:=by
 rw[List.getD_eq_getElem?_getD,List.getElem?_map,oM h];rfl
theorem vg{names:LNN}{ps:List Pl}{b:Int}{k:Nat}(hk:k<names.length){s t:List Int}(hs:s.length=(ps++[mI names b]).length)(hf:cv k (s.zip (ps++[mI names b]))=some t):1<=s.getD ps.length 0/\t.getD ps.length 0=s.getD ps.length 0-1:=by
 rw[jD,Tc]at hs;have HC:ps.length<s.length:=by lia
 have e:(s.zip (ps++[mI names b]))[ps.length]?=some (s[ps.length],mI names b):=by
  rw[List.getElem?_zip_eq_some];exact⟨oM HC,by rw[List.getElem?_append_right (SV _),WS];rfl⟩
 obtain⟨h1,h2⟩:=qF k hf e;have e1:(mI names b).2.1.getD k 0=1:=qH names 1 hk;have e2:(mI names b).2.2.getD k 0=0:=qH names 0 hk;dsimp only at h1 h2;rw[e1]at h1;rw[e1,e2]at h2;have e3:s.getD ps.length 0=s[ps.length]:=by rw[List.getD_eq_getElem?_getD,oM HC];rfl
 rw[e3,List.getD_eq_getElem?_getD,h2];exact⟨by lia,by show _=_;simp⟩
theorem xw{names:LNN}{ps:List Pl}{S:List (List Int)}{A:List Ho}{m:Nat}(r:Rm names (ps++[mI names 1]) S A m):S.length<=1+names.length:=by
 have hz:=r.z;cases hS:S with
 |nil=>exact Tw _
 |cons s0 tl=>
  rw[hS,List.getElem?_cons_zero,Wf]at hz;have h0:s0.getD ps.length 0=1:=by
   rw[hz,List.getD_eq_getElem?_getD,List.getElem?_map,List.getElem?_append_right (SV _),WS];rfl
  have key:∀j:Nat,1<=j->∀s,S[j]?=some s->s.getD ps.length 0=0/\∃mv∈names,cv (names.idxOf mv) (s0.zip (ps++[mI names 1]))=some s:=by
   intro j;induction j using Nat.strongRecOn with
   |_ j ih=>
    intro hj s hs;obtain⟨a,ha,e1,b,hb,e2⟩:=r.rc j hj (rL hs).1;obtain⟨hn,i',j',_,e3,e4,x,y,hx,hy,hf⟩:=r.ab a ha;have:i'=b:=by lia
    subst this;have:j'=j:=by lia
    subst this;rw[hs]at hy;cases hy;have hd:=vg (Ue hn) (r.ln x (Ts hx)) hf;cases i' with
    |zero=>
     rw[hS,List.getElem?_cons_zero,Wf]at hx;subst hx;exact⟨by lia,_,hn,hf⟩
    |succ i'=>
     have:=(ih (i'+1) hb (by lia) x hx).1;lia
  have nd:=r.nd;rw[hS]at nd;have:=mD tl (names.filterMap fun mv=>cv (names.idxOf mv) (s0.zip (ps++[mI names 1]))) (Tt.mp nd).2 fun s hs=>by
   obtain⟨i,hi⟩:=Ua.mp hs;obtain⟨_,mv,M8,hf⟩:=key (i+1) (by lia) s (by rw[hS,List.getElem?_cons_succ];exact hi);exact Vn.mpr ⟨mv,M8,hf⟩
  have h2:=List.length_filterMap_le (fun mv=>cv (names.idxOf mv) (s0.zip (ps++[mI names 1]))) names;rw[S5];lia
theorem oC(names:LNN)(c:Int):cV (aG 0) gH (aF (.int c)) (names.map D.str) [none]=.ok ((names.map fun _=>c).map D.int):=by
 rw[cE (r:=fun _:List Nat=>D.int c) (fun env=>∃t,env=[t]) names ?_ _ ⟨none,rfl⟩]
 ·rw[Td];rfl
 ·rintro n _ env ⟨t,rfl⟩;exact⟨[some (.f,.str n)],rfl,.f,_,rfl,_,rfl⟩
theorem GA(ps:List Pl)(hl:ps.length<=100)(d:D):c5 (.lst (ps.map eP)) (.lst [d])=.ok (.l .f,.lst (ps.map eP++[d])):=by
 rw[uQ,S1 (line_le (by rw[bV,Tc];lia))]
structure Nt(names:LNN)(ps:List Pl)(r:Rn):Prop where
 n0:names≠[]
 n3:names.length<=3
 nn:names.Nodup
 p0:ps≠[]
 p9:ps.length<=12
 po:∀p∈ps,JN p names.length
 e:iF names ps=some r
theorem vh(names:LNN)(hn:names.length<=3)(ps:List Pl)(hl:ps.length<=100)(hp:∀p∈ps,JN p names.length):
  (∃r,iF names ps=some r/\br [eN names ps,.int 8]=.ok (.f,.tup [.lst ((bP f9 r.2).map eA),.lst (r.1.map eM)]))\/(iF names ps=none/\br [eN names ps,.int 8]=.ok (.f,.non)/\Zr names ps):=by
 have h:=yp names hn ps hl hp;have z:=ky (ps:=ps) hn;cases e:iF names ps with
 |some r=>
  rw[e]at h;exact .inl ⟨r,rfl,h⟩
 |none=>
  rw[e]at h z;exact .inr ⟨rfl,h,z⟩
theorem E8(ns:List Int)(first:Nat):∃names ps r,Nt names ps r/\ps.length<=9/\cY [.lst (ns.map D.int),.int (first:Int)]=.ok (.f,eN names ps):=by
 obtain⟨names,n0,n3,nn,nw,en⟩:=AG ns;obtain⟨ps,RU,hp0,hp8,ep⟩:=xu ns first names.length (by lia)
 have QL:=AM ps;have Ld:flatD (.tup (names.map D.str))=true:=by rw[bX,PV.flat_strs]
 have QN:flatD .non=true:=rfl;have QQ:∀(x y:List D),flatDs [.lst x,.lst y]=false:=fun _ _=>rfl
 unfold cY lj;rw[bE (h:=by rfl)];rw[ay (env':=[some (.f,.lst (ns.map D.int)),some (.f,.int (first:Int)),some (.f,.tup (names.map D.str)),none,none,none,none]) (by simp only[pv,seval,op,en,Ld])];rw[ay (env':=[some (.f,.lst (ns.map D.int)),some (.f,.int (first:Int)),some (.f,.tup (names.map D.str)),some (.f,.int (names.length:Int)),none,none,none]) (by simp only[pv,seval,op,bV])];rw[ay (env':=[some (.f,.lst (ns.map D.int)),some (.f,.int (first:Int)),some (.f,.tup (names.map D.str)),some (.f,.int (names.length:Int)),some (.l .f,.lst (ps.map eP)),none,none]) (by simp only[pv,seval,op,ep,QL])];rcases vh names n3 ps (by lia) RU with⟨r,e,er⟩|⟨_,er,_⟩
 ·refine⟨names,ps,r,⟨n0,n3,nn,hp0,by lia,RU,e⟩,by lia,?_⟩;unfold eN at er ⊢;simp only[pv,seval,op,er,QQ,fD,o_isnT,A3,A4]
 ·unfold eN at er;rw[ay (env':=[some (.f,.lst (ns.map D.int)),some (.f,.int (first:Int)),some (.f,.tup (names.map D.str)),some (.f,.int (names.length:Int)),some (.f,.lst (ps.map eP)),none,none]) (by simp only[pv,seval,op,er,QN,lq,fD])];have c1:=oC names 1;have c0:=oC names 0;have l1:((names.map fun _=>(1:Int)).map D.int).length<=sizeLine:=cb (by rw[bV,bV];lia);have l0:((names.map fun _=>(0:Int)).map D.int).length<=sizeLine:=cb (by rw[bV,bV];lia);have f1:=Ha (names.map fun _=>(1:Int));have f0:=Ha (names.map fun _=>(0:Int));rw[ay (env':=[some (.f,.lst (ns.map D.int)),some (.f,.int (first:Int)),some (.f,.tup (names.map D.str)),some (.f,.int (names.length:Int)),some (.f,.lst (ps.map eP)),some (.f,.tup ((names.map fun _=>(1:Int)).map D.int)),none]) (by simp only[pv,seval,op,c1,l1,f1])];rw[ay (env':=[some (.f,.lst (ns.map D.int)),some (.f,.int (first:Int)),some (.f,.tup (names.map D.str)),some (.f,.int (names.length:Int)),some (.f,.lst (ps.map eP)),some (.f,.tup ((names.map fun _=>(1:Int)).map D.int)),some (.f,.tup ((names.map fun _=>(0:Int)).map D.int))]) (by simp only[pv,seval,op,c0,l0,f0])];have Nw:∀b:Int,(ps++[mI names b]).map eP=ps.map eP++[.tup [.int b,.tup ((names.map fun _=>(1:Int)).map D.int),.tup ((names.map fun _=>(0:Int)).map D.int)]]:=fun b=>by
   rw[Tb];rfl
  have M9:∀b:Int,∀p∈ps++[mI names b],JN p names.length:=fun b p hp=>by
   rcases vJ hp with hp|hp
   ·exact RU p hp
   ·rw[ou hp];exact⟨bV _,bV _⟩
  have JY:∀b:Int,(ps++[mI names b]).length<=9:=fun b=>by
   rw[jD,Tc];lia
  have Qb:∀b:Int,ps++[mI names b]≠[]:=fun b h=>by simp at h
  have RV:=fun d=>GA ps (by lia) d
  have lo:((ps.map eP).length)<=100:=by rw[bV];lia
  rcases vh names n3 (ps++[mI names 2]) (by have:=JY 2;lia) (M9 2) with⟨r,e,er2⟩|⟨_,er2,_⟩
  ·refine⟨names,ps++[mI names 2],r,⟨n0,n3,nn,Qb 2,by have:=JY 2;lia,M9 2,e⟩,JY 2,?_⟩;unfold eN at er2 ⊢;rw[Nw]at er2 ⊢;simp only[pv,seval,op,RV,er2,QQ,fD,o_isnT,A3,A4]
  ·rcases vh names n3 (ps++[mI names 1]) (by have:=JY 1;lia) (M9 1) with⟨r,e,er3⟩|⟨_,_,S,A,m,r,h8⟩
   ·refine⟨names,ps++[mI names 1],r,⟨n0,n3,nn,Qb 1,by have:=JY 1;lia,M9 1,e⟩,JY 1,?_⟩;unfold eN at er2 ⊢;rw[Nw]at er2 ⊢;rw[ay (env':=[some (.f,.lst (ns.map D.int)),some (.f,.int (first:Int)),some (.f,.tup (names.map D.str)),some (.f,.int (names.length:Int)),some (.f,.lst (ps.map eP)),some (.f,.tup ((names.map fun _=>(1:Int)).map D.int)),some (.f,.tup ((names.map fun _=>(0:Int)).map D.int))]) (by simp only[pv,seval,op,RV,er2,QN,lq,fD])];simp only[pv,seval,op,RV]
   ·have:=xw r;lia
theorem yu{names:LNN}{ps:List Pl}{r:Rn}(hn:names.length<=3)(e:iF names ps=some r):Ra names r.2 r.1.length:=by
 have h:=ky (ps:=ps) hn;rw[e]at h;obtain⟨⟨m,rm⟩,_,Kf⟩:=h;have h8:=rm.le;have h0:=(rL rm.z).1;refine⟨by lia,by lia,fun a ha=>?_,fun a ha=>(rm.ab a ha).1,rm.rc⟩;obtain⟨_,i,j,_,e1,e2,s,t,hs,ht,_⟩:=rm.ab a ha;have h1:=(rL hs).1;have h2:=(rL ht).1;lia
abbrev Gt:=Int×List Int×LNN
def wD(w:LNN):D:=.tup (w.map D.str)
def vG(n:Gt):D:=.tup [eM n.2.1,wD n.2.2]
def dG(N:List Gt):D:=.dct false (N.map fun n=>D.int n.1) (N.map vG)
theorem AN:∀(N:List Gt) (s:Int),getD (N.map fun n=>D.int n.1) (N.map vG) (.int s)=(N.find? fun n=>n.1==s).map vG
 |[],s=>rfl
 |z::L,s=>by
  have ih:=AN L s;unfold getD at ih ⊢;rw[e9,e9,Uo];by_cases e:z.1=s
  ·rw[List.find?_cons_of_pos (by show GU (.int s) (.int z.1)=true;rw[GU,Tu];exact e.symm),List.find?_cons_of_pos (by simpa using e)];rfl
  ·rw[List.find?_cons_of_neg (by show ¬ GU (.int s) (.int z.1)=true;rw[GU,Tu];exact fun q=>e q.symm),List.find?_cons_of_neg (by simpa using e)];exact ih
theorem vk:∀{N:List Gt},(N.map (·.1)).Nodup->∀{n:Gt},n∈N->(N.find? fun z=>z.1==n.1)=some n
 |z::N,nd,n,h=>by
  rw[e9,Tt]at nd;rcases S3.mp h with e|h
  ·subst e;rw[List.find?_cons_of_pos (by simp)]
  ·rw[List.find?_cons_of_neg (by
    simp only[Tu];intro e;exact nd.1 (e▸T9.mpr ⟨n,h,rfl⟩))]
   exact vk nd.2 h
theorem DP{N:List Gt}{s:Int}{n:Gt}(h:(N.find? fun z=>z.1==s)=some n):Lm (dG N) (.int s)=.ok (.f,vG n):=by
 unfold Lm dG;dsimp only;rw[S1 (show dP false (.int s)=true from rfl),AN,h];rfl
theorem E9(N:List Gt)(s:Int):uw (.int s) (dG N)=.ok (.f,.bl (N.find? fun z=>z.1==s).isNone):=by
 unfold uw dG;dsimp only;rw[S1 (show dP false (.int s)=true from rfl),AN];cases(N.find? fun z=>z.1==s) <;> rfl
theorem Fb{N:List Gt}{s:Int}(h:(N.find? fun z=>z.1==s)=none)(m:List Int)(w:LNN):o5 (N.map fun n=>D.int n.1) (N.map vG) (.int s) (.tup [eM m,wD w])=((N++[(s,m,w)]).map (fun n=>D.int n.1),(N++[(s,m,w)]).map vG):=by
 rw[List.find?_eq_none]at h;have e:(N.map fun n=>D.int n.1).any (GU (.int s))=false:=by
  rw[Vk,List.any_eq_false];intro x hx;show ¬ GU (.int s) (.int x.1)=true;rw[GU,Tu];intro q;exact h x hx (by simp[q])
 unfold o5;rw[e,S4 SX,Tb,Tb];rfl
theorem gj(w:LNN):flatD (wD w)=true:=by
 unfold wD;rw[bX,PV.flat_strs]
theorem AO(n:Gt):flatD (vG n)=true:=by
 unfold vG;rw[bX];simp only[flatDs,lr,gj,Ul]
theorem xx(N:List Gt):flatDs (N.map vG)=true:=qA fun n=>AO n
theorem AQ(i:Nat)(f g:FX)(env:PV.Env):sPutP i f g env=Res.bnd (g env) (f:=⟨fun(p:R×PV.Env)=>Res.bnd (f p.2) (f:=⟨fun(q:R×PV.Env)=>match p.2[i]?,q.2[i]? with
 |some (some _),some (some (.pin pp .d,.dct tk ks vs))=>if dP tk q.1.2&&decide (ks.length<sizeLine) then .ok (.nx (q.2.set i (some (.pin pp .d,.dct tk (o5 ks vs q.1.2 p.1.2).1 (o5 ks vs q.1.2 p.1.2).2)))) else .bad
 |_,_=>.bad⟩)⟩):=id rfl
def yv(w w':LNN):D:=.tup [.str [111,110,101],wD w,wD w']
def FC(w w':LNN):D:=.tup [.str [116,119,111],wD w,wD w']
def vm(s:Int)(m:List Int)(n:Gt):Bool:=!(n.1==s)&&decide (n.2.1=m)
noncomputable def kz(N:List Gt)(s:Int)(m:List Int)(w:LNN):D ⊕ List Gt:=match N.find? (vm s m) with
 |some n=>.inl (yv n.2.2 w)
 |none=>match N.find? (fun n=>n.1==s) with
  |none=>.inr (N++[(s,m,w)])
  |some n=>if n.2.1=m then .inr N else .inl (FC n.2.2 w)
theorem Fc(a b:List Int):Js (eM a) (eM b)=.ok (.f,.bl (decide (a=b))):=by
 unfold Js;rw[gf,gf,u3];rfl
theorem Fe(a b:List Int):Ks (eM a) (eM b)=.ok (.f,.bl (!decide (a=b))):=by
 unfold Ks;rw[gf,gf,u3];rfl
theorem L8(a b:D):Hj (.tup [a,b]) (.int 0)=.ok (.f,a):=rfl
theorem OU(a b:D):Hj (.tup [a,b]) (.int 1)=.ok (.f,b):=rfl
theorem AR(N:List Gt)(nd:(N.map (·.1)).Nodup)(s:Int)(m:List Int)(w:LNN)(p:Addr)(n:Gt)(hn:n∈N):
  dA [some (.pin p .f,dG N),some (.f,.int s),some (.f,eM m),some (.f,wD w),some (.f,.int n.1)]=if vm s m n then .ok (.rt (.t [.f,.pin p .f],.tup [yv n.2.2 w,dG N])) else .ok (.nx [some (.pin p .f,dG N),some (.f,.int s),some (.f,eM m),some (.f,wD w),some (.f,.int n.1)]):=by
 have hd:=DP (vk nd hn);have he:=Fc n.2.1 m;have f1:=gj n.2.2;unfold vG at hd;unfold dA vm;generalize hG:dG N=GG at hd ⊢;cases h1:(n.1==s) with
 |true=>simp only[pv,seval,op,h1,Vs,Vb,fD]
 |false=>
  cases h2:decide (n.2.1=m) with
  |false=>simp only[pv,seval,op,h1,h2,hd,L8,he,Ve,VO,fD]
  |true=>
   simp only[pv,seval,op,fZ,h1,h2,hd,L8,OU,he,Ve,VO];rfl
theorem oD(N:List Gt)(nd:(N.map (·.1)).Nodup)(s:Int)(m:List Int)(w:LNN)(p:Addr):∀(L:List Gt),(∀n∈L,n∈N)->∀t4:Option R,
  match L.find? (vm s m) with
  |some n=>dW (aG 4) dA (L.map fun n=>D.int n.1) [some (.pin p .f,dG N),some (.f,.int s),some (.f,eM m),some (.f,wD w),t4]=.ok (.rt (.t [.f,.pin p .f],.tup [yv n.2.2 w,dG N]))
  |none=>∃t,(t=t4\/∃k:Int,t=some (.f,.int k))/\dW (aG 4) dA (L.map fun n=>D.int n.1) [some (.pin p .f,dG N),some (.f,.int s),some (.f,eM m),some (.f,wD w),t4]=.ok (.nx [some (.pin p .f,dG N),some (.f,.int s),some (.f,eM m),some (.f,wD w),t])
 |[],_,t4=>⟨t4,.inl rfl,rfl⟩
 |n::L,h,t4=>by
  have hi:=AR N nd s m w p n (h n SN);have ha:aG 4 (.int n.1) [some (.pin p .f,dG N),some (.f,.int s),some (.f,eM m),some (.f,wD w),t4]=.ok [some (.pin p .f,dG N),some (.f,.int s),some (.f,eM m),some (.f,wD w),some (.f,.int n.1)]:=rfl;cases hc:vm s m n with
  |true=>
   rw[List.find?_cons_of_pos hc];rw[hc,S1 rfl]at hi;show dW _ _ (D.int n.1::L.map _) _=_;rw[cR,ha,Ht,hi,Ht]
  |false=>
   rw[List.find?_cons_of_neg (by rw[hc];exact SX)];rw[hc,S4 SX]at hi;have ih:=oD N nd s m w p L (fun n hn=>h n (SU _ hn)) (some (.f,.int n.1));cases hf:L.find? (vm s m) with
   |some n'=>
    rw[hf]at ih;dsimp only at ih ⊢;show dW _ _ (D.int n.1::L.map _) _=_;rw[cR,ha,Ht,hi,Ht];exact ih
   |none=>
    rw[hf]at ih;dsimp only at ih ⊢;obtain⟨t,ht,e⟩:=ih;refine⟨t,.inr (ht.elim (fun z=>⟨n.1,z⟩) id),?_⟩;show dW _ _ (D.int n.1::L.map _) _=_;rw[cR,ha,Ht,hi,Ht];exact e
def AS(N:List Gt):D ⊕ List Gt->D×D
 | .inl d=>(d,dG N)
 | .inr N'=>(.non,dG N')
theorem Dr(N:List Gt)(nd:(N.map (·.1)).Nodup)(hN:N.length<=100)(s:Int)(m:List Int)(w:LNN)(p:Addr):j8 p [dG N,.int s,eM m,wD w]=.ok (.t [.f,.pin p .d],.tup [(AS N (kz N s m w)).1,(AS N (kz N s m w)).2]):=by
 have fm:=lr m;have fw:=gj w;have Na:=oD N nd s m w p N (fun _ h=>h) none;unfold j8 yi;rw[xm (h:=by rfl)];have e0:(dG N)=.dct false (N.map fun n=>D.int n.1) (N.map vG):=rfl;unfold kz;cases hf:N.find? (vm s m) with
 |some n=>
  rw[hf]at Na;dsimp only at Na ⊢;have e:il [some (.pin p .d,dG N),some (.f,.int s),some (.f,eM m),some (.f,wD w),none]=.ok (.rt (.t [.f,.pin p .d],.tup [yv n.2.2 w,dG N])):=by
   unfold il;show(dW (aG 4) dA (N.map fun n=>D.int n.1) [some (.pin p .f,dG N),some (.f,.int s),some (.f,eM m),some (.f,wD w),none]).bind (rF 0 p (dG N))=_;rw[Na];show(if decide (p=p)&&aM .f (yv n.2.2 w) then Res.ok (Out.rt (.t [.f,.pin p .d],.tup [yv n.2.2 w,dG N])) else .bad)=_;have fr:aM .f (yv n.2.2 w)=true:=by
    unfold yv;rw[aM,bX];simp only[flatDs,gj,flatD,Ul]
   rw[fr,Tv rfl];rfl
  simp only[List.map,List.replicate,UG,U7];rw[HV,e,Ht];rfl
 |none=>
  rw[hf]at Na;dsimp only at Na ⊢;obtain⟨t,ht,Na⟩:=Na;have e:il [some (.pin p .d,dG N),some (.f,.int s),some (.f,eM m),some (.f,wD w),none]=.ok (.nx [some (.pin p .d,dG N),some (.f,.int s),some (.f,eM m),some (.f,wD w),t]):=by
   unfold il;show(dW (aG 4) dA (N.map fun n=>D.int n.1) [some (.pin p .f,dG N),some (.f,.int s),some (.f,eM m),some (.f,wD w),none]).bind (rF 0 p (dG N))=_;rw[Na];show(if w6 0 p [some (.pin p .f,dG N),some (.f,.int s),some (.f,eM m),some (.f,wD w),t]&&cleanE 0 [some (.pin p .f,dG N),some (.f,.int s),some (.f,eM m),some (.f,wD w),t] then Res.ok (Out.nx [some (.pin p .d,dG N),some (.f,.int s),some (.f,eM m),some (.f,wD w),t]) else .bad)=_;have f1:w6 0 p [some (.pin p .f,dG N),some (.f,.int s),some (.f,eM m),some (.f,wD w),t]=true:=by
    show decide (p=p)=true;exact Tv rfl
   have f2:cleanE 0 [some (.pin p .f,dG N),some (.f,.int s),some (.f,eM m),some (.f,wD w),t]=true:=by
    rcases ht with e|⟨k,e⟩ <;> subst e <;> simp only[cleanE,List.set_cons_zero,U9,List.all_nil,aM,fm,fw,flatD,Ul]
   rw[f1,f2];rfl
  simp only[List.map,List.replicate,UG,U7];rw[ay e];have hn:=E9 N s;unfold nY;cases hs:N.find? fun n=>n.1==s with
  |none=>
   rw[hs]at hn;have hp:=Fb hs m w;have hz:(N.map fun n=>D.int n.1).length<sizeLine:=km (by rw[bV];lia);have e2:sPutP 0 (aH 1) (fK (aA (aH 2) (aA (aH 3) bj))) [some (.pin p .d,dG N),some (.f,.int s),some (.f,eM m),some (.f,wD w),t]=.ok (.nx [some (.pin p .d,dG (N++[(s,m,w)])),some (.f,.int s),some (.f,eM m),some (.f,wD w),t]):=by
    rw[AQ];unfold dG;simp only[pv,seval,op,hp,hz,Vi];rfl
   rw[ay (env':=[some (.pin p .d,dG (N++[(s,m,w)])),some (.f,.int s),some (.f,eM m),some (.f,wD w),t]) (by
    generalize dG (N++[(s,m,w)])=G2 at e2 ⊢;generalize dG N=G1 at e2 hn ⊢;generalize (sPutP 0 (aH 1) (fK (aA (aH 2) (aA (aH 3) bj))))=TT at e2 ⊢;simp only[pv,seval,op,hn,Option.isNone_none,e2])]
   show _=Res.ok (O.t [.f,.pin p .d],D.tup [.non,dG (N++[(s,m,w)])]);generalize dG (N++[(s,m,w)])=G2;simp only[pv,seval,op,fZ]
  |some n=>
   rw[hs]at hn;have hd:=DP hs;unfold vG at hd;have LG:=Fe n.2.1 m;by_cases hm:n.2.1=m
   ·rw[Tv hm]at LG;dsimp only;rw[S1 hm];show _=Res.ok (O.t [.f,.pin p .d],D.tup [.non,dG N]);generalize dG N=G1 at hd hn ⊢;rw[ay (env':=[some (.pin p .d,G1),some (.f,.int s),some (.f,eM m),some (.f,wD w),t]) (by simp only[pv,seval,op,hn,Xl,hd,L8,LG,Vs,fD])];simp only[pv,seval,op,fZ]
   ·rw[Tj hm]at LG;dsimp only;rw[S4 hm];show _=Res.ok (O.t [.f,.pin p .d],D.tup [FC n.2.2 w,dG N]);generalize dG N=G1 at hd hn ⊢;rw[HV];simp only[pv,seval,op,fZ,hn,Xl,hd,L8,OU,LG,Ve,fD];rfl
def jx(ap:List Ho)(s:Int)(m:List Nat):List Int:=(ap.filter fun a=>a.1==s&&a.2.1==m).map fun a=>a.2.2
theorem vn(names:LNN)(ap:List Ho)(s:Int)(m:List Nat)(hl:ap.length<=16777216):eC [HB names ap,.int s,.str m]=.ok (.l .f,.lst ((jx ap s m).map D.int)):=by
 unfold eC nX;rw[bE (h:=by rfl)];simp only[pv,seval,op,HB];rw[mw (p:=fun a:Ho=>a.1==s&&a.2.1==m) (r:=fun a:Ho=>D.int a.2.2) (fun env=>∃t1 t2 t3,env=[t1,t2,t3,some (.f,.int s),some (.f,.str m)]) ap ?_ _ ⟨_,_,_,rfl⟩]
 ·rw[Ht,S1 (my hl),Ht];unfold jx;rw[Td];rfl
 ·rintro a _ env ⟨t1,t2,t3,rfl⟩;refine⟨_,ko a t1 t2 t3 _,?_⟩;simp only[pv,seval,op];cases h1:a.1==s with
  |true=>
   cases h2:a.2.1==m with
   |true=>exact⟨_,rfl,_,_,rfl,_,_,_,rfl⟩
   |false=>exact⟨_,rfl,_,_,_,rfl⟩
  |false=>exact⟨_,rfl,_,_,_,rfl⟩
def Ds(w:LNN)(mv:List Nat):D:=.tup [.str [115,116,117,99,107],wD w,.str mv]
def Dt(w:LNN)(mv:List Nat):D:=.tup [.str [102,114,101,101],wD w,.str mv]
abbrev So:=Option D×List Gt
def cI(N:List Gt)(s:Int)(m:List Int)(w:LNN):So:=match kz N s m w with
 | .inl d=>(some d,N)
 | .inr N'=>(none,N')
def bY(m:List Int)(w:LNN):List Int->List Gt->So
 |[],N=>(none,N)
 |s::ss,N=>match cI N s m w with
  |(some d,N')=>(some d,N')
  |(none,N')=>bY m w ss N'
noncomputable def dE(names:LNN)(ps:List Pl)(ap:List Ho)(n:Gt)(mv:List Nat)(N:List Gt):So:=match cv (names.idxOf mv) (n.2.1.zip ps),jx ap n.1 mv with
 |none,[]=>(none,N)
 |none,_::_=>(some (Ds n.2.2 mv),N)
 |some _,[]=>(some (Dt n.2.2 mv),N)
 |some t,s::ss=>bY t (n.2.2++[mv]) (s::ss) N
def aT(names:LNN)(ps:List Pl)(ap:List Ho)(n:Gt):LNN->List Gt->So
 |[],N=>(none,N)
 |mv::r,N=>match dE names ps ap n mv N with
  |(some d,N')=>(some d,N')
  |(none,N')=>aT names ps ap n r N'
structure Iv(N:List Gt):Prop where
 nd:(N.map (·.1)).Nodup
 bd:∀n∈N,0<=n.1/\n.1<12
 wl:∀(k:Nat) (n:Gt),N[k]?=some n->n.2.2.length<=k
theorem Iv.le{N:List Gt}(i:Iv N):N.length<=12:=by
 have:=mx 12 i.nd (fun x hx=>by
  obtain⟨n,hn,e⟩:=rY hx;rw[<-e];exact i.bd n hn)
 rwa [bV]at this
structure Gr(N N':List Gt)(o:Option D):Prop where
 iv:Iv N'
 ex:∃more,N'=N++more
 fl:flatD (o.getD .non)=true
theorem Gr.refl{N:List Gt}(i:Iv N):Gr N N none:=⟨i,⟨[],(Ta N).symm⟩,rfl⟩
theorem Gr.trans{N N' N2:List Gt}{o o':Option D}(a:Gr N N' o)(b:Gr N' N2 o'):Gr N N2 o':=by
 obtain⟨m1,e1⟩:=a.ex;obtain⟨m2,e2⟩:=b.ex;exact⟨b.iv,⟨m1++m2,by rw[e2,e1,Tx]⟩,b.fl⟩
theorem Gr.le{N N':List Gt}{o:Option D}(a:Gr N N' o):N.length<=N'.length:=by
 obtain⟨m,e⟩:=a.ex;rw[e,jD];lia
theorem xy(l:List Nat)(a b:D)(ha:flatD a=true)(hb:flatD b=true):flatD (.tup [.str l,a,b])=true:=by
 rw[bX];simp only[flatDs,ha,hb,flatD,Ul]
theorem mE{N:List Gt}(i:Iv N){s:Int}(hs:0<=s/\s<12)(m:List Int){w:LNN}(hw:w.length<=N.length):Gr N (cI N s m w).2 (cI N s m w).1:=by
 unfold cI kz;split
 ·rename_i d hd;refine⟨i,⟨[],(Ta N).symm⟩,?_⟩;split at hd
  ·cases hd;exact xy _ _ _ (gj _) (gj _)
  ·split at hd
   ·cases hd
   ·split at hd
    ·cases hd
    ·cases hd;exact xy _ _ _ (gj _) (gj _)
 ·rename_i N' hd;split at hd
  ·cases hd
  ·split at hd
   ·rename_i hf;cases hd;rw[List.find?_eq_none]at hf;refine⟨⟨?_,fun n hn=>?_,fun k n hk=>?_⟩,⟨_,rfl⟩,rfl⟩
    ·rw[Tb];refine Th.mpr ⟨i.nd,Tt.mpr ⟨Uh,Uu⟩,fun x hx y hy e=>?_⟩;obtain⟨n,hn,en⟩:=rY hx;have hy:y=s:=ou hy;exact hf n hn (by rw[Tu,en,e,hy])
    ·rcases vJ hn with hn|hn
     ·exact i.bd n hn
     ·rw[ou hn];exact hs
    ·rcases rN hk with h|⟨e1,e2⟩
     ·exact i.wl k n h
     ·rw[e2,e1];exact hw
   ·split at hd
    ·cases hd;exact Gr.refl i
    ·cases hd
theorem mF(m:List Int)(w:LNN):∀(ss:List Int) {N:List Gt},Iv N->(∀s∈ss,0<=s/\s<12)->w.length<=N.length->Gr N (bY m w ss N).2 (bY m w ss N).1
 |[],N,i,_,_=>Gr.refl i
 |s::ss,N,i,hs,hw=>by
  have g:=mE i (hs s SN) m hw;unfold bY;split
  ·rename_i d N' e;rw[e]at g;exact g
  ·rename_i N' e;rw[e]at g;exact g.trans (mF m w ss g.iv (fun x hx=>hs x (SU _ hx)) (Tp hw g.le))
theorem pF{names:LNN}{ps:List Pl}{ap:List Ho}(hb:∀a∈ap,0<=a.2.2/\a.2.2<12){n:Gt}(mv:List Nat){N:List Gt}(i:Iv N)(hw:n.2.2.length+1<=N.length):Gr N (dE names ps ap n mv N).2 (dE names ps ap n mv N).1:=by
 unfold dE;have hg:∀s∈jx ap n.1 mv,0<=s/\s<12:=fun s hs=>by
  unfold jx at hs;obtain⟨a,ha,e⟩:=rY hs;rw[<-e];exact hb a (UN.mp ha).1
 split
 ·exact Gr.refl i
 ·exact⟨i,⟨[],(Ta N).symm⟩,xy _ _ _ (gj _) rfl⟩
 ·exact⟨i,⟨[],(Ta N).symm⟩,xy _ _ _ (gj _) rfl⟩
 ·rename_i t s ss _ e;rw[e]at hg;exact mF t _ (s::ss) i hg (by rw[jD];exact hw)
theorem iG{names:LNN}{ps:List Pl}{ap:List Ho}(hb:∀a∈ap,0<=a.2.2/\a.2.2<12){n:Gt}:∀(l:LNN) {N:List Gt},Iv N->n.2.2.length+1<=N.length->Gr N (aT names ps ap n l N).2 (aT names ps ap n l N).1
 |[],N,i,_=>Gr.refl i
 |mv::l,N,i,hw=>by
  have g:=pF (names:=names) (ps:=ps) hb mv i hw;unfold aT;split
  ·rename_i d N' e;rw[e]at g;exact g
  ·rename_i N' e;rw[e]at g;exact g.trans (iG hb l g.iv (Tp hw g.le))
theorem AU(N:List Gt)(s:Int)(m:List Int)(w:LNN):AS N (kz N s m w)=((cI N s m w).1.getD .non,dG (cI N s m w).2):=by
 unfold cI;cases kz N s m w <;> rfl
theorem vo(N:List Gt)(i:Iv N)(s:Int)(m:List Int)(w:LNN):iT j8 .d (dG N) [.int s,eM m,wD w]=.ok ((.f,(cI N s m w).1.getD .non),dG (cI N s m w).2):=qg (r:=(.f,(cI N s m w).1.getD .non)) fun p=>by
 have:=i.le;have h:=Dr N i.nd (by lia) s m w p;rw[AU]at h;exact h
theorem qI(N:List Gt):aM .d (dG N)=true:=by
 unfold dG;rw[aM];exact xx N
theorem yw(ds:List D):isnO (.tup ds) (.non)=.ok (.f,.bl true):=id rfl
theorem lu(N:List Gt)(s:Int)(m:List Int)(w:LNN):(cI N s m w).1=none\/∃ds,(cI N s m w).1=some (.tup ds):=by
 unfold cI kz;split
 ·rename_i d hd;right;split at hd
  ·cases hd;exact⟨_,rfl⟩
  ·split at hd
   ·cases hd
   ·split at hd
    ·cases hd
    ·cases hd;exact⟨_,rfl⟩
 ·exact .inl rfl
theorem Du(CH NE:D)(p:Addr)(N:List Gt)(i:Iv N)(st:Int)(m0:List Int)(w:LNN)(hw:w.length+1<=N.length)(mv:List Nat)(t:List Int)(s:Int)(hs:0<=s/\s<12)(t8 Iy:Option R):
  match(cI N s t (w++[mv])).1 with
  |some d=>b7 [some (.f,CH),some (.f,NE),some (.pin p .d,dG N),some (.f,.int st),some (.f,eM m0),some (.f,wD w),some (.f,.str mv),some (.f,eM t),t8,some (.f,.int s),Iy]=.ok (.rt (.t [.f,.pin p .d],.tup [d,dG (cI N s t (w++[mv])).2]))
  |none=>b7 [some (.f,CH),some (.f,NE),some (.pin p .d,dG N),some (.f,.int st),some (.f,eM m0),some (.f,wD w),some (.f,.str mv),some (.f,eM t),t8,some (.f,.int s),Iy]=.ok (.nx [some (.f,CH),some (.f,NE),some (.pin p .d,dG (cI N s t (w++[mv])).2),some (.f,.int st),some (.f,eM m0),some (.f,wD w),some (.f,.str mv),some (.f,eM t),t8,some (.f,.int s),some (.f,.non)]):=by
 have hle:=i.le;have ha:=E2 w mv (by lia);have hc:=vo N i s t (w++[mv]);have gr:=mE i hs t (w:=w++[mv]) (by rw[jD];exact hw);have cl:=qI (cI N s t (w++[mv])).2;have fl:=gr.fl;have sh:=lu N s t (w++[mv]);revert hc cl fl sh;generalize (cI N s t (w++[mv])).1=o;generalize dG (cI N s t (w++[mv])).2=G2;generalize dG N=G1;intro hc cl fl sh;unfold wD at hc ⊢;have cf:aM .f (o.getD .non)=true:=by rw[aM];exact fl
 unfold b7;rw[ay (env':=[some (.f,CH),some (.f,NE),some (.pin p .d,G2),some (.f,.int st),some (.f,eM m0),some (.f,.tup (w.map D.str)),some (.f,.str mv),some (.f,eM t),t8,some (.f,.int s),some (.f,o.getD .non)]) (by
  simp only[pv,seval,op,Au,ha,hc,cl,cf,Ul];rfl)]
 rcases sh with e|⟨ds,e⟩
 ·subst e;simp only[pv,seval,op,lq,UD,fD]
 ·subst e;simp only[pv,seval,op,fZ,yw,VB]
theorem vp(CH NE:D)(p:Addr)(st:Int)(m0:List Int)(w:LNN)(mv:List Nat)(t:List Int)(t8:Option R):∀(ss:List Int) (N:List Gt),Iv N->w.length+1<=N.length->(∀s∈ss,0<=s/\s<12)->∀t9 Iy:Option R,
  match(bY t (w++[mv]) ss N).1 with
  |some d=>dW (aG 9) b7 (ss.map D.int) [some (.f,CH),some (.f,NE),some (.pin p .d,dG N),some (.f,.int st),some (.f,eM m0),some (.f,wD w),some (.f,.str mv),some (.f,eM t),t8,t9,Iy]=.ok (.rt (.t [.f,.pin p .d],.tup [d,dG (bY t (w++[mv]) ss N).2]))
  |none=>∃u9 La,dW (aG 9) b7 (ss.map D.int) [some (.f,CH),some (.f,NE),some (.pin p .d,dG N),some (.f,.int st),some (.f,eM m0),some (.f,wD w),some (.f,.str mv),some (.f,eM t),t8,t9,Iy]=.ok (.nx [some (.f,CH),some (.f,NE),some (.pin p .d,dG (bY t (w++[mv]) ss N).2),some (.f,.int st),some (.f,eM m0),some (.f,wD w),some (.f,.str mv),some (.f,eM t),t8,u9,La])
 |[],N,_,_,_,t9,Iy=>⟨t9,Iy,rfl⟩
 |s::ss,N,i,hw,hs,t9,Iy=>by
  have h1:=Du CH NE p N i st m0 w hw mv t s (hs s SN) t8 Iy;have gr:=mE i (hs s SN) t (w:=w++[mv]) (by rw[jD];exact hw);have ha:aG 9 (.int s) [some (.f,CH),some (.f,NE),some (.pin p .d,dG N),some (.f,.int st),some (.f,eM m0),some (.f,wD w),some (.f,.str mv),some (.f,eM t),t8,t9,Iy]=.ok [some (.f,CH),some (.f,NE),some (.pin p .d,dG N),some (.f,.int st),some (.f,eM m0),some (.f,wD w),some (.f,.str mv),some (.f,eM t),t8,some (.f,.int s),Iy]:=rfl;unfold bY;cases hg:cI N s t (w++[mv]) with
  |mk o N'=>
   rw[hg]at h1 gr;cases o with
   |some d=>
    dsimp only at h1 ⊢;rw[e9,cR,ha,Ht,h1,Ht]
   |none=>
    dsimp only at h1 ⊢;have ih:=vp CH NE p st m0 w mv t t8 ss N' gr.iv (Tp hw gr.le) (fun x hx=>hs x (SU _ hx)) (some (.f,.int s)) (some (.f,.non));cases hgs:(bY t (w++[mv]) ss N').1 with
    |some d=>
     rw[hgs]at ih;dsimp only at ih ⊢;rw[e9,cR,ha,Ht,h1,Ht];exact ih
    |none=>
     rw[hgs]at ih;dsimp only at ih ⊢;obtain⟨u9,La,ih⟩:=ih;refine⟨u9,La,?_⟩;rw[e9,cR,ha,Ht,h1,Ht];exact ih
theorem Dv(t:List Int):NU (eM t) .non=.ok (.f,.bl false):=id rfl
theorem yx(t:List Int):isnO (eM t) .non=.ok (.f,.bl true):=id rfl
theorem yy:NU .non .non=.ok (.f,.bl true):=id rfl
theorem Dw(names:LNN)(ps:List Pl)(hl:ps.length<=100)(hp:∀q∈ps,JN q names.length)(ap:List Ho)(Kf:ap.length<=60)(hb:∀a∈ap,0<=a.2.2/\a.2.2<12)(p:Addr)(N:List Gt)(i:Iv N)(n:Gt)(hw:n.2.2.length+1<=N.length)(mv:List Nat)(hm:mv∈names)(t7 t8 t9 Iy:Option R):
  match(dE names ps ap n mv N).1 with
  |some d=>b8 [some (.f,HB names ap),some (.f,eN names ps),some (.pin p .d,dG N),some (.f,.int n.1),some (.f,eM n.2.1),some (.f,wD n.2.2),some (.f,.str mv),t7,t8,t9,Iy]=.ok (.rt (.t [.f,.pin p .d],.tup [d,dG (dE names ps ap n mv N).2]))
  |none=>∃u7 u8 u9 La,b8 [some (.f,HB names ap),some (.f,eN names ps),some (.pin p .d,dG N),some (.f,.int n.1),some (.f,eM n.2.1),some (.f,wD n.2.2),some (.f,.str mv),t7,t8,t9,Iy]=.ok (.nx [some (.f,HB names ap),some (.f,eN names ps),some (.pin p .d,dG (dE names ps ap n mv N).2),some (.f,.int n.1),some (.f,eM n.2.1),some (.f,wD n.2.2),some (.f,.str mv),u7,u8,u9,La]):=by
 have M8:=AJ names ps hl hp n.2.1 mv hm;have Lb:=vn names ap n.1 mv (by lia);have SE:=AI (cv (names.idxOf mv) (n.2.1.zip ps));have hfg:=Ha (jx ap n.1 mv);have hg:∀s∈jx ap n.1 mv,0<=s/\s<12:=fun s hs=>by
  unfold jx at hs;obtain⟨a,ha,e⟩:=rY hs;rw[<-e];exact hb a (UN.mp ha).1
 unfold dE;unfold b8;rw[ay (env':=[some (.f,HB names ap),some (.f,eN names ps),some (.pin p .d,dG N),some (.f,.int n.1),some (.f,eM n.2.1),some (.f,wD n.2.2),some (.f,.str mv),some (.f,eO (cv (names.idxOf mv) (n.2.1.zip ps))),t8,t9,Iy]) (by
  generalize eN names ps=NE at M8 ⊢;generalize HB names ap=CE at Lb ⊢;simp only[pv,seval,op,M8,SE])]
 rw[ay (env':=[some (.f,HB names ap),some (.f,eN names ps),some (.pin p .d,dG N),some (.f,.int n.1),some (.f,eM n.2.1),some (.f,wD n.2.2),some (.f,.str mv),some (.f,eO (cv (names.idxOf mv) (n.2.1.zip ps))),some (.l .f,.lst ((jx ap n.1 mv).map D.int)),t9,Iy]) (by
  generalize eN names ps=NE at M8 ⊢;generalize HB names ap=CE at Lb ⊢;simp only[pv,seval,op,Lb,hfg])]
 clear M8 Lb SE;have lp:=fun t=>vp (HB names ap) (eN names ps) p n.1 n.2.1 n.2.2 mv t (some (.f,.lst ((jx ap n.1 mv).map D.int))) (jx ap n.1 mv) N i hw hg t9 Iy
 generalize eN names ps=NE at lp ⊢;generalize HB names ap=CE at lp ⊢;cases cv (names.idxOf mv) (n.2.1.zip ps) with
 |none=>
  cases hgs:jx ap n.1 mv with
  |nil=>
   dsimp only;refine⟨some (.f,.non),some (.f,.lst []),t9,Iy,?_⟩;have c0:((0:Int)<((0:Nat):Int))=False:=by simp
   unfold eO;generalize dG N=G1;rw[ay (env':=[some (.f,CE),some (.f,NE),some (.pin p .d,G1),some (.f,.int n.1),some (.f,eM n.2.1),some (.f,wD n.2.2),some (.f,.str mv),some (.f,.non),some (.l .f,.lst []),t9,Iy]) (by simp only[pv,seval,op,yy,TC,TL,V1,UW,fD] <;> rfl)];rw[ay (env':=[some (.f,CE),some (.f,NE),some (.pin p .d,G1),some (.f,.int n.1),some (.f,eM n.2.1),some (.f,wD n.2.2),some (.f,.str mv),some (.f,.non),some (.l .f,.lst []),t9,Iy]) (by simp only[pv,seval,op,lq,TC,fD])];unfold eS;simp only[pv,seval,op]
  |cons s ss=>
   dsimp only;unfold eO;generalize dG N=G1;have c0:decide ((0:Int)<((ss.length+1:Nat):Int))=true:=Tv (by lia);rw[HV];simp only[pv,seval,op,yy,fZ,bV,c0];rfl
 |some t=>
  have OC:=lp t;clear lp;cases hgs:jx ap n.1 mv with
  |nil=>
   dsimp only;show _=Res.ok (Out.rt (O.t [.f,.pin p .d],D.tup [Dt n.2.2 mv,dG N]));show(sSeq _ _) [some (.f,CE),some (.f,NE),some (.pin p .d,dG N),some (.f,.int n.1),some (.f,eM n.2.1),some (.f,wD n.2.2),some (.f,.str mv),some (.f,eM t),some (.l .f,.lst []),t9,Iy]=_;generalize dG N=G1;rw[ay (env':=[some (.f,CE),some (.f,NE),some (.pin p .d,G1),some (.f,.int n.1),some (.f,eM n.2.1),some (.f,wD n.2.2),some (.f,.str mv),some (.f,eM t),some (.l .f,.lst []),t9,Iy]) (by simp only[pv,seval,op,Dv,fD])];rw[HV];simp only[pv,seval,op,yx,fZ,TL];rfl
  |cons s ss=>
   rw[hgs]at OC;dsimp only;show match(bY t (n.2.2++[mv]) (s::ss) N).1 with
    |some d=>(sSeq _ _) [some (.f,CE),some (.f,NE),some (.pin p .d,dG N),some (.f,.int n.1),some (.f,eM n.2.1),some (.f,wD n.2.2),some (.f,.str mv),some (.f,eM t),some (.l .f,.lst ((s::ss).map D.int)),t9,Iy]=.ok (.rt (.t [.f,.pin p .d],.tup [d,dG (bY t (n.2.2++[mv]) (s::ss) N).2]))
    |none=>∃u7 u8 u9 La,(sSeq _ _) [some (.f,CE),some (.f,NE),some (.pin p .d,dG N),some (.f,.int n.1),some (.f,eM n.2.1),some (.f,wD n.2.2),some (.f,.str mv),some (.f,eM t),some (.l .f,.lst ((s::ss).map D.int)),t9,Iy]=.ok (.nx [some (.f,CE),some (.f,NE),some (.pin p .d,dG (bY t (n.2.2++[mv]) (s::ss) N).2),some (.f,.int n.1),some (.f,eM n.2.1),some (.f,wD n.2.2),some (.f,.str mv),u7,u8,u9,La])
   have c0:(((ss.length+1:Nat):Int)==0)=false:=by
    rw[T4];lia
   rw[ay (env':=[some (.f,CE),some (.f,NE),some (.pin p .d,dG N),some (.f,.int n.1),some (.f,eM n.2.1),some (.f,wD n.2.2),some (.f,.str mv),some (.f,eM t),some (.l .f,.lst ((s::ss).map D.int)),t9,Iy]) (by
    generalize dG N=G1;simp only[pv,seval,op,Dv,fD])]
   rw[ay (env':=[some (.f,CE),some (.f,NE),some (.pin p .d,dG N),some (.f,.int n.1),some (.f,eM n.2.1),some (.f,wD n.2.2),some (.f,.str mv),some (.f,eM t),some (.l .f,.lst ((s::ss).map D.int)),t9,Iy]) (by
    generalize dG N=G1;simp only[pv,seval,op,yx,bV,c0,fD])]
   have go:∀env':Res Out,dW (aG 9) b7 ((s::ss).map D.int) [some (.f,CE),some (.f,NE),some (.pin p .d,dG N),some (.f,.int n.1),some (.f,eM n.2.1),some (.f,wD n.2.2),some (.f,.str mv),some (.f,eM t),some (.f,.lst ((s::ss).map D.int)),t9,Iy]=env'->eS [some (.f,CE),some (.f,NE),some (.pin p .d,dG N),some (.f,.int n.1),some (.f,eM n.2.1),some (.f,wD n.2.2),some (.f,.str mv),some (.f,eM t),some (.l .f,.lst ((s::ss).map D.int)),t9,Iy]=env':=fun env' h=>by
    unfold eS;generalize dG N=G1 at h ⊢;generalize ((s::ss).map D.int)=LL at h ⊢;simp only[pv,seval,op];exact h
   cases Lb:(bY t (n.2.2++[mv]) (s::ss) N).1 with
   |some d=>
    rw[Lb]at OC;exact go _ OC
   |none=>
    rw[Lb]at OC;obtain⟨u9,La,OC⟩:=OC;exact⟨_,_,u9,La,go _ OC⟩
structure Nc(names:LNN)(ps:List Pl)(ap:List Ho):Prop where
 pl:ps.length<=100
 po:∀q∈ps,JN q names.length
 al:ap.length<=60
 ab:∀a∈ap,0<=a.2.2/\a.2.2<12
theorem vq{names:LNN}{ps:List Pl}{ap:List Ho}(c:Nc names ps ap)(p:Addr)(n:Gt):∀(l:LNN),(∀mv∈l,mv∈names)->∀(N:List Gt),Iv N->n.2.2.length+1<=N.length->∀t6 t7 t8 t9 Iy:Option R,
  match(aT names ps ap n l N).1 with
  |some d=>dW (aG 6) b8 (l.map D.str) [some (.f,HB names ap),some (.f,eN names ps),some (.pin p .d,dG N),some (.f,.int n.1),some (.f,eM n.2.1),some (.f,wD n.2.2),t6,t7,t8,t9,Iy]=.ok (.rt (.t [.f,.pin p .d],.tup [d,dG (aT names ps ap n l N).2]))
  |none=>∃u6 u7 u8 u9 La,dW (aG 6) b8 (l.map D.str) [some (.f,HB names ap),some (.f,eN names ps),some (.pin p .d,dG N),some (.f,.int n.1),some (.f,eM n.2.1),some (.f,wD n.2.2),t6,t7,t8,t9,Iy]=.ok (.nx [some (.f,HB names ap),some (.f,eN names ps),some (.pin p .d,dG (aT names ps ap n l N).2),some (.f,.int n.1),some (.f,eM n.2.1),some (.f,wD n.2.2),u6,u7,u8,u9,La])
 |[],_,N,_,_,t6,t7,t8,t9,Iy=>⟨t6,t7,t8,t9,Iy,rfl⟩
 |mv::l,hm,N,i,hw,t6,t7,t8,t9,Iy=>by
  have h1:=Dw names ps c.pl c.po ap c.al c.ab p N i n hw mv (hm mv SN) t7 t8 t9 Iy;have gr:=pF (names:=names) (ps:=ps) c.ab mv i hw;have ha:aG 6 (.str mv) [some (.f,HB names ap),some (.f,eN names ps),some (.pin p .d,dG N),some (.f,.int n.1),some (.f,eM n.2.1),some (.f,wD n.2.2),t6,t7,t8,t9,Iy]=.ok [some (.f,HB names ap),some (.f,eN names ps),some (.pin p .d,dG N),some (.f,.int n.1),some (.f,eM n.2.1),some (.f,wD n.2.2),some (.f,.str mv),t7,t8,t9,Iy]:=rfl;unfold aT;cases hg:dE names ps ap n mv N with
  |mk o N'=>
   rw[hg]at h1 gr;cases o with
   |some d=>
    dsimp only at h1 ⊢;rw[e9,cR,ha,Ht,h1,Ht]
   |none=>
    dsimp only at h1 ⊢;obtain⟨u7,u8,u9,La,h1⟩:=h1;have ih:=vq c p n l (fun x hx=>hm x (SU _ hx)) N' gr.iv (Tp hw gr.le) (some (.f,.str mv)) u7 u8 u9 La;cases hgs:(aT names ps ap n l N').1 with
    |some d=>
     rw[hgs]at ih;dsimp only at ih ⊢;rw[e9,cR,ha,Ht,h1,Ht];exact ih
    |none=>
     rw[hgs]at ih;dsimp only at ih ⊢;obtain⟨v6,v7,v8,v9,v10,ih⟩:=ih;refine⟨v6,v7,v8,v9,v10,?_⟩;rw[e9,cR,ha,Ht,h1,Ht];exact ih
theorem rO(nn:Nat)(c:O)(g:FS)(p:Addr)(d0 d1 d2 d3:D):fBodyJ 2 4 nn c g p [d0,d1,d2,d3]=Res.bnd (g ([some (.f,d1),some (.f,d2),some (.pin p c,d0),some (.f,d3)]++List.replicate nn none)) (f:=⟨fun o=>match o with | .rt r=>.ok r|_=>.bad⟩):=by
 unfold fBodyJ;dsimp only;rw[S1 ⟨rfl,(by decide:2<=3)⟩];rfl
theorem vy{names:LNN}{ps:List Pl}{ap:List Ho}(c:Nc names ps ap)(p:Addr)(N:List Gt)(i:Iv N)(n:Gt)(hn:n∈N)(hw:n.2.2.length+1<=N.length):
  dg p [dG N,HB names ap,eN names ps,.int n.1]=.ok (.t [.f,.pin p .d],.tup [(aT names ps ap n names N).1.getD .non,dG (aT names ps ap n names N).2]):=by
 have hd:=DP (vk i.nd hn);unfold vG at hd;have fm:=lr n.2.1;have fw:=gj n.2.2;have lp:=vq c p n names (fun _ h=>h) N i hw none none none none none;unfold dg nZ;rw[rO];simp only[List.replicate,UG,U7];rw[ay (env':=[some (.f,HB names ap),some (.f,eN names ps),some (.pin p .d,dG N),some (.f,.int n.1),some (.f,eM n.2.1),none,none,none,none,none,none]) (by
  generalize dG N=G1 at hd ⊢;simp only[pv,seval,op,hd,L8,fm])]
 rw[ay (env':=[some (.f,HB names ap),some (.f,eN names ps),some (.pin p .d,dG N),some (.f,.int n.1),some (.f,eM n.2.1),some (.f,wD n.2.2),none,none,none,none,none]) (by
  generalize dG N=G1 at hd ⊢;simp only[pv,seval,op,hd,OU,fw])]
 have go:∀r:Res Out,dW (aG 6) b8 (names.map D.str) [some (.f,HB names ap),some (.f,eN names ps),some (.pin p .d,dG N),some (.f,.int n.1),some (.f,eM n.2.1),some (.f,wD n.2.2),none,none,none,none,none]=r->g6 [some (.f,HB names ap),some (.f,eN names ps),some (.pin p .d,dG N),some (.f,.int n.1),some (.f,eM n.2.1),some (.f,wD n.2.2),none,none,none,none,none]=r:=fun r h=>by
  unfold g6;generalize dG N=G1 at h ⊢;unfold HB at h ⊢;generalize eN names ps=NE at h ⊢;simp only[pv,seval,op];exact h
 cases Lb:(aT names ps ap n names N).1 with
 |some d=>
  rw[Lb]at lp;rw[HV,go _ lp,Ht];rfl
 |none=>
  rw[Lb]at lp;obtain⟨u6,u7,u8,u9,La,lp⟩:=lp;rw[ay (go _ lp)];unfold je;generalize dG (aT names ps ap n names N).2=G2;generalize eN names ps=NE;generalize HB names ap=CE;simp only[pv,seval,op,fZ,UD]
theorem Dx{names:LNN}{ps:List Pl}{ap:List Ho}(c:Nc names ps ap)(N:List Gt)(i:Iv N)(n:Gt)(hn:n∈N)(hw:n.2.2.length+1<=N.length):iT dg .d (dG N) [HB names ap,eN names ps,.int n.1]=.ok ((.f,(aT names ps ap n names N).1.getD .non),dG (aT names ps ap n names N).2):=
 qg (r:=(.f,(aT names ps ap n names N).1.getD .non)) fun p=>vy c p N i n hn hw
noncomputable def cS(names:LNN)(ps:List Pl)(ap:List Ho):Nat->Nat->List Gt->So
 | 0,_,N=>(none,N)
 |f+1,k,N=>match N[k]? with
  |none=>(none,N)
  |some n=>match aT names ps ap n names N with
   |(some d,N')=>(some d,N')
   |(none,N')=>cS names ps ap f (k+1) N'
theorem Dy{c:O}{F:Addr->List D->Res R}{i:Nat}{fs:FOs}{env e:PV.Env}{o0 o1 o2:Opd}{ow:O}{d0:D}{ds:List D}{x:R×D}(h:fs env=.ok ([o0,o1,.var i,o2],e))(hi:e[i]?=some (some (ow,d0)))(ho:nQ c ow=true)(hd:gD (e.set i none) [o0,o1,o2]=.ok ds)(hc:iT F c d0 ds=.ok x)(JO:(aM x.1.1 x.1.2&&aM c x.2)=true):
  uD 2 c F i fs env=.ok (x.1,(e.set i none).set i (some (ow,x.2))):=by
 unfold uD;rw[h];show(match([o0,o1,Opd.var i,o2]:List Opd)[2]? with
  |some (.var j')=>if j'=i then(match e[i]? with
   |some (some (ow,d0))=>if nQ c ow then(gD (e.set i none) (([o0,o1,Opd.var i,o2]:List Opd).eraseIdx 2)).bind fun ds=>(iT F c d0 ds).bind fun x=>if aM x.1.1 x.1.2&&aM c x.2 then .ok (x.1,(e.set i none).set i (some (ow,x.2))) else .ok (x.1,((e.set i none).map frz).set i (some (ow,x.2))) else .bad
   |_=>.bad) else .bad
  |_=>.bad)=_
 show(if i=i then(match e[i]? with
   |some (some (ow,d0))=>if nQ c ow then(gD (e.set i none) [o0,o1,o2]).bind fun ds=>(iT F c d0 ds).bind fun x=>if aM x.1.1 x.1.2&&aM c x.2 then .ok (x.1,(e.set i none).set i (some (ow,x.2))) else .ok (x.1,((e.set i none).map frz).set i (some (ow,x.2))) else .bad
   |_=>.bad) else .bad)=_
 rw[S1 rfl,hi];dsimp only;rw[S1 ho,hd];show((iT F c d0 ds).bind fun x=>if aM x.1.1 x.1.2&&aM c x.2 then .ok (x.1,(e.set i none).set i (some (ow,x.2))) else .ok (x.1,((e.set i none).map frz).set i (some (ow,x.2))))=_;rw[hc];show(if aM x.1.1 x.1.2&&aM c x.2 then Res.ok (x.1,(e.set i none).set i (some (ow,x.2))) else .ok (x.1,((e.set i none).map frz).set i (some (ow,x.2))))=_;rw[S1 JO]
theorem rP(names:LNN)(ps:List Pl)(ap:List Ho)(n:Gt)(mv:List Nat)(N:List Gt):∀d,(dE names ps ap n mv N).1=some d->∃ds,d=.tup ds:=by
 have gs:∀(m:List Int) (w:LNN) (ss:List Int) (N:List Gt) d,(bY m w ss N).1=some d->∃ds,d=.tup ds:=by
  intro m w ss;induction ss with
  |nil=>intro N d h;cases h
  |cons s ss ih=>
   intro N d h;unfold bY at h;rcases lu N s m w with e|⟨ds,e⟩
   ·split at h
    ·rename_i d' N' e';rw[e']at e;cases e
    ·exact ih _ d h
   ·split at h
    ·rename_i d' N' e';rw[e']at e;cases e;cases h;exact⟨ds,rfl⟩
    ·rename_i N' e';rw[e']at e;cases e
 intro d h;unfold dE at h;split at h
 ·cases h
 ·cases h;exact⟨_,rfl⟩
 ·cases h;exact⟨_,rfl⟩
 ·exact gs _ _ _ _ d h
theorem kA(names:LNN)(ps:List Pl)(ap:List Ho)(n:Gt):∀(l:LNN) (N:List Gt) d,(aT names ps ap n l N).1=some d->∃ds,d=.tup ds
 |[],N,d,h=>by cases h
 |mv::l,N,d,h=>by
  unfold aT at h;split at h
  ·rename_i d' N' e;cases h;exact rP names ps ap n mv N d (by rw[e])
  ·exact kA names ps ap n l _ d h
theorem AV(N:List Gt):ux [dG N]=.ok (.l .f,.lst (N.map fun n=>D.int n.1)):=rfl
theorem Dz{names:LNN}{ps:List Pl}{ap:List Ho}(c:Nc names ps ap)(N:List Gt)(i:Iv N)(k:Nat)(n:Gt)(hk:N[k]?=some n)(t4:Option R):
  match(aT names ps ap n names N).1 with
  |some d=>eD [some (.f,HB names ap),some (.f,eN names ps),some (.d,dG N),some (.f,.int (k:Int)),t4]=.ok (.rt (.f,d))
  |none=>eD [some (.f,HB names ap),some (.f,eN names ps),some (.d,dG N),some (.f,.int (k:Int)),t4]=.ok (.nx [some (.f,HB names ap),some (.f,eN names ps),some (.d,dG (aT names ps ap n names N).2),some (.f,.int ((k+1:Nat):Int)),some (.f,.non)]):=by
 have hn:n∈N:=Ts hk;have hkl:=(rL hk).1;have OJ:=i.wl k n hk;have hw:n.2.2.length+1<=N.length:=by lia
 have gr:=iG (names:=names) (ps:=ps) c.ab names i hw (n:=n);have hc:=Dx c N i n hn hw;have cl:=qI (aT names ps ap n names N).2;have sh:=kA names ps ap n names N;have cf:aM .f ((aT names ps ap n names N).1.getD .non)=true:=by rw[aM];exact gr.fl
 have K8:IU (N.map fun n=>D.int n.1) (k:Int)=some (.int n.1):=gQ (by rw[List.getElem?_map,hk];rfl);have SF:=AV N;revert hc cl sh cf;generalize (aT names ps ap n names N).1=o;generalize dG (aT names ps ap n names N).2=G2;intro hc cl sh cf;unfold eD;have e1:uD 2 (.d) dg 2 (ag (av 0) (ag (av 1) (ag (av 2) (ag (aq (aD Hj (aq (bo ux (ag (av 2) aE))) (av 3))) aE)))) [some (.f,HB names ap),some (.f,eN names ps),some (.d,dG N),some (.f,.int (k:Int)),t4]=.ok ((.f,o.getD .non),[some (.f,HB names ap),some (.f,eN names ps),some (.d,G2),some (.f,.int (k:Int)),t4]):=by
  generalize dG N=G1 at SF hc ⊢;generalize eN names ps=NE at hc ⊢;generalize HB names ap=CE at hc ⊢;rw[Dy (o0:=.var 0) (o1:=.var 1) (o2:=.val (.int n.1)) (e:=[some (.f,CE),some (.f,NE),some (.d,G1),some (.f,.int (k:Int)),t4]) (ow:=.d) (d0:=G1) (ds:=[CE,NE,.int n.1]) (by simp only[pv,seval,op,SF,K8]) rfl rfl rfl hc (by
   show(aM .f (o.getD .non)&&aM .d G2)=true;rw[cf,cl];rfl)]
  rfl
 rw[ay (env':=[some (.f,HB names ap),some (.f,eN names ps),some (.d,G2),some (.f,.int (k:Int)),some (.f,o.getD .non)]) (by
  generalize dG N=G1 at e1 ⊢;generalize eN names ps=NE at e1 ⊢;generalize HB names ap=CE at e1 ⊢;rw[L4,e1,Ht];rfl)]
 generalize eN names ps=NE;generalize HB names ap=CE;cases o with
 |some d=>
  obtain⟨ds,rfl⟩:=sh d rfl;dsimp only;rw[HV];simp only[pv,seval,op,yw,VB]
 |none=>
  dsimp only;rw[ay (env':=[some (.f,CE),some (.f,NE),some (.d,G2),some (.f,.int (k:Int)),some (.f,.non)]) (by simp only[pv,seval,op,lq,UD,fD])];simp only[pv,seval,op,Int.natCast_add,V1]
theorem DA(N:List Gt):jt [dG N]=.ok (.f,.int (N.length:Int)):=by
 show Res.ok (O.f,D.int (((N.map fun n=>D.int n.1).length:Nat):Int))=_;rw[bV]
section
variable{names:LNN}{ps:List Pl}{ap:List Ho}{f k:Nat}{N N':List Gt}{n:Gt}{d:D}
theorem iH(h:N[k]?=none):cS names ps ap (f+1) k N=(none,N):=by rw[cS,h]
theorem mG(h:N[k]?=some n)(hm:aT names ps ap n names N=(some d,N')):cS names ps ap (f+1) k N=(some d,N'):=by
 rw[cS,h];dsimp only;rw[hm]
theorem kB(h:N[k]?=some n)(hm:aT names ps ap n names N=(none,N')):cS names ps ap (f+1) k N=cS names ps ap f (k+1) N':=by
 rw[cS,h];dsimp only;rw[hm]
end
theorem held_w{names:LNN}{ps:List Pl}{ap:List Ho}(c:Nc names ps ap):∀(f F k:Nat) (N:List Gt),Iv N->k<=N.length->13<=f+k->f<=F->∀t4:Option R,
  match(cS names ps ap f k N).1 with
  |some d=>c9 (HA (aD KJ (av 3) (aq (bo jt (ag (av 2) aE))))) eD F [some (.f,HB names ap),some (.f,eN names ps),some (.d,dG N),some (.f,.int (k:Int)),t4]=.ok (.rt (.f,d))
  |none=>∃u4,c9 (HA (aD KJ (av 3) (aq (bo jt (ag (av 2) aE))))) eD F [some (.f,HB names ap),some (.f,eN names ps),some (.d,dG N),some (.f,.int (k:Int)),t4]=.ok (.nx [some (.f,HB names ap),some (.f,eN names ps),some (.d,dG (cS names ps ap f k N).2),some (.f,.int ((cS names ps ap f k N).2.length:Int)),u4])
 | 0,F,k,N,i,hk,hf,_,t4=>by
  have:=i.le;lia
 |f+1,0,k,N,i,hk,hf,hF,t4=>by lia
 |f+1,F+1,k,N,i,hk,hf,hF,t4=>by
  have hlen:=DA N;by_cases HC:k<N.length
  ·have Lr:N[k]?=some N[k]:=oM HC;have h1:=Dz c N i k N[k] Lr t4;have OJ:=i.wl k _ Lr;have gr:=iG (names:=names) (ps:=ps) c.ab names i (n:=N[k]) (by lia);have hc:(HA (aD KJ (av 3) (aq (bo jt (ag (av 2) aE))))) [some (.f,HB names ap),some (.f,eN names ps),some (.d,dG N),some (.f,.int (k:Int)),t4]=.ok (true,[some (.f,HB names ap),some (.f,eN names ps),some (.d,dG N),some (.f,.int (k:Int)),t4]):=by
    have:(k:Int)<(N.length:Int):=by lia
    generalize dG N=G1 at hlen ⊢;generalize eN names ps=NE;generalize HB names ap=CE;simp only[pv,seval,op,hlen,this,Vi]
   cases hg:aT names ps ap N[k] names N with
   |mk o N'=>
    rw[hg]at h1 gr;cases o with
    |some d=>
     rw[mG Lr hg];dsimp only at h1 ⊢;rw[dO,hc,Ht];dsimp only;rw[S1 rfl,h1,Ht]
    |none=>
     rw[kB Lr hg];dsimp only at h1 gr ⊢;have hl:=gr.le;have ih:=held_w c f F (k+1) N' gr.iv (by lia) (by lia) (by lia) (some (.f,.non));cases hgs:(cS names ps ap f (k+1) N').1 with
     |some d=>
      rw[hgs]at ih;dsimp only at ih ⊢;rw[dO,hc,Ht];dsimp only;rw[S1 rfl,h1,Ht];exact ih
     |none=>
      rw[hgs]at ih;dsimp only at ih ⊢;obtain⟨w4,ih⟩:=ih;refine⟨w4,?_⟩;rw[dO,hc,Ht];dsimp only;rw[S1 rfl,h1,Ht];exact ih
  ·have Lr:N[k]?=none:=List.getElem?_eq_none (by lia);have ek:k=N.length:=by lia
   rw[iH Lr];dsimp only;refine⟨t4,?_⟩;have hc:(HA (aD KJ (av 3) (aq (bo jt (ag (av 2) aE))))) [some (.f,HB names ap),some (.f,eN names ps),some (.d,dG N),some (.f,.int (k:Int)),t4]=.ok (false,[some (.f,HB names ap),some (.f,eN names ps),some (.d,dG N),some (.f,.int (k:Int)),t4]):=by
    have:¬ (k:Int)<(N.length:Int):=by lia
    generalize dG N=G1 at hlen ⊢;generalize eN names ps=NE;generalize HB names ap=CE;simp only[pv,seval,op,hlen,this,UW]
   rw[dO,hc,Ht];dsimp only;rw[S4 SX,ek]
def N0(ps:List Pl):List Gt:=[(0,ps.map (·.1),[])]
theorem SG(ps:List Pl):Iv (N0 ps):=by
 refine⟨?_,fun n hn=>?_,fun k n hk=>?_⟩
 ·show[(0:Int)].Nodup;exact Tt.mpr ⟨Uh,Uu⟩
 ·rw[ou hn];exact⟨X8 0,(by decide:(0:Int)<12)⟩
 ·cases k with
  |zero=>
   cases hk;exact SV _
  |succ k=>simp[N0]at hk
abbrev walk(names:LNN)(ps:List Pl)(ap:List Ho):So:=cS names ps ap 13 0 (N0 ps)
def mk(N:List Gt)(s:Int):List Int:=((N.find? fun z=>z.1==s).map (·.2.1)).getD []
theorem DB{N:List Gt}{s:Int}{n:Gt}(h:(N.find? fun z=>z.1==s)=some n):mk N s=n.2.1:=by
 unfold mk;rw[h];rfl
theorem qJ{N:List Gt}{s:Int}(h:s∈N.map (·.1)):∃n,(N.find? fun z=>z.1==s)=some n:=by
 cases hf:N.find? fun z=>z.1==s with
 |none=>
  rw[List.find?_eq_none]at hf;obtain⟨z,hz,e⟩:=rY h;exact absurd (Tu.mpr e) (hf z hz)
 |some n=>exact⟨n,rfl⟩
def rQ(l:List (List Int)):D:=.tup [.str [115,97,109,101],.lst (l.map eM)]
theorem DD(N:List Gt)(k:Nat)(all:∀s:Nat,s<k->(s:Int)∈N.map (·.1)):cV (aG 0) gH (aD Hj (aq (aD Lm (av 1) (av 0))) (aq (aF (.int 0)))) ((List.range k).map fun(s:Nat)=>D.int (s:Int)) [none,some (.f,dG N)]=.ok (((List.range k).map fun(s:Nat)=>mk N (s:Int)).map eM):=by
 rw[cE (r:=fun s:Nat=>eM (mk N (s:Int))) (fun env=>∃t,env=[t,some (.f,dG N)]) (List.range k) ?_ _ ⟨none,rfl⟩]
 ·rw[Td];rfl
 ·rintro s hs env ⟨t,rfl⟩;obtain⟨n,hn⟩:=qJ (all s (TB.mp hs));have hd:=DP hn;unfold vG at hd;rw[DB hn];generalize dG N=G1 at hd ⊢;exact⟨[some (.f,.int (s:Int)),some (.f,G1)],rfl,.f,[some (.f,.int (s:Int)),some (.f,G1)],by simp only[pv,seval,op,hd,L8],_,rfl⟩
theorem DE{names:LNN}{ps:List Pl}{ap:List Ho}(c:Nc names ps ap)(Lw:0<=aQ ap/\aQ ap<=12)(all:(walk names ps ap).1=none->∀s:Nat,s<(aQ ap).toNat->(s:Int)∈(walk names ps ap).2.map (·.1)):
  iq [HB names ap,eN names ps]=.ok (.f,((walk names ps ap).1).getD (rQ ((List.range (aQ ap).toNat).map fun(s:Nat)=>mk (walk names ps ap).2 (s:Int)))):=by
 have Ic:=c.pl;have Kf:=c.al;have SH:=AH names ps (by lia);have fm:=lr (ps.map (·.1));have SI:=pC names ap (by lia);have hw:=held_w c 13 100000 0 (N0 ps) (SG ps) (Tw _) (by lia) (by lia) none;have LG:Ks (.tup (names.map D.str)) (.tup (names.map D.str))=.ok (.f,.bl false):=uT _ (by rw[plainD];exact gB _ _);have Qc:Hj (HB names ap) (.int 0)=.ok (.f,.tup (names.map D.str)):=rfl;have Qd:Hj (eN names ps) (.int 0)=.ok (.f,.tup (names.map D.str)):=rfl;unfold iq yj;rw[bE (h:=by rfl)];rw[ay (env':=[some (.f,HB names ap),some (.f,eN names ps),none,none,none]) (by
  generalize eN names ps=NE at Qd ⊢;generalize HB names ap=CE at Qc ⊢;simp only[pv,↓reduceIte,Nat.reduceAdd,Nat.reduceLT,Nat.reduceLeDiff,Nat.reduceEqDiff,op,Qc,Qd,LG,fD])]
 rw[ay (env':=[some (.f,HB names ap),some (.f,eN names ps),some (.d,dG (N0 ps)),none,none]) (by
  generalize eN names ps=NE at SH ⊢;generalize HB names ap=CE;simp only[pv,↓reduceIte,Nat.reduceAdd,Nat.reduceLT,Nat.reduceLeDiff,Nat.reduceEqDiff,op,SH,fm];rfl)]
 rw[ay (env':=[some (.f,HB names ap),some (.f,eN names ps),some (.d,dG (N0 ps)),some (.f,.int ((0:Nat):Int)),none]) (by
  generalize dG (N0 ps)=G0;simp only[pv,↓reduceIte,Nat.reduceAdd,Nat.reduceLT,Nat.reduceLeDiff,Nat.reduceEqDiff,op];rfl)]
 unfold walk at all ⊢;cases Lb:(cS names ps ap 13 0 (N0 ps)).1 with
 |some d=>
  rw[Lb]at hw;dsimp only at hw;rw[HV];unfold l9;rw[hw,Ht];rfl
 |none=>
  rw[Lb]at hw;obtain⟨u4,hw⟩:=hw;have QR:=DD (cS names ps ap 13 0 (N0 ps)).2 (aQ ap).toNat (all Lb)
  rw[ay (env':=_) (by
   unfold l9;exact hw)]
  unfold og;have SJ:(((List.range (aQ ap).toNat).map fun(s:Nat)=>mk (cS names ps ap 13 0 (N0 ps)).2 (s:Int)).map eM).length<=sizeLine:=cb (by
   rw[bV,bV,Tr];lia)
  generalize ((List.range (aQ ap).toNat).map fun(s:Nat)=>mk (cS names ps ap 13 0 (N0 ps)).2 (s:Int))=RR at QR SJ ⊢;generalize dG (cS names ps ap 13 0 (N0 ps)).2=G2 at QR ⊢;generalize eN names ps=NE;generalize HB names ap=CE at SI ⊢;have hr:=Fz (aQ ap) Lw.1 (by lia) (aq (dD b6 (ag (av 0) aE))) [some (.f,CE),some (.f,NE),some (.d,G2),some (.f,.int ((cS names ps ap 13 0 (N0 ps)).2.length:Int)),u4] [some (.f,CE),some (.f,NE),some (.d,G2),some (.f,.int ((cS names ps ap 13 0 (N0 ps)).2.length:Int)),u4] (.val (.int (aQ ap))) (by simp only[pv,↓reduceIte,Nat.reduceAdd,Nat.reduceLT,Nat.reduceLeDiff,Nat.reduceEqDiff,op,SI]) rfl;generalize dv (aq (dD b6 (ag (av 0) aE)))=IT at hr ⊢;generalize (aD Hj (aq (aD Lm (av 1) (av 0))) (aq (aF (.int 0))))=GG at QR ⊢;simp only[pv,↓reduceIte,Nat.reduceAdd,Nat.reduceLT,Nat.reduceLeDiff,Nat.reduceEqDiff,op,hr,QR,SJ];rfl
theorem iI{ap:List Ho}{x s:Int}{mv:List Nat}:s∈jx ap x mv<->((x,mv,s):Ho)∈ap:=by
 unfold jx;rw[T9];constructor
 ·rintro⟨a,ha,e⟩;obtain⟨h1,h2⟩:=UN.mp ha;rw[SY,Tu,Tu]at h2;obtain⟨a1,a2,a3⟩:=a;obtain⟨e1,e2⟩:=h2;cases e1;cases e2;cases e;exact h1
 ·intro h;exact⟨(x,mv,s),UN.mpr ⟨h,by simp⟩,rfl⟩
theorem xA{N:List Gt}{s:Int}{m:List Int}{w:LNN}(h:(cI N s m w).1=none):s∈(cI N s m w).2.map (·.1):=by
 unfold cI kz at h ⊢;cases hf:N.find? (vm s m) with
 |some n=>
  rw[hf]at h;cases h
 |none=>
  rw[hf]at h;dsimp only at h ⊢;cases hs:N.find? fun n=>n.1==s with
  |none=>
   dsimp only;rw[Tb];exact SS _ (Te.mpr rfl)
  |some n=>
   rw[hs]at h;dsimp only at h ⊢;by_cases hm:n.2.1=m
   ·rw[S1 hm];have h1:=List.find?_some hs;have h1:n.1=s:=by simpa using h1
    exact T9.mpr ⟨n,List.mem_of_find?_eq_some hs,h1⟩
   ·rw[S4 hm]at h;cases h
theorem Gr.up{N N':List Gt}{o:Option D}(g:Gr N N' o){s:Int}(h:s∈N.map (·.1)):s∈N'.map (·.1):=by
 obtain⟨m,e⟩:=g.ex;rw[e,Tb];exact SW _ h
theorem oE(m:List Int)(w:LNN):∀(ss:List Int) (N:List Gt),Iv N->(∀s∈ss,0<=s/\s<12)->w.length<=N.length->(bY m w ss N).1=none->∀s∈ss,s∈(bY m w ss N).2.map (·.1)
 |[],N,_,_,_,_=>fun _ h=>nomatch h
 |s::ss,N,i,hs,hw,h=>by
  have gr:=mE i (hs s SN) m hw;have gh:=xA (N:=N) (s:=s) (m:=m) (w:=w);unfold bY at h ⊢;cases hg:cI N s m w with
  |mk o N'=>
   rw[hg]at gr gh h;cases o with
   |some d=>cases h
   |none=>
    dsimp only at gr gh h ⊢;have g2:=mF m w ss gr.iv (fun x hx=>hs x (SU _ hx)) (Tp hw gr.le);have ih:=oE m w ss N' gr.iv (fun x hx=>hs x (SU _ hx)) (Tp hw gr.le) h;intro x hx;rcases S3.mp hx with e|hx
    ·rw[e];exact g2.up (gh rfl)
    ·exact ih x hx
theorem AW{ap:List Ho}(hb:∀a∈ap,0<=a.2.2/\a.2.2<12){x:Int}{mv:List Nat}:∀s∈jx ap x mv,0<=s/\s<12:=fun s hs=>hb _ (iI.mp hs)
theorem oF{names:LNN}{ps:List Pl}{ap:List Ho}(hb:∀a∈ap,0<=a.2.2/\a.2.2<12){n:Gt}:∀(l:LNN) (N:List Gt),Iv N->n.2.2.length+1<=N.length->(aT names ps ap n l N).1=none->∀mv∈l,∀s∈jx ap n.1 mv,s∈(aT names ps ap n l N).2.map (·.1)
 |[],N,_,_,_=>fun _ h=>nomatch h
 |mv::l,N,i,hw,h=>by
  have gr:=pF (names:=names) (ps:=ps) hb mv i hw;have mh:(dE names ps ap n mv N).1=none->∀s∈jx ap n.1 mv,s∈(dE names ps ap n mv N).2.map (·.1):=fun h=>by
   unfold dE at h ⊢;have hg:=AW hb (x:=n.1) (mv:=mv);cases hf:cv (names.idxOf mv) (n.2.1.zip ps) with
   |none=>
    rw[hf]at h;cases hgs:jx ap n.1 mv with
    |nil=>exact fun _ h=>nomatch h
    |cons s ss=>rw[hgs]at h;cases h
   |some t=>
    rw[hf]at h;cases hgs:jx ap n.1 mv with
    |nil=>rw[hgs]at h;cases h
    |cons s ss=>
     rw[hgs]at h hg;exact oE t (n.2.2++[mv]) (s::ss) N i hg (by rw[jD];exact hw) h
  unfold aT at h ⊢;cases hg:dE names ps ap n mv N with
  |mk o N'=>
   rw[hg]at gr mh h;cases o with
   |some d=>cases h
   |none=>
    dsimp only at gr mh h ⊢;have g2:=iG (names:=names) (ps:=ps) hb l gr.iv (n:=n) (Tp hw gr.le);have ih:=oF hb l N' gr.iv (Tp hw gr.le) h;intro x hx s hs;rcases S3.mp hx with e|hx
    ·rw[e]at hs;exact g2.up (mh rfl s hs)
    ·exact ih x hx s hs
def Cl(names:LNN)(ap:List Ho)(N:List Gt)(k:Nat):Prop:=∀(j:Nat) (n:Gt),j<k->N[j]?=some n->∀mv∈names,∀s∈jx ap n.1 mv,s∈N.map (·.1)
theorem qK{names:LNN}{ps:List Pl}{ap:List Ho}(hb:∀a∈ap,0<=a.2.2/\a.2.2<12):∀(f k:Nat) (N:List Gt),Iv N->k<=N.length->13<=f+k->Cl names ap N k->(cS names ps ap f k N).1=none->Gr N (cS names ps ap f k N).2 none/\Cl names ap (cS names ps ap f k N).2 (cS names ps ap f k N).2.length
 | 0,k,N,i,hk,hf,_,_=>by
  have:=i.le;lia
 |f+1,k,N,i,hk,hf,cl,h=>by
  by_cases HC:k<N.length
  ·have Lr:N[k]?=some N[k]:=oM HC;have OJ:=i.wl k _ Lr;have gr:=iG (names:=names) (ps:=ps) hb names i (n:=N[k]) (by lia);have mh:=oF (names:=names) (ps:=ps) hb (n:=N[k]) names N i (by lia);cases hg:aT names ps ap N[k] names N with
   |mk o N'=>
    rw[hg]at gr mh;cases o with
    |some d=>rw[mG Lr hg]at h;cases h
    |none=>
     rw[kB Lr hg]at h ⊢;dsimp only at gr mh;have hl:=gr.le;obtain⟨more,em⟩:=gr.ex;have cl':Cl names ap N' (k+1):=fun j n hj hn mv M8 s hs=>by
      have RW:N[j]?=some n:=by rw[em,List.getElem?_append_left (by lia)]at hn;exact hn
      by_cases ej:j=k
      ·subst ej;rw[Lr]at RW;cases RW;exact mh rfl mv M8 s hs
      ·exact gr.up (cl j n (by lia) RW mv M8 s hs)
     obtain⟨g2,c2⟩:=qK hb f (k+1) N' gr.iv (by lia) (by lia) cl' h;exact⟨gr.trans g2,c2⟩
  ·have Lr:N[k]?=none:=List.getElem?_eq_none (by lia);have ek:k=N.length:=by lia
   rw[iH Lr];exact⟨Gr.refl i,ek▸cl⟩
section
variable{P:Int->Prop}
theorem DF{N:List Gt}{s:Int}{m:List Int}{w:LNN}(h:∀n∈N,P n.1)(hs:P s):∀n∈(cI N s m w).2,P n.1:=by
 unfold cI kz;cases N.find? (vm s m) with
 |some n=>exact h
 |none=>
  dsimp only;cases N.find? fun n=>n.1==s with
  |none=>
   intro n hn;rcases vJ hn with hn|hn
   ·exact h n hn
   ·rw[ou hn];exact hs
  |some n=>
   dsimp only;by_cases hm:n.2.1=m
   ·rw[S1 hm];exact h
   ·rw[S4 hm];exact h
theorem vz(m:List Int)(w:LNN):∀(ss:List Int) (N:List Gt),(∀n∈N,P n.1)->(∀s∈ss,P s)->∀n∈(bY m w ss N).2,P n.1
 |[],N,h,_=>h
 |s::ss,N,h,hs=>by
  have g:=DF (m:=m) (w:=w) h (hs s SN);unfold bY;cases hg:cI N s m w with
  |mk o N'=>
   rw[hg]at g;cases o with
   |some d=>exact g
   |none=>exact vz m w ss N' g fun x hx=>hs x (SU _ hx)
theorem vA{names:LNN}{ps:List Pl}{ap:List Ho}(ha:∀a∈ap,P a.2.2){n:Gt}:∀(l:LNN) (N:List Gt),(∀n∈N,P n.1)->∀n'∈(aT names ps ap n l N).2,P n'.1
 |[],N,h=>h
 |mv::l,N,h=>by
  have g:∀n'∈(dE names ps ap n mv N).2,P n'.1:=by
   unfold dE;split
   ·exact h
   ·exact h
   ·exact h
   ·rename_i t s ss _ e;exact vz t _ (s::ss) N h fun x hx=>ha _ (iI.mp (by rw[e];exact hx))
  unfold aT;cases hg:dE names ps ap n mv N with
  |mk o N'=>
   rw[hg]at g;cases o with
   |some d=>exact g
   |none=>exact vA ha l N' g
theorem yz{names:LNN}{ps:List Pl}{ap:List Ho}(ha:∀a∈ap,P a.2.2):∀(f k:Nat) (N:List Gt),(∀n∈N,P n.1)->∀n∈(cS names ps ap f k N).2,P n.1
 | 0,k,N,h=>h
 |f+1,k,N,h=>by
  cases hk:N[k]? with
  |none=>rw[iH hk];exact h
  |some n=>
   have g:=vA (names:=names) (ps:=ps) ha (n:=n) names N h;cases hg:aT names ps ap n names N with
   |mk o N'=>
    rw[hg]at g;cases o with
    |some d=>rw[mG hk hg];exact g
    |none=>rw[kB hk hg];exact yz ha f (k+1) N' g
end
theorem walk_all{names:LNN}{ps:List Pl}{ap:List Ho}{mZ:Nat}(r:Ra names ap mZ)(h:(walk names ps ap).1=none):
  (walk names ps ap).2.length<=12/\((walk names ps ap).2.length:Int)=aQ ap/\∀s:Nat,s<(walk names ps ap).2.length->(s:Int)∈(walk names ps ap).2.map (·.1):=by
 have hm:=r.mm;have hb:∀a∈ap,0<=a.2.2/\a.2.2<12:=fun a ha=>by
  have:=r.bd a ha;lia
 have Lw:=kr hm.1 r.bd;obtain⟨g,cl⟩:=qK (names:=names) (ps:=ps) hb 13 0 (N0 ps) (SG ps) (Tw _) (by lia) (fun j n hj=>by lia) h;have kp:=yz (P:=fun s=>0<=s/\s<aQ ap) (names:=names) (ps:=ps) (ap:=ap) (fun a ha=>⟨(hb a ha).1,(oz ha).2⟩) 13 0 (N0 ps) (fun n hn=>by
  rw[ou hn];exact⟨X8 0,by show(0:Int)<_;lia⟩)
 unfold walk at h ⊢;generalize cS names ps ap 13 0 (N0 ps)=W at h g cl kp ⊢;have z0:(0:Int)∈W.2.map (·.1):=g.up (Te.mpr rfl);have key:∀j:Nat,j<mZ->(j:Int)∈W.2.map (·.1):=by
  intro j;induction j using Nat.strongRecOn with
  |_ j ih=>
   intro hj;cases j with
   |zero=>exact z0
   |succ j=>
    obtain⟨a,ha,e1,b,hbj,e2⟩:=r.rc (j+1) (by lia) hj;obtain⟨n,hn,en⟩:=rY (ih b hbj (by lia));obtain⟨x,hx,ex⟩:=VS hn;have:=cl x n hx (by rw[oM hx,ex]) a.2.1 (r.nm a ha) a.2.2 (iI.mpr (by rw[en,<-e2];exact ha));rw[e1]at this;exact this
 have len:(W.2.length:Int)=aQ ap:=by
  have l1:W.2.length<=(aQ ap).toNat:=by
   have:=mx (aQ ap).toNat g.iv.nd (fun x hx=>by
    obtain⟨n,hn,e⟩:=rY hx;rw[<-e];have:=kp n hn;lia)
   rwa [bV]at this
  have l2:(aQ ap).toNat<=W.2.length:=by
   have:=mD ((List.range (aQ ap).toNat).map fun(s:Nat)=>(s:Int)) (W.2.map (·.1)) (f7 _ _ fun i j _ _ e=>by lia) (fun x hx=>by
    obtain⟨s,hs,e⟩:=rY hx;rw[<-e];exact key s (by have:=TB.mp hs;lia))
   rwa [bV,Tr,bV]at this
  lia
 exact⟨g.iv.le,len,fun s hs=>key s (by lia)⟩
def Ow(S:List (List Int))(N:List Gt):Prop:=∀n∈N,∃j:Nat,n.1=(j:Int)/\S[j]?=some n.2.1
theorem xB{S:List (List Int)}(nd:S.Nodup){N:List Gt}(o:Ow S N){j:Nat}{t:List Int}(hj:S[j]?=some t)(w:LNN):(cI N (j:Int) t w).1=none/\Ow S (cI N (j:Int) t w).2:=by
 have hf:N.find? (vm (j:Int) t)=none:=by
  rw[List.find?_eq_none];intro n hn h;unfold vm at h;rw[SY,S9]at h;obtain⟨i,e1,e2⟩:=o n hn;rw[h.2]at e2;obtain⟨h1,h2⟩:=rL e2;obtain⟨h3,h4⟩:=rL hj;have:i=j:=by
   have pw:=V4.mp nd;rcases Nat.lt_trichotomy i j with hl|hl|hl
   ·exact absurd (h2.trans h4.symm) (pw i j h1 h3 hl)
   ·exact hl
   ·exact absurd (h4.trans h2.symm) (pw j i h3 h1 hl)
  rw[e1,this]at h;simp at h
 unfold cI kz;rw[hf];dsimp only;cases hs:N.find? fun n=>n.1==(j:Int) with
 |none=>
  refine⟨rfl,fun n hn=>?_⟩;rcases vJ hn with hn|hn
  ·exact o n hn
  ·rw[ou hn];exact⟨j,rfl,hj⟩
 |some n=>
  dsimp only;have h1:=List.find?_some hs;have h1:n.1=(j:Int):=by simpa using h1
  obtain⟨i,e1,e2⟩:=o n (List.mem_of_find?_eq_some hs);have:i=j:=by lia
  rw[this,hj]at e2;have e3:n.2.1=t:=(Tf e2).symm;rw[S1 e3];exact⟨rfl,o⟩
theorem oG{S:List (List Int)}(nd:S.Nodup){t:List Int}(w:LNN):∀(ss:List Int) (N:List Gt),Ow S N->(∀s∈ss,∃j:Nat,s=(j:Int)/\S[j]?=some t)->(bY t w ss N).1=none/\Ow S (bY t w ss N).2
 |[],N,o,_=>⟨rfl,o⟩
 |s::ss,N,o,h=>by
  obtain⟨j,e,hj⟩:=h s SN;subst e;obtain⟨g1,g2⟩:=xB nd o hj w;unfold bY;cases hg:cI N (j:Int) t w with
  |mk q N'=>
   rw[hg]at g1 g2;dsimp only at g1;subst g1;exact oG nd w ss N' g2 fun x hx=>h x (SU _ hx)
structure Or(names:LNN)(ps:List Pl)(S:List (List Int))(ap:List Ho):Prop where
 nd:S.Nodup
 z:S[0]?=some (ps.map (·.1))
 ab:∀(x s:Int) (mv:List Nat),((x,mv,s):Ho)∈ap->∃i j:Nat,x=(i:Int)/\s=(j:Int)/\∃a b,S[i]?=some a/\S[j]?=some b/\cv (names.idxOf mv) (a.zip ps)=some b
 fu:∀(i:Nat) (mv:List Nat) (a t:List Int),mv∈names->S[i]?=some a->cv (names.idxOf mv) (a.zip ps)=some t->∃m:Nat,(((i:Int),mv,(m:Int)):Ho)∈ap
theorem xC{names:LNN}{ps:List Pl}{S:List (List Int)}{ap:List Ho}(r:Or names ps S ap){n:Gt}(hn:∃j:Nat,n.1=(j:Int)/\S[j]?=some n.2.1)(mv:List Nat)(hm:mv∈names){N:List Gt}(o:Ow S N):(dE names ps ap n mv N).1=none/\Ow S (dE names ps ap n mv N).2:=by
 obtain⟨i,e1,e2⟩:=hn;have ar:∀s∈jx ap n.1 mv,∃(j:Nat) (t:List Int),s=(j:Int)/\S[j]?=some t/\cv (names.idxOf mv) (n.2.1.zip ps)=some t:=fun s hs=>by
  obtain⟨i',j,h1,h2,a,b,h3,h4,h5⟩:=r.ab _ _ _ (iI.mp hs);have:i'=i:=by lia
  rw[this,e2]at h3;rw[<-Tf h3]at h5;exact⟨j,b,h2,h4,h5⟩
 unfold dE;cases hf:cv (names.idxOf mv) (n.2.1.zip ps) with
 |none=>
  cases hg:jx ap n.1 mv with
  |nil=>exact⟨rfl,o⟩
  |cons s ss=>
   exfalso;rw[hg,hf]at ar;obtain⟨j,t,_,_,h⟩:=ar s SN;cases h
 |some t=>
  cases hg:jx ap n.1 mv with
  |nil=>
   exfalso;obtain⟨m,hm⟩:=r.fu i mv n.2.1 t hm e2 hf;have:=iI.mpr hm;rw[<-e1,hg]at this;cases this
  |cons s ss=>
   rw[hg,hf]at ar;refine oG r.nd _ (s::ss) N o fun x hx=>?_
   obtain⟨j,t',h1,h2,h3⟩:=ar x hx;rw[<-Tf h3]at h2;exact⟨j,h1,h2⟩
theorem kC{names:LNN}{ps:List Pl}{S:List (List Int)}{ap:List Ho}(r:Or names ps S ap){n:Gt}(hn:∃j:Nat,n.1=(j:Int)/\S[j]?=some n.2.1):∀(l:LNN),(∀mv∈l,mv∈names)->∀N,Ow S N->(aT names ps ap n l N).1=none/\Ow S (aT names ps ap n l N).2
 |[],_,N,o=>⟨rfl,o⟩
 |mv::l,hl,N,o=>by
  obtain⟨g1,g2⟩:=xC r hn mv (hl mv SN) o;unfold aT;cases hg:dE names ps ap n mv N with
  |mk q N'=>
   rw[hg]at g1 g2;dsimp only at g1;subst g1;exact kC r hn l (fun x hx=>hl x (SU _ hx)) N' g2
theorem qL{names:LNN}{ps:List Pl}{S:List (List Int)}{ap:List Ho}(r:Or names ps S ap):∀(f k:Nat) (N:List Gt),Ow S N->(cS names ps ap f k N).1=none
 | 0,k,N,o=>rfl
 |f+1,k,N,o=>by
  cases hk:N[k]? with
  |none=>rw[iH hk]
  |some n=>
   obtain⟨g1,g2⟩:=kC r (o n (Ts hk)) names (fun _ h=>h) N o;cases hg:aT names ps ap n names N with
   |mk q N'=>
    rw[hg]at g1 g2;dsimp only at g1;subst g1;rw[kB hk hg];exact qL r f (k+1) N' g2
theorem qM{names:LNN}{ps:List Pl}{S:List (List Int)}{ap:List Ho}(r:Or names ps S ap):(walk names ps ap).1=none:=
 qL r 13 0 (N0 ps) fun n hn=>by
  rw[ou hn];exact⟨0,rfl,r.z⟩
theorem DG{names:LNN}{ps:List Pl}{r:Rn}(hn:names.length<=3)(e:iF names ps=some r):Or names ps r.1 (bP f9 r.2):=by
 have h:=ky (ps:=ps) hn;rw[e]at h;obtain⟨⟨m,rm⟩,fu,_⟩:=h;refine⟨rm.nd,rm.z,fun x s mv h=>?_,fun i mv a t hm hs hf=>?_⟩
 ·obtain⟨_,i,j,_,h1,h2,a,b,h3,h4,h5⟩:=rm.ab _ ((kq f9).mp h);exact⟨i,j,h1,h2,a,b,h3,h4,h5⟩
 ·obtain⟨k,hk,e⟩:=VS hm;obtain⟨m,h1,h2⟩:=fu i k (.inl (rL hs).1) mv (by rw[oM hk,e]) a t hs hf;exact⟨m,(kq f9).mpr h2⟩
theorem vB{names:LNN}{ps:List Pl}{S:List (List Int)}{ap:List Ho}(r:Or names ps S ap):∀(f k:Nat) (N:List Gt),Ow S N->Ow S (cS names ps ap f k N).2
 | 0,k,N,o=>o
 |f+1,k,N,o=>by
  cases hk:N[k]? with
  |none=>rw[iH hk];exact o
  |some n=>
   obtain⟨g1,g2⟩:=kC r (o n (Ts hk)) names (fun _ h=>h) N o;cases hg:aT names ps ap n names N with
   |mk q N'=>
    rw[hg]at g1 g2;dsimp only at g1;subst g1;rw[kB hk hg];exact vB r f (k+1) N' g2
theorem vC{names:LNN}{ap:List Ho}{mZ:Nat}(r:Ra names ap mZ):aQ ap=(mZ:Int):=by
 have hm:=r.mm;have Lw:=kr hm.1 r.bd;by_cases h1:mZ=1
 ·lia
 ·obtain⟨a,ha,e,_⟩:=r.rc (mZ-1) (by lia) (by lia);have:=(oz ha).2;lia
theorem rR{names:LNN}{ps:List Pl}{S:List (List Int)}{ap:List Ho}(o:Or names ps S ap)(r:Ra names ap S.length):((List.range (aQ ap).toNat).map fun(s:Nat)=>mk (walk names ps ap).2 (s:Int))=S:=by
 have hw:=qM o;have ow:=vB o 13 0 (N0 ps) fun n hn=>by
  rw[ou hn];exact⟨0,rfl,o.z⟩
 obtain⟨_,w2,w3⟩:=walk_all r hw;rw[vC r]at w2 ⊢;rw[T8];apply U8;intro i;by_cases hi:i<S.length
 ·rw[List.getElem?_map,List.getElem?_range hi,Option.map_some,oM hi];obtain⟨n,hn⟩:=qJ (w3 i (by lia));rw[DB hn];have h1:=List.find?_some hn;have h1:n.1=(i:Int):=by simpa using h1
  obtain⟨j,e1,e2⟩:=ow n (List.mem_of_find?_eq_some hn);have:j=i:=by lia
  subst this;rw[oM hi]at e2;exact e2.symm
 ·rw[List.getElem?_eq_none (by rw[bV,Tr];lia),List.getElem?_eq_none (by lia)]
theorem Ra.nc{names:LNN}{ps:List Pl}{ap:List Ho}{mZ:Nat}(r:Ra names ap mZ)(hl:ps.length<=100)(hp:∀q∈ps,JN q names.length):Nc names ps ap:=⟨hl,hp,r.len,fun a ha=>by
 have:=r.bd a ha;have:=r.mm;lia⟩
theorem xD{names:LNN}{ps:List Pl}{r:Rn}(n:Nt names ps r):iq [HB names (bP f9 r.2),eN names ps]=.ok (.f,rQ r.1):=by
 have hp9:=n.p9;have ra:=(yu n.n3 n.e).sort;have hm:=ra.mm;have o:=DG n.n3 n.e;have Lw:=kr hm.1 ra.bd;have hh:=DE (ra.nc (ps:=ps) (by lia) n.po) ⟨by lia,by lia⟩ fun h s hs=>(walk_all ra h).2.2 s (by have:=(walk_all ra h).2.1;lia)
 rw[qM o,UD,rR o ra]at hh;exact hh
theorem xE(a b:LNN):GU (.tup (a.map D.str)) (.tup (b.map D.str))=decide (a=b):=by
 have key:∀a b:LNN,iJ (a.map D.str) (b.map D.str)=decide (a=b):=by
  intro a;induction a with
  |nil=>intro b;cases b <;> rfl
  |cons x a ih=>
   intro b;cases b with
   |nil=>rfl
   |cons y b=>
    rw[e9,e9,iJ,ih b,GU,To];simp
 rw[GU,key]
theorem xF{a b:LNN}(h:a≠b):Ks (.tup (a.map D.str)) (.tup (b.map D.str))=.ok (.f,.bl true):=by
 unfold Ks;rw[plainD,plainD,gB,gB,xE,Tj h];rfl
theorem oH(a b:LNN)(h:a≠b)(x y:List D):bh [.tup [.tup (a.map D.str),.lst x],.tup [.tup (b.map D.str),.lst y]]=.ok (.f,.bl true):=by
 have LG:=xF h;have a0:∀x y:D,IU (x::y::[]) (0:Int)=some x:=fun _ _=>rfl
 have hx:lg [.tup [.tup (a.map D.str),.lst x],.tup [.tup (b.map D.str),.lst y]]=true:=by
  have e:(HA (bI Ks (aq (aD Hj (av 0) (aq (aF (.int 0))))) (aq (aD Hj (av 1) (aq (aF (.int 0))))))) [some (.f,.tup [.tup (a.map D.str),.lst x]),some (.f,.tup [.tup (b.map D.str),.lst y]),none,none,none]=.ok (true,[some (.f,.tup [.tup (a.map D.str),.lst x]),some (.f,.tup [.tup (b.map D.str),.lst y]),none,none,none]):=by
   simp only[pv,seval,op,a0,LG]
  show(decide (2=2)&&PN _ _ [some (.f,.tup [.tup (a.map D.str),.lst x]),some (.f,.tup [.tup (b.map D.str),.lst y]),none,none,none])=true;unfold PN;rw[e];rfl
 generalize (D.tup [.tup (a.map D.str),.lst x])=A at hx ⊢;generalize (D.tup [.tup (b.map D.str),.lst y])=B at hx ⊢;unfold bh gP;rw[bE (h:=by rfl)];rw[ay (env':=[some (.f,A),some (.f,B),some (.f,.bl false),none,none]) (by simp only[pv,seval,op])];rw[ay (env':=[some (.f,A),some (.f,B),some (.f,.bl true),none,some (.f,.bl false)]) (by
  have ex:DM lg (ag (av 0) (ag (av 1) aE)) [some (.f,A),some (.f,B),some (.f,.bl false),none,none]=some [some (.f,A),some (.f,B),some (.f,.bl false),none,none]:=by
   show(if lg [A,B] then some [some (O.f,A),some (.f,B),some (.f,.bl false),none,none] else none)=_;rw[hx];rfl
  unfold qo;rw[ex];rfl)]
 simp only[pv,seval,op]
theorem Ff(l:LNN)(nd:l.Nodup)(h5:l.length=5)(names:LNN)(h3:names.length<=3)(t:LNN):((l++t).filter fun x=>!decide (x∈names))≠[]:=by
 intro h;rw[List.filter_eq_nil_iff]at h;have:=mD l names nd fun x hx=>by
  have:=h x (SW _ hx);simpa using this
 lia
theorem xG(a:List Nat)(l:LNN):uw (.str a) (.tup (l.map D.str))=.ok (.f,.bl (!decide (a∈l))):=by
 have e:Kt (.str a) (.tup (l.map D.str))=Kt (.str a) (.lst (l.map D.str)):=rfl;show x9 _ _=_;unfold x9;rw[e,qD];rfl
theorem AX(a:List Nat)(l:LNN):My (.str a) (.tup (l.map D.str))=.ok (.f,.bl (decide (a∈l))):=by
 have e:Kt (.str a) (.tup (l.map D.str))=Kt (.str a) (.lst (l.map D.str)):=rfl;have e2:My (.str a) (.tup (l.map D.str))=Kt (.str a) (.tup (l.map D.str)):=rfl;rw[e2,e,qD]
theorem vD(l:LNN)(h:l.length<64):sortedT [.tup (l.map D.str)]=.ok (.l .f,.lst ((bP JZ l).map D.str)):=by
 unfold sortedT;dsimp only;rw[S1 (by rw[bV];exact h),dq]
theorem qN{α:Type}(l:List α)(h:l≠[]):(gI l none (some (-1))).length<l.length:=by
 have hl:=VT.mpr h;have e:HT.sIx l.length l.length (some (-1))=l.length-1:=by
  show(if(-1:Int)<0 then((-1:Int)+(l.length:Int)).toNat else min (-1:Int).toNat l.length)=_;rw[S1 (by decide)];lia
 unfold gI;rw[HT.lz,V2,XC,e,TJ];lia
theorem rS(l names:LNN):cV (aG 0) (HA (bI uw (av 0) (av 1))) (aH 0) (l.map D.str) [none,some (.f,.tup (names.map D.str))]=.ok ((l.filter fun x=>!decide (x∈names)).map D.str):=by
 refine mw (p:=fun x:List Nat=>!decide (x∈names)) (fun env=>∃t,env=[t,some (.f,.tup (names.map D.str))]) l ?_ _ ⟨none,rfl⟩;rintro x _ env ⟨t,rfl⟩;have hn:=xG x names;refine⟨[some (.f,.str x),some (.f,.tup (names.map D.str))],rfl,[some (.f,.str x),some (.f,.tup (names.map D.str))],?_,?_⟩
 ·generalize D.tup (names.map D.str)=T at hn ⊢;simp only[pv,seval,op,hn]
 ·cases hd:decide (x∈names) with
  |true=>exact⟨_,rfl⟩
  |false=>exact⟨.f,[some (.f,.str x),some (.f,.tup (names.map D.str))],rfl,_,rfl⟩
theorem xH(ap:List Ho)(os:LNN):cV (aG 0) (rW (HA (bI My (aq (aD Hj (av 0) (aq (aF (.int 1))))) (av 1))) (rW (HA (bI Js (aq (aD Hj (av 0) (aq (aF (.int 0))))) (aq (aF (.int 0))))) (HA (bI Js (aq (aD Hj (av 0) (aq (aF (.int 2))))) (aq (aF (.int 0))))))) (aH 0) (ap.map eA) [none,some (.f,.tup (os.map D.str))]=.ok ((ap.filter fun a=>decide (a.2.1∈os)&&((a.1==0)&&(a.2.2==0))).map eA):=by
 refine mw (p:=fun a:Ho=>decide (a.2.1∈os)&&((a.1==0)&&(a.2.2==0))) (fun env=>∃t,env=[t,some (.f,.tup (os.map D.str))]) ap ?_ _ ⟨none,rfl⟩;rintro a _ env ⟨t,rfl⟩;have hn:=AX a.2.1 os;have i0:Hj (eA a) (.int 0)=.ok (.f,.int a.1):=rfl;have i1:Hj (eA a) (.int 1)=.ok (.f,.str a.2.1):=rfl;have i2:Hj (eA a) (.int 2)=.ok (.f,.int a.2.2):=rfl;refine⟨[some (.f,eA a),some (.f,.tup (os.map D.str))],rfl,[some (.f,eA a),some (.f,.tup (os.map D.str))],?_,?_⟩
 ·generalize D.tup (os.map D.str)=T at hn ⊢;generalize eA a=EA at i0 i1 i2 ⊢;cases hd:decide (a.2.1∈os) with
  |false=>
   rw[hd]at hn;simp only[pv,seval,op,i1,hn,Vb,fD]
  |true=>
   rw[hd]at hn;cases hz:(a.1==0) with
   |false=>simp only[pv,seval,op,i0,i1,hn,hz,VO,Vb,fD]
   |true=>simp only[pv,seval,op,i0,i1,i2,hn,hz,VO]
 ·cases(decide (a.2.1∈os)&&((a.1==0)&&(a.2.2==0))) with
  |false=>exact⟨_,rfl⟩
  |true=>exact⟨.f,[some (.f,eA a),some (.f,.tup (os.map D.str))],rfl,_,rfl⟩
theorem vE(names:LNN)(ap:List Ho)(hl:ap.length<=60)(os:LNN):∃X,bQ [HB names ap,.tup (os.map D.str)]=.ok (.f,.tup [.tup (os.map D.str),.lst X]):=by
 have hc:=xH ap os;have hlen:=my (f:=eA) (p:=fun a:Ho=>decide (a.2.1∈os)&&((a.1==0)&&(a.2.2==0))) (l:=ap) (by lia);have Nv:=Aw (ap.filter fun a=>decide (a.2.1∈os)&&((a.1==0)&&(a.2.2==0)));have OU:Hj (HB names ap) (.int 1)=.ok (.f,.lst (ap.map eA)):=rfl;refine⟨(ap.filter fun a=>decide (a.2.1∈os)&&((a.1==0)&&(a.2.2==0))).map eA,?_⟩;unfold bQ gO;rw[bE (h:=by rfl)];generalize hcc:(rW (HA (bI My (aq (aD Hj (av 0) (aq (aF (.int 1))))) (av 1))) (rW (HA (bI Js (aq (aD Hj (av 0) (aq (aF (.int 0))))) (aq (aF (.int 0))))) (HA (bI Js (aq (aD Hj (av 0) (aq (aF (.int 2))))) (aq (aF (.int 0)))))))=CC at hc ⊢;clear hcc;generalize (ap.filter fun a=>decide (a.2.1∈os)&&((a.1==0)&&(a.2.2==0))).map eA=XX at hc hlen Nv ⊢;generalize HB names ap=CE at OU ⊢;generalize D.tup (os.map D.str)=T at hc ⊢;rw[ay (env':=[some (.f,CE),some (.f,T),some (.l .f,.lst XX)]) (by
  simp only[pv,seval,op,OU,hc,hlen,Nv])]
 simp only[pv,seval,op]
theorem xI(ns:List Int){names:LNN}(n0:names≠[])(n3:names.length<=3):∃os:LNN,os≠names/\os.length<=4/\cu [.lst (ns.map D.int),.tup (names.map D.str)]=.ok (.f,.tup (os.map D.str)):=by
 have c0:aw [.lst (ns.map D.int),.int 0]=.ok (.f,.int (cell ns 0)):=iE ns 0;have c1:aw [.lst (ns.map D.int),.int 1]=.ok (.f,.int (cell ns 1)):=iE ns 1;obtain⟨l,h5,nd,_,en⟩:=uZ (cell ns 0);have P8:=mz (cell ns 1) 8 (by decide) (by decide);generalize vK (cell ns 1) 8=x at P8;have K1:=Ff l nd h5 names n3 [[97],[122,122]];have hc:=rS (l++[[97],[122,122]]) names;have Qe:c5 (.lst (l.map D.str)) (.lst [.str [97],.str [122,122]])=.ok (.l .f,.lst ((l++[[97],[122,122]]).map D.str)):=by
  rw[uQ,S1 (line_le (by rw[bV];simp only[S5,TL];lia)),Tb];rfl
 have hlen:(((l++[[97],[122,122]]).filter fun x=>!decide (x∈names)).map D.str).length<=sizeLine:=my (by rw[jD];simp only[S5,TL];lia);have OD:∀y∈((l++[[97],[122,122]]).filter fun x=>!decide (x∈names)),y∉names:=fun y hy=>by
  have:=(UN.mp hy).2;simpa using this
 have Nv:=PV.flat_strs ((l++[[97],[122,122]]).filter fun x=>!decide (x∈names));generalize hL:l++[[97],[122,122]]=L at K1 hc Qe hlen OD Nv;generalize hSP:(L.filter fun x=>!decide (x∈names))=SP at K1 hc hlen OD Nv;have Na:=VT.mpr K1;have b:=fC x (SP.length:Int) (by lia);obtain⟨i,ei⟩:=Ug b.1;have hi:i<SP.length:=by lia
 have K8:=C5 hi;have Pe:=OD SP[i] (U0 hi);generalize SP[i]=nm at K8 Pe;have m1:=jE x (SP.length:Int) (by lia);rw[ei]at m1;have d8:=iZ x 8 (by decide) (by decide);have m3:=jE (x / 8) 3 (by decide);have b3:=fC (x / 8) 3 (by decide);unfold cu iA;rw[bE (h:=by rfl)];rw[ay (env':=[some (.f,.lst (ns.map D.int)),some (.f,.tup (names.map D.str)),some (.l .f,.lst (L.map D.str)),none,none,none]) (by
  generalize D.tup (names.map D.str)=T;simp only[pv,seval,op,c0,en,Qe])]
 rw[ay (env':=[some (.f,.lst (ns.map D.int)),some (.f,.tup (names.map D.str)),some (.l .f,.lst (L.map D.str)),some (.f,.int x),none,none]) (by
  generalize D.tup (names.map D.str)=T;simp only[pv,seval,op,c1,P8])]
 rw[ay (env':=[some (.f,.lst (ns.map D.int)),some (.f,.tup (names.map D.str)),some (.l .f,.lst (L.map D.str)),some (.f,.int x),some (.l .f,.lst (SP.map D.str)),none]) (by
  generalize (HA (bI uw (av 0) (av 1)))=CC at hc ⊢;generalize D.tup (names.map D.str)=T at hc ⊢;simp only[pv,seval,op,hc,hlen,Nv])]
 rw[ay (env':=[some (.f,.lst (ns.map D.int)),some (.f,.tup (names.map D.str)),some (.l .f,.lst (L.map D.str)),some (.f,.int x),some (.l .f,.lst (SP.map D.str)),some (.f,.str nm)]) (by
  have RO:(SP.map D.str).length=SP.length:=bV _;generalize SP.map D.str=Q at RO K8 ⊢;generalize D.tup (names.map D.str)=T;simp only[pv,seval,op,RO,m1,K8])]
 have Qf:x / 8%3=0\/x / 8%3=1\/x / 8%3=2:=by lia
 have e00:((0:Int)==0)=true:=rfl;have e10:((1:Int)==0)=false:=rfl;have e11:((1:Int)==1)=true:=rfl;have e20:((2:Int)==0)=false:=rfl;have PD:((2:Int)==1)=false:=rfl;have ft:∀q:LNN,flatD (.tup (q.map D.str))=true:=fun q=>by rw[bX,PV.flat_strs]
 rcases Qf with h|h|h
 ·refine⟨bP JZ (names++[nm]),fun z=>?_,by rw[eE,jD,Tc];lia,?_⟩
  ·have:=TY List.length z;rw[eE,jD,Tc]at this;lia
  ·have ha:=E2 names nm (by lia);have hs:=vD (names++[nm]) (by rw[jD,Tc];lia);rw[h]at m3;generalize D.tup (names.map D.str)=T at ha ⊢;generalize D.tup ((names++[nm]).map D.str)=T2 at ha hs;simp only[pv,seval,op,d8,m3,e00,ha,hs]
 ·refine⟨gI names none (some (-1)),fun z=>?_,?_,?_⟩
  ·have:=qN names n0;rw[z]at this;lia
  ·have:=qN names n0;lia
  ·rw[h]at m3;rw[<-pB];simp only[pv,seval,op,d8,m3,e10,e11,fD]
 ·refine⟨bP JZ (names.drop 1++[nm]),fun z=>Pe ?_,by rw[eE,jD,Tc,Up];lia,?_⟩
  ·rw[<-z];exact(cW JZ _).mem_iff.mpr (SS _ (Te.mpr rfl))
  ·have ha:=E2 (names.drop 1) nm (by rw[Up];lia);have hs:=vD (names.drop 1++[nm]) (by rw[jD,Tc,Up];lia);have L6:gI (names.map D.str) (some 1) none=(names.drop 1).map D.str:=by rw[pB];exact TY _ (xn names 1)
   rw[h]at m3;simp only[pv,seval,op,d8,m3,e20,PD,L6,ha,hs,fD]
theorem xJ(ns:List Int)(k:Nat)(hk:k<=100):∃vs:List Int,vs.length=k/\cV (aG 0) gH (aD gE (aq (dD aw (ag (av 1) (ag (aq (aD c5 (aq (aF (.int 2))) (av 0))) aE)))) (aq (aD rX (aq (aF (.int 10))) (aq (aF (.int 60)))))) ((List.range k).map fun(j:Nat)=>D.int (j:Int)) [none,some (.f,.lst (ns.map D.int))]=.ok (vs.map D.int):=by
 have Qg:rX (.int 10) (.int 60)=.ok (.f,.int (10 ^ 60)):=E1 60 (by decide);have Qh:=fun y=>jE y (10 ^ 60) (by decide)
 generalize (10:Int) ^ 60=T at Qg Qh;refine⟨(List.range k).map fun(j:Nat)=>cell ns (2+j)%T,by rw[bV,Tr],?_⟩;rw[Td];refine cE (fun env=>∃t,env=[t,some (.f,.lst (ns.map D.int))]) _ ?_ _ ⟨_,rfl⟩;rintro j _ env ⟨t,rfl⟩;have cj:=iE ns (2+j);rw[show((2+j:Nat):Int)=(2:Int)+(j:Int) by lia]at cj;refine⟨[some (.f,.int (j:Int)),some (.f,.lst (ns.map D.int))],rfl,.f,[some (.f,.int (j:Int)),some (.f,.lst (ns.map D.int))],?_,_,rfl⟩;generalize D.lst (ns.map D.int)=NS at cj ⊢;simp only[pv,↓reduceIte,Nat.reduceAdd,Nat.reduceLT,Nat.reduceLeDiff,Nat.reduceEqDiff,op,cj,Qg,Qh];rfl
theorem xK(n:Nat)(l:List (List Int)):plainDs (n+1) (l.map eM)=true:=by
 induction l with
 |nil=>rfl
 |cons a l ih=>
  rw[e9,plainDs,ih,Wn];unfold eM;rw[plainD];exact iY _ _
theorem vF(ns:List Int)(h63:ns.length<=63):∃o,Ag [.lst (ns.map D.int)]=.ok (o,.bl true):=by
 obtain⟨names,ps,r,n,h9,en⟩:=E8 ns 2;have en:cY [.lst (ns.map D.int),.int 2]=.ok (.f,eN names ps):=en;have er:=yp names n.n3 ps (by lia) n.po;rw[n.e]at er;have er:br [eN names ps,.int 8]=.ok (.f,.tup [.lst ((bP f9 r.2).map eA),.lst (r.1.map eM)]):=er;obtain⟨os,K4,ho4,eo⟩:=xI ns n.n0 n.n3;have ra:=(yu n.n3 n.e).sort;have hral:=ra.len;obtain⟨XX,L9⟩:=vE names (bP f9 r.2) hral os;have hh:=xD n;obtain⟨vs,hvl,OE⟩:=xJ ns os.length (by lia);have c8:aw [.lst (ns.map D.int),.int 8]=.ok (.f,.int (cell ns 8)):=iE ns 8;have Qg:rX (.int 10) (.int 60)=.ok (.f,.int (10 ^ 60)):=E1 60 (by decide);have Qh:=jE (cell ns 8) (10 ^ 60) (by decide);have r1:=oH os names K4 XX (ps.map eP);have r2:=fun y=>oH names os (Ui K4) ((bP f9 r.2).map eA) y
 have he:Js (rQ r.1) (rQ r.1)=.ok (.f,.bl true):=uS _ (by
  unfold rQ;rw[plainD];simp only[plainDs,plainD,xK,Ul])
 have fo:flatD (.tup (os.map D.str))=true:=by rw[bX,PV.flat_strs]
 have Ld:∀(x:D) (y:List D),flatD (.tup [x,.lst y])=false:=fun x y=>by
  rw[bX];simp only[flatDs,flatD,Vb,V5]
 have QQ:∀(x y:List D),flatD (.tup [.lst x,.lst y])=false:=fun _ _=>rfl
 have a0:∀x y:D,IU (x::y::[]) (0:Int)=some x:=fun _ _=>rfl
 have hvf:=Ha vs;have hvz:(vs.map D.int).length<=sizeLine:=cb (by rw[bV];lia);have lo:jt [.tup (os.map D.str)]=.ok (.f,.int (os.length:Int)):=by
  show Res.ok (O.f,D.int (((os.map D.str).length:Nat):Int))=_;rw[bV]
 rw[show HB names (bP f9 r.2)=.tup [.tup (names.map D.str),.lst ((bP f9 r.2).map eA)] from rfl]at L9 hh;have SK:flatD (eN names ps)=false:=Ld _ _;have L8:Hj (eN names ps) (.int 0)=.ok (.f,.tup (names.map D.str)):=rfl;rw[show(D.tup [.tup (names.map D.str),.lst (ps.map eP)])=eN names ps from rfl]at r1;generalize eN names ps=NE at en er hh r1 SK L8;unfold rQ at hh he;generalize (10:Int) ^ 60=T at Qg Qh;generalize (bP f9 r.2).map eA=AA at er L9 hh r2;generalize r.1.map eM=MM at er hh he;generalize D.tup (names.map D.str)=TN at eo L9 hh r2 L8;generalize D.tup (os.map D.str)=TO at eo L9 r1 r2 fo lo;generalize D.lst (ns.map D.int)=NS at en eo OE c8 ⊢;refine⟨.f,?_⟩;unfold Ag CO;rw[bE (h:=by rfl)];rw[ay (env':=[some (.f,NS),some (.f,NE),none,none,none,none,none,none]) (by
  simp only[pv,↓reduceIte,Nat.reduceAdd,Nat.reduceLT,Nat.reduceLeDiff,Nat.reduceEqDiff,op,en,SK,A3,A4,fD])]
 rw[ay (env':=[some (.f,NS),some (.f,NE),some (.f,.lst AA),some (.f,.lst MM),none,none,none,none]) (by
  simp only[pv,↓reduceIte,Nat.reduceAdd,Nat.reduceLT,Nat.reduceLeDiff,Nat.reduceEqDiff,op,er,QQ,A3,A4,fD])]
 rw[ay (env':=[some (.f,NS),some (.f,NE),some (.f,.lst AA),some (.f,.lst MM),some (.f,.tup [TN,.lst AA]),none,none,none]) (by
  simp only[pv,↓reduceIte,Nat.reduceAdd,Nat.reduceLT,Nat.reduceLeDiff,Nat.reduceEqDiff,op,L8])]
 rw[ay (env':=[some (.f,NS),some (.f,NE),some (.f,.lst AA),some (.f,.lst MM),some (.f,.tup [TN,.lst AA]),some (.f,TO),none,none]) (by
  simp only[pv,↓reduceIte,Nat.reduceAdd,Nat.reduceLT,Nat.reduceLeDiff,Nat.reduceEqDiff,op,L8,eo,fo])]
 rw[ay (env':=[some (.f,NS),some (.f,NE),some (.f,.lst AA),some (.f,.lst MM),some (.f,.tup [TN,.lst AA]),some (.f,TO),none,none]) (by
  simp only[pv,↓reduceIte,Nat.reduceAdd,Nat.reduceLT,Nat.reduceLeDiff,Nat.reduceEqDiff,op,L9,r1,Ld,A3,A4,Vs,fD])]
 have q1:=Fz (os.length:Int) (by lia) (by lia) (aq (bo jt (ag (av 5) aE))) [some (.f,NS),some (.f,NE),some (.f,.lst AA),some (.f,.lst MM),some (.f,.tup [TN,.lst AA]),some (.f,TO),none,none] [some (.f,NS),some (.f,NE),some (.f,.lst AA),some (.f,.lst MM),some (.f,.tup [TN,.lst AA]),some (.f,TO),none,none] (.val (.int (os.length:Int))) (by
  simp only[pv,↓reduceIte,Nat.reduceAdd,Nat.reduceLT,Nat.reduceLeDiff,Nat.reduceEqDiff,op,lo]) rfl
 rw[T8]at q1;rw[ay (env':=[some (.f,NS),some (.f,NE),some (.f,.lst AA),some (.f,.lst MM),some (.f,.tup [TN,.lst AA]),some (.f,TO),some (.f,.tup (vs.map D.int)),none]) (by
  generalize dv (aq (bo jt (ag (av 5) aE)))=IT at q1 ⊢;generalize (aD gE (aq (dD aw (ag (av 1) (ag (aq (aD c5 (aq (aF (.int 2))) (av 0))) aE)))) (aq (aD rX (aq (aF (.int 10))) (aq (aF (.int 60))))))=GG at OE ⊢;simp only[pv,↓reduceIte,Nat.reduceAdd,Nat.reduceLT,Nat.reduceLeDiff,Nat.reduceEqDiff,op,q1,OE,hvf,hvz])]
 rw[ay (env':=[some (.f,NS),some (.f,NE),some (.f,.lst AA),some (.f,.lst MM),some (.f,.tup [TN,.lst AA]),some (.f,TO),some (.f,.tup (vs.map D.int)),some (.f,.tup [TO,.lst [.tup [.int (cell ns 8%T),.tup (vs.map D.int),.tup (vs.map D.int)]]])]) (by
  simp only[pv,↓reduceIte,Nat.reduceAdd,Nat.reduceLT,Nat.reduceLeDiff,Nat.reduceEqDiff,op,c8,Qg,Qh])]
 rw[ay (env':=[some (.f,NS),some (.f,NE),some (.f,.lst AA),some (.f,.lst MM),some (.f,.tup [TN,.lst AA]),some (.f,TO),some (.f,.tup (vs.map D.int)),some (.f,.tup [TO,.lst [.tup [.int (cell ns 8%T),.tup (vs.map D.int),.tup (vs.map D.int)]]])]) (by
  simp only[pv,↓reduceIte,Nat.reduceAdd,Nat.reduceLT,Nat.reduceLeDiff,Nat.reduceEqDiff,op,r2,Vs,fD])]
 simp only[pv,↓reduceIte,Nat.reduceAdd,Nat.reduceLT,Nat.reduceLeDiff,Nat.reduceEqDiff,op,hh,he,Ld,A3,A4,fD]
end LW
namespace FIN
open PySem PySem.Spec PyProof.Rows L2 NX PV LW
theorem DH{l:PySem.W.OpenLaw}{w:World}{K:W.Frag}{h:Heap}{mg:Str->Option Value}{fa f:Addr}{od an:Option Addr}{sl:Array (Option Value)}{oc kV dc pm cd ct:Value}(X:K.In h)(G:h.Ns mainGlobals mg)(hfa:mg "law" = some (.ref fa))
  (aL:PySem.W.nsIn K mainGlobals "law" = some (some (.ref f))) (lL:K.lookup f=some ⟨oc,od,.func (PySem.W.fnOf "law" "law" (dt mq) (bU mq) (defScope mq) .none kV dc pm an cd ct),sl⟩) (cL:PySem.W.codeIn K cd "law" = true) (kL:PySem.W.keepIn K (.ref f)=true)
  (IF:Def K mg "states_of" g7) (Jo:Def K mg "goes_to" kc) (HJ:Def K mg "first_marking" dC) (JF:Def K mg "can_go" ma) (J3:Def K mg "moved" pe) (KW:Def K mg "give" uK) (Jp:Def K mg "look_at" ke) (J4:Def K mg "held" qu) (HW:Def K mg "_law_cell_at" dR) (Im:Def K mg "_law_mixed" fU) (Io:Def K mg "_law_names" fV) (IG:Def K mg "_law_step" g8) (IY:Def K mg "_law_run" iW) (IH:Def K mg "_law_fold" g9) (Ip:Def K mg "_law_place" fW) (H0:Def K mg "_law_scaled" eV) (Ia:Def K mg "_law_places" eW) (Iq:Def K mg "_law_moves" fX) (IZ:Def K mg "_law_net" iX) (Ib:Def K mg "_law_others" eX) (HX:Def K mg "_law_renamed" dS) (HY:Def K mg "_law_refused" dU)
  (Hy:PySem.W.nsIn K mainGlobals "ValueError" = some none) (Ki:PySem.W.nsIn K mainGlobals "all" = some none) (Hn:PySem.W.nsIn K mainGlobals "isinstance" = some none) (Hw:PySem.W.nsIn K mainGlobals "len" = some none) (JD:PySem.W.nsIn K mainGlobals "list" = some none) (Jf:PySem.W.nsIn K mainGlobals "max" = some none) (Hr:PySem.W.nsIn K mainGlobals "range" = some none) (Hu:PySem.W.nsIn K mainGlobals "sorted" = some none) (GZ:PySem.W.nsIn K mainGlobals "tuple" = some none) (Jg:PySem.W.nsIn K mainGlobals "zip" = some none) {HF:Addr}(I0:PySem.W.nsIn K mainGlobals "NetError" = some (some (.ref HF))) {Ig:Addr}(JG:PySem.W.nsIn K mainGlobals "NoCase" = some (some (.ref Ig))) {HS:Addr}(Jq:PySem.W.nsIn K mainGlobals "NoChart" = some (some (.ref HS))) {ID:Addr}(J5:PySem.W.nsIn K mainGlobals "NoNet" = some (some (.ref ID))) {IE:Addr}(J6:PySem.W.nsIn K mainGlobals "NoRun" = some (some (.ref IE))) {Hx:Addr}(II:PySem.W.nsIn K mainGlobals "NoStretch" = some (some (.ref Hx))) {Ih:Addr}(JH:PySem.W.nsIn K mainGlobals "NoText" = some (some (.ref Ih))) {GR:Addr}(Hg:PySem.W.nsIn K mainGlobals "OtherMoves" = some (some (.ref GR))) {HG:Addr}(Ja:PySem.W.nsIn K mainGlobals "TooGreat" = some (some (.ref HG))) (Ir:PySem.W.excIn K GR [.type "ValueError",.type "Exception",.type "BaseException",.type "object"] "ValueError.__new__" = true) (GX:PySem.W.kitOne K (.ref GR) (.type "ValueError")=some true) (GL:PySem.W.kitAny K (.ref GR) [.ref Ig,.ref HS,.ref ID,.ref IE,.ref Hx,.ref Ih,.ref HG]=some false) (Hb:PySem.W.kitOne K (.ref GR) (.ref HF)=some true) (Hm:Asks K GR):
  ∃fd:FuncData,(∀(s:Shared) (v:Value),BindsTo s fd ⟨[v],[]⟩ [("_law_script",v)])/\∀base:Heap,K.In base->base.Ns mainGlobals mg->FnOk l.prog w K mg base Li 6 fa fd ["_law_script"] (wR K):=by
 have e:=hfa.symm.trans (Ud X G aL);cases e;have F:=xR (st:=mq) lL cL kL;have J7:=TR X G Hy;have Qi:=TR X G Ki;have J8:=TR X G Hn;have JI:=TR X G Hw;have OF:=TR X G JD;have Nx:=TR X G Jf;have Jh:=TR X G Hr;have JJ:=TR X G Hu;have HM:=TR X G GZ;have Ma:=TR X G Jg;have KY:=Ud X G I0;have Mc:=Ud X G JG;have Ls:=Ud X G Jq;have Nb:=Ud X G J5;have Nd:=Ud X G J6;have Ko:=Ud X G II;have Md:=Ud X G JH;have Nf:=Ud X G Hg;have KZ:=Ud X G Ja;refine⟨PySem.W.fnOf "law" "law" (dt mq) (bU mq) (defScope mq) .none kV dc pm an cd ct,fun s v=>.of_eq rfl,fun base KB GB=>?_⟩;have Ji:NN mg base "OtherMoves" GR:=⟨_,_,_,_,PySem.F.excBase_ValueError,BV KB GB Hg Ir⟩
 have Kp:Ct l.prog w K mg base "states_of" 1 (spF K b6):=oi IF Nx;have Lu:Ct l.prog w K mg base "goes_to" 1 (spF K eC):=rJ Jo;have Jw:Ct l.prog w K mg base "first_marking" 1 (spF K bH):=jw HJ HM;have Me:Ct l.prog w K mg base "can_go" 1 (spF K gA):=uJ JF Qi Ma;have Ng:Ct l.prog w K mg base "moved" 2 (spF K iU):=xf J3 Me HM Ma;have vo:Ct l.prog w K mg base "give" 1 (spM K (.d) j8):=Ah KW;have Lv:Ct l.prog w K mg base "look_at" 3 (spJ 2 K (.d) dg):=rK Jp vo Lu Ng JI;have Mf:Ct l.prog w K mg base "held" 4 (spF K iq):=Ai J4 Jw Lv Kp JI OF Jh;have Nh:=xg (P:=l.prog) (w:=w) (K:=K) (mg:=mg) (base:=base) J4 Ji;have Hz:Ct l.prog w K mg base "_law_cell_at" 1 (spF K aw):=kh HW JI;have HN:Ct l.prog w K mg base "_law_mixed" 1 (spF K aR):=me Im;have Jj:Ct l.prog w K mg base "_law_names" 2 (spF K bJ):=mf Io HN Jh JJ;have Kq:Ct l.prog w K mg base "_law_step" 1 (spF K cG):=om IG HM Ma;have JK:Ct l.prog w K mg base "_law_run" 2 (spF K br):=pg IY Kq JI JJ HM;have Kr:Ct l.prog w K mg base "_law_fold" 2 (spF K cX):=oq IH HN;have J9:Ct l.prog w K mg base "_law_place" 2 (spF K cJ):=ml Ip HN Nx Jh;have JU:Ct l.prog w K mg base "_law_scaled" 1 (spF K bM):=kI H0 HM;have JV:Ct l.prog w K mg base "_law_places" 3 (spF K cq):=kJ Ia Hz Kr J9 JU Jh;have Ka:Ct l.prog w K mg base "_law_moves" 3 (spF K cK):=mn Iq Hz Jj HM;have K0:Ct l.prog w K mg base "_law_net" 4 (spF K cY):=ph IZ Ka JV JK JI HM;have JW:Ct l.prog w K mg base "_law_others" 3 (spF K cu):=kK Ib Hz HN Jj JI JJ HM;have JL:Ct l.prog w K mg base "_law_renamed" 1 (spF K bQ):=ki HX;have JM:Ct l.prog w K mg base "_law_refused" 5 (spF K bh):=kj HY Nh Mf KY Mc Ls Nb Nd Ko Md KZ GX GL Hb Hm Ji J7 J8;exact(CP F Hz K0 JW JM JL JK Mf JI Jh HM).imp (Ci vF)
end FIN
def PySem.W.Fast.tw14917642960342985296:=0
def PySem.W.Fast.tw5258098737033598934:=0
def PySem.W.Fast.tw18293481962175958581:=0
def PySem.W.Fast.tw17011939135236291896:=0
def PySem.W.Fast.tw15217600566926380082:=0
def PySem.W.Fast.tw15538239799234738241:=0
def PySem.W.Fast.tw18217408972169211813:=0
def PySem.W.Fast.tw15567981943314710330:=0
def PySem.W.Fast.tw3892696667885067430:=0
def PySem.W.Fast.tw15204192428722504954:=0
def PySem.W.Fast.tw13436081805266094510:=0
def PySem.W.Fast.tw7197412856134689630:=0
def PySem.W.Fast.tw5171165556821982995:=0
def PySem.W.Fast.tw918991269751828793:=0
def PySem.W.Fast.tw17572701315711486803:=0
def PySem.W.Fast.tw14960302162248605212:=0
def PySem.W.Fast.tw2864392102001946308:=0
def PySem.W.Fast.tw5469414851398138836:=0
def PySem.W.Fast.tw3830959175714140901:=0
def PySem.W.Fast.tw5826645340394045100:=0
def PySem.W.Fast.tw9681677611412366094:=0
def PySem.W.Fast.tw7544054248632866277:=0
def PySem.W.Fast.tw6127864159765644548:=0
def PySem.W.Fast.tw5234998919269735818:=0
def PySem.W.Fast.tw15378341826241880616:=0
def PySem.W.Fast.tw2658333039233733303:=0
def PySem.W.Fast.tw11656818528838533306:=0
def PySem.W.Fast.tw11178621171893950445:=0
def PySem.W.Fast.tw10440599104352027712:=0
def PySem.W.Fast.tw11666511726963473726:=0
def PySem.W.Fast.tw10936299992470149648:=0
def PySem.W.Fast.tw18002194933491243924:=0
def PySem.W.Fast.tw10526516789675661951:=0
def PySem.W.Fast.tw921250343405240185:=0
def PySem.W.Fast.tw5793219722820735377:=0
def PySem.W.Fast.tw17783130369321736935:=0
def PySem.W.Fast.tw9151952006105273127:=0
def PySem.W.Fast.tw2946516698936550643:=0
def PySem.W.Fast.tw2717422836214764851:=0
open PySem PySem.W PyProof.Rows
set_option maxRecDepth 100000 in
set_option maxHeartbeats 0 in
theorem PySem.Challenge.cw_netfinder_k28_other_moves_holds : PySem.Challenge.rw_netfinder_k28_other_moves.Holds := by
  w_on; o_law; k_head; (case hw => w_witness2)
  k_fill
  refine PV.walk (l := PySem.Challenge.rw_netfinder_k28_other_moves) (k := 6) (x := "_law_script") rfl rfl ⟨rfl, by decide, by decide⟩ (fun w h Y => PySem.W.kIn_of Y) ?F
  case F =>
    intro w mg fa h KX G O4
    refine' FIN.DH KX G O4 ?aL ?lL ?cL ?kL ?IF ?Jo ?HJ ?JF ?J3 ?KW ?Jp ?J4 ?HW ?Im ?Io ?IG ?IY ?IH ?Ip ?H0 ?Ia ?Iq ?IZ ?Ib ?HX ?HY ?Hy ?Ki ?Hn ?Hw ?JD ?Jf ?Hr ?Hu ?GZ ?Jg ?I0 ?JG ?Jq ?J5 ?J6 ?II ?JH ?Hg ?Ja ?Ir ?GX ?GL ?Hb ?Hm
    (case aL => k_is); (case lL => k_is); (case cL => k_is); (case kL => k_is)
    (case IF => (refine' PV.cw KX G ?a ?l ?c ?k; (case a => k_is); (case l => k_is); (case c => k_is); (case k => k_is)))
    (case Jo => (refine' PV.cw KX G ?a ?l ?c ?k; (case a => k_is); (case l => k_is); (case c => k_is); (case k => k_is)))
    (case HJ => (refine' PV.cw KX G ?a ?l ?c ?k; (case a => k_is); (case l => k_is); (case c => k_is); (case k => k_is)))
    (case JF => (refine' PV.cw KX G ?a ?l ?c ?k; (case a => k_is); (case l => k_is); (case c => k_is); (case k => k_is)))
    (case J3 => (refine' PV.cw KX G ?a ?l ?c ?k; (case a => k_is); (case l => k_is); (case c => k_is); (case k => k_is)))
    (case KW => (refine' PV.cw KX G ?a ?l ?c ?k; (case a => k_is); (case l => k_is); (case c => k_is); (case k => k_is)))
    (case Jp => (refine' PV.cw KX G ?a ?l ?c ?k; (case a => k_is); (case l => k_is); (case c => k_is); (case k => k_is)))
    (case J4 => (refine' PV.cw KX G ?a ?l ?c ?k; (case a => k_is); (case l => k_is); (case c => k_is); (case k => k_is)))
    (case HW => (refine' PV.cw KX G ?a ?l ?c ?k; (case a => k_is); (case l => k_is); (case c => k_is); (case k => k_is)))
    (case Im => (refine' PV.cw KX G ?a ?l ?c ?k; (case a => k_is); (case l => k_is); (case c => k_is); (case k => k_is)))
    (case Io => (refine' PV.cw KX G ?a ?l ?c ?k; (case a => k_is); (case l => k_is); (case c => k_is); (case k => k_is)))
    (case IG => (refine' PV.cw KX G ?a ?l ?c ?k; (case a => k_is); (case l => k_is); (case c => k_is); (case k => k_is)))
    (case IY => (refine' PV.cw KX G ?a ?l ?c ?k; (case a => k_is); (case l => k_is); (case c => k_is); (case k => k_is)))
    (case IH => (refine' PV.cw KX G ?a ?l ?c ?k; (case a => k_is); (case l => k_is); (case c => k_is); (case k => k_is)))
    (case Ip => (refine' PV.cw KX G ?a ?l ?c ?k; (case a => k_is); (case l => k_is); (case c => k_is); (case k => k_is)))
    (case H0 => (refine' PV.cw KX G ?a ?l ?c ?k; (case a => k_is); (case l => k_is); (case c => k_is); (case k => k_is)))
    (case Ia => (refine' PV.cw KX G ?a ?l ?c ?k; (case a => k_is); (case l => k_is); (case c => k_is); (case k => k_is)))
    (case Iq => (refine' PV.cw KX G ?a ?l ?c ?k; (case a => k_is); (case l => k_is); (case c => k_is); (case k => k_is)))
    (case IZ => (refine' PV.cw KX G ?a ?l ?c ?k; (case a => k_is); (case l => k_is); (case c => k_is); (case k => k_is)))
    (case Ib => (refine' PV.cw KX G ?a ?l ?c ?k; (case a => k_is); (case l => k_is); (case c => k_is); (case k => k_is)))
    (case HX => (refine' PV.cw KX G ?a ?l ?c ?k; (case a => k_is); (case l => k_is); (case c => k_is); (case k => k_is)))
    (case HY => (refine' PV.cw KX G ?a ?l ?c ?k; (case a => k_is); (case l => k_is); (case c => k_is); (case k => k_is)))
    (case Hy => k_is)
    (case Ki => k_is)
    (case Hn => k_is)
    (case Hw => k_is)
    (case JD => k_is)
    (case Jf => k_is)
    (case Hr => k_is)
    (case Hu => k_is)
    (case GZ => k_is)
    (case Jg => k_is)
    (case I0 => k_is)
    (case JG => k_is)
    (case Jq => k_is)
    (case J5 => k_is)
    (case J6 => k_is)
    (case II => k_is)
    (case JH => k_is)
    (case Hg => k_is)
    (case Ja => k_is)
    (case Ir => k_exc)
    (case GX => kit_is)
    (case GL => kit_is)
    (case Hb => kit_is)
    (case Hm => (refine' NX.Asks.mk ?a ?b ?c ?d ?e ?f ?g ?h; (case a => k_is); (case b => k_is); (case c => k_is); (case d => k_is); (case e => k_is); (case f => k_is); (case g => k_is); (case h => k_is)))
