import PyProof.Rows.All
import Wide.All
import OpenK.AllK
import Wide.FinOn
import Lean
import PyProof.EqAt
import PyProof.EqKinds
import PyProof.TupleCall
import PySem.Challenge.RW_netfinder_k25_runs_held
set_option Elab.async false
set_option linter.all false
set_option maxRecDepth 100000
set_option compiler.extract_closed false
set_option bootstrap.genMatcherCode false
noncomputable section
theorem Zz{a b:Prop}(x:a)(y:b):a∧b:=⟨x,y⟩
def Q1:=@PySem.wpAny_bind
def Q2:=@List.mem_cons_self
def Q3:=@List.length_map
def Q4:=@List.size_toArray
def Q5:=@List.mem_append_right
def Q6:=@PySem.wpAny_pure
def Q7:=@List.mem_cons_of_mem
def Q8:=@Nat.le_refl
def Q9:=@List.mem_append_left
def Rb:=@if_pos
def Rc:=@Bool.false_ne_true
def Rf:=@PySem.Heap.lt_size
def Rg:=@if_neg
def Rh:=@Bool.and_eq_true
def Ri:=@List.mem_cons
def Rj:=@Nat.lt_of_lt_of_le
def Rk:=@List.length_cons
def Rl:=@List.map_cons
def Ro:=@decide_eq_true_eq
def Rp:=@Nat.ne_of_lt
def Rq:=@List.map_map
def Rr:=@List.length_range
def Rt:=@Option.some.inj
def Ru:=@List.append_nil
def Rv:=@List.nodup_append
def Rw:=@List.map_append
def Rx:=@List.nodup_cons
def Ry:=@List.mem_singleton
def Rz:=@List.mem_of_getElem?
def RA:=@List.mem_append
def RB:=@Nat.le_trans
def RC:=@List.length_append
def RD:=@List.all_eq_true
def RE:=@Int.eq_ofNat_of_zero_le
def RF:=@decide_eq_false
def RG:=@Bool.eq_iff_iff
def RH:=@Option.map_eq_some_iff
def RI:=@List.length_singleton
def RJ:=@decide_eq_true
def RK:=@List.append_assoc
def RL:=@List.mem_range
def RM:=@Nat.zero_le
def RN:=@List.length_set
def RO:=@beq_iff_eq
def RP:=@Int.toNat_natCast
def RQ:=@PySem.W.mg_none_of
def RS:=@List.map_nil
def RT:=@List.eq_nil_of_length_eq_zero
def RU:=@PySem.PassesOwn.never
def RV:=@PySem.wpAny_newObj_type
def RW:=@List.mem_map
def RX:=@List.length_take
def RY:=@PySem.wpAny_call_entry
def RZ:=@decide_eq_false_iff_not
def R0:=@PySem.sizeLine_eq
def R1:=@List.lookup_cons
def R3:=@beq_eq_false_iff_ne
def R4:=@Array.length_toList
def R5:=@List.map_congr_left
def R6:=@Option.isSome_iff_exists
def R7:=@congrArg
def R8:=@PySem.wpAny_seqItems
def R9:=@PySem.wpAny_field
def Sa:=@List.length_nil
def Sb:=@Option.bind_eq_some_iff
def Sd:=@List.idxOf_lt_length_of_mem
def Se:=@List.not_mem_nil
def Sg:=@PyProof.Rows.slot_tuple_getitem
def Sh:=@List.replicate_succ
def Si:=@List.mem_iff_getElem?
def Sj:=@List.set_set
def Sk:=@Bool.false_eq_true
def Sl:=@List.zip_cons_cons
def Sm:=@beq_self_eq_true
def Sn:=@PySem.wpAny_typeNameOfWhole_keyiter
def Sq:=@List.any_eq_true
def Sr:=@PySem.F.slot_dict_keyiterator_next
def Ss:=@Bool.and_self
def Su:=@List.all_map
def Sv:=@PySem.wpAny_truthy_bool
def Sw:=@List.flatten_cons
def Sy:=@PySem.mem_of_lookup
def Sz:=@PyProof.Rows.KeyOrd.kle_refl
def SA:=@PySem.W.kia_one
def SD:=@List.take_of_length_le
def SE:=@Ne.symm
def SF:=@PySem.F.slot_tuple_iterator_next
def SG:=@PySem.F.plain_max_loop
def SH:=@List.cons_append
def SI:=@PySem.wpAny_pyIter_tuple
def SJ:=@PySem.wpAny_holding
def SK:=@PySem.wpAny_setField_rec
def SM:=@List.nodup_nil
def SN:=@PySem.wpAny_passesOwn
def SO:=@PySem.wpAny_pyIter_list
def SQ:=@List.of_mem_zip
def SR:=@PySem.F.slot_tuple_index
def SS:=@List.filterMap_cons_none
def SU:=@List.filterMap_cons_some
def SV:=@decide_false
def SW:=@Nat.lt_irrefl
def SX:=@List.cons.inj
def SY:=@PySem.F.plainAttrs_list
def S1:=@Bool.and_true
def S2:=@Bool.not_true
def S3:=@Option.getD_none
def S4:=@Nat.lt_succ_self
def S5:=@PySem.Heap.size_push
def S6:=@PySem.wpAny_Call_Name_kw
def S7:=@List.pairwise_cons
def S8:=@List.mem_filter
def S9:=@PyProof.Rows.callWith_type1
def Ta:=@List.foldl_cons
def Tb:=@Nat.le_succ
def Tc:=@List.nil_append
def Td:=@List.ext_getElem?
def Te:=@List.all_cons
def Tf:=@List.nodup_iff_pairwise_ne
def Tg:=@PySem.Calls.call_function_entry
def Th:=@List.pairwise_iff_getElem
def Ti:=@List.drop_eq_getElem_cons
def Tj:=@Bool.not_false
def Tn:=@List.length_drop
def To:=@List.getElem_mem
def Tp:=@PySem.wpAny_letGo
def Tq:=@PySem.Heap.SameBut.update
def Tr:=@decide_true
def Ts:=@PySem.wpAny_mono
def Tt:=@PySem.F.args_tuple_add_2
def Tu:=@PySem.wpAny_typeOf
def Tv:=@List.any_map
def Tw:=@PySem.F.type_tuple_index
def Tx:=@PySem.F.entry_tuple_add
def Tz:=@PySem.Obj.data_mapFields
def TB:=@PySem.tupleKind_room_in1
def TC:=@List.length_zip
def TF:=@PySem.F.slot_list_index
def TH:=@List.findIdx_lt_length_of_exists
def TJ:=@PySem.F.slot_tuple_add
def TK:=@PySem.Calls.callWith_builtin
def TL:=@if_true
def TM:=@of_decide_eq_true
def TN:=@PyProof.Rows.KeyOrd.kle_of_klt
def TQ:=@PySem.wpAny_dictEntries
def TR:=@List.pairwise_map
def TU:=@PySem.wpAny_tryCatch
def TV:=@PySem.F.args_dict_keyiterator_next_1
def TY:=@Option.getD_some
def TZ:=@PyProof.Rows.KeyOrd.kle_trans
def T3:=@PySem.F.entry_dict_keyiterator_next
def T4:=@PySem.Around.under_plainId
def T5:=@PySem.wpAny_updateSeq_pair
def T6:=@List.findIdx_getElem
def T7:=@PySem.Paired.length
def T8:=@if_false
def T9:=@PySem.F.args_tuple_iterator_next_1
def Ua:=@List.dropLast_cons_of_ne_nil
def Ub:=@List.filterMap_cons
def Uc:=@PySem.wpAny_execs_nil
def Ud:=@List.toList_toArray
def Ue:=@List.getElem_of_mem
def Ug:=@PySem.F.entry_tuple_iterator_next
def Uh:=@PySem.F.slot_zip_next
def Ui:=@Array.getD_eq_getD_getElem?
def Uj:=@Nat.min_eq_left
def Uk:=@Int.natCast_add
def Ul:=@PySem.Calls.Name_function_global
def Um:=@List.mem_filterMap
def Uo:=@List.getElem_range
def Up:=@Int.cast_ofNat_Int
def Uq:=@Bool.false_and
def Ur:=@PySem.wpAny_setField
def Us:=@Bool.and_false
def Ut:=@List.take_sublist
def Uu:=@PySem.wpAny_getItem_list_slice
def Uv:=@bne_self_eq_false
def Uw:=@PySem.wpAny_comprehension_free
def Ux:=@Nat.lt_succ_of_lt
def Uy:=@Option.isSome_map
def Uz:=@PySem.AutoSeq1.sub_tuple_tuple
def UA:=@List.length_erase_of_mem
def UB:=@Option.some.injEq
def UC:=@PySem.plainId_quiet
def UD:=@PySem.wpAny_onRaise
def UE:=@PySem.wpAny_attempt
def UG:=@List.not_lt
def UH:=@PySem.F.slot_list_clear
def UI:=@PySem.F.type_list_clear
def UJ:=@PySem.F.type_list_index
def UK:=@PySem.noFill_tuple_add
def UL:=@PySem.F.entry_max_loop
def UM:=@PySem.wpAny_forIn_list
def UN:=@List.drop_length
def UO:=@List.cons_ne_nil
def UP:=@PySem.W.cellsFrom_some
def UU:=@List.Perm.append_right
def UW:=@List.range_succ_eq_map
def UX:=@List.drop_eq_nil_of_le
def UY:=@List.length_pos_of_mem
def UZ:=@Nat.le_of_lt
def U1:=@PySem.concat_meets
def U2:=@List.forIn_cons
def U3:=@Bool.or_eq_true
def U4:=@PySem.codeAny_builtin
def U5:=@PySem.wpAny_updateSeq
def U7:=@PySem.wpAny_dictEpoch
def U9:=@List.Perm.append_left
def Va:=@List.perm_append_comm
def Vb:=@Classical.choose_spec
def Vc:=@Nat.sub_self
def Vd:=@PySem.typeIs_str
def Ve:=@PySem.typeIs_int
def Vf:=@PySem.call_meets
def Vg:=@PySem.wpAny_rule
def Vk:=@List.getElem_toArray
def Vl:=@List.mem_of_mem_take
def Vm:=@List.drop_zero
def Vn:=@List.take_zero
def Vr:=@List.take_succ_cons
def Vs:=@List.drop_succ_cons
def Vv:=@PySem.wpAny_standAt
def Vx:=@PySem.seq_tuple_add
def VB:=@PySem.wpAny_newList
def VC:=@of_decide_eq_false
def VD:=@List.any_cons
def VE:=@List.sum_cons
def VF:=@Int.emod_lt_of_pos
def VG:=@List.map_take
def VH:=@Bool.true_and
def VI:=@Option.isNone_some
def VX:=@Nat.ne_of_gt
def V1:=@Nat.mul_comm
def V2:=@Nat.zero_add
def Wl:=@or_false
def Wy:=@Int.le_refl
def W5:=@bne_iff_ne
namespace L2
open PySem PySem.Spec PyProof.Rows
def IsTupN(h:Heap)(a:Addr)(items:Array Value):Prop:=∃o,h.get? a=some o/\o.cls=.type "tuple"/\(∃n,o.data=.seq items n)/\o.dict=none
theorem IsTupN.tup{h:Heap}{a:Addr}{items:Array Value}(p:IsTupN h a items):IsTup h a items:=by
 obtain⟨o,e,c,n,_⟩:=p;exact⟨o,e,c,n⟩
theorem IsTupN.new(h:Heap)(items:Array Value):IsTupN (h.push {cls:=.type "tuple",data:=.seq items}) h.objs.size items:=⟨_,Heap.get?_push_size _ rfl,rfl,⟨_,rfl⟩,rfl⟩
abbrev Key:=Sum Int Str
def oA:Key->Value->Bool
 | .inl k,v=>Value.isInt k v
 | .inr x,v=>Value.isStrOf x v
def EL(w:World):Key->Int
 | .inl k=>hashInt k
 | .inr x=>hashStr w x
theorem bI:∀{k:Key}{v:Value},oA k v=true->(∃i t,k=Sum.inl i/\v=Value.int i t)\/(∃x t,k=Sum.inr x/\v=Value.str x t)
 | .inl i,v,h=>by
  obtain⟨t,e⟩:=Value.isInt_shape (k:=i) (v:=v) h;exact .inl ⟨i,t,rfl,e⟩
 | .inr x,v,h=>by
  obtain⟨t,e⟩:=Value.isStrOf_shape (x:=x) (v:=v) h;exact .inr ⟨x,t,rfl,e⟩
theorem rJ(i:Int)(t:Tok):oA (.inl i) (.int i t)=true:=by simp[oA,Value.isInt]
theorem rK(x:Str)(t:Tok):oA (.inr x) (.str x t)=true:=by simp[oA,Value.isStrOf]
theorem AB(a b:Int):decide ((Sum.inl a:Key)=Sum.inl b)=(a==b):=by
 by_cases e:a=b
 ·subst e;simp
 ·have h:¬ (Sum.inl a:Key)=Sum.inl b:=fun q=>e (Sum.inl.inj q)
  rw[RF h];exact(R3.mpr e).symm
theorem AD(a b:Str):decide ((Sum.inr a:Key)=Sum.inr b)=decide (a=b):=by
 by_cases e:a=b
 ·subst e;simp
 ·have h:¬ (Sum.inr a:Key)=Sum.inr b:=fun q=>e (Sum.inr.inj q)
  rw[RF h,RF e]
theorem AE(a:Int)(b:Str):decide ((Sum.inl a:Key)=Sum.inr b)=false:=RF (fun q=>nomatch q)
theorem AF(a:Str)(b:Int):decide ((Sum.inr a:Key)=Sum.inl b)=false:=RF (fun q=>nomatch q)
noncomputable def mixKind(prog:Program)(w:World):PySem.KeyKind prog w Key where
 is:=oA
 hash:=EL w
 inj:=fun v a b ha hb=>by
  rcases bI ha with⟨i,t,rfl,rfl⟩|⟨x,t,rfl,rfl⟩
  ·rcases bI hb with⟨j,u,rfl,e⟩|⟨y,u,rfl,e⟩
   ·injection e with e1 _;rw[e1]
   ·exact nomatch e
  ·rcases bI hb with⟨j,u,rfl,e⟩|⟨y,u,rfl,e⟩
   ·exact nomatch e
   ·injection e with e1 _;rw[e1]
 byValue:=fun k v h=>by
  rcases bI h with⟨i,t,rfl,rfl⟩|⟨x,t,rfl,rfl⟩ <;> rfl
 pyHash:=fun hv h=>by
  rcases bI hv with⟨i,t,rfl,rfl⟩|⟨x,t,rfl,rfl⟩
  ·exact wpAny_pyHash_int h
  ·exact wpAny_pyHash_str h
 eqBool:=fun hu hv h=>by
  rcases bI hu with⟨i,t,rfl,rfl⟩|⟨x,t,rfl,rfl⟩
  ·rcases bI hv with⟨j,u,rfl,rfl⟩|⟨y,u,rfl,rfl⟩
   ·rw[AB]at h;exact wpAny_eqBool_int h
   ·rw[AE]at h;exact SeqAt.EqAt.int_str i t y u _ _ _ _ h
  ·rcases bI hv with⟨j,u,rfl,rfl⟩|⟨y,u,rfl,rfl⟩
   ·rw[AF]at h;exact SeqAt.EqAt.str_int x t j u _ _ _ _ h
   ·rw[AD]at h;exact wpAny_eqBool_str h
 «strs»:=fun k x t v h=>by
  rcases bI h with⟨i,u,rfl,e⟩|⟨y,u,rfl,e⟩
  ·exact nomatch e
  ·injection e with e1 _;subst e1;cases v <;> rfl
theorem qz(prog:Program)(w:World)(k:Key)(v:Value):(mixKind prog w).is k v=oA k v:=rfl
theorem oB(prog:Program)(w:World)(i:Int)(t:Tok):(mixKind prog w).is (.inl i) (.int i t)=true:=rJ i t
theorem oC(prog:Program)(w:World)(x:Str)(t:Tok):(mixKind prog w).is (.inr x) (.str x t)=true:=rK x t
inductive V where
 |non|bl (b:Bool)|int (i:Int)|str (x:Str)|byt (b:Array UInt8)|flt (b:UInt64)|ref (a:Addr)|ty (n:String)
 deriving DecidableEq
noncomputable def RelV:V->Value->Prop
 | .non,u=>u=Value.none
 | .bl b,u=>u=Value.bool b
 | .int i,u=>∃t,u=Value.int i t
 | .str x,u=>∃t,u=Value.str x t
 | .byt b,u=>∃t,u=Value.bytes b t
 | .flt b,u=>∃t,u=Value.float b t
 | .ref a,u=>u=Value.ref a
 | .ty n,u=>u=Value.type n
abbrev Vals:List V->List Value->Prop:=Paired RelV
theorem Vals.length{xs:List V}{us:List Value}(r:Vals xs us):xs.length=us.length:=T7 r
theorem Vals.get:∀{xs:List V}{us:List Value}{i:Nat}{x:V},Vals xs us->xs[i]?=some x->∃u,us[i]?=some u/\RelV x u
 |_,_,_,_,.nil,e=>by simp at e
 |_,_,0,_,.cons r _,e=>by simp at e;subst e;exact⟨_,rfl,r⟩
 |_,_,i+1,x,.cons _ t,e=>by
  obtain⟨u,h1,h2⟩:=Vals.get (i:=i) (x:=x) t (by simpa using e);exact⟨u,by simpa using h1,h2⟩
theorem Vals.set{x:V}{u:Value}(r:RelV x u):∀{xs:List V}{us:List Value}(i:Nat),Vals xs us->Vals (xs.set i x) (us.set i u)
 |_,_,_,.nil=>.nil
 |_,_,0,.cons _ t=>.cons r t
 |_,_,i+1,.cons q t=>.cons q (Vals.set r i t)
theorem Vals.append:∀{xs ys:List V}{us ws:List Value},Vals xs us->Vals ys ws->Vals (xs++ys) (us++ws)
 |_,_,_,_,.nil,s=>s
 |_,_,_,_,.cons r t,s=>.cons r (Vals.append t s)
theorem Vals.take:∀{xs:List V}{us:List Value}(n:Nat),Vals xs us->Vals (xs.take n) (us.take n)
 |_,_,0,_=>.nil
 |_,_,_+1,.nil=>.nil
 |_,_,n+1,.cons r t=>.cons r (Vals.take n t)
theorem Vals.drop:∀{xs:List V}{us:List Value}(n:Nat),Vals xs us->Vals (xs.drop n) (us.drop n)
 |_,_,0,r=>r
 |_,_,_+1,.nil=>.nil
 |_,_,n+1,.cons _ t=>Vals.drop n t
theorem Vals.none_of:∀{xs:List V}{us:List Value}{i:Nat},Vals xs us->xs[i]?=none->us[i]?=none:=fun{xs us i} r e=>by
 have h1:=r.length;have h2:xs.length<=i:=List.getElem?_eq_none_iff.mp e;exact List.getElem?_eq_none_iff.mpr (by lia)
def RelO:Option V->Option Value->Prop
 |some v,some u=>RelV v u
 |none,none=>True
 |_,_=>False
def KV{κ:Type}:List (κ×V)->List (κ×Value)->Prop:=Paired fun(p:κ×V) (q:κ×Value)=>p.1=q.1/\RelV p.2 q.2
def kV:Key->V
 | .inl i=>.int i
 | .inr x=>.str x
inductive HO where
 |lst (xs:List V)
 |tup (xs:List V)
 |dK (kvs:List (Key×V))|dT (kvs:List (List Key×V))
 |set (S:Int->Bool) (n:Nat)
 |ins (C dx:Addr) (fs:List (Str×V))
 |own (x:Addr)
 |xd (fs:List (Str×V))
 |met (f x:Addr)
 |rng (lo hi:Int)
 |frz (o:Obj) (u:HO)
 |tbl (ps:Array Value)
 |ext (φ:Heap->Prop)
abbrev Hp:=Addr->Option HO
def upd(H:Hp)(a:Addr)(o:HO):Hp:=fun b=>if b=a then some o else H b
theorem aM{H:Hp}{a:Addr}{o:HO}:upd H a o a=some o:=by unfold upd;rw[Rb rfl]
theorem av{H:Hp}{a b:Addr}{o:HO}(h:b≠a):upd H a o b=H b:=by unfold upd;rw[Rg h]
theorem Dc{H:Hp}{a b:Addr}{o u:HO}(h:H a=some o)(h':H b=some u)(d:o≠u):a≠b:=by
 intro e;subst e;rw[h]at h';exact d (Rt h')
theorem aT{H:Hp}{a b:Addr}{o:HO}(h:H a=some o)(h':H b=none):a≠b:=by
 intro e;subst e;rw[h]at h';cases h'
section
variable(P:Program)(w:World)
noncomputable def ObjOk(H:Hp)(h:Heap)(a:Addr):HO->Prop
 | .lst xs=>xs.length<=sizeLine/\∃(F1:List Value) (n:Nat),Vals xs F1/\h.get? a=some {cls:=.type "list",data:=.seq F1.toArray n}
 | .tup xs=>xs.length<=sizeLine/\∃F1:List Value,Vals xs F1/\IsTupN h a F1.toArray
 | .dK kvs=>kvs.length<=sizeLine/\(a==sysModules)=false/\∃vs,KV kvs vs/\h.DictOf (mixKind P w) a vs
 | .dT kvs=>kvs.length<=sizeLine/\(a==sysModules)=false/\∃xs:List (List Key×Addr×Value),
   Paired (fun(p:List Key×V) (q:List Key×Addr×Value)=>p.1=q.1/\H q.2.1=some (.tup (p.1.map kV))/\RelV p.2 q.2.2) kvs xs/\
   ∃o es ep,h.get? a=some o/\o.ExactDict/\o.data=.dict es ep/\es.toList=xs.map (entryOfKey (tupleKind (mixKind P w)))/\(xs.map (·.1)).Nodup
 | .set S n=>h.SetOf (intKind P w) a S n
 | .ins C dx fs=>H dx=some (.own a)/\fs.length<=1000/\dx≠a/\h.get? a=some (PySem.W.instObj C dx)/\
   ∃mA,h.Ns1 dx mA/\(∀f,RelO (fs.lookup f) (mA f))/\PySem.Within mA (fs.map (·.1))
 | .own _=>∃o,h.get? a=some o
 | .xd fs=>∃mA,h.Ns1 a mA/\∀f,RelO (fs.lookup f) (mA f)
 | .rng lo hi=>∃t u v,h.get? a=some {cls:=.type "range",data:=.fields #[.int lo t,.int hi u,.int 1 v]}
 | .frz o u=>h.get? a=some o/\ObjOk H h a u
 | .tbl ps=>h.get? a=some {cls:=.none,data:=.fields ps}
 | .met f x=>h.get? a=some (PySem.W.methodObj (.ref f) (.ref x))
 | .ext φ=>φ h/\(∃o,h.get? a=some o)/\∀h1 h2:Heap,φ h1->(∀o,h1.get? a=some o->h2.get? a=some o)->φ h2
def HOk(H:Hp)(h:Heap):Prop:=∀a o,H a=some o->ObjOk P w H h a o
end
section
variable{P:Program}{w:World}{H H':Hp}{h h':Heap}{a:Addr}{o:HO}
theorem ObjOk.lt(x:ObjOk P w H h a o):a<h.objs.size:=by
 cases o with
 |lst xs=>obtain⟨_,_,_,_,e⟩:=x;exact Rf e
 |tup xs=>obtain⟨_,_,_,p⟩:=x;exact p.tup.lt
 |dK kvs=>obtain⟨_,_,_,_,o,_,_,e,_⟩:=x;exact Rf e
 |dT kvs=>obtain⟨_,_,_,_,o,_,_,e,_⟩:=x;exact Rf e
 |set S n=>obtain⟨o,_,_,_,e,_⟩:=x;exact Rf e
 |ins C dx fs=>obtain⟨_,_,_,e,_⟩:=x;exact Rf e
 |own y=>obtain⟨_,e⟩:=x;exact Rf e
 |xd fs=>obtain⟨_,⟨_,_,_,e,_⟩,_⟩:=x;exact Rf e
 |rng lo hi=>obtain⟨_,_,_,e⟩:=x;exact Rf e
 |frz ob u=>obtain⟨e,_⟩:=x;exact Rf e
 |tbl ps=>exact Rf (show h.get? a=some _ from x)
 |met f y=>exact Rf (show h.get? a=some _ from x)
 |ext φ=>obtain⟨_,⟨_,e⟩,_⟩:=x;exact Rf e
theorem Paired.mapP{α β:Type}{F G:α->β->Prop}:∀{l₁:List α}{l₂:List β},Paired F l₁ l₂->(∀a b,F a b->G a b)->Paired G l₁ l₂
 |_,_,.nil,_=>.nil
 |_,_,.cons r t,f=>.cons (f _ _ r) (Paired.mapP t f)
theorem ObjOk.stay(x:ObjOk P w H h a o)(k:∀b u,(b=a\/H b=some (.own a))->h.get? b=some u->h'.get? b=some u)
  (ho:∀b,H b=some (.own a)->H' b=some (.own a)) (ht:∀b xs,H b=some (.tup xs)->H' b=some (.tup xs)):ObjOk P w H' h' a o:=by
 induction o with
 |lst xs=>obtain⟨z,F1,n,r,e⟩:=x;exact⟨z,F1,n,r,k _ _ (.inl rfl) e⟩
 |tup xs=>obtain⟨z,F1,r,ob,e,c⟩:=x;exact⟨z,F1,r,ob,k _ _ (.inl rfl) e,c⟩
 |dK kvs=>obtain⟨z,y,vs,r,ob,es,ep,e,c⟩:=x;exact⟨z,y,vs,r,ob,es,ep,k _ _ (.inl rfl) e,c⟩
 |dT kvs=>
  obtain⟨z,y,xs,r,ob,es,ep,e,c⟩:=x;exact⟨z,y,xs,Paired.mapP r fun p q z=>⟨z.1,ht _ _ z.2.1,z.2.2⟩,ob,es,ep,k _ _ (.inl rfl) e,c⟩
 |set S n=>obtain⟨ob,es,ep,t,e,c⟩:=x;exact⟨ob,es,ep,t,k _ _ (.inl rfl) e,c⟩
 |ins C dx fs=>
  obtain⟨d,z,ne,e,mA,⟨od,es,ep,e2,c⟩,r⟩:=x;exact⟨ho _ d,z,ne,k _ _ (.inl rfl) e,mA,⟨od,es,ep,k _ _ (.inr d) e2,c⟩,r⟩
 |own y=>obtain⟨ob,e⟩:=x;exact⟨ob,k _ _ (.inl rfl) e⟩
 |xd fs=>obtain⟨mA,⟨od,es,ep,e,c⟩,r⟩:=x;exact⟨mA,⟨od,es,ep,k _ _ (.inl rfl) e,c⟩,r⟩
 |rng lo hi=>obtain⟨t,u,v,e⟩:=x;exact⟨t,u,v,k _ _ (.inl rfl) e⟩
 |frz ob u ih=>obtain⟨e,q⟩:=x;exact⟨k _ _ (.inl rfl) e,ih q⟩
 |tbl ps=>
  have e:h.get? a=some {cls:=.none,data:=.fields ps}:=x;show h'.get? a=some {cls:=.none,data:=.fields ps};exact k a _ (.inl rfl) e
 |met f y=>
  have e:h.get? a=some (PySem.W.methodObj (.ref f) (.ref y)):=x;show h'.get? a=some (PySem.W.methodObj (.ref f) (.ref y));exact k a _ (.inl rfl) e
 |ext φ=>obtain⟨p,⟨o,e⟩,st⟩:=x;exact⟨st _ _ p fun o q=>k _ _ (.inl rfl) q,⟨o,k _ _ (.inl rfl) e⟩,st⟩
theorem HOk.lt(x:HOk P w H h)(e:H a=some o):a<h.objs.size:=(x a o e).lt
theorem HOk.fresh(x:HOk P w H h)(e:h.objs.size<=a):H a=none:=by
 cases q:H a with
 |none=>rfl
 |some u=>exact absurd (Rj (x.lt q) e) (SW _)
theorem HOk.kept(x:HOk P w H h)(k:∀b u,h.get? b=some u->h'.get? b=some u):HOk P w H h':=fun a o e=>
 (x a o e).stay (fun b u _ q=>k b u q) (fun _ q=>q) fun _ _ q=>q
theorem HOk.laid(x:HOk P w H h)(k:∀b u,h.get? b=some u->h'.get? b=some u)(hp:h.objs.size<=a)(new:ObjOk P w (upd H a o) h' a o):HOk P w (upd H a o) h':=fun b u e=>by
 have hn:=x.fresh hp;by_cases hb:b=a
 ·subst hb;rw[aM]at e;cases e;exact new
 ·rw[av hb]at e;exact(x b u e).stay (fun c v _ q=>k c v q) (fun c q=>by rw[av (aT q hn)];exact q) fun c xs q=>by rw[av (aT q hn)];exact q
end
def Rd(H:Hp)(a:Addr)(u:HO):Prop:=H a=some u\/∃o,H a=some (.frz o u)
theorem Rd.ok{P:Program}{w:World}{H:Hp}{h:Heap}{a:Addr}{u:HO}(r:Rd H a u)(x:HOk P w H h):ObjOk P w H h a u:=by
 rcases r with r|⟨o,r⟩
 ·exact x a u r
 ·obtain⟨_,q⟩:=x a _ r;exact q
def Nb:Option HO->Prop
 |some (.lst _)=>True
 |some (.dK _)=>True
 |some (.dT _)=>True
 |some (.set _ _)=>True
 |some (.ins _ _ _)=>True
 |some (.ext _)=>True
 |_=>False
section
variable{P:Program}{w:World}{H:Hp}{h h':Heap}{x e:Addr}{o':HO}
theorem HOk.write(ok:HOk P w H h)(mu:Nb (H x))(he:e=x\/H e=some (.own x))(k:∀b u,b≠e->h.get? b=some u->h'.get? b=some u)(MS:∃u,h'.get? e=some u)
  (new:ObjOk P w (upd H x o') h' x o'):HOk P w (upd H x o') h':=fun b u q=>by
 have JP:∀c y,H c=some (.own y)->c≠x:=fun c y r z=>by subst z;rw[r]at mu;exact mu
 have ntup:∀c xs,H c=some (.tup xs)->c≠x:=fun c xs r z=>by subst z;rw[r]at mu;exact mu
 by_cases hb:b=x
 ·subst hb;rw[aM]at q;cases q;exact new
 ·rw[av hb]at q;by_cases hbe:b=e
  ·have q':H b=some (.own x):=by
    rcases he with z|z
    ·exact absurd (hbe.trans z) hb
    ·rw[hbe];exact z
   rw[q]at q';cases q';obtain⟨v,hv⟩:=MS;exact⟨v,by rw[hbe];exact hv⟩
  ·refine(ok b u q).stay (fun c v hc r=>k c v ?_ r) (fun c r=>by rw[av (JP c b r)];exact r) fun c xs r=>by rw[av (ntup c xs r)];exact r
   rcases hc with rfl|hc
   ·exact hbe
   ·rintro rfl;rcases he with z|z
    ·exact JP c b hc z
    ·rw[hc]at z;cases z;exact hb rfl
end
structure Un(fs ex:List Addr)(H H':Hp)(h h':Heap):Prop where
 keep:∀b o,h.get? b=some o->H b=none->b∉fs->b∉ex->h'.get? b=some o
 slot:∀b o,h.get? b=some o->H b=none->b∈fs->b∉ex->∃sl,h'.get? b=some {o with slots:=sl}
 free:∀b o,h.get? b=some o->H b=none->b∉ex->H' b=none
 there:∀b o,h.get? b=some o->b∉ex->∃o',h'.get? b=some o'
 tups:∀b xs,H b=some (.tup xs)->H' b=some (.tup xs)
 frzs:∀b o u,H b=some (.frz o u)->H' b=some (.frz o u)
 tbls:∀b ps,H b=some (.tbl ps)->∃more,H' b=some (.tbl (ps++more))
section
variable{fs fs' ex ex':List Addr}{H H1 H2:Hp}{h h1 h2 h':Heap}{a x e:Addr}{o:HO}
theorem Un.any(u:Un fs ex H H1 h h1){b:Addr}{ob:Obj}(q:h.get? b=some ob)(n:H b=none)(hx:b∉ex):∃sl,h1.get? b=some {ob with slots:=sl}:=by
 by_cases hb:b∈fs
 ·exact u.slot b ob q n hb hx
 ·exact⟨ob.slots,u.keep b ob q n hb hx⟩
theorem Un.kept(k:∀b u,h.get? b=some u->h'.get? b=some u):Un fs ex H H h h':=
 ⟨fun b ob q _ _ _=>k b ob q,fun b ob q _ _ _=>⟨ob.slots,k b ob q⟩,fun _ _ _ n _=>n,fun b ob q _=>⟨ob,k b ob q⟩,fun _ _ q=>q,fun _ _ _ q=>q,fun _ ps q=>⟨#[],by rw[q];simp⟩⟩
theorem Un.refl:Un fs ex H H h h:=Un.kept fun _ _ q=>q
theorem Un.laid(k:∀b u,h.get? b=some u->h'.get? b=some u)(hp:h.objs.size<=a)(hn:H a=none):Un fs ex H (upd H a o) h h' where
 keep:=fun b u q _ _ _=>k b u q
 slot:=fun b u q _ _ _=>⟨u.slots,k b u q⟩
 free:=fun b u q n _=>by rw[av (Rp (Rj (Rf q) hp))];exact n
 there:=fun b u q _=>⟨u,k b u q⟩
 tups:=fun b xs q=>by rw[av (aT q hn)];exact q
 frzs:=fun b u xs q=>by rw[av (aT q hn)];exact q
 tbls:=fun b ps q=>⟨#[],by rw[av (aT q hn),q];simp⟩
theorem Un.write(mu:Nb (H x))(he:e=x\/H e=some (.own x))(k:∀b u,b≠e->h.get? b=some u->h'.get? b=some u)(MS:∃u,h'.get? e=some u):Un fs ex H (upd H x o) h h':=by
 have hx:∀b,H b=none->b≠x:=fun b n z=>by subst z;rw[n]at mu;exact mu
 have hb:∀b,H b=none->b≠e:=fun b n z=>by
  subst z;rcases he with r|r
  ·exact hx b n r
  ·rw[n]at r;cases r
 have hm:∀b u,H b=some u->¬ Nb (some u)->b≠x:=fun b u q nm z=>by subst z;rw[q]at mu;exact nm mu
 refine⟨fun b u q n _ _=>k b u (hb b n) q,fun b u q n _ _=>⟨u.slots,k b u (hb b n) q⟩,fun b u q n _=>by rw[av (hx b n)];exact n,fun b u q _=>?_,
  fun b xs q=>by rw[av (hm b _ q fun z=>z)];exact q,fun b u xs q=>by rw[av (hm b _ q fun z=>z)];exact q,fun b ps q=>⟨#[],by rw[av (hm b _ q fun z=>z),q];simp⟩⟩
 by_cases hbe:b=e
 ·subst hbe;exact MS
 ·exact⟨u,k b u hbe q⟩
end
def trk(h:Heap)(H:Hp):List Addr:=(List.range h.objs.size).filter fun a=>(H a).isSome
def vh(h:Heap)(H:Hp):Heap:=PySem.W.hideAll h (trk h H)
theorem rL(h:Heap)(H:Hp):(vh h H).objs.size=h.objs.size:=PySem.W.hideAll_size _ _
theorem vk{h:Heap}{H:Hp}{b:Addr}{o:Obj}(e:h.get? b=some o)(n:H b=none):(vh h H).get? b=some o:=
 PySem.W.hideAll_get _ e fun hm=>by
  have q:(H b).isSome=true:=(S8.mp hm).2;rw[n]at q;simp at q
theorem xZ{h:Heap}{H:Hp}{b:Addr}{o:Obj}(e:(vh h H).get? b=some o):h.get? b=some o/\H b=none:=by
 have e':h.get? b=some o:=PySem.W.of_hideAll (trk h H) e;refine⟨e',?_⟩;cases q:H b with
 |none=>rfl
 |some x=>
  have hm:b∈trk h H:=S8.mpr ⟨RL.mpr (Rf e'),by simp[q]⟩;have z:(vh h H).get? b=none:=PySem.W.hideAll_none (trk h H) hm;rw[z]at e;cases e
def x3(g h:Heap)(L:Addr):List (Addr×Obj):=(List.range h.objs.size).filterMap fun a=>if a=L\/(g.get? a).isSome=true then none else(h.get? a).map fun o=>(a,o)
def dq(g h:Heap)(L d:Addr):List (Addr×Obj):=(x3 g h L).filter fun p=>decide (p.1≠d)
structure Mod(K:W.Frag)(mg:Str->Option Value)(base:Heap):Prop where
 kin:K.In base
 glob:base.Ns mainGlobals mg
 blt:∃mb,base.Ns builtinsNs mb/\∀x:Str,x≠"__name__"->mb x=bootBuiltins x
 nolimit:base.NoLimit
structure Cx where
 prog:Program
 w:World
 K:W.Frag
 mg:Str->Option Value
 base:Heap
 A:Around
 N:List Str
 s₀:Shared
 H₀:Hp
 env:Env
 outer:List Env
 stack:List Env
 ex:List Addr
 fn:Str->Bool
 calm:Bool
 pn:List (Addr×Obj)
 xe:Value->Shared->Prop
def JH(l:List Env):List Addr:=l.filterMap (·.frame)
abbrev Cx.fs(X:Cx):List Addr:=JH X.outer
def O0(sc:Scope)(x:Str):Prop:=sc.names.lookup x=some .local\/sc.names.lookup x=some .cell\/sc.names.lookup x=some .free
def Loc(sc:Scope)(x:Str):Prop:=sc.names.lookup x=some .local\/sc.names.lookup x=some .cell
def Er(sc:Scope)(x:Str):Bool:=match sc.names.lookup x with
 |some .local=>true
 |some .cell=>true
 |_=>false
theorem lo{sc:Scope}{x:Str}(h:Er sc x=true):Loc sc x:=by
 unfold Er at h;split at h
 ·exact .inl (by assumption)
 ·exact .inr (by assumption)
 ·cases h

def EM(env:Env)(h:Heap)(m:Str->Option Value)(x:Str)(u:Value):Prop:=
 (env.kindOf x=some .local/\m x=some u)\/((env.kindOf x=some .cell\/env.kindOf x=some .free)/\∃c,env.cells.lookup x=some c/\h.IsCell c (some u))
structure Cx.Ok(X:Cx):Prop where
 mod:Mod X.K X.mg X.base
 kind:X.env.scope.kind=.function
 glob:X.env.globals=mainGlobals
 blt:X.env.builtins=builtinsNs
 above:X.s₀.heap.objs.size<=X.env.locals
 inj:∀x y c,X.env.cells.lookup x=some c->X.env.cells.lookup y=some c->x=y
 has:∀x,(X.env.kindOf x=some .cell\/X.env.kindOf x=some .free)->∃c,X.env.cells.lookup x=some c
 cab:∀x c,X.fn x=true->X.env.cells.lookup x=some c->X.s₀.heap.objs.size<=c
 hd:X.calm=true->X.A.handled=none
 frames:X.A.frames=some X.stack
 stk:X.stack=X.outer\/(X.stack=X.env::X.outer/\X.env.frame=some X.env.locals)
 exf:∀b∈X.ex,b≠X.env.locals/\∀x c,X.env.cells.lookup x=some c->c≠b
 bs:∀b o,X.base.get? b=some o->X.s₀.heap.get? b=some o/\X.H₀ b=none
 bsz:X.base.objs.size<=X.s₀.heap.objs.size
 noex:∀b o,X.base.get? b=some o->b∉X.ex
 exfs:∀b∈X.ex,b∉X.fs
 funs:X.s₀.heap.FunFrames X.base X.outer
 frf:∀b∈X.fs,X.H₀ b=none
structure Inv(X:Cx)(pr:List (Addr×Obj))(σ:List (Option V))(H:Hp)(s:Shared):Prop where
 ok:X.Ok
 os:s.os=X.s₀.os
 bare:AllBare s.gens
 base:Un X.fs X.ex X.H₀ H X.s₀.heap s.heap
 loc:∃m,s.heap.Ns X.env.locals m/\∀(i:Nat) (x:Str) (v:V),X.N[i]?=some x->σ[i]?=some (some v)->O0 X.env.scope x->∃u,RelV v u/\EM X.env s.heap m x u
 cell:∀x c,X.env.cells.lookup x=some c->∃v,s.heap.IsCell c v
 free:H X.env.locals=none
 freeC:∀x c,X.env.cells.lookup x=some c->H c=none
 pin:∀p∈X.pn++pr,s.heap.get? p.1=some p.2/\H p.1=none/\p.1≠X.env.locals/\p.1∉X.fs/\∀v,p.2.data≠.cell v
 hok:HOk X.prog X.w H s.heap
 len:σ.length=X.N.length
section
variable{X:Cx}{pr:List (Addr×Obj)}{σ:List (Option V)}{H H':Hp}{s:Shared}{h':Heap}
theorem Cx.Ok.nofr(ok:X.Ok){b:Addr}{o:Obj}(e:X.base.get? b=some o):b∉X.fs:=fun hb=>by
 have:=(ok.funs.mem hb).1;rw[e]at this;cases this
theorem Inv.bs(I:Inv X pr σ H s):∀b o,X.base.get? b=some o->s.heap.get? b=some o/\H b=none:=fun b o e=>
 ⟨I.base.keep b o (I.ok.bs b o e).1 (I.ok.bs b o e).2 (I.ok.nofr e) (I.ok.noex b o e),I.base.free b o (I.ok.bs b o e).1 (I.ok.bs b o e).2 (I.ok.noex b o e)⟩
theorem Inv.bk(I:Inv X pr σ H s):∀b o,X.base.get? b=some o->s.heap.get? b=some o:=fun b o e=>(I.bs b o e).1
theorem Inv.mod(I:Inv X pr σ H s):Mod X.K X.mg X.base:=I.ok.mod
theorem Inv.kIn(I:Inv X pr σ H s):X.K.In s.heap:=I.ok.mod.kin.keeps I.bk
theorem Inv.lt(I:Inv X pr σ H s):X.env.locals<s.heap.objs.size:=let⟨_,hn,_⟩:=I.loc;hn.lt
theorem Inv.sz(I:Inv X pr σ H s):X.s₀.heap.objs.size<=s.heap.objs.size:=RB I.ok.above (UZ I.lt)
theorem Inv.nofs(I:Inv X pr σ H s){a:Addr}(h:s.heap.objs.size<=a):a∉X.fs:=fun hb=>by
 obtain⟨_,o,ho,_⟩:=I.ok.funs.mem hb;exact absurd (Rj (Rf ho) (RB I.sz h)) (SW _)
theorem Inv.cne(I:Inv X pr σ H s):∀x c,X.env.cells.lookup x=some c->c≠X.env.locals:=fun x c e z=>by
 obtain⟨v,o,ho,hd⟩:=I.cell x c e;obtain⟨m,⟨o',es,ep,Kf,Nd,_⟩,_⟩:=I.loc;rw[z,Kf]at ho;cases ho;rw[Nd]at hd;cases hd
theorem Inv.funs(I:Inv X pr σ H s):s.heap.FunFrames X.base X.outer:=by
 have all:∀(l:List Env),(∀b∈JH l,b∈X.fs)->X.s₀.heap.FunFrames X.base l->s.heap.FunFrames X.base l:=by
  intro l;induction l with
  |nil=>intro _ _;trivial
  |cons env r ih=>
   intro hs hl;obtain⟨hk,⟨L,o,hf,hn,ho,hd⟩,hr⟩:=hl;have hL:L∈X.fs:=hs L (by unfold JH;rw[Ub,hf];exact Q2);obtain⟨sl,e⟩:=I.base.slot L o ho (I.ok.frf L hL) hL fun z=>I.ok.exfs L z hL
   exact⟨hk,⟨L,_,hf,hn,e,hd⟩,ih (fun b hb=>hs b (by unfold JH;rw[Ub,hf];exact Q7 _ hb)) hr⟩
 exact all X.outer (fun _ hb=>hb) I.ok.funs
theorem Inv.stack(I:Inv X pr σ H s):s.heap.FunFrames X.base X.stack:=by
 rcases I.ok.stk with e|⟨e,hf⟩
 ·rw[e];exact I.funs
 ·rw[e];obtain⟨m,hn,_⟩:=I.loc;refine .cons (by rw[I.ok.kind];decide) hf hn ?_ I.funs;exact Heap.get?_none_of_le (RB I.ok.bsz I.ok.above)
theorem Inv.stkSub(I:Inv X pr σ H s):∀b∈JH X.stack,b∈X.env.locals::X.fs:=fun b hb=>by
 rcases I.ok.stk with e|⟨e,hf⟩
 ·rw[e]at hb;exact Q7 _ hb
 ·rw[e]at hb;unfold JH at hb;rw[Ub,hf]at hb;exact hb
theorem Inv.stkFree(I:Inv X pr σ H s):∀b∈JH X.stack,H b=none:=fun b hb=>by
 rcases Ri.mp (I.stkSub b hb) with e|hb
 ·rw[e];exact I.free
 ·obtain⟨_,o,ho,_⟩:=I.ok.funs.mem hb;exact I.base.free b o ho (I.ok.frf b hb) fun z=>I.ok.exfs b z hb
theorem Inv.step{g':Array GenState}{t':Nat}{d':Drawn}{ch:List Addr}(I:Inv X pr σ H s)
  (KN:∀b∈ch,(b∈X.ex\/X.s₀.heap.objs.size<=b)/\b≠X.env.locals/\(∀x c,X.env.cells.lookup x=some c->c≠b)/\∀p∈X.pn++pr,p.1≠b)
  (keep:∀b o,b≠X.env.locals->b∉X.fs->b∉ch->s.heap.get? b=some o->H b=none->h'.get? b=some o)
  (slot:∀b o,b≠X.env.locals->b∈X.fs->b∉ch->s.heap.get? b=some o->H b=none->∃sl,h'.get? b=some {o with slots:=sl}) (free:∀b o,b∉ch->s.heap.get? b=some o->H b=none->H' b=none)
  (there:∀b o,b∉ch->s.heap.get? b=some o->∃o',h'.get? b=some o')
  (tups:∀b xs,H b=some (.tup xs)->H' b=some (.tup xs)) (frzs:∀b o u,H b=some (.frz o u)->H' b=some (.frz o u)) (tbls:∀b ps,H b=some (.tbl ps)->∃more,H' b=some (.tbl (ps++more)))
  (ns:∀m,s.heap.Ns X.env.locals m->h'.Ns X.env.locals m) (hok:HOk X.prog X.w H' h') (hg:AllBare g'):
  Inv X pr σ H' {s with heap:=h',gens:=g',drawn:=d',toks:=t'}:=by
 have Qa:∀b o,X.s₀.heap.get? b=some o->b≠X.env.locals:=fun b o e=>Rp (Rj (Rf e) I.ok.above)
 have Om:∀b o,X.s₀.heap.get? b=some o->b∉X.ex->b∉ch:=fun b o e hx hb=>by
  rcases(KN b hb).1 with z|z
  ·exact hx z
  ·exact absurd (Rj (Rf e) z) (SW _)
 have cellK:∀x c,X.env.cells.lookup x=some c->∀v,s.heap.IsCell c v->h'.IsCell c v:=fun x c e v F7=>by
  obtain⟨o,ho,hd⟩:=F7;have Nf:c∉ch:=fun z=>(KN c z).2.2.1 x c e rfl
  by_cases hc:c∈X.fs
  ·obtain⟨sl,q⟩:=slot c o (I.cne x c e) hc Nf ho (I.freeC x c e);exact⟨_,q,hd⟩
  ·exact⟨o,keep c o (I.cne x c e) hc Nf ho (I.freeC x c e),hd⟩
 refine⟨I.ok,I.os,hg,⟨fun b o e n hb hx=>?_,fun b o e n hb hx=>?_,fun b o e n hx=>?_,fun b o e hx=>?_,fun b xs e=>tups b xs (I.base.tups b xs e),fun b o xs e=>frzs b o xs (I.base.frzs b o xs e),fun b ps e=>?_⟩,?_,fun x c e=>?_,?_,fun x c e=>?_,fun p hp=>?_,hok,I.len⟩
 ·exact keep b o (Qa b o e) hb (Om b o e hx) (I.base.keep b o e n hb hx) (I.base.free b o e n hx)
 ·obtain⟨sl,e1⟩:=I.base.slot b o e n hb hx;obtain⟨sl',e2⟩:=slot b _ (Qa b o e) hb (Om b o e hx) e1 (I.base.free b o e n hx);exact⟨sl',e2⟩
 ·obtain⟨o',e1⟩:=I.base.there b o e hx;exact free b o' (Om b o e hx) e1 (I.base.free b o e n hx)
 ·obtain⟨o',e1⟩:=I.base.there b o e hx;exact there b o' (Om b o e hx) e1
 ·obtain⟨m1,e1⟩:=I.base.tbls b ps e;obtain⟨m2,e2⟩:=tbls b _ e1;exact⟨m1++m2,by rw[e2,Array.append_assoc]⟩
 ·obtain⟨m,hn,hl⟩:=I.loc;refine⟨m,ns m hn,fun i x v e1 e2 e3=>?_⟩;obtain⟨u,r,l⟩:=hl i x v e1 e2 e3;refine⟨u,r,?_⟩;rcases l with l|⟨k,c,e,z⟩
  ·exact .inl l
  ·exact .inr ⟨k,c,e,cellK x c e _ z⟩
 ·obtain⟨v,z⟩:=I.cell x c e;exact⟨v,cellK x c e v z⟩
 ·obtain⟨m,⟨o,_,_,ho,_⟩,_⟩:=I.loc;exact free _ o (fun z=>(KN _ z).2.1 rfl) ho I.free
 ·obtain⟨v,o,ho,hd⟩:=I.cell x c e;exact free c o (fun z=>(KN c z).2.2.1 x c e rfl) ho (I.freeC x c e)
 ·obtain⟨e,n,ne,nf,d⟩:=I.pin p hp;have Nf:p.1∉ch:=fun z=>(KN p.1 z).2.2.2 p hp rfl
  exact⟨keep p.1 p.2 ne nf Nf e n,free p.1 p.2 Nf e n,ne,nf,d⟩
theorem Inv.un{t':Nat}(I:Inv X pr σ H s)(u:Un X.fs [] H H' s.heap h')(hok:HOk X.prog X.w H' h'):Inv X pr σ H' {s with heap:=h',toks:=t'}:=by
 obtain⟨m,⟨o,es,ep,ho,r⟩,_⟩:=id I.loc;obtain⟨sl,hL⟩:=u.any ho I.free (by simp);exact I.step (g':=s.gens) (d':=s.drawn) (ch:=[]) (fun _ z=>nomatch z) (fun b o _ hb _ e n=>u.keep b o e n hb (by simp)) (fun b o _ hb _ e n=>u.slot b o e n hb (by simp)) (fun b o _ e n=>u.free b o e n (by simp)) (fun b o _ e=>u.there b o e (by simp)) u.tups u.frzs u.tbls (fun m' hm=>by
  obtain⟨o',IU,LV,Kf,r'⟩:=hm;rw[ho]at Kf;cases Kf;exact⟨_,IU,LV,hL,r'⟩) hok I.bare
theorem Inv.call{g':Array GenState}{t':Nat}{d':Drawn}{ch:List Addr}(I:Inv X pr σ H s)(u:Un (JH X.stack) ch H H' s.heap h')(hok:HOk X.prog X.w H' h')(hg:AllBare g')
  (KN:∀b∈ch,(b∈X.ex\/X.s₀.heap.objs.size<=b)/\b≠X.env.locals/\(∀x c,X.env.cells.lookup x=some c->c≠b)/\∀p∈X.pn++pr,p.1≠b):
  Inv X pr σ H' {s with heap:=h',gens:=g',drawn:=d',toks:=t'}:=by
 obtain⟨m,⟨o,es,ep,ho,r⟩,_⟩:=id I.loc;obtain⟨sl,hL⟩:=u.any ho I.free fun z=>(KN _ z).2.1 rfl
 exact I.step (ch:=ch) KN (fun b o hL hb hc e n=>u.keep b o e n (fun z=>(Ri.mp (I.stkSub b z)).elim hL hb) hc) (fun b o _ _ hc e n=>u.any e n hc) (fun b o hc e n=>u.free b o e n hc) (fun b o hc e=>u.there b o e hc) u.tups u.frzs u.tbls (fun m' hm=>by
  obtain⟨o',IU,LV,Kf,r'⟩:=hm;rw[ho]at Kf;cases Kf;exact⟨_,IU,LV,hL,r'⟩) hok hg
theorem Inv.turned{t':Nat}{it:Addr}(I:Inv X pr σ H s)(k:∀b o,b≠it->s.heap.get? b=some o->h'.get? b=some o)(hn:H it=none)(hL:it≠X.env.locals)
  (h1:it∈X.ex\/X.s₀.heap.objs.size<=it) (h2:∀x c,X.env.cells.lookup x=some c->c≠it) (h3:∀p∈X.pn++pr,p.1≠it):Inv X pr σ H {s with heap:=h',toks:=t'}:=by
 have Qb:∀b u,H b=some u->b≠it:=fun b u e z=>by rw[z,hn]at e;cases e
 refine I.step (g':=s.gens) (d':=s.drawn) (ch:=[it]) (fun b hb=>?_) (fun b o _ _ hc e _=>k b o (fun z=>hc (by simp[z])) e) (fun b o _ _ hc e _=>⟨o.slots,k b o (fun z=>hc (by simp[z])) e⟩) (fun _ _ _ _ n=>n)
  (fun b o hc e=>⟨o,k b o (fun z=>hc (by simp[z])) e⟩) (fun _ _ e=>e) (fun _ _ _ e=>e) (fun b ps e=>⟨#[],by rw[e];simp⟩) (fun m hm=>?_) (fun b u e=>?_) I.bare
 ·have e:b=it:=by simpa using hb
  subst e;exact⟨h1,hL,h2,h3⟩
 ·obtain⟨o,es,ep,ho,r⟩:=hm;exact⟨o,es,ep,k _ o (SE hL) ho,r⟩
 ·refine(I.hok b u e).stay (fun c v hc q=>k c v ?_ q) (fun _ q=>q) fun _ _ q=>q
  rcases hc with z|z
  ·rw[z];exact Qb b u e
  ·exact Qb c _ z
theorem Inv.tok(I:Inv X pr σ H s)(t:Nat):Inv X pr σ H {s with toks:=t}:=I.un (h':=s.heap) (t':=t) Un.refl I.hok
theorem Inv.kept{t':Nat}(I:Inv X pr σ H s)(k:∀b u,s.heap.get? b=some u->h'.get? b=some u):Inv X pr σ H {s with heap:=h',toks:=t'}:=I.un (Un.kept k) (I.hok.kept k)
theorem Inv.laid{a:Addr}{o:HO}{t':Nat}(I:Inv X pr σ H s)(k:∀b u,s.heap.get? b=some u->h'.get? b=some u)(hp:s.heap.objs.size<=a)(new:ObjOk X.prog X.w (upd H a o) h' a o):
  Inv X pr σ (upd H a o) {s with heap:=h',toks:=t'}:=I.un (Un.laid k hp (I.hok.fresh hp)) (I.hok.laid k hp new)
theorem Inv.write{x e:Addr}{o:HO}{t':Nat}(I:Inv X pr σ H s)(mu:Nb (H x))(he:e=x\/H e=some (.own x))(k:∀b u,b≠e->s.heap.get? b=some u->h'.get? b=some u)(MS:∃u,h'.get? e=some u)
  (new:ObjOk X.prog X.w (upd H x o) h' x o):Inv X pr σ (upd H x o) {s with heap:=h',toks:=t'}:=I.un (Un.write mu he k MS) (I.hok.write mu he k MS new)
theorem Inv.pins_of{LH:List (Addr×Obj)}(I:Inv X pr σ H s)(h:∀p∈LH,s.heap.get? p.1=some p.2/\H p.1=none/\p.1≠X.env.locals/\p.1∉X.fs/\∀v,p.2.data≠.cell v):Inv X LH σ H s:=
 ⟨I.ok,I.os,I.bare,I.base,I.loc,I.cell,I.free,I.freeC,fun p hp=>(RA.mp hp).elim (fun z=>I.pin p (Q9 _ z)) (h p),I.hok,I.len⟩
theorem pb{N:List Str}(hN:N.Nodup){i j:Nat}{x:Str}(a:N[i]?=some x)(b:N[j]?=some x):i=j:=by
 obtain⟨h1,e1⟩:=List.getElem?_eq_some_iff.mp a;obtain⟨h2,e2⟩:=List.getElem?_eq_some_iff.mp b;exact(List.getElem_inj hN).mp (e1.trans e2.symm)
theorem mr{M:Model}{A:Around}{E:Value->Shared->Prop}{i:Nat}{x:Str}{v:V}{u:Value}{Q:Unit->Shared->Prop}(I:Inv X pr σ H s)(hN:X.N.Nodup)(hi:X.N[i]?=some x)(hx:Loc X.env.scope x)(r:RelV v u)
  (h:∀s',Inv X pr (σ.set i (some v)) H s'->(∃a,Heap.SameBut a s.heap s'.heap/\(a=X.env.locals\/X.env.cells.lookup x=some a))->Q () s') (hf:X.fn x=true\/X.env.scope.names.lookup x=some .local:=by first|exact .inl rfl|exact .inr rfl|assumption):wpAny M A (storeName X.env x u) Q E s:=by
 obtain⟨m,hn,hl⟩:=id I.loc;have hcls:(X.env.scope.kind==.class||(X.env.scope.kind==.module&&X.env.locals != X.env.globals))=false:=by rw[I.ok.kind];rfl
 have hiσ:i<σ.length:=by rw[I.len];exact(List.getElem?_eq_some_iff.mp hi).1
 have cne:=I.cne;have tracked:∀{a:Addr}{h':Heap},(∃o,s.heap.get? a=some o/\H a=none)->Heap.SameBut a s.heap h'->HOk X.prog X.w H h':=fun{a h'} ha hs b ob e=>by
  obtain⟨_,_,LI⟩:=ha;refine(I.hok b ob e).stay (fun c w' hc q=>(hs.2 c ?_).trans q) (fun _ q=>q) fun _ _ q=>q
  rintro rfl;rcases hc with rfl|hc
  ·rw[LI]at e;cases e
  ·rw[LI]at hc;cases hc
 rcases hx with hk|hk
 ·refine wpAny_storeName_local hk hn (fun h' hn' hs=>?_) hcls;obtain⟨oL,_,_,hoL,_⟩:=id hn;refine h _ ⟨I.ok,I.os,I.bare,⟨fun b o e n hb hx=>?_,fun b o e n hb hx=>?_,I.base.free,fun b o e hx=>?_,I.base.tups,I.base.frzs,I.base.tbls⟩,⟨_,hn',fun j y v' e1 e2 e3=>?_⟩,fun y c e=>?_,I.free,I.freeC,fun p hp=>?_,tracked ⟨oL,hoL,I.free⟩ hs,by simpa using I.len⟩ ⟨_,hs,.inl rfl⟩
  ·exact(hs.2 b (Rp (Rj (Rf e) I.ok.above))).trans (I.base.keep b o e n hb hx)
  ·obtain⟨sl,e1⟩:=I.base.slot b o e n hb hx;exact⟨sl,(hs.2 b (Rp (Rj (Rf e) I.ok.above))).trans e1⟩
  ·obtain⟨o',e1⟩:=I.base.there b o e hx;exact⟨o',(hs.2 b (Rp (Rj (Rf e) I.ok.above))).trans e1⟩
  ·by_cases hj:j=i
   ·subst hj;rw[hi]at e1;cases e1;rw[List.getElem?_set_self hiσ]at e2;cases e2;exact⟨u,r,.inl ⟨hk,by simp⟩⟩
   ·rw[List.getElem?_set_ne (SE hj)]at e2;obtain⟨u',r',q⟩:=hl j y v' e1 e2 e3;refine⟨u',r',?_⟩;rcases q with⟨k,e⟩|⟨k,c,e,z⟩
    ·refine .inl ⟨k,?_⟩;have:y≠x:=fun e=>hj (pb hN e1 (e▸hi))
     simp[this,e]
    ·exact .inr ⟨k,c,e,z.sameBut hs (cne y c e)⟩
  ·obtain⟨w',z⟩:=I.cell y c e;exact⟨w',z.sameBut hs (cne y c e)⟩
  ·obtain⟨e,n,ne,nf,d⟩:=I.pin p hp;exact⟨(hs.2 p.1 ne).trans e,n,ne,nf,d⟩
 ·have KU:X.fn x=true:=by
   rcases hf with z|z
   ·exact z
   ·rw[z]at hk;cases hk
  obtain⟨c,hc⟩:=I.ok.has x (.inl hk);obtain⟨w',z⟩:=I.cell x c hc;refine wpAny_storeName_cell I.ok.kind hk hc z (fun h' Oo hs=>?_);obtain⟨oc,Qc,hocd⟩:=id z;refine h {s with heap:=h'} ⟨I.ok,I.os,I.bare,⟨fun b o e n hb hx=>?_,fun b o e n hb hx=>?_,I.base.free,fun b o e hx=>?_,I.base.tups,I.base.frzs,I.base.tbls⟩,⟨m,hn.sameBut hs (SE (cne x c hc)),fun j y v' e1 e2 e3=>?_⟩,fun y c' e=>?_,I.free,I.freeC,fun p hp=>?_,tracked ⟨oc,Qc,I.freeC x c hc⟩ hs,by simpa using I.len⟩ ⟨c,hs,.inr hc⟩
  ·exact(hs.2 b (Rp (Rj (Rf e) (I.ok.cab x c KU hc)))).trans (I.base.keep b o e n hb hx)
  ·obtain⟨sl,e1⟩:=I.base.slot b o e n hb hx;exact⟨sl,(hs.2 b (Rp (Rj (Rf e) (I.ok.cab x c KU hc)))).trans e1⟩
  ·obtain⟨o',e1⟩:=I.base.there b o e hx;exact⟨o',(hs.2 b (Rp (Rj (Rf e) (I.ok.cab x c KU hc)))).trans e1⟩
  ·by_cases hj:j=i
   ·subst hj;rw[hi]at e1;cases e1;rw[List.getElem?_set_self hiσ]at e2;cases e2;exact⟨u,r,.inr ⟨.inl hk,c,hc,Oo⟩⟩
   ·rw[List.getElem?_set_ne (SE hj)]at e2;obtain⟨u',r',q⟩:=hl j y v' e1 e2 e3;refine⟨u',r',?_⟩;rcases q with q|⟨k,c',e,z'⟩
    ·exact .inl q
    ·refine .inr ⟨k,c',e,z'.sameBut hs ?_⟩;rintro rfl;exact hj (pb hN e1 (I.ok.inj _ _ _ e hc▸hi))
  ·by_cases hcc:c'=c
   ·subst hcc;exact⟨_,Oo⟩
   ·obtain⟨w2,z2⟩:=I.cell y c' e;exact⟨w2,z2.sameBut hs hcc⟩
  ·obtain⟨e,n,ne,nf,d⟩:=I.pin p hp;refine⟨(hs.2 p.1 ?_).trans e,n,ne,nf,d⟩;intro q;rw[q,Qc]at e;have q':oc=p.2:=Rt e;exact d w' (by rw[<-q'];exact hocd)
theorem pd{M:Model}{A:Around}{E:Value->Shared->Prop}{i:Nat}{x:Str}{v:V}{u:Value}{Q:Unit->Shared->Prop}(I:Inv X pr σ H s)(hN:X.N.Nodup)(hi:X.N[i]?=some x)(hx:Loc X.env.scope x)(r:RelV v u)
  (h:∀s',Inv X pr (σ.set i (some v)) H s'->Q () s') (hf:X.fn x=true\/X.env.scope.names.lookup x=some .local:=by first|exact .inl rfl|exact .inr rfl|assumption):wpAny M A (storeName X.env x u) Q E s:=
 mr I hN hi hx r (fun s' I' _=>h s' I') hf
theorem Inv.call'{s':Shared}{ch:List Addr}(I:Inv X pr σ H s)(ho:s'.os=s.os)(u:Un (JH X.stack) ch H H' s.heap s'.heap)(hok:HOk X.prog X.w H' s'.heap)(hg:AllBare s'.gens)
  (KN:∀b∈ch,(b∈X.ex\/X.s₀.heap.objs.size<=b)/\b≠X.env.locals/\(∀x c,X.env.cells.lookup x=some c->c≠b)/\∀p∈X.pn++pr,p.1≠b):Inv X pr σ H' s':=by
 obtain⟨h',g',d',t',o'⟩:=s';have e:o'=s.os:=ho;subst e;exact I.call (g':=g') (t':=t') (d':=d') u hok hg KN
end
abbrev XK:=Value->Option Addr->Hp->Prop
abbrev St:=List (Option V)
abbrev VK:=V->Hp->Prop
abbrev TE:=St->Hp->VK->Prop
abbrev TT:=St->Hp->(Bool->Hp->Prop)->Prop
abbrev TA:=St->Hp->(List V->Hp->Prop)->Prop
structure Ends where
 nx:St->Hp->Prop
 rt:VK
 bk:St->Hp->Prop:=fun _ _=>False
 ct:St->Hp->Prop:=fun _ _=>False
abbrev TS:=Ends->St->Hp->Prop
def EP(X:Cx)(pr:List (Addr×Obj))(σ:St)(Q:VK)(u:Value)(s':Shared):Prop:=∃v H',Inv X pr σ H' s'/\RelV v u/\Q v H'
def TP(X:Cx)(pr:List (Addr×Obj))(σ:St)(Q:Bool->Hp->Prop)(b:Bool)(s':Shared):Prop:=∃H',Inv X pr σ H' s'/\Q b H'
def AP(X:Cx)(pr:List (Addr×Obj))(σ:St)(Q:List V->Hp->Prop)(us:List Value)(s':Shared):Prop:=∃vs H',Inv X pr σ H' s'/\Vals vs us/\Q vs H'
def SP(X:Cx)(pr:List (Addr×Obj))(D:Ends)(f:Flow)(s':Shared):Prop:=
 match f with
 | .next=>∃σ' H',Inv X pr σ' H' s'/\D.nx σ' H'
 | .brk=>∃σ' H',Inv X pr σ' H' s'/\D.bk σ' H'
 | .cont=>∃σ' H',Inv X pr σ' H' s'/\D.ct σ' H'
 | .ret u=>∃v σ' H',Inv X pr σ' H' s'/\RelV v u/\D.rt v H'
def PE(X:Cx)(e:Expr)(t:TE):Prop:=
 ∀(pr:List (Addr×Obj)) (s:Shared) (σ:St) (H:Hp) (Q:VK),Inv X pr σ H s->t σ H Q->wpAny (model X.prog X.w) X.A (eval e X.env) (EP X pr σ Q) X.xe s
def PT(X:Cx)(e:Expr)(t:TT):Prop:=
 ∀(pr:List (Addr×Obj)) (s:Shared) (σ:St) (H:Hp) (Q:Bool->Hp->Prop),Inv X pr σ H s->t σ H Q->wpAny (model X.prog X.w) X.A (isTrue e X.env (eval e X.env)) (TP X pr σ Q) X.xe s
def PW(X:Cx)(e:Expr)(t:TT):Prop:=
 ∀(whole:Sem Value) (pr:List (Addr×Obj)) (s:Shared) (σ:St) (H:Hp) (Q:Bool->Hp->Prop),Inv X pr σ H s->t σ H Q->wpAny (model X.prog X.w) X.A (isTrue e X.env whole) (TP X pr σ Q) X.xe s
theorem PW.pt{X:Cx}{e:Expr}{t:TT}(h:PW X e t):PT X e t:=h _
def PA(X:Cx)(es:List Expr)(t:TA):Prop:=
 ∀(pos:Pos) (pr:List (Addr×Obj)) (s:Shared) (σ:St) (H:Hp) (Q:List V->Hp->Prop),Inv X pr σ H s->t σ H Q->wpAny (model X.prog X.w) X.A (spliced (backTo pos (starEach es X.env))) (AP X pr σ Q) X.xe s
def PS(X:Cx)(st:Stmt)(t:TS):Prop:=
 ∀(pr:List (Addr×Obj)) (s:Shared) (σ:St) (H:Hp) (D:Ends),Inv X pr σ H s->t D σ H->wpAny (model X.prog X.w) X.A (exec st X.env) (SP X pr D) X.xe s
def PSs(X:Cx)(st:List Stmt)(t:TS):Prop:=
 ∀(pr:List (Addr×Obj)) (s:Shared) (σ:St) (H:Hp) (D:Ends),Inv X pr σ H s->t D σ H->wpAny (model X.prog X.w) X.A (execs st X.env) (SP X pr D) X.xe s
theorem Ge{α:Type}{t:Sem α}{Q Q':α->Shared->Prop}{M:Model}{A:Around}{E:Value->Shared->Prop}{s:Shared}(h:wpAny M A t Q E s)(hQ:∀a s,Q a s->Q' a s):wpAny M A t Q' E s:=Ts h hQ fun _ _ x=>x
section
variable{X:Cx}
theorem bin{a b:Expr}{ta tb:TE}(ha:PE X a ta)(hb:PE X b tb){pr:List (Addr×Obj)}{s:Shared}{σ:St}{H:Hp}{R:V->V->Hp->Prop}(I:Inv X pr σ H s)(h:ta σ H fun x H1=>tb σ H1 fun y H2=>R x y H2)
  {α:Type}{Q:α->Shared->Prop}{f:Value->Value->Sem α}
  (hf:∀v u s2 x y H2,Inv X pr σ H2 s2->RelV x v->RelV y u->R x y H2->wpAny (model X.prog X.w) X.A (f v u) Q X.xe s2):
  wpAny (model X.prog X.w) X.A (eval a X.env) (fun v s₁=>wpAny (model X.prog X.w) X.A (eval b X.env) (fun u s₂=>wpAny (model X.prog X.w) X.A (f v u) Q X.xe s₂) X.xe s₁) X.xe s:=by
 refine Ge (ha pr s σ H _ I h) fun v s1 Gf=>?_
 obtain⟨x,H1,I1,r1,q1⟩:=Gf;refine Ge (hb pr s1 σ H1 _ I1 q1) fun u s2 Gf=>?_
 obtain⟨y,H2,I2,r2,q2⟩:=Gf;exact hf v u s2 x y H2 I2 r1 r2 q2
def pe(i:Nat):TE:=fun σ H Q=>∃v,σ[i]?=some (some v)/\Q v H
def tC(v:V):TE:=fun _ H Q=>Q v H
theorem AG{i:Nat}{x:Str}{pos:Pos}(hN:X.N[i]?=some x)(hv:O0 X.env.scope x)(hd:(x==("__debug__" : Str))=false:=by decide)(Kg:(x==("__classdict__" : Str))=false:=by decide):PE X (.Name x pos) (pe i):=by
 intro pr s σ H Q I h;obtain⟨v,e,h⟩:=h;obtain⟨m,hn,hl⟩:=I.loc;obtain⟨u,r,l⟩:=hl i x v hN e hv;have fin:EP X pr σ Q u s:=⟨v,H,I,r,h⟩
 rcases l with⟨hk,hm⟩|⟨hk,c,hc,GN⟩
 ·exact wpAny_Name (wpAny_loadName_local I.ok.kind hk hn hm fin) hd
 ·rcases hk with hk|hk
  ·exact wpAny_Name (wpAny_loadName_cell I.ok.kind hk hc GN fin) hd
  ·exact wpAny_Name (wpAny_loadName_free I.ok.kind hk hc GN fin Kg) hd
theorem kB{i j pos}:PE X (.Constant (.int i) j pos) (tC (.int i)):=fun _ _ _ H _ I h=>wpAny_Constant_int ⟨.int i,H,I.tok _,⟨_,rfl⟩,h⟩
theorem De{b j pos}:PE X (.Constant (.bool b) j pos) (tC (.bl b)):=fun _ _ _ H _ I h=>Constant_bool ⟨.bl b,H,I,rfl,h⟩
theorem AH{j pos}:PE X (.Constant .none j pos) (tC .non):=fun _ _ _ H _ I h=>Constant_none ⟨.non,H,I,rfl,h⟩
theorem AI{x j pos}:PE X (.Constant (.str x) j pos) (tC (.str x)):=fun _ _ _ H _ I h=>Calls.Constant_str ⟨.str x,H,I.tok _,⟨_,rfl⟩,h⟩
def Gl(X:Cx)(x:Str):Prop:=X.env.kindOf x=some .globalImplicit
theorem x4{E:Value->Shared->Prop}{pr:List (Addr×Obj)}{s:Shared}{σ:St}{H:Hp}{x:Str}{u:Value}{pos:Pos}{Q:Value->Shared->Prop}(I:Inv X pr σ H s)(hg:Gl X x)(hm:X.mg x=some u)(h:Q u s)
  (hd:(x==("__debug__" : Str))=false:=by decide):wpAny (model X.prog X.w) X.A (eval (.Name x pos) X.env) Q E s:=
 Ul I.ok.kind hg (Calls.loadGlobal_global (by rw[I.ok.glob];exact I.mod.glob.keeps I.bk) hm h) hd
theorem kC{E:Value->Shared->Prop}{pr:List (Addr×Obj)}{s:Shared}{σ:St}{H:Hp}{x:Str}{u:Value}{pos:Pos}{Q:Value->Shared->Prop}(I:Inv X pr σ H s)(hg:Gl X x)(hm:X.mg x=none)(hv:bootBuiltins x=some u)(h:Q u s)
  (hn:x≠"__name__":=by decide) (hd:(x==("__debug__" : Str))=false:=by decide):wpAny (model X.prog X.w) X.A (eval (.Name x pos) X.env) Q E s:=by
 obtain⟨mb,h1,h2⟩:=I.mod.blt;exact Ul I.ok.kind hg (Calls.loadGlobal_builtin (by rw[I.ok.glob];exact I.mod.glob.keeps I.bk) hm (by rw[I.ok.blt];exact h1.keeps I.bk) ((h2 x hn).trans hv) h) hd
theorem x5{x:Str}{v:V}{u:Value}{pos:Pos}(hg:Gl X x)(hm:X.mg x=none)(hv:bootBuiltins x=some u)(r:RelV v u)(hn:x≠"__name__":=by decide)(hd:(x==("__debug__" : Str))=false:=by decide):PE X (.Name x pos) (tC v):=
 fun _ _ _ H _ I h=>kC I hg hm hv ⟨v,H,I,r,h⟩ hn hd
variable{a b:Expr}{ta tb:TE}{pos:Pos}
def PC(X:Cx)(op:CmpOp)(a b:Expr)(t:TE):Prop:=
 ∀(pr:List (Addr×Obj)) (s:Shared) (σ:St) (H:Hp) (Q:VK),Inv X pr σ H s->t σ H Q->
  wpAny (model X.prog X.w) X.A (eval a X.env) (fun v s₁=>wpAny (model X.prog X.w) X.A (eval b X.env) (fun u s₂=>wpAny (model X.prog X.w) X.A (compareOp op v u) (EP X pr σ Q) X.xe s₂) X.xe s₁) X.xe s
theorem vm(b:Expr){op:CmpOp}(h:op≠.In)(h2:op≠.NotIn):behindInMarks op b=false:=by
 have e1:(op==CmpOp.In)=false:=by cases op <;> first|rfl|exact absurd rfl h
 have e2:(op==CmpOp.NotIn)=false:=by cases op <;> first|rfl|exact absurd rfl h2
 cases b <;> simp[behindInMarks,e1,e2]
def tB(t:TE):TT:=fun σ H Q=>t σ H fun x H1=>∃c,x=.bl c/\Q c H1
theorem Es{op:CmpOp}{t:TE}(h:PC X op a b t)(h1:behindInMarks op b=false:=by first|exact vm _ (by decide) (by decide)|rfl):PT X (.Compare a [op] [b] pos) (tB t):=by
 intro pr s σ H Q I hw;refine wpAny_isTrue_Compare1 (Ge (h pr s σ H _ I hw) fun v s1 h1=>Ge h1 fun u s2 h2=>Ge h2 fun c s3 ⟨x,H1,I1,r1,q1⟩=>?_) h1;obtain⟨d,rfl,q⟩:=q1;cases r1;exact Sv ⟨H1,I1,q⟩
theorem AJ{e:Expr}{t:TE}(h:PE X e t)(he:∀whole,isTrue e X.env whole=(do let v <-whole;standAt e.pos;holding [v] (truthy v)):=by intro _;rfl):PT X e (tB t):=by
 intro pr s σ H Q I hw;refine isTrue_plain (Ge (h pr s σ H _ I hw) fun v s1 ⟨x,H1,I1,r1,q1⟩=>?_) (he _);obtain⟨d,rfl,q⟩:=q1;cases r1;exact Sv ⟨H1,I1,q⟩
variable{tA Oq:TT}{dq:List Expr}
def EN(t u:TT):TT:=fun σ H Q=>t σ H fun c H1=>if c=true then u σ H1 Q else Q false H1
def tOr(t u:TT):TT:=fun σ H Q=>t σ H fun c H1=>if c=true then Q true H1 else u σ H1 Q
def EO(t:TT):TT:=fun σ H Q=>t σ H fun c H1=>Q (!c) H1
theorem x6(ha:PT X a tA):PW X (.BoolOp .And [a] pos) tA:=by
 intro wh pr s σ H Q I h;refine isTrue_and (Ge (ha pr s σ H Q I h) fun c s1 e=>?_);cases c with
 |true=>exact isTrue_and_nil e
 |false=>exact e
theorem AK(ha:PT X a tA):PW X (.BoolOp .Or [a] pos) tA:=by
 intro wh pr s σ H Q I h;refine isTrue_or (Ge (ha pr s σ H Q I h) fun c s1 e=>?_);cases c with
 |false=>exact isTrue_or_nil e
 |true=>exact e
theorem AL(ha:PT X a tA)(hb:PW X (.BoolOp .And (b::dq) pos) Oq):PW X (.BoolOp .And (a::b::dq) pos) (EN tA Oq):=by
 intro wh pr s σ H Q I h;refine isTrue_and (Ge (ha pr s σ H _ I h) fun c s1 Gf=>?_);obtain⟨H1,I1,q1⟩:=Gf;cases c with
 |true=>exact hb wh pr s1 σ H1 Q I1 q1
 |false=>exact⟨H1,I1,q1⟩
theorem Dg(ha:PT X a tA)(hb:PW X (.BoolOp .Or (b::dq) pos) Oq):PW X (.BoolOp .Or (a::b::dq) pos) (tOr tA Oq):=by
 intro wh pr s σ H Q I h;refine isTrue_or (Ge (ha pr s σ H _ I h) fun c s1 Gf=>?_);obtain⟨H1,I1,q1⟩:=Gf;cases c with
 |true=>exact⟨H1,I1,q1⟩
 |false=>exact hb wh pr s1 σ H1 Q I1 q1
theorem AM(ha:PT X a tA):PT X (.UnaryOp .Not a pos) (EO tA):=by
 intro pr s σ H Q I h;exact isTrue_not (ha pr s σ H (fun c H1=>Q (!c) H1) I h)
def Dh(ta tb:TE):TE:=fun σ H Q=>ta σ H fun x H1=>∃c,x=.bl c/\if c=true then tb σ H1 Q else Q (.bl false) H1
def Di(ta:TE):TE:=fun σ H Q=>ta σ H fun x H1=>∃c,x=.bl c/\Q (.bl (!c)) H1
theorem AN{op}{t:TE}(h:PE X a t):PE X (.BoolOp op [a] pos) t:=fun pr s σ H Q I hw=>BoolOp_one (h pr s σ H Q I hw)
theorem AO(ha:PE X a ta)(hb:PE X (.BoolOp .And (b::dq) pos) tb):PE X (.BoolOp .And (a::b::dq) pos) (Dh ta tb):=by
 intro pr s σ H Q I h;refine BoolOp_and (Ge (ha pr s σ H _ I h) fun v s1 Gf=>?_);obtain⟨x,H1,I1,r1,q1⟩:=Gf;obtain⟨c,rfl,q1⟩:=q1;cases r1;refine Sv ?_;cases c with
 |true=>exact hb pr s1 σ H1 Q I1 q1
 |false=>exact⟨.bl false,H1,I1,rfl,q1⟩
theorem AQ(ha:PE X a ta):PE X (.UnaryOp .Not a pos) (Di ta):=by
 intro pr s σ H Q I h;refine UnaryOp_ (Ge (ha pr s σ H _ I h) fun v s1 Gf=>?_);obtain⟨x,H1,I1,r1,q1⟩:=Gf;obtain⟨c,rfl,q1⟩:=q1;cases r1;exact not_of (Sv ⟨.bl (!c),H1,I1,rfl,q1⟩)
end
def SqL(K:W.Frag)(H:Hp)(a:Addr)(xs:List V):Prop:=
 Rd H a (.lst xs)\/
  ∃(o:Obj) (F1:Array Value) (n:Nat),K.lookup a=some o/\o.cls=.type "list"/\o.dict=none/\o.data=.seq F1 n/\F1.size<=sizeLine/\Vals xs F1.toList
def SqT(K:W.Frag)(H:Hp)(a:Addr)(xs:List V):Prop:=
 Rd H a (.tup xs)\/
  ∃(o:Obj) (F1:Array Value) (n:Nat),K.lookup a=some o/\o.cls=.type "tuple"/\o.dict=none/\o.data=.seq F1 n/\F1.size<=sizeLine/\Vals xs F1.toList
def ER:Value->Option V
 | .none=>some .non
 | .bool b=>some (.bl b)
 | .int i _=>some (.int i)
 | .str x _=>some (.str x)
 | .bytes b _=>some (.byt b)
 | .float b _=>some (.flt b)
 | .ref a=>some (.ref a)
 | .type n=>some (.ty n)
 |_=>none
theorem RelV.abs{x:V}{u:Value}(r:RelV x u):ER u=some x:=by
 cases x with
 |non=>cases r;rfl
 |bl _=>cases r;rfl
 |int _=>obtain⟨t,rfl⟩:=r;rfl
 |str _=>obtain⟨t,rfl⟩:=r;rfl
 |byt _=>obtain⟨t,rfl⟩:=r;rfl
 |flt _=>obtain⟨t,rfl⟩:=r;rfl
 |ref _=>cases r;rfl
 |ty _=>cases r;rfl
theorem RelV.inj{x y:V}{u:Value}(r:RelV x u)(q:RelV y u):x=y:=Rt (r.abs.symm.trans q.abs)
theorem Vals.inj:∀{xs ys:List V}{us:List Value},Vals xs us->Vals ys us->xs=ys
 |_,_,_,.nil,.nil=>rfl
 |_,_,_,.cons r t,.cons r' t'=>by rw[r.inj r',Vals.inj t t']
section
variable{X:Cx}{pr:List (Addr×Obj)}{σ:St}{H:Hp}{s:Shared}{a:Addr}{xs ys:List V}
theorem SqL.of{K:W.Frag}(h:H a=some (.lst xs)):SqL K H a xs:=.inl (.inl h)
theorem SqT.of{K:W.Frag}(h:H a=some (.tup xs)):SqT K H a xs:=.inl (.inl h)
theorem Inv.list(I:Inv X pr σ H s)(h:SqL X.K H a xs):∃F1:List Value,Vals xs F1/\PlainL s.heap a F1.toArray/\xs.length<=sizeLine:=by
 rcases h with h|⟨o,F1,n,hk,hc,hd,hs,hz,r⟩
 ·obtain⟨z,F1,n,r,e⟩:=h.ok I.hok;exact⟨F1,r,⟨_,n,e,rfl,rfl,rfl⟩,z⟩
 ·refine⟨F1.toList,r,⟨o,n,I.kIn a o hk,hc,hd,by simpa using hs⟩,?_⟩;have e:=r.length;simp only[R4]at e;lia
theorem Inv.tupleN(I:Inv X pr σ H s)(h:SqT X.K H a xs):∃F1:List Value,Vals xs F1/\IsTupN s.heap a F1.toArray/\xs.length<=sizeLine:=by
 rcases h with h|⟨o,F1,n,hk,hc,hdn,hs,hz,r⟩
 ·obtain⟨z,F1,r,p⟩:=h.ok I.hok;exact⟨F1,r,p,z⟩
 ·refine⟨F1.toList,r,⟨o,I.kIn a o hk,hc,⟨n,by simpa using hs⟩,hdn⟩,?_⟩;have e:=r.length;simp only[R4]at e;lia
theorem Inv.tuple(I:Inv X pr σ H s)(h:SqT X.K H a xs):∃F1:List Value,Vals xs F1/\IsTup s.heap a F1.toArray/\xs.length<=sizeLine:=by
 obtain⟨F1,r,p,z⟩:=I.tupleN h;exact⟨F1,r,p.tup,z⟩
theorem Inv.list_inj(I:Inv X pr σ H s)(h:SqL X.K H a xs)(h':SqL X.K H a ys):xs=ys:=by
 obtain⟨F1,r,⟨o,n,e,_,_,d⟩,_⟩:=I.list h;obtain⟨its',r',⟨o',n',e',_,_,d'⟩,_⟩:=I.list h';rw[e]at e';cases e';rw[d]at d';injection d' with d1 _;have:F1=its':=by simpa using R7 Array.toList d1
 subst this;exact r.inj r'
theorem Inv.tuple_inj(I:Inv X pr σ H s)(h:SqT X.K H a xs)(h':SqT X.K H a ys):xs=ys:=by
 obtain⟨F1,r,⟨o,e,_,n,d⟩,_⟩:=I.tuple h;obtain⟨its',r',⟨o',e',_,n',d'⟩,_⟩:=I.tuple h';rw[e]at e';cases e';rw[d]at d';injection d' with d1 _;have:F1=its':=by simpa using R7 Array.toList d1
 subst this;exact r.inj r'
end
abbrev Cx.wish(X:Cx)(E:Value->Shared->Prop):Cx:={X with xe:=E}
abbrev Cx.nox(X:Cx):Cx:=X.wish fun _ _=>False
theorem Cx.Ok.wish{X:Cx}(ok:X.Ok)(E:Value->Shared->Prop):(X.wish E).Ok:=
 ⟨ok.mod,ok.kind,ok.glob,ok.blt,ok.above,ok.inj,ok.has,ok.cab,ok.hd,ok.frames,ok.stk,ok.exf,ok.bs,ok.bsz,ok.noex,ok.exfs,ok.funs,ok.frf⟩
theorem Cx.Ok.unwish{X:Cx}{E:Value->Shared->Prop}(ok:(X.wish E).Ok):X.Ok:=
 ⟨ok.mod,ok.kind,ok.glob,ok.blt,ok.above,ok.inj,ok.has,ok.cab,ok.hd,ok.frames,ok.stk,ok.exf,ok.bs,ok.bsz,ok.noex,ok.exfs,ok.funs,ok.frf⟩
section
variable{X:Cx}{pr:List (Addr×Obj)}{σ:St}{H:Hp}{s:Shared}{E:Value->Shared->Prop}
theorem Inv.wish(I:Inv X pr σ H s)(E:Value->Shared->Prop):Inv (X.wish E) pr σ H s:=⟨I.ok.wish E,I.os,I.bare,I.base,I.loc,I.cell,I.free,I.freeC,I.pin,I.hok,I.len⟩
theorem Inv.unwish(I:Inv (X.wish E) pr σ H s):Inv X pr σ H s:=⟨I.ok.unwish,I.os,I.bare,I.base,I.loc,I.cell,I.free,I.freeC,I.pin,I.hok,I.len⟩
theorem SP.unwish{D:Ends}{f:Flow}{s':Shared}(h:SP (X.wish E) pr D f s'):SP X pr D f s':=by
 cases f with
 |next=>obtain⟨σ',H',I,q⟩:=h;exact⟨σ',H',I.unwish,q⟩
 |brk=>obtain⟨σ',H',I,q⟩:=h;exact⟨σ',H',I.unwish,q⟩
 |cont=>obtain⟨σ',H',I,q⟩:=h;exact⟨σ',H',I.unwish,q⟩
 |ret u=>obtain⟨v,σ',H',I,r,q⟩:=h;exact⟨v,σ',H',I.unwish,r,q⟩
theorem PSs.nox{st:List Stmt}{t:TS}(h:PSs X.nox st t):PSs X st t:=fun pr s σ H D I hw=>
 Ts (h pr s σ H D (I.wish _) hw) (fun _ _ q=>q.unwish) fun _ _ z=>False.elim z
end
section
variable{X:Cx}{st:Stmt}{dq:List Stmt}{t u:TS}{e:Expr}{te:TE}{pos:Pos}
def Dj:TS:=fun D σ H=>D.nx σ H
def ES(t u:TS):TS:=fun D σ H=>t {D with nx:=u D} σ H
theorem x9:PSs X [] Dj:=fun _ _ σ H _ I h=>Uc ⟨σ,H,I,h⟩
theorem vn(h1:PS X st t)(h2:PSs X dq u):PSs X (st::dq) (ES t u):=by
 intro pr s σ H D I h;refine wpAny_execs_cons (Ge (h1 pr s σ H {D with nx:=u D} I h) fun f s1 q=>?_);cases f with
 |next=>
  obtain⟨σ',H',I',q⟩:=q;exact h2 pr s1 σ' H' D I' q
 |ret v=>exact q
 |brk=>exact q
 |cont=>exact q
theorem ya(h1:PS X st t):PSs X [st] t:=by
 intro pr s σ H D I h;refine wpAny_execs_cons (Ge (h1 pr s σ H D I h) fun f s1 q=>?_);cases f with
 |next=>exact Uc q
 |ret v=>exact q
 |brk=>exact q
 |cont=>exact q
theorem Inv.quiet{pr:List (Addr×Obj)}{σ:St}{H:Hp}{s:Shared}(I:Inv X pr σ H s):interactive X.env=false:=by simp[interactive,I.ok.kind]
def Dk(te:TE):TS:=fun D σ H=>te σ H fun _ H1=>D.nx σ H1
theorem yb(he:PE X e te)(hs:swapsWith e none pos.line X.env=pure false:=by rfl):PS X (.Expr e pos) (Dk te):=by
 intro pr s σ H D I h;exact wpAny_Expr_any (Ge (he pr s σ H _ I h) fun v s1 ⟨x,H1,I1,r1,q1⟩=>⟨σ,H1,I1,q1⟩) I.quiet hs
def ET(te:TE):TS:=fun D σ H=>te σ H D.rt
theorem xg(he:PE X e te):PS X (.Return (some e) pos) (ET te):=by
 intro pr s σ H D I h;exact wpAny_Return_some (Ge (he pr s σ H _ I h) fun v s1 ⟨x,H1,I1,r1,q1⟩=>⟨x,σ,H1,I1,r1,q1⟩)
def EU(c:TT)(t u:TS):TS:=fun D σ H=>c σ H fun b H1=>if b=true then t D σ H1 else u D σ H1
theorem Dl{c:Expr}{a b:List Stmt}{tc:TT}(hc:PT X c tc)(ha:PSs X a t)(hb:PSs X b u):PS X (.If c a b pos) (EU tc t u):=by
 intro pr s σ H D I h;refine wpAny_If (Ge (hc pr s σ H _ I h) fun d s1 Gf=>?_);obtain⟨H1,I1,q1⟩:=Gf;cases d with
 |true=>exact ha pr s1 σ H1 D I1 q1
 |false=>exact hb pr s1 σ H1 D I1 q1
def AR:TS:=fun _ _ _=>False
theorem vo:PS X st AR:=fun _ _ _ _ _ _ h=>h.elim
end
abbrev TG:=V->St->Hp->(St->Hp->Prop)->Prop
abbrev LJ:=List V->St->Hp->(St->Hp->Prop)->Prop
def PG(X:Cx)(target:Expr)(t:TG):Prop:=
 ∀(pr:List (Addr×Obj)) (s:Shared) (σ:St) (H:Hp) (v:V) (u:Value) (Q:St->Hp->Prop),Inv X pr σ H s->RelV v u->t v σ H Q->
  wpAny (model X.prog X.w) X.A (assign target X.env u) (fun _ s'=>∃σ' H',Inv X pr σ' H' s'/\Q σ' H') X.xe s
def LX(X:Cx)(ts:List Expr)(t:LJ):Prop:=
 ∀(pr:List (Addr×Obj)) (s:Shared) (σ:St) (H:Hp) (vs:List V) (us:List Value) (Q:St->Hp->Prop),Inv X pr σ H s->Vals vs us->t vs σ H Q->
  wpAny (model X.prog X.w) X.A (assignInOrder ((assignEach ts X.env).map (·.2)) us) (fun _ s'=>∃σ' H',Inv X pr σ' H' s'/\Q σ' H') X.xe s
abbrev EV:=V->V->V->Hp->(Hp->Prop)->Prop
def EW(X:Cx)(t:EV):Prop:=
 ∀(pr:List (Addr×Obj)) (s:Shared) (σ:St) (H:Hp) (o i v:V) (ov iv u:Value) (Q:Hp->Prop),Inv X pr σ H s->RelV o ov->RelV i iv->RelV v u->t o i v H Q->
  wpAny (model X.prog X.w) X.A (setItem ov iv u) (fun _ s'=>∃H',Inv X pr σ H' s'/\Q H') X.xe s
section
variable{X:Cx}{pos:Pos}
def AS(i:Nat):TG:=fun v σ H Q=>Q (σ.set i (some v)) H
theorem yc{i:Nat}{x:Str}(hN:X.N.Nodup)(hi:X.N[i]?=some x)(hx:Loc X.env.scope x)(hf:X.fn x=true\/X.env.scope.names.lookup x=some .local:=by first|exact .inl rfl|exact .inr rfl|assumption):PG X (.Name x pos) (AS i):=by
 intro pr s σ H v u Q I r h;exact wpAny_assign_Name (pd I hN hi hx r (fun s' I'=>⟨_,H,I',h⟩) hf)
def EX:LJ:=fun vs σ H Q=>vs=[]/\Q σ H
def Dm(t:TG)(u:LJ):LJ:=fun vs σ H Q=>∃v r,vs=v::r/\t v σ H fun σ' H'=>u r σ' H' Q
theorem yd:LX X [] EX:=by
 intro pr s σ H vs us Q I r h;obtain⟨e,h⟩:=h;subst e;cases r;exact assignInOrder_nil ⟨σ,H,I,h⟩
theorem vp{e:Expr}{es:List Expr}{t:TG}{u:LJ}(h1:PG X e t)(h2:LX X es u)
  (hs:(assignEach (e::es) X.env).map (·.2)=assign e X.env::(assignEach es X.env).map (·.2):=by rfl):LX X (e::es) (Dm t u):=by
 intro pr s σ H vs us Q I r h;obtain⟨v,vr,e1,h⟩:=h;subst e1;cases r with
 |cons r rr=>
  rw[hs];refine assignInOrder_cons (Ge (h1 pr s σ H _ _ _ I r h) fun _ s1 Gf=>?_);obtain⟨σ1,H1,I1,q1⟩:=Gf;exact h2 pr s1 σ1 H1 _ _ Q I1 rr q1
def EY(K:W.Frag)(n:Nat)(t:LJ):TG:=fun v σ H Q=>∃a xs,v=.ref a/\SqT K H a xs/\xs.length=n/\t xs σ H Q
theorem AU{es:List Expr}{k:Nat}{t:LJ}{n:Nat}(hc:X.calm=true)(h:LX X es t)
  (hn:(assignEach es X.env).length=n:=by rfl) (Kb:(assignEach es X.env).findIdx? (·.1)=none:=by rfl):PG X (.Tuple es k pos) (EY X.K n t):=by
 intro pr s σ H v u Q I r hw;obtain⟨a,xs,e1,hq,hl,hw⟩:=hw;subst e1;cases r;obtain⟨F1,rv,ht,hz⟩:=I.tuple hq;refine assign_Tuple_tuple (I.ok.hd hc) ht (by simp[hn,<-hl,rv.length]) Kb fun h' hx=>?_
 have I1:Inv X pr σ H {s with heap:=h'}:=I.kept (t':=s.toks) fun b o e=>hx b o (Rp (Rf e)) e
 exact h pr _ σ H xs _ Q I1 (by simpa using rv) hw
def Et(te:TE)(g:TG):TS:=fun D σ H=>te σ H fun x H1=>g x σ H1 D.nx
theorem AV{tg e:Expr}{te:TE}{g:TG}(he:PE X e te)(hg:PG X tg g)(hs:swapsWithSole [tg] e pos.line X.env=pure false:=by rfl)(hw:swappedStores [tg] e X.env=pure none:=by rfl)
  (h1:(assignEach [tg] X.env).map (·.2)=[assign tg X.env]:=by rfl):PS X (.Assign [tg] e pos) (Et te g):=by
 intro pr s σ H D I h;refine wpAny_Assign_stores (Ge (he pr s σ H _ I h) fun v s1 ⟨x,H1,I1,r1,q1⟩=>?_) hs hw;rw[h1];exact Ge (hg pr s1 σ H1 x v _ I1 r1 q1) fun _ s2 q=>q
theorem AW{i:Nat}{x:Str}{e:Expr}{te:TE}{pos':Pos}(hN:X.N.Nodup)(hi:X.N[i]?=some x)(hx:Loc X.env.scope x)(he:PE X e te)(hs:swapsWith e (some (.Name x pos')) pos.line X.env=pure false:=by rfl)(hf:X.fn x=true\/X.env.scope.names.lookup x=some .local:=by first|exact .inl rfl|exact .inr rfl|assumption):
  PS X (.Assign [.Name x pos'] e pos) (Et te (AS i)):=by
 intro pr s σ H D I h;refine wpAny_Assign_Name (Ge (he pr s σ H _ I h) fun v s1 ⟨y,H1,I1,r1,q1⟩=>?_) hs;exact pd I1 hN hi hx r1 (fun s2 I2=>⟨_,H1,I2,q1⟩) hf
end
section
variable{X:Cx}{pos:Pos}
def AX(c:TT)(tb:TS):TS:=fun D σ H=>∃W:Nat->St->Hp->Prop,(∃m,W m σ H)/\∀m σ H,W m σ H->
 c σ H fun b H1=>if b=true then ∃N:St->Hp->Prop,(∀σ' H',N σ' H'->∃m',m'<m/\W m' σ' H')/\tb {D with nx:=N,ct:=N,bk:=D.nx} σ H1 else D.nx σ H1
theorem vq{c:Expr}{body:List Stmt}{tc:TT}{tb:TS}(hp:PassesOwn (model X.prog X.w) X.A X.env X.xe)(hc:PT X c tc)(hb:PSs X body tb):PS X (.While c body [] pos) (AX tc tb):=by
 intro pr s σ H D I h;obtain⟨W,⟨m0,w0⟩,turn⟩:=h;refine wpAny_While (codeAny_whileLoop (fun n s'=>∃σ' H',Inv X pr σ' H' s'/\W n σ' H') ?_ m0 ⟨σ,H,I,w0⟩);rintro n s1 ⟨σ1,H1,I1,w1⟩;refine SN hp (Ge (hc pr s1 σ1 H1 _ I1 (turn n σ1 H1 w1)) fun b s2 Gf=>?_);obtain⟨H2,I2,q2⟩:=Gf;cases b with
 |true=>
  obtain⟨N,hN,q2⟩:=q2;rw[Rb rfl];refine SN hp (Ge (hb pr s2 σ1 H2 _ I2 q2) fun f s3 q3=>?_);cases f with
  |next=>
   obtain⟨σ3,H3,I3,n3⟩:=q3;obtain⟨m',hm,w3⟩:=hN σ3 H3 n3;exact⟨m',hm,σ3,H3,I3,w3⟩
  |cont=>
   obtain⟨σ3,H3,I3,n3⟩:=q3;obtain⟨m',hm,w3⟩:=hN σ3 H3 n3;exact⟨m',hm,σ3,H3,I3,w3⟩
  |brk=>exact q3
  |ret v=>exact q3
 |false=>
  rw[Rg Rc];exact Uc ⟨σ1,H2,I2,q2⟩
end
structure It where
 go:Nat->Hp->Prop
 yld:Nat->Hp->V->Hp->Prop
 stop:Nat->Hp->Prop
def rH(X:Cx)(pr:List (Addr×Obj))(H:Hp)(b:Addr):Prop:=
 H b=none/\b≠X.env.locals/\b∉X.fs/\(b∈X.ex\/X.s₀.heap.objs.size<=b)/\(∀x c,X.env.cells.lookup x=some c->c≠b)/\∀p∈X.pn++pr,p.1≠b
theorem Inv.fpOk{X:Cx}{pr:List (Addr×Obj)}{σ:St}{H H':Hp}{s:Shared}{b:Addr}(I:Inv X pr σ H s)(hb:s.heap.objs.size<=b)(hn:H' b=none):rH X pr H' b:=by
 refine⟨hn,VX (Rj I.lt hb),I.nofs hb,.inr (RB I.sz hb),fun x c e z=>?_,fun p hp z=>?_⟩
 ·obtain⟨v,q⟩:=I.cell x c e;exact absurd (Rj q.lt (by rw[z];exact hb)) (SW _)
 ·exact absurd (Rj (Rf (I.pin p hp).1) (by rw[z];exact hb)) (SW _)
structure Turn(P:Program)(w:World)(K:W.Frag)(tg:Expr)(J:It)(fp:List Addr)(it:Addr)(tn:Nat->Heap->Prop):Prop where
 mem:it∈fp
 obj:∀i h,tn i h->∀b∈fp,∃o,h.get? b=some o/\∀v,o.data≠.cell v
 keep:∀i h h',tn i h->(∀b∈fp,∀o,h.get? b=some o->h'.get? b=some o)->tn i h'
 item:∀(X:Cx),X.prog=P->X.w=w->X.K=K->X.calm=true->∀(i:Nat) (pr:List (Addr×Obj)) (s:Shared) (σ:St) (H:Hp) (E:Value->Shared->Prop),Inv X pr σ H s->(∀b∈fp,rH X pr H b)->tn i s.heap->J.go i H->
  wpAny (model P w) X.A (pyNext (.ref it)) (fun r s1=>∃u,r=some u/\
   wpAny (model P w) X.A (letOwnedTupleGo tg (.ref it) u) (fun _ s2=>∃x H',Inv X pr σ H' s2/\RelV x u/\J.yld i H x H'/\tn (i+1) s2.heap/\∀b∈fp,H' b=none) E s1) E s
 done:∀(X:Cx),X.prog=P->X.w=w->X.K=K->X.calm=true->∀(i:Nat) (pr:List (Addr×Obj)) (s:Shared) (σ:St) (H:Hp) (E:Value->Shared->Prop),Inv X pr σ H s->(∀b∈fp,rH X pr H b)->tn i s.heap->J.stop i H->
  wpAny (model P w) X.A (pyNext (.ref it)) (fun r s1=>r=none/\Inv X pr σ H s1) E s
 self:∀(A:Around) (i:Nat) (s:Shared) (Q:Value->Shared->Prop) (E:Value->Shared->Prop),tn i s.heap->Q (.ref it) s->wpAny (model P w) A (pyIter (.ref it)) Q E s
abbrev TI:=St->Hp->(It->Hp->Prop)->Prop
def Qd(X:Cx)(pr:List (Addr×Obj))(σ:St)(tg:Expr)(R:It->Hp->Prop)(Ot:Value)(s2:Shared):Prop:=
 ∃(it:Addr) (fp:List Addr) (tn:Nat->Heap->Prop) (J:It) (H':Hp),Ot=.ref it/\Inv X pr σ H' s2/\Turn X.prog X.w X.K tg J fp it tn/\tn 0 s2.heap/\(∀b∈fp,rH X pr H' b)/\R J H'
def PI(X:Cx)(tg iter:Expr)(wi:TI):Prop:=
 ∀(pr:List (Addr×Obj)) (s:Shared) (σ:St) (H:Hp) (R:It->Hp->Prop),Inv X pr σ H s->wi σ H R->
  wpAny (model X.prog X.w) X.A (eval iter X.env) (fun v s1=>wpAny (model X.prog X.w) X.A (pyIter v) (Qd X pr σ tg R) X.xe s1) X.xe s
theorem rM {M : Model} {A : Around} {E : Value -> Shared -> Prop} {s : Shared} {tg : Expr} {it : Addr} {u : Value} {o : Obj} {n : String} {vs : Array Value} {Q : Unit -> Shared -> Prop} (ho : s.heap.get? it = some o) (hc : o.cls = .type n) (hd : o.data = .fields vs)
    (hn : ["enumerate", "zip", "dict_itemiterator", "dict_reverseitemiterator", "odict_iterator", "itertools.zip_longest", "itertools.pairwise"].contains n = false) (hQ : Q () s) : wpAny M A (letOwnedTupleGo tg (.ref it) u) Q E s := by
  unfold letOwnedTupleGo
  cases tg <;> first
    | exact Q6 hQ
    | (cases u <;> first
        | exact Q6 hQ
        | (refine Q1 (wpAny_load ho ?_)
           rw [hc, hd]
           show wpAny M A (if (["enumerate", "zip", "dict_itemiterator", "dict_reverseitemiterator", "odict_iterator", "itertools.zip_longest", "itertools.pairwise"].contains n && vs[0]? == some (rawInt _)) = true then _ else _) Q E s
           rw [Rg (by intro h; rw [hn, Uq] at h; cases h)]
           exact Q6 hQ))
def MT(K:W.Frag)(a:Addr):It:=
 ⟨fun i H=>∃xs x,SqL K H a xs/\xs[i]?=some x,fun i H x H'=>H'=H/\∀xs,SqL K H a xs->xs[i]?=some x,fun i H=>∃xs,SqL K H a xs/\xs.length<=i⟩
def O1(K:W.Frag)(a:Addr):It:=
 ⟨fun i H=>∃xs x,SqT K H a xs/\xs[i]?=some x,fun i H x H'=>H'=H/\∀xs,SqT K H a xs->xs[i]?=some x,fun i H=>∃xs,SqT K H a xs/\xs.length<=i⟩
def Ou(lo:Int)(n:Nat):It:=⟨fun i _=>i<n,fun i H x H'=>H'=H/\x=.int (lo+i),fun i _=>n<=i⟩
theorem rN{P:Program}{w:World}{K:W.Frag}{tg:Expr}(a it:Addr):Turn P w K tg (MT K a) [it] it (fun i h=>h.IsListIter it a i) where
 mem:=by simp
 obj:=fun i h st b hb=>by
  have e:b=it:=by simpa using hb
  subst e;obtain⟨o,e,c,d⟩:=st;exact⟨o,e,fun v z=>by rw[d]at z;cases z⟩
 keep:=fun i h h' st k=>st.at fun o e=>k it (by simp) o e
 item:=by
  intro X hP hw hK hc i pr s σ H E I hf st hg;subst hP hw hK;obtain⟨xs,x,hq,hx⟩:=hg;obtain⟨F1,rv,p,hz⟩:=I.list hq;obtain⟨u,hu,ru⟩:=rv.get hx;obtain⟨f0,f1,f2,f3,f4,f5⟩:=hf it (by simp);refine wpAny_pyNext_list_item st p.isList (x:=u) (by simpa using hu) fun h' HI sb=>?_
  have I1:Inv X pr σ H {s with heap:=h'}:=I.turned (t':=s.toks) (fun b o hb e=>(sb.2 b hb).trans e) f0 f1 f3 f4 f5;obtain⟨o,e,c,d⟩:=id HI;exact⟨u,rfl,rM (s:={s with heap:=h'}) e c d (by decide) ⟨x,H,I1,ru,⟨rfl,fun ys hy=>by rw[I.list_inj hy hq];exact hx⟩,HI,fun b hb=>(hf b hb).1⟩⟩
 done:=by
  intro X hP hw hK hc i pr s σ H E I hf st hg;subst hP hw hK;obtain⟨xs,hq,hx⟩:=hg;obtain⟨F1,rv,p,hz⟩:=I.list hq;obtain⟨f0,f1,f2,f3,f4,f5⟩:=hf it (by simp);have hl:=rv.length;exact wpAny_pyNext_list_end (I.ok.hd hc) st p.isList (by simp;lia) fun h' eb=>⟨rfl,I.turned (t':=s.toks) (fun b o hb e=>eb b o hb e) f0 f1 f3 f4 f5⟩
 self:=fun _ _ _ _ _ st h=>wpAny_pyIter_listiter st h
theorem qA{P:Program}{w:World}{K:W.Frag}{tg:Expr}(a it:Addr):Turn P w K tg (O1 K a) [it] it (fun i h=>h.IsTupleIter it a i) where
 mem:=by simp
 obj:=fun i h st b hb=>by
  have e:b=it:=by simpa using hb
  subst e;obtain⟨o,e,c,d⟩:=st;exact⟨o,e,fun v z=>by rw[d]at z;cases z⟩
 keep:=fun i h h' st k=>st.at fun o e=>k it (by simp) o e
 item:=by
  intro X hP hw hK hc i pr s σ H E I hf st hg;subst hP hw hK;obtain⟨xs,x,hq,hx⟩:=hg;obtain⟨F1,rv,p,hz⟩:=I.tuple hq;obtain⟨u,hu,ru⟩:=rv.get hx;obtain⟨f0,f1,f2,f3,f4,f5⟩:=hf it (by simp);refine wpAny_pyNext_tuple_item st (show s.heap.IsTuple a F1.toArray from p) (x:=u) (by simpa using hu) fun h' HI sb=>?_
  have I1:Inv X pr σ H {s with heap:=h'}:=I.turned (t':=s.toks) (fun b o hb e=>(sb.2 b hb).trans e) f0 f1 f3 f4 f5;obtain⟨o,e,c,d⟩:=id HI;exact⟨u,rfl,rM (s:={s with heap:=h'}) e c d (by decide) ⟨x,H,I1,ru,⟨rfl,fun ys hy=>by rw[I.tuple_inj hy hq];exact hx⟩,HI,fun b hb=>(hf b hb).1⟩⟩
 done:=by
  intro X hP hw hK hc i pr s σ H E I hf st hg;subst hP hw hK;obtain⟨xs,hq,hx⟩:=hg;obtain⟨F1,rv,p,hz⟩:=I.tuple hq;obtain⟨f0,f1,f2,f3,f4,f5⟩:=hf it (by simp);have hl:=rv.length;exact wpAny_pyNext_tuple_end (I.ok.hd hc) st (show s.heap.IsTuple a F1.toArray from p) (by simp;lia) fun h' eb=>⟨rfl,I.turned (t':=s.toks) (fun b o hb e=>eb b o hb e) f0 f1 f3 f4 f5⟩
 self:=fun _ _ _ _ _ st h=>wpAny_pyIter_tupleiter st h
theorem qB{P:Program}{w:World}{K:W.Frag}{tg:Expr}(it:Addr)(lo:Int)(n:Nat):Turn P w K tg (Ou lo n) [it] it (fun i h=>IsRangeIter h it (lo+(i:Nat)*1) ((n:Int)-(i:Nat)) 1) where
 mem:=by simp
 obj:=fun i h st b hb=>by
  have e:b=it:=by simpa using hb
  subst e;exact⟨_,st,fun v z=>by
   have z':Data.fields _=Data.cell v:=z;cases z'⟩
 keep:=fun i h h' st k=>k it (by simp) _ st
 item:=by
  intro X hP hw hK hc i pr s σ H E I hf st hg;subst hP hw hK;obtain⟨f0,f1,f2,f3,f4,f5⟩:=hf it (by simp);have W:=Walks.range (prog:=X.prog) (w:=X.w) (I.ok.hd hc) it lo 1 n;refine W.item i s _ _ hg st fun v h' tk hv HI kk=>?_
  obtain⟨t,rfl⟩:=hv;have I1:Inv X pr σ H {s with heap:=h',toks:=tk}:=I.turned (fun b o hb e=>kk b o (by simpa using hb) e) f0 f1 f3 f4 f5;refine⟨_,rfl,rM (s:={s with heap:=h',toks:=tk}) (n:="range_iterator") HI rfl rfl (by decide) ⟨.int (lo+i),H,I1,⟨t,?_⟩,⟨rfl,rfl⟩,HI,fun b hb=>(hf b hb).1⟩⟩;rw[Int.mul_one]
 done:=by
  intro X hP hw hK hc i pr s σ H E I hf st hg;subst hP hw hK;obtain⟨f0,f1,f2,f3,f4,f5⟩:=hf it (by simp);exact wpAny_pyNext_range_end (I.ok.hd hc) st (by have:n<=i:=hg;lia) fun h' eb=>⟨rfl,I.turned (t':=s.toks) (fun b o hb e=>eb b o hb e) f0 f1 f3 f4 f5⟩
 self:=fun _ _ _ _ _ st h=>wpAny_pyIter_rangeiter st h
section
variable{X:Cx}{tg:Expr}
def Dn(K:W.Frag)(tl:TE):TI:=fun σ H R=>tl σ H fun x H1=>∃a,x=.ref a/\(∃xs,SqL K H1 a xs)/\R (MT K a) H1
def EZ(K:W.Frag)(tl:TE):TI:=fun σ H R=>tl σ H fun x H1=>∃a,x=.ref a/\(∃xs,SqT K H1 a xs)/\R (O1 K a) H1
theorem rO{l:Expr}{tl:TE}(hl:PE X l tl):PI X tg l (Dn X.K tl):=by
 intro pr s σ H R I h;refine Ge (hl pr s σ H _ I h) fun v s1 Gf=>?_
 obtain⟨x,H1,I1,r1,q1⟩:=Gf;obtain⟨a,e,⟨xs,hq⟩,q⟩:=q1;subst e;cases r1;obtain⟨F1,rv,p,hz⟩:=I1.list hq;refine SO p.isList ?_;refine⟨s1.heap.objs.size,[s1.heap.objs.size],_,_,H1,rfl,I1.kept (t':=s1.toks) fun b o e=>Heap.get?_push_of_some _ e,rN a _,⟨_,Heap.get?_push_size _ rfl,rfl,rfl⟩,fun b hb=>?_,q⟩;have e:b=s1.heap.objs.size:=by simpa using hb
 subst e;exact I1.fpOk (Q8 _) (I1.hok.fresh (Q8 _))
theorem AY{l:Expr}{tl:TE}(hl:PE X l tl):PI X tg l (EZ X.K tl):=by
 intro pr s σ H R I h;refine Ge (hl pr s σ H _ I h) fun v s1 Gf=>?_
 obtain⟨x,H1,I1,r1,q1⟩:=Gf;obtain⟨a,e,⟨xs,hq⟩,q⟩:=q1;subst e;cases r1;obtain⟨F1,rv,p,hz⟩:=I1.tuple hq;refine SI (show s1.heap.IsTuple a F1.toArray from p) ?_;refine⟨s1.heap.objs.size,[s1.heap.objs.size],_,_,H1,rfl,I1.kept (t':=s1.toks) fun b o e=>Heap.get?_push_of_some _ e,qA a _,⟨_,Heap.get?_push_size _ rfl,rfl,rfl⟩,fun b hb=>?_,q⟩;have e:b=s1.heap.objs.size:=by simpa using hb
 subst e;exact I1.fpOk (Q8 _) (I1.hok.fresh (Q8 _))
theorem vy{pr:List (Addr×Obj)}{σ:St}{H:Hp}{s:Shared}{R:It->Hp->Prop}{E:Value->Shared->Prop}{lo hi:Int}{t u v:Tok}{tk:Nat}(I:Inv X pr σ H s)(h1:-(2 ^ 62)<=lo)(h2:lo<2 ^ 62)(h3:-(2 ^ 62)<=hi)(h4:hi<2 ^ 62)
  (q:R (Ou lo (hi-lo).toNat) H):wpAny (model X.prog X.w) X.A (pyIter (.ref s.heap.objs.size)) (Qd X pr σ tg R) E {s with heap:=s.heap.push {cls:=.type "range",data:=.fields #[.int lo t,.int hi u,.int 1 v]},toks:=tk}:=by
 refine wpAny_pyIter_range (IsRange.new ..) (small_one h1 h2 h3 h4) ?_;have I1:Inv X pr σ H {s with heap:=s.heap.push {cls:=.type "range",data:=.fields #[.int lo t,.int hi u,.int 1 v]},toks:=tk}:=I.kept fun b o e=>Heap.get?_push_of_some _ e
 refine⟨(s.heap.push {cls:=.type "range",data:=.fields #[.int lo t,.int hi u,.int 1 v]}).objs.size,[(s.heap.push {cls:=.type "range",data:=.fields #[.int lo t,.int hi u,.int 1 v]}).objs.size],_,_,H,rfl,
  I1.kept (t':=tk) fun b o e=>Heap.get?_push_of_some _ e,qB _ lo (hi-lo).toNat,?_,fun b hb=>?_,q⟩
 ·have e1:lo+((0:Nat):Int)*1=lo:=by simp
  have e2:(((hi-lo).toNat:Nat):Int)-((0:Nat):Int)=Builtin.Range.rangeSize lo hi 1:=by rw[rangeSize_one];split <;> lia
  show IsRangeIter _ _ (lo+((0:Nat):Int)*1) ((((hi-lo).toNat:Nat):Int)-((0:Nat):Int)) 1;rw[e1,e2];exact Heap.get?_push_size _ rfl
 ·have e:b=(s.heap.push {cls:=.type "range",data:=.fields #[.int lo t,.int hi u,.int 1 v]}).objs.size:=by simpa using hb
  subst e;exact I1.fpOk (Q8 _) (I1.hok.fresh (Q8 _))
def Dp(ta:TA):TI:=fun σ H R=>ta σ H fun vs H1=>∃j:Int,vs=[.int j]/\-(2 ^ 62)<=j/\j<2 ^ 62/\R (Ou 0 j.toNat) H1
theorem rP{a:Expr}{ta:TA}{p pos:Pos}(hg:Gl X "range")(hm:X.mg "range" = none)(ha:PA X [a] ta)(hs:starEach [a] X.env=[(false,eval a X.env)]:=by rfl):PI X tg (.Call (.Name "range" p) [a] [] pos) (Dp ta):=by
 intro pr s σ H R I h;refine Call_ (kC I hg hm boot_range (S9 (Ge (ha pos pr s σ H _ I h) fun us s1 ⟨vs,H1,I1,r1,q1⟩=>?_) hs rfl));obtain⟨j,e,q1,q2,q⟩:=q1;subst e;cases r1 with
 |cons r rr=>
  cases rr;obtain⟨t,rfl⟩:=r;exact call_range_1 (vy I1 (by lia) (by lia) q1 q2 (by simpa using q))
noncomputable def E1(wi:TI)(g:TG)(tb:TS):TS:=fun D σ H=>wi σ H fun J H1=>∃W:Nat->Nat->St->Hp->Prop,(∃m,W 0 m σ H1)/\∀i m σ H,W i m σ H->
 (J.stop i H/\D.nx σ H)\/(J.go i H/\∃N:St->Hp->Prop,(∀σ' H',N σ' H'->∃m',m'<m/\W (i+1) m' σ' H')/\∀x H',J.yld i H x H'->g x σ H' fun σ2 H2=>tb {D with nx:=N,ct:=N,bk:=D.nx} σ2 H2)
def mw(fp:List Addr)(h:Heap):List (Addr×Obj):=fp.filterMap fun b=>(h.get? b).map fun o=>(b,o)
theorem fT{fp:List Addr}{h:Heap}{b:Addr}{o:Obj}(hb:b∈fp)(e:h.get? b=some o):(b,o)∈mw fp h:=Um.mpr ⟨b,hb,by rw[e];rfl⟩
theorem rQ{fp:List Addr}{h:Heap}{p:Addr×Obj}(hp:p∈mw fp h):p.1∈fp/\h.get? p.1=some p.2:=by
 obtain⟨b,hb,e⟩:=Um.mp hp;cases q:h.get? b with
 |none=>rw[q]at e;cases e
 |some o=>
  rw[q]at e;have e':(b,o)=p:=Rt e;subst e';exact⟨hb,q⟩
theorem Inv.pinned{pr:List (Addr×Obj)}{σ:St}{H:Hp}{s:Shared}{fp:List Addr}(I:Inv X pr σ H s)(hf:∀b∈fp,rH X pr H b)(ho:∀b∈fp,∃o,s.heap.get? b=some o/\∀v,o.data≠.cell v):Inv X (pr++mw fp s.heap) σ H s:=
 I.pins_of fun p hp=>(RA.mp hp).elim (fun z=>I.pin p (Q5 _ z)) fun z=>by
  obtain⟨hb,e⟩:=rQ z;obtain⟨f0,f1,f2,_⟩:=hf p.1 hb;obtain⟨o,e',d⟩:=ho p.1 hb;rw[e]at e';cases e';exact⟨e,f0,f1,f2,d⟩
theorem Inv.unpinned{pr pl:List (Addr×Obj)}{σ:St}{H:Hp}{s:Shared}(I:Inv X (pr++pl) σ H s):Inv X pr σ H s:=I.pins_of fun p hp=>I.pin p (Q5 _ (Q9 _ hp))
theorem xh{iter:Expr}{body:List Stmt}{wi:TI}{g:TG}{tb:TS}{pos:Pos}(hp:PassesOwn (model X.prog X.w) X.A X.env X.xe)(hc:X.calm=true)(hi:PI X tg iter wi)(hg:PG X tg g)(hb:PSs X body tb)
  (hs:∀x,foldedSetIterable iter X.env x=pure x:=by intro _;rfl):PS X (.For tg iter body [] pos) (E1 wi g tb):=by
 intro pr s σ H D I h;refine wpAny_For (Ge (hi pr s σ H _ I h) fun v s1 h1=>Ge h1 fun Ot s2 h2=>?_) hs;obtain⟨it,fp,tn,J,H2,e,I2,T,F4,f2,W,⟨m0,w0⟩,turn⟩:=h2;subst e;have Jk:∀{H':Hp},(∀b∈fp,H' b=none)->∀b∈fp,rH X pr H' b:=fun hn b hb=>⟨hn b hb,(f2 b hb).2⟩
 refine codeAny_forLoop_any (fun n s'=>∃i σ' H',Inv X pr σ' H' s'/\tn i s'.heap/\(∀b∈fp,H' b=none)/\W i n σ' H') ?_ m0 ⟨0,σ,H2,I2,F4,fun b hb=>(f2 b hb).1,w0⟩;rintro n s3 ⟨i,σ3,H3,I3,Gn,Ng,w3⟩;rcases turn i n σ3 H3 w3 with⟨stop,qn⟩|⟨go,N,hN,step⟩
 ·refine SN hp (Ge (T.done X rfl rfl rfl hc i pr s3 σ3 H3 X.xe I3 (Jk Ng) Gn stop) fun r s4 Gf=>?_);obtain⟨hr,I4⟩:=Gf;subst hr;exact Uc ⟨σ3,H3,I4,qn⟩
 ·refine SN hp (Ge (T.item X rfl rfl rfl hc i pr s3 σ3 H3 X.xe I3 (Jk Ng) Gn go) fun r s4 Gf=>?_);obtain⟨u,hr,h4⟩:=Gf;subst hr;refine SN hp (Ge h4 fun _ s5 Gf=>?_);obtain⟨x,H5,I5,r5,y5,Ic,O2⟩:=Gf;have O3:=I5.pinned (Jk O2) (T.obj _ _ Ic);refine SN hp (Ge (hg _ s5 σ3 H5 x u _ O3 r5 (step x H5 y5)) fun _ s6 Gf=>?_);obtain⟨σ6,H6,I6,q6⟩:=Gf;refine SN hp (Ge (hb _ s6 σ6 H6 _ I6 q6) fun f s7 q7=>?_);have again:∀{σ7:St}{H7:Hp},Inv X (pr++mw fp s5.heap) σ7 H7 s7->N σ7 H7->∃m,m<n/\∃i σ' H',Inv X pr σ' H' s7/\tn i s7.heap/\(∀b∈fp,H' b=none)/\W i m σ' H':=fun{σ7 H7} I7 n7=>by
   obtain⟨m',hm,w7⟩:=hN σ7 H7 n7;refine⟨m',hm,i+1,σ7,H7,I7.unpinned,T.keep _ _ _ Ic fun b hb o e=>(I7.pin (b,o) (Q5 _ (Q5 _ (fT hb e)))).1,fun b hb=>?_,w7⟩;obtain⟨o,e,d⟩:=T.obj _ _ Ic b hb;exact(I7.pin (b,o) (Q5 _ (Q5 _ (fT hb e)))).2.1
  cases f with
  |next=>obtain⟨σ7,H7,I7,n7⟩:=q7;exact again I7 n7
  |cont=>obtain⟨σ7,H7,I7,n7⟩:=q7;exact again I7 n7
  |brk=>obtain⟨σ7,H7,I7,q7⟩:=q7;exact⟨σ7,H7,I7.unpinned,q7⟩
  |ret v=>obtain⟨x7,σ7,H7,I7,r7,q7⟩:=q7;exact⟨x7,σ7,H7,I7.unpinned,r7,q7⟩
end
theorem for_list{K:W.Frag}{a:Addr}{xs:List V}{g:TG}{tb:TS}{D:Ends}{σ:St}{H:Hp}(Pv:Nat->St->Hp->Prop)(h0:Pv 0 σ H)(hl:∀i σ H,i<=xs.length->Pv i σ H->SqL K H a xs)
  (hs:∀i x σ H,xs[i]?=some x->Pv i σ H->g x σ H fun σ2 H2=>tb {D with nx:=Pv (i+1),ct:=Pv (i+1),bk:=D.nx} σ2 H2) (hd:∀σ H,Pv xs.length σ H->D.nx σ H):
  ∃W:Nat->Nat->St->Hp->Prop,(∃m,W 0 m σ H)/\∀i m σ H,W i m σ H->
   ((MT K a).stop i H/\D.nx σ H)\/((MT K a).go i H/\∃N:St->Hp->Prop,(∀σ' H',N σ' H'->∃m',m'<m/\W (i+1) m' σ' H')/\∀x H',(MT K a).yld i H x H'->g x σ H' fun σ2 H2=>tb {D with nx:=N,ct:=N,bk:=D.nx} σ2 H2):=by
 refine⟨fun i m σ H=>m=xs.length-i/\i<=xs.length/\Pv i σ H,⟨xs.length,by simp,RM _,h0⟩,?_⟩;rintro i m σ H ⟨rfl,hi,p⟩;have q:=hl i σ H hi p;by_cases Gy:i<xs.length
 ·refine .inr ⟨⟨xs,xs[i],q,by simp[Gy]⟩,Pv (i+1),fun σ' H' p'=>⟨xs.length-(i+1),by lia,rfl,Gy,p'⟩,fun x H' y=>?_⟩;obtain⟨e,y⟩:=y;subst e;exact hs i x σ _ (y xs q) p
 ·have e:i=xs.length:=by lia
  subst e;exact .inl ⟨⟨xs,q,Q8 _⟩,hd σ H p⟩
abbrev R2:=V->V->Hp->VK->Prop
def GH(X:Cx)(f:Value->Value->Sem Value)(r:R2):Prop:=
 ∀(pr:List (Addr×Obj)) (s:Shared) (σ:St) (H:Hp) (x y:V) (v u:Value) (Q:VK),Inv X pr σ H s->RelV x v->RelV y u->r x y H Q->
  wpAny (model X.prog X.w) X.A (f v u) (EP X pr σ Q) X.xe s
def di(X:Cx)(f:Value)(r:List V->Hp->VK->Prop):Prop:=
 ∀(pr:List (Addr×Obj)) (s:Shared) (σ:St) (H:Hp) (xs:List V) (us:List Value) (Q:VK),Inv X pr σ H s->Vals xs us->r xs H Q->
  wpAny (model X.prog X.w) X.A (call f us) (EP X pr σ Q) X.xe s
def MU(r:R2)(ta tb:TE):TE:=fun σ H Q=>ta σ H fun x H1=>tb σ H1 fun y H2=>r x y H2 Q
def rI(C:Int->Int->Prop)(g:Int->Int->V):R2:=fun x y H Q=>∃i j,x=.int i/\y=.int j/\C i j/\Q (g i j) H
def LY(g:Int->Int->V):R2:=fun x y H Q=>∃i j,x=.int i/\y=.int j/\Q (g i j) H
section
variable{X:Cx}{a b c:Expr}{ta tb tc:TE}{pos:Pos}
theorem Dq(ha:PE X a ta)(hb:PE X b tb){pr:List (Addr×Obj)}{s:Shared}{σ:St}{H:Hp}{R:V->V->Hp->Prop}(I:Inv X pr σ H s)
  (h:ta σ H fun x H1=>tb σ H1 fun y H2=>R x y H2) {Q:Value->Shared->Prop}{f:Value->Value->Sem Value}
  (hf:∀v u s2 x y H2,Inv X pr σ H2 s2->RelV x v->RelV y u->R x y H2->wpAny (model X.prog X.w) X.A (f v u) Q X.xe s2):
  wpAny (model X.prog X.w) X.A (eval a X.env) (fun v s₁=>wpAny (model X.prog X.w) X.A (eval b X.env) (fun u s₂=>wpAny (model X.prog X.w) X.A (f v u) Q X.xe s₂) X.xe s₁) X.xe s:=by
 refine Ge (ha pr s σ H _ I h) fun v s1 Gf=>?_
 obtain⟨x,H1,I1,r1,q1⟩:=Gf;refine Ge (hb pr s1 σ H1 _ I1 q1) fun u s2 Gf=>?_
 obtain⟨y,H2,I2,r2,q2⟩:=Gf;exact hf v u s2 x y H2 I2 r1 r2 q2
theorem Dr{op:Operator}{r:R2}(ho:GH X (binaryOp op) r)(ha:PE X a ta)(hb:PE X b tb):PE X (.BinOp a op b pos) (MU r ta tb):=by
 intro pr s σ H Q I h;exact wpAny_BinOp (Dq ha hb I h fun v u s2 x y H2 I2 rx ry q=>ho pr s2 σ H2 x y v u Q I2 rx ry q)
theorem Nh{f:Value->Value->Sem Value}{C:Int->Int->Prop}{g:Int->Int->Int}
  (rule:∀(i j:Int) (t u:Tok) (s:Shared) (Q:Value->Shared->Prop) (E:Value->Shared->Prop),C i j->Q (.int (g i j) s.toks) {s with toks:=s.toks+1}->wpAny (model X.prog X.w) X.A (f (.int i t) (.int j u)) Q E s):
  GH X f (rI C fun i j=>.int (g i j)):=by
 intro pr s σ H x y v u Q I rx ry h;obtain⟨i,j,rfl,rfl,hc,q⟩:=h;obtain⟨t,rfl⟩:=rx;obtain⟨t',rfl⟩:=ry;exact rule i j t t' s _ _ hc ⟨.int (g i j),H,I.tok _,⟨_,rfl⟩,q⟩
theorem Eu{f:Value->Value->Sem Value}{g:Int->Int->Int}
  (rule:∀(i j:Int) (t u:Tok) (s:Shared) (Q:Value->Shared->Prop) (E:Value->Shared->Prop),Q (.int (g i j) s.toks) {s with toks:=s.toks+1}->wpAny (model X.prog X.w) X.A (f (.int i t) (.int j u)) Q E s):
  GH X f (LY fun i j=>.int (g i j)):=by
 intro pr s σ H x y v u Q I rx ry h;obtain⟨i,j,rfl,rfl,q⟩:=h;obtain⟨t,rfl⟩:=rx;obtain⟨t',rfl⟩:=ry;exact rule i j t t' s _ _ ⟨.int (g i j),H,I.tok _,⟨_,rfl⟩,q⟩
theorem Ds{f:Value->Value->Sem Value}{g:Int->Int->Bool}
  (rule:∀(i j:Int) (t u:Tok) (s:Shared) (Q:Value->Shared->Prop) (E:Value->Shared->Prop),Q (.bool (g i j)) s->wpAny (model X.prog X.w) X.A (f (.int i t) (.int j u)) Q E s):
  GH X f (LY fun i j=>.bl (g i j)):=by
 intro pr s σ H x y v u Q I rx ry h;obtain⟨i,j,rfl,rfl,q⟩:=h;obtain⟨t,rfl⟩:=rx;obtain⟨t',rfl⟩:=ry;exact rule i j t t' s _ _ ⟨.bl (g i j),H,I,rfl,q⟩
def E2(i j:Int):Prop:=0<j/\j<1073741824
def E3(i j:Int):Prop:=0<=j/\j<=1000000/\i.natAbs<2 ^ 64
def CMul(i j:Int):Prop:=(-(2 ^ 64)<i/\i<2 ^ 64)\/(-(2 ^ 64)<j/\j<2 ^ 64)
theorem CMul.ok{i j:Int}(h:CMul i j):IntMulOk i j:=by
 rcases h with⟨h1,h2⟩|⟨h1,h2⟩
 ·exact .of_left (intBits_le_64 h1 h2)
 ·exact .of_right (intBits_le_64 h1 h2)
theorem AZ:GH X (binaryOp .Add) (LY fun i j=>.int (i+j)):=Eu fun _ _ _ _ _ _ _ q=>add_int q
theorem A3:GH X (binaryOp .Sub) (LY fun i j=>.int (i-j)):=Eu fun _ _ _ _ _ _ _ q=>sub_int q
theorem A4:GH X (binaryOp .Mult) (rI CMul fun i j=>.int (i*j)):=Nh fun _ _ _ _ _ _ _ hc q=>mul_int q hc.ok
theorem ye:GH X (binaryOp .FloorDiv) (rI E2 fun i j=>.int (i / j)):=Nh fun i j _ _ _ _ _ hc q=>by
 have h1:(0:Int)<j:=hc.1;have h2:j<1073741824:=hc.2;exact floordiv_int (by lia) (by rw[Int.fdiv_eq_ediv_of_nonneg i (by lia)];exact q) (.inl (PyProof.noPylong_small (by lia)))
theorem A5:GH X (binaryOp .Mod) (rI (fun _ j=>0<j) fun i j=>.int (i%j)):=Nh fun i j _ _ _ _ _ hc q=>by
 have h1:(0:Int)<j:=hc;exact mod_int' (by lia) (by rw[Int.fmod_eq_emod_of_nonneg i (by lia)];exact q)
theorem A6:GH X (binaryOp .Pow) (rI E3 fun i j=>.int (i ^ j.toNat)):=Nh fun _ _ _ _ _ _ _ hc q=>pow_int_small hc.1 hc.2.1 hc.2.2 q
end
section
variable{X:Cx}{a b c:Expr}{ta tb tc:TE}{pos:Pos}
theorem rR{pr:List (Addr×Obj)}{σ:St}{H:Hp}{s:Shared}{Q:VK}{k k':Bool}(I:Inv X pr σ H s)(q:Q (.bl k) H)(e:k=k'):EP X pr σ Q (.bool k') s:=by
 subst e;exact⟨.bl k,H,I,rfl,q⟩
theorem Dt:GH X (compareOp .Lt) (LY fun i j=>.bl (decide (i<j))):=Ds fun _ _ _ _ _ _ _ q=>lt_int q
theorem Du:GH X (compareOp .Gt) (LY fun i j=>.bl (decide (j<i))):=Ds fun _ _ _ _ _ _ _ q=>gt_int q
theorem Dv:GH X (compareOp .GtE) (LY fun i j=>.bl (decide (j<=i))):=Ds fun _ _ _ _ _ _ _ q=>ge_int q
theorem rS:GH X (compareOp .Lt) (fun x y H Q=>∃i j,x=.str i/\y=.str j/\Q (.bl (decide (i.cps.toList<j.cps.toList))) H):=by
 intro pr s σ H x y v u Q I rx ry h;obtain⟨i,j,rfl,rfl,q⟩:=h;obtain⟨t,rfl⟩:=rx;obtain⟨t',rfl⟩:=ry;exact lt_str (rR I q rfl)
theorem rT:GH X (compareOp .In) (fun x y H Q=>∃i j,x=.str i/\y=.str j/\Q (.bl (!(Builtin.Str.occurrences j i 0 j.length 1).isEmpty)) H):=by
 intro pr s σ H x y v u Q I rx ry h;obtain⟨i,j,rfl,rfl,q⟩:=h;obtain⟨t,rfl⟩:=rx;obtain⟨t',rfl⟩:=ry;exact in_str (rR I q rfl)
theorem my:GH X (compareOp .NotIn) (fun x y H Q=>∃i j,x=.str i/\y=.str j/\Q (.bl (!(!(Builtin.Str.occurrences j i 0 j.length 1).isEmpty))) H):=by
 intro pr s σ H x y v u Q I rx ry h;obtain⟨i,j,rfl,rfl,q⟩:=h;obtain⟨t,rfl⟩:=rx;obtain⟨t',rfl⟩:=ry;exact notIn_str (rR I q rfl)
theorem bB(b:Expr){op:CmpOp}(h:op≠.In:=by decide)(h2:op≠.NotIn:=by decide):behindInMarks op b=false:=by
 have e1:(op==CmpOp.In)=false:=by cases op <;> first|rfl|exact absurd rfl h
 have e2:(op==CmpOp.NotIn)=false:=by cases op <;> first|rfl|exact absurd rfl h2
 cases b <;> simp[behindInMarks,e1,e2]
theorem yf{op:CmpOp}{r:R2}(ho:GH X (compareOp op) r)(ha:PE X a ta)(hb:PE X b tb)(hm:behindInMarks op b=false):PE X (.Compare a [op] [b] pos) (MU r ta tb):=by
 intro pr s σ H Q I h;exact wpAny_Compare1 (Dq ha hb I h fun v u s2 x y H2 I2 rx ry q=>ho pr s2 σ H2 x y v u Q I2 rx ry q) hm
def Dw(t:TE):TT:=fun σ H Q=>t σ H fun x H'=>∃k,x=.bl k/\Q k H'
theorem rU{op:CmpOp}{r:R2}(ho:GH X (compareOp op) r)(ha:PE X a ta)(hb:PE X b tb)(hm:behindInMarks op b=false):PT X (.Compare a [op] [b] pos) (Dw (MU r ta tb)):=by
 intro pr s σ H Q I h;refine wpAny_isTrue_Compare1 (Ge (ha pr s σ H _ I h) fun v s1 ⟨x,H1,I1,r1,q1⟩=>Ge (hb pr s1 σ H1 _ I1 q1) fun u s2 ⟨y,H2,I2,r2,q2⟩=>
  Ge (ho pr s2 σ H2 x y v u _ I2 r1 r2 q2) fun c s3 ⟨z,H3,I3,r3,k,e,q3⟩=>?_) hm
 subst e;cases r3;exact Sv ⟨H3,I3,q3⟩
theorem kF:(sizeLine:Nat)<2 ^ 63:=by rw[R0];decide
theorem qC:GH X (binaryOp .Add) (fun x y H Q=>∃i j,x=.str i/\y=.str j/\i.length+j.length<=sizeLine/\Q (.str (i++j)) H):=by
 intro pr s σ H x y v u Q I rx ry h;obtain⟨i,j,rfl,rfl,hz,q⟩:=h;obtain⟨t,rfl⟩:=rx;obtain⟨t',rfl⟩:=ry;exact add_str (fun t' tk=>⟨.str (i++j),H,I.tok _,⟨_,rfl⟩,q⟩) hz
theorem e8{x:V}{us:List Value}(r:Vals [x] us):∃u,us=[u]/\RelV x u:=by
 cases r with
 |cons r1 r2=>cases r2;exact⟨_,rfl,r1⟩
theorem yg{x y:V}{us:List Value}(r:Vals [x,y] us):∃u w',us=[u,w']/\RelV x u/\RelV y w':=by
 cases r with
 |cons r1 r2=>
  cases r2 with
  |cons r3 r4=>cases r4;exact⟨_,_,rfl,r1,r3⟩
end
section
variable{prog:Program}{w:World}{A:Around}{E:Value->Shared->Prop}{s:Shared}{K:W.Frag}{x dx C f:Addr}{mA:Str->Option Value}{name:Str}{v:Value}
end
theorem RelO.some_of{v:V}{o:Option Value}(r:RelO (some v) o):∃u,o=some u/\RelV v u:=by
 cases o with
 |none=>exact(show False from r).elim
 |some u=>exact⟨u,rfl,r⟩
section
variable{P:Program}{w:World}{H H':Hp}{h h':Heap}{a C dx:Addr}{fs fs':List (Str×V)}
end
section
variable{X:Cx}{pr:List (Addr×Obj)}{σ:St}{H:Hp}{s:Shared}{a C dx:Addr}{fs:List (Str×V)}{f:Str}{v:V}{A:Around}{E:Value->Shared->Prop}
end
section
variable{X:Cx}{o e value:Expr}{f:Str}{pos pos' Ni:Pos}{ta tv:TE}
end
section
variable{X:Cx}{pr:List (Addr×Obj)}{σ:St}{H:Hp}{s:Shared}{A:Around}{E:Value->Shared->Prop}{Q:Value->Shared->Prop}{c:Value}{b:Bool}
end
structure Room(k:Nat)(A:Around):Prop where
 hd:A.handled=none
 dp:A.depth+3*k+5<recursionLimit
 un:A.units+16*k+200<cLine
theorem Room.mono{j k:Nat}{A:Around}(r:Room k A)(h:j<=k):Room j A:=⟨r.hd,by have:=r.dp;lia,by have:=r.un;lia⟩
theorem Room.m{j k:Nat}{A:Around}(r:Room k A)(h:j<=k:=by decide):Room j A:=r.mono h
theorem Room.deeper{k:Nat}{A:Around}(r:Room (k+1) A)(env:Env):Room k (A.deeper env):=
 ⟨r.hd,by have:=r.dp;show A.depth+1+3*k+5<_;lia,by have:=r.un;show A.units+3+16*k+200<_;lia⟩
theorem Room.depth{k:Nat}{A:Around}(r:Room k A):A.depth<recursionLimit:=by have:=r.dp;lia
theorem Room.units{k:Nat}{A:Around}(r:Room k A):A.units+64<cLine:=by have:=r.un;lia
theorem Room.units0{k:Nat}{A:Around}(r:Room k A):A.units<cLine:=by have:=r.un;lia
def C3:TA:=fun _ H Q=>Q [] H
def vz(ta:TE)(tr:TA):TA:=fun σ H Q=>ta σ H fun x H1=>tr σ H1 fun xs H2=>Q (x::xs) H2
section
variable{X:Cx}{e:Expr}{es:List Expr}{te:TE}{t:TA}{pos:Pos}
theorem iQ:PA X [] C3:=fun _ _ _ _ H Q I h=>Calls.spliced_nil ⟨[],H,I,.nil,h⟩
theorem cH(ha:PE X e te)(hr:PA X es t)(hs:starEach (e::es) X.env=(false,eval e X.env)::starEach es X.env:=by rfl):PA X (e::es) (vz te t):=by
 intro pos pr s σ H Q I h;rw[hs];show wpAny _ _ (spliced ((false,eval e X.env)::backTo pos (starEach es X.env))) _ _ s;refine Calls.spliced_cons (Ge (ha pr s σ H _ I h) fun u s1 Gf=>?_);obtain⟨x,H1,I1,r1,q1⟩:=Gf;exact Ge (hr pos pr s1 σ H1 _ I1 q1) fun us s2 ⟨xs,H2,I2,r2,q2⟩=>⟨x::xs,H2,I2,.cons r1 r2,q2⟩
def E4(t:TA):TE:=fun σ H Q=>t σ H fun xs H1=>xs.length<=sizeLine/\∀p,H1 p=none->Q (.ref p) (upd H1 p (.tup xs))
def E5(t:TA):TE:=fun σ H Q=>t σ H fun xs H1=>xs.length<=sizeLine/\∀p,H1 p=none->Q (.ref p) (upd H1 p (.lst xs))
theorem rV{x1}(h:PA X es t):PE X (.Tuple es x1 pos) (E4 t):=by
 intro pr s σ H Q I hq;refine wpAny_Tuple_spliced (Ge (h pos pr s σ H _ I hq) fun us s1 ⟨xs,H1,I1,r,z,q⟩=>⟨by rw[<-r.length];exact z,?_⟩);have hf:H1 s1.heap.objs.size=none:=I1.hok.fresh (Q8 _);refine⟨.ref s1.heap.objs.size,upd H1 s1.heap.objs.size (.tup xs),I1.laid (t':=s1.toks) (fun b u e=>Heap.get?_push_of_some _ e) (Q8 _) ?_,rfl,q _ hf⟩;exact⟨z,us,r,⟨_,Heap.get?_push_size _ rfl,rfl,⟨_,rfl⟩,rfl⟩⟩
theorem xi(h:PA X es t):PE X (.List es pos) (E5 t):=by
 intro pr s σ H Q I hq;refine wpAny_List_spliced (Ge (h pos pr s σ H _ I hq) fun us s1 ⟨xs,H1,I1,r,z,q⟩=>⟨by rw[<-r.length];exact z,?_⟩);have hf:H1 s1.heap.objs.size=none:=I1.hok.fresh (Q8 _);refine⟨.ref s1.heap.objs.size,upd H1 s1.heap.objs.size (.lst xs),I1.laid (t':=s1.toks) (fun b u e=>Heap.get?_push_of_some _ e) (Q8 _) ?_,rfl,q _ hf⟩;exact⟨z,us,0,r,Heap.get?_push_size _ rfl⟩
end
abbrev Sp:=List V->Hp->VK->XK->Prop
abbrev CXT:=List Env->Hp->Shared->XK->Value->Shared->Prop
structure Env0(P:Program)(w:World)(K:W.Frag)(mg:Str->Option Value)(base:Heap)(A:Around)(outer:List Env)(s:Shared)(H:Hp):Prop where
 frames:A.frames=some outer
 mod:Mod K mg base
 bs:∀b o,base.get? b=some o->s.heap.get? b=some o/\H b=none
 bsz:base.objs.size<=s.heap.objs.size
 funs:s.heap.FunFrames base outer
 frf:∀b∈JH outer,H b=none
 hok:HOk P w H s.heap
 bare:AllBare s.gens
def CE(outer:List Env)(P:Program)(w:World)(H:Hp)(s:Shared)(Q:VK)(u:Value)(s':Shared):Prop:=
 ∃v H',s'.os=s.os/\AllBare s'.gens/\Un (JH outer) [] H H' s.heap s'.heap/\HOk P w H' s'.heap/\RelV v u/\Q v H'
def CR(CX:CXT)(outer:List Env)(P:Program)(w:World)(H:Hp)(s:Shared)(Q:VK)(E:XK)(r:Result)(s':Shared):Prop:=
 match r with
 | .ok (.ret u)=>CE outer P w H s Q u s'
 | .ok _=>False
 | .error e=>CX outer H s E e s'
structure FnOk(P:Program)(w:World)(K:W.Frag)(mg:Str->Option Value)(base:Heap)(CX:CXT)(k:Nat)(f:Addr)(fd:FuncData)(ps:List Str)(sp:Sp):Prop where
 len:∀vs H Q E,sp vs H Q E->vs.length=ps.length
 run:∀(A:Around) (outer:List Env) (s:Shared) (H:Hp) (args:Args) (us:List Value) (vs:List V) (Q:VK) (E:XK),Room k A->Env0 P w K mg base A outer s H->BindsTo s fd args (ps.zip us)->Vals vs us->sp vs H Q E->
  codeAny (model P w) A (.call (.ref f) args) (CR CX outer P w H s Q E) s
theorem FnOk.imp{P:Program}{w:World}{K:W.Frag}{mg:Str->Option Value}{base:Heap}{CX:CXT}{k:Nat}{f:Addr}{fd:FuncData}{ps:List Str}{sp Qe:Sp}(F:FnOk P w K mg base CX k f fd ps sp)
  (h:∀vs H Q E,Qe vs H Q E->sp vs H Q E):FnOk P w K mg base CX k f fd ps Qe:=
 ⟨fun vs H Q E q=>F.len vs H Q E (h _ _ _ _ q),fun A outer s H args us vs Q E hr he hb hv hs=>F.run A outer s H args us vs Q E hr he hb hv (h _ _ _ _ hs)⟩
section
variable{X:Cx}{pr:List (Addr×Obj)}{σ:St}{H:Hp}{s s':Shared}
theorem Inv.env0(I:Inv X pr σ H s):Env0 X.prog X.w X.K X.mg X.base X.A X.stack s H:=
 ⟨I.ok.frames,I.ok.mod,I.bs,RB I.ok.bsz I.sz,I.stack,I.stkFree,I.hok,I.bare⟩
theorem Inv.after{Q:VK}{u:Value}(I:Inv X pr σ H s)(h:CE X.stack X.prog X.w H s Q u s'):EP X pr σ Q u s':=by
 obtain⟨v,H',os,bare,un,hok,r,q⟩:=h;obtain⟨hh,g,d,t,Qf⟩:=s';obtain rfl:Qf=s.os:=os;exact⟨v,H',I.call (h':=hh) (g':=g) (d':=d) (t':=t) (ch:=[]) un hok bare (fun b z=>absurd z (by simp)),r,q⟩
end
def tCall(sp:Sp)(LK:List V)(E:XK)(t:TA):TE:=fun σ H Q=>t σ H fun vs H1=>sp (vs++LK) H1 Q E
def Binds(K:W.Frag)(fd:FuncData)(ps:List Str)(ds:List Value):Prop:=
 ∀(s:Shared) (us:List Value),K.In s.heap->(us++ds).length=ps.length->BindsTo s fd ⟨us,[]⟩ (ps.zip (us++ds))
theorem Binds.all{K:W.Frag}{fd:FuncData}{ps:List Str}(h:∀us:List Value,us.length=ps.length->bindArgs fd ⟨us,[]⟩=pure (ps.zip us)):Binds K fd ps []:=fun s us _ hl=>by
 rw[Ru]at hl ⊢;exact .of_eq (h us hl)
def rW(CX:CXT)(X:Cx)(E:XK):Prop:=∀(pr:List (Addr×Obj)) (σ:St) (H:Hp) (s:Shared) (e:Value) (s':Shared),Inv X pr σ H s->CX X.stack H s E e s'->X.xe e s'
section
variable{X:Cx}{CX:CXT}{k:Nat}{f C:Addr}{fd:FuncData}{ps:List Str}{sp:Sp}{LK:List V}{ds:List Value}{E:XK}{x m:Str}{p pos apos:Pos}{e o:Expr}{es:List Expr}{ta:TE}{t:TA}
theorem A7{pr:List (Addr×Obj)}{σ:St}{H:Hp}{s:Shared}{Q:VK}{us:List Value}{vs:List V}(F:FnOk X.prog X.w X.K X.mg X.base CX k f fd ps sp)(hr:Room k X.A)(hb:Binds X.K fd ps ds)(hd:Vals LK ds)(hx:rW CX X E)
  (I:Inv X pr σ H s) (r:Vals vs us) (h:sp (vs++LK) H Q E):wpAny (model X.prog X.w) X.A (call (.ref f) us) (EP X pr σ Q) X.xe s:=by
 have r2:Vals (vs++LK) (us++ds):=r.append hd;have hl:(us++ds).length=ps.length:=by rw[<-r2.length];exact F.len _ _ _ _ h
 refine wpAny_call (codeAny_mono (F.run X.A X.stack s H ⟨us,[]⟩ (us++ds) (vs++LK) Q E hr I.env0 (hb s us I.kIn hl) r2 h) fun r s' hq=>?_);cases r with
 |error e=>exact hx pr σ H s e s' I hq
 |ok fl=>
  cases fl with
  |ret u=>exact I.after hq
  |next=>exact False.elim hq
  |brk=>exact False.elim hq
  |cont=>exact False.elim hq
theorem yh(F:FnOk X.prog X.w X.K X.mg X.base CX k f fd ps sp)(hr:Room k X.A)(hg:Gl X x)(hm:X.mg x=some (.ref f))(hk:PySem.W.keepIn X.K (.ref f)=true)(hb:Binds X.K fd ps ds)(hd:Vals LK ds)(hx:rW CX X E)
  (ha:PA X (e::es) t) (HR:(x==("__debug__" : Str))=false:=by decide) (he:starEach (e::es) X.env=(false,eval e X.env)::starEach es X.env:=by rfl) (Hy:(backTo pos (starEach es X.env)).any (·.1)=false:=by rfl):
  PE X (.Call (.Name x p) (e::es) [] pos) (tCall sp LK E t):=by
 intro pr s σ H Q I h;refine S6 (x4 I hg hm ?_ HR);refine PySem.W.callWith_K (h₀:=X.base) I.ok.mod.kin hk (Ge (ha pos pr s σ H _ I h) fun us s1 ⟨vs,H1,I1,r,q⟩=>⟨I1.kIn,?_⟩) he Hy;exact A7 F hr hb hd hx I1 r q
end
def PK(X:Cx)(Nj:List Keyword)(t:TA):Prop:=
 ∀(pos:Pos) (pr:List (Addr×Obj)) (s:Shared) (σ:St) (H:Hp) (Q:List V->Hp->Prop),Inv X pr σ H s->t σ H Q->wpAny (model X.prog X.w) X.A (evalAll ((backToKw pos (keywordEach Nj X.env)).map (·.2))) (AP X pr σ Q) X.xe s
section
variable{X:Cx}{CX:CXT}{k:Nat}{f C:Addr}{fd:FuncData}{ps ks:List Str}{sp:Sp}{E:XK}{x m:Str}{p pos apos JQ:Pos}{e o:Expr}{es:List Expr}{Nj:List Keyword}{te ta:TE}{t tk:TA}{nm:Option Str}
theorem A8:PK X [] C3:=fun _ _ _ _ H Q I h=>wpAny_evalAll_nil ⟨[],H,I,.nil,h⟩
theorem yi(ha:PE X e te)(hr:PK X Nj t):PK X (⟨nm,e,JQ⟩::Nj) (vz te t):=by
 intro pos pr s σ H Q I h;show wpAny _ _ (evalAll ((do let v <-eval e X.env;standAt pos;pure v)::(backToKw pos (keywordEach Nj X.env)).map (·.2))) _ _ s;refine wpAny_evalAll_cons (Q1 (Ge (ha pr s σ H _ I h) fun u s1 ⟨x,H1,I1,r1,q1⟩=>Q1 (Vv (Q6 ?_))));exact Ge (hr pos pr s1 σ H1 _ I1 q1) fun us s2 ⟨xs,H2,I2,r2,q2⟩=>⟨x::xs,H2,I2,.cons r1 r2,q2⟩
variable{g:List Value->List Value->List Value}{gV:List V->List V->List V}
end
structure FnScope(N P:List Str)(sc:Scope):Prop where
 kind:sc.kind=.function
 co:sc.isCoroutine=false
 gen:sc.isGenerator=false
 nd:N.Nodup
 pre:N.take P.length=P
 par:∀x∈P,sc.names.lookup x=some .local\/sc.names.lookup x=some .cell
 nofree:∀y∈sc.names,y.2≠.free
theorem fs{N P:List Str}{sc:Scope}(a:sc.kind=.function:=by rfl)(b:sc.isCoroutine=false:=by rfl)(c:sc.isGenerator=false:=by rfl)(d:N.Nodup:=by decide +kernel)(e:N.take P.length=P:=by rfl)(f:∀x∈P,sc.names.lookup x=some .local\/sc.names.lookup x=some .cell:=by decide +kernel)(g:∀y∈sc.names,y.2≠.free:=by decide +kernel):FnScope N P sc:=⟨a,b,c,d,e,f,g⟩
theorem mz{kindOf:Str->Option NameKind}{x:Str}:∀{binds:List (Str×Value)}{m:Str->Option Value},(∀v,(x,v)∉binds)->bindL kindOf binds m x=m x
 |[],_,_=>rfl
 |(n,v)::r,m,h=>by
  unfold bindL;rw[mz fun w hw=>h w (Q7 _ hw)];split
  ·have:x≠n:=by rintro rfl;exact h v Q2
   simp[this]
  ·rfl
theorem mB{kindOf:Str->Option NameKind}{x:Str}:∀{binds:List (Str×Value)}{m:Str->Option Value},(∀v,(x,v)∉binds)->bindC kindOf binds m x=m x
 |[],_,_=>rfl
 |(n,v)::r,m,h=>by
  unfold bindC;rw[mB fun w hw=>h w (Q7 _ hw)];split
  ·rfl
  ·have:x≠n:=by rintro rfl;exact h v Q2
   simp[this]
theorem mC{kindOf:Str->Option NameKind}{x:Str}{v:Value}:∀{P:List Str}{vs:List Value}{i:Nat}{m:Str->Option Value},P.Nodup->P[i]?=some x->vs[i]?=some v->kindOf x=some .local->
  bindL kindOf (P.zip vs) m x=some v
 |[],_,_,_,_,h,_,_=>by simp at h
 |_::_,[],_,_,_,_,h,_=>by simp at h
 |p::P,w::vs,0,m,nd,h1,h2,hk=>by
  simp at h1 h2;subst h1;subst h2;show bindL kindOf ((p,w)::P.zip vs) m p=_;unfold bindL;rw[mz fun v hv=>(Rx.mp nd).1 (SQ hv).1,Rb hk];simp
 |p::P,w::vs,i+1,m,nd,h1,h2,hk=>by
  show bindL kindOf ((p,w)::P.zip vs) m x=_;unfold bindL;exact mC (i:=i) (Rx.mp nd).2 (by simpa using h1) (by simpa using h2) hk
theorem mD{kindOf:Str->Option NameKind}{x:Str}{v:Value}:∀{P:List Str}{vs:List Value}{i:Nat}{m:Str->Option Value},P.Nodup->P[i]?=some x->vs[i]?=some v->kindOf x≠some .local->
  bindC kindOf (P.zip vs) m x=some v
 |[],_,_,_,_,h,_,_=>by simp at h
 |_::_,[],_,_,_,_,h,_=>by simp at h
 |p::P,w::vs,0,m,nd,h1,h2,hk=>by
  simp at h1 h2;subst h1;subst h2;show bindC kindOf ((p,w)::P.zip vs) m p=_;unfold bindC;rw[mB fun v hv=>(Rx.mp nd).1 (SQ hv).1,Rg hk];simp
 |p::P,w::vs,i+1,m,nd,h1,h2,hk=>by
  show bindC kindOf ((p,w)::P.zip vs) m x=_;unfold bindC;exact mD (i:=i) (Rx.mp nd).2 (by simpa using h1) (by simpa using h2) hk
def ja(N:List Str)(vs:List V):St:=vs.map some++List.replicate (N.length-vs.length) none
noncomputable def u0(CX:CXT)(P:Program)(w:World)(K:W.Frag)(mg:Str->Option Value)(base:Heap)(N:List Str)(qual:Str)(scope:Scope)(f:Addr)(cd:Value)(A:Around)(outer:List Env)(s:Shared)(H:Hp)(E:XK):Cx where
 prog:=P
 w:=w
 K:=K
 mg:=mg
 base:=base
 A:=A.deeper (envOfC qual scope s.heap.objs.size f cd)
 N:=N
 s₀:=s
 H₀:=H
 env:=envOfC qual scope s.heap.objs.size f cd
 outer:=outer
 stack:=envOfC qual scope s.heap.objs.size f cd::outer
 ex:=[]
 calm:=true
 fn:=fun _=>true
 pn:=[]
 xe:=fun e s'=>wpAny (model P w) (A.deeper (envOfC qual scope s.heap.objs.size f cd)) (leaving (envOfC qual scope s.heap.objs.size f cd) e) (fun _ O4=>CX outer H s E e O4) (fun e' O4=>CX outer H s E e' O4) s'
theorem pg{sc:Scope}{n:Nat}{x:Str}(h:sc.names.lookup x=some .cell):∃c,(cellsFrom n sc.names []).lookup x=some c:=by
 have q:=UP sc.names n [] (.inl h);exact R6.mp q
theorem rX{CX:CXT}{P:Program}{w:World}{K:W.Frag}{mg:Str->Option Value}{base:Heap}{N ps:List Str}{qual:Str}{scope:Scope}{f:Addr}{cd:Value}{A:Around}{outer:List Env}{s s1:Shared}{H:Hp}{E:XK}{us:List Value}{vs:List V}
  (S:FnScope N ps scope) (hd:A.handled=none) (e0:Env0 P w K mg base A outer s H) (hl:vs.length=ps.length) (r:Vals vs us)
  (x:InCallC s s.heap.objs.size (bindL (envOfC qual scope s.heap.objs.size f cd).kindOf (ps.zip us) fun _=>none) (cellsFrom (s.heap.objs.size+1) scope.names []) (bindC (envOfC qual scope s.heap.objs.size f cd).kindOf (ps.zip us) fun _=>none) s1):
  Inv (u0 CX P w K mg base N qual scope f cd A outer s H E) [] (ja N vs) H s1:=by
 have Hy:ps.length<=N.length:=by have:=R7 List.length S.pre;rw[RX]at this;lia
 obtain⟨h1,tk,rfl,hk⟩:=x.done;have Nk:∀b:Addr,b∉(u0 CX P w K mg base N qual scope f cd A outer s H E).ex:=fun b z=>absurd (show b∈([]:List Addr) from z) (by simp)
 refine⟨⟨e0.mod,S.kind,rfl,rfl,Q8 _,fun y z c h1 h2=>?_,fun y hy=>?_,fun y c _ h=>?_,fun _=>hd,Around.frames_deeper e0.frames,.inr ⟨rfl,rfl⟩,fun b z=>absurd z (Nk b),e0.bs,e0.bsz,fun b _ _=>Nk b,fun b z=>absurd z (Nk b),e0.funs,e0.frf⟩,
  rfl,e0.bare,Un.kept hk,⟨_,x.toInCall.ns,fun i y v h1 h2 h3=>?_⟩,fun y c h=>⟨_,x.cell y c h⟩,e0.hok.fresh (Q8 _),fun y c h=>?_,fun p hp=>absurd (show p∈([]:List (Addr×Obj)) from hp) (by simp),e0.hok.kept hk,?_⟩
 ·exact name_of_addr x.apart (Sy h1) (Sy h2)
 ·have hy:scope.names.lookup y=some .cell\/scope.names.lookup y=some .free:=hy;rcases hy with hy|hy
  ·exact pg hy
  ·exact absurd rfl (S.nofree _ (Sy hy))
 ·exact UZ (x.above y c (Sy h))
 ·have hi:i<vs.length:=by
   unfold ja at h2;by_cases hi:i<vs.length
   ·exact hi
   ·rw[List.getElem?_append_right (by simpa using hi)]at h2;rw[List.getElem?_replicate]at h2;split at h2 <;> cases h2
  have ha:vs[i]?=some v:=by
   unfold ja at h2;rw[List.getElem?_append_left (by simpa using hi),List.getElem?_map]at h2;cases e:vs[i]? with
   |none=>rw[e]at h2;cases h2
   |some a=>rw[e]at h2;cases h2;rfl
  obtain⟨u,hu,rv⟩:=r.get ha;have hp:ps[i]?=some y:=by
   rw[<-S.pre,List.getElem?_take_of_lt (by lia)];exact h1
  have Qg:ps.Nodup:=by rw[<-S.pre];exact S.nd.sublist (Ut _ _)
  refine⟨u,rv,?_⟩;rcases S.par y (Rz hp) with k|k
  ·exact .inl ⟨k,mC Qg hp hu k⟩
  ·obtain⟨c,e⟩:=pg (n:=s.heap.objs.size+1) k;refine .inr ⟨.inl k,c,e,?_⟩;have q:=x.cell y c e;rw[mD Qg hp hu (by show scope.names.lookup y≠_;rw[k];decide)]at q;exact q
 ·exact e0.hok.fresh (UZ (x.above y c (Sy h)))
 ·unfold ja;show _=N.length;rw[RC,Q3,List.length_replicate];lia
theorem Dx{CX:CXT}{P:Program}{w:World}{K:W.Frag}{mg:Str->Option Value}{base:Heap}{k:Nat}{f:Addr}{name qual:Str}{params:Arguments}{body:List Stmt}{scope:Scope}{dV kV doc pm Gp ct oc:Value}{an od:Option Addr}
  {KO:Array (Option Value)}{N ps:List Str}{sp:Sp}(lk:K.lookup f=some ⟨oc,od,.func (PySem.W.fnOf name qual params body scope dV kV doc pm an Gp ct),KO⟩) (Kg:PySem.W.codeIn K Gp qual=true) (S:FnScope N ps scope)
  (len:∀vs H Q E,sp vs H Q E->vs.length=ps.length)
  (Kh:∀(A:Around) (outer:List Env) (s:Shared) (H:Hp) (vs:List V) (Q:VK) (E:XK),Room k (A.deeper (envOfC qual scope s.heap.objs.size f Gp))->sp vs H Q E->
   ∃t,PSs (u0 CX P w K mg base N qual scope f Gp A outer s H E) body t/\t {nx:=fun _ H'=>Q .non H',rt:=Q} (ja N vs) H):
  FnOk P w K mg base CX (k+1) f (PySem.W.fnOf name qual params body scope dV kV doc pm an Gp ct) ps sp:=by
 refine⟨len,fun A outer s H args us vs Q E hr e0 hb r LM=>?_⟩;have hl:=len _ _ _ _ LM;have KX:K.In s.heap:=e0.mod.kin.keeps fun b o e=>(e0.bs b o e).1
 have lim:s.heap.NoLimit:=e0.mod.nolimit.keeps fun b o e=>(e0.bs b o e).1
 have Ie:∀y∈ps.zip us,scope.names.lookup y.1=some .local\/(scope.names.lookup y.1=some .cell/\((cellsFrom (s.heap.objs.size+1) scope.names []).lookup y.1).isSome=true):=fun F7 hy=>by
  obtain⟨n,v⟩:=F7;rcases S.par n (SQ hy).1 with q|q
  ·exact .inl q
  ·exact .inr ⟨q,UP _ _ _ (.inl q)⟩
 refine codeAny_call_function hr.depth (KX _ _ lk) rfl S.co S.gen rfl (PySem.W.codeRec_of KX Kg) (hb _ _ _ _ ?_);refine wpAny_newFunctionEnv_cells S.kind Ie fun env he s1 x=>?_
 subst he;refine⟨lim.keeps x.toInCall.keep,codeAny_func ?_⟩;obtain⟨t,ht,hq⟩:=Kh A outer s H vs Q E (hr.deeper _) LM;have I:Inv (u0 CX P w K mg base N qual scope f Gp A outer s H E) [] (ja N vs) H s1:=rX S hr.hd e0 hl r x;refine Ts (ht [] s1 (ja N vs) H _ I hq) (fun fl s' hs=>?_) fun e s' hs=>hs
 have fin:∀{σ':St}{H':Hp}{v:V}{u:Value},Inv (u0 CX P w K mg base N qual scope f Gp A outer s H E) [] σ' H' s'->RelV v u->Q v H'->CE outer P w H s Q u s':=
  fun{σ' H' v u} J rv q=>⟨v,H',J.os,J.bare,J.base,J.hok,rv,q⟩
 cases fl with
 |ret u=>
  obtain⟨v,σ',H',J,rv,q⟩:=hs;exact fin J rv q
 |next=>
  obtain⟨σ',H',J,q⟩:=hs;exact fin (v:=V.non) (u:=Value.none) J rfl q
 |brk=>
  obtain⟨_,_,_,q⟩:=hs;exact False.elim q
 |cont=>
  obtain⟨_,_,_,q⟩:=hs;exact False.elim q
section
variable{X:Cx}{x:Str}{p pos:Pos}{e:Expr}{es:List Expr}{t:TA}{id T:String}{r:List V->Hp->VK->Prop}
def O5(r:List V->Hp->VK->Prop)(t:TA):TE:=fun σ H Q=>t σ H fun vs H1=>r vs H1 Q
theorem ph(hc:di X (.builtin id) r)(hg:Gl X x)(hm:X.mg x=none)(hv:bootBuiltins x=some (.builtin id))(ha:PA X (e::es) t)(hn:x≠"__name__":=by decide)(HR:(x==("__debug__" : Str))=false:=by decide)
  (he:starEach (e::es) X.env=(false,eval e X.env)::starEach es X.env:=by rfl) (Hy:(backTo pos (starEach es X.env)).any (·.1)=false:=by rfl):PE X (.Call (.Name x p) (e::es) [] pos) (O5 r t):=by
 intro pr s σ H Q I h;refine S6 (kC I hg hm hv ?_ hn HR);exact PyProof.Rows.callWith_builtin1 (Ge (ha pos pr s σ H _ I h) fun us s1 ⟨vs,H1,I1,r1,q1⟩=>hc pr s1 σ H1 vs us Q I1 r1 q1) he Hy
theorem rY(hc:di X (.type T) r)(hg:Gl X x)(hm:X.mg x=none)(hv:bootBuiltins x=some (.type T))(ha:PA X (e::es) t)(hn:x≠"__name__":=by decide)(HR:(x==("__debug__" : Str))=false:=by decide)
  (he:starEach (e::es) X.env=(false,eval e X.env)::starEach es X.env:=by rfl) (Hy:(backTo pos (starEach es X.env)).any (·.1)=false:=by rfl):PE X (.Call (.Name x p) (e::es) [] pos) (O5 r t):=by
 intro pr s σ H Q I h;refine S6 (kC I hg hm hv ?_ hn HR);exact S9 (Ge (ha pos pr s σ H _ I h) fun us s1 ⟨vs,H1,I1,r1,q1⟩=>hc pr s1 σ H1 vs us Q I1 r1 q1) he Hy
end
end L2
namespace HT
open PySem PyProof.Rows
section
open PySem.SeqAt
open PySem.AutoSeq1 (wpAny_loadPart')
open PySem.MeetsSeq PySem.MeetsSeq2 PySem.MeetsSeq3
end
section
variable{prog:Program}{w:World}{A:Around}{E:Value->Shared->Prop}{s:Shared}
theorem yj{t b:Addr}{vs ws:List Value}{Q:Value->Shared->Prop}(ht:IsTup s.heap t vs.toArray)(hb:IsTup s.heap b ws.toArray)(hv:vs≠[])
  (h1:ws=[]->Q (.ref t) s) (h2:ws≠[]->Q (.ref s.heap.objs.size) {s with heap:=s.heap.push {cls:=.type "tuple",data:=.seq (vs++ws).toArray}})
  (hsz:vs.length+ws.length<=sizeLine):wpAny (model prog w) A (binaryOp .Add (.ref t) (.ref b)) Q E s:=by
 obtain⟨⟨cls,dd,data,sl⟩,ho,hc,n,hd⟩:=id ht;obtain⟨⟨KW,JI,data2,JJ⟩,Hz,IV,n2,hd2⟩:=id hb;simp only at hc hd IV hd2;subst hc hd IV hd2;have e:vs.toArray++ws.toArray=(vs++ws).toArray:=by simp
 by_cases hw:ws=[]
 ·exact U1 ⟨_,ho,rfl⟩ ⟨_,Hz,rfl⟩ UK Vx TJ Tx (Tt _ _)
   (tuple_addW1 t b vs.toArray ws.toArray n n2 dd JI sl JJ (by simpa using hv) (by simp[hw])) ⟨ho,Hz,h1 hw⟩
 ·refine U1 ⟨_,ho,rfl⟩ ⟨_,Hz,rfl⟩ UK Vx TJ Tx (Tt _ _)
   (tuple_addW2 t b vs.toArray ws.toArray n n2 dd JI sl JJ (by simpa using hv) (by simpa using hw) (by rw[Q4,Q4];exact hsz)) ⟨ho,Hz,?_⟩
  rw[e];exact h2 hw
def sIx(n d:Nat):Option Int->Nat
 |none=>d
 |some v=>if v<0 then(v+(n:Int)).toNat else min v.toNat n
theorem pj(n d:Nat):sIx n d none=d:=rfl
theorem lb(n d k:Nat):sIx n d (some (k:Int))=min k n:=by
 show(if(k:Int)<0 then((k:Int)+(n:Int)).toNat else min (k:Int).toNat n)=min k n;rw[Rg (by lia),RP]
theorem rZ(n d:Nat)(hd:d<=n)(o:Option Int):sIx n d o<=n:=by
 cases o with
 |none=>exact hd
 |some v=>
  show(if v<0 then(v+(n:Int)).toNat else min v.toNat n)<=n;by_cases hv:v<0
  ·rw[Rb hv];lia
  ·rw[Rg hv];exact Nat.min_le_right _ _
theorem r6(v:Int)(n d:Nat):(if v<0 then max (v+(n:Int)) 0 else min v (n:Int))=((sIx n d (some v):Nat):Int):=by
 show(if v<0 then max (v+(n:Int)) 0 else min v (n:Int))=(((if v<0 then(v+(n:Int)).toNat else min v.toNat n):Nat):Int)
 by_cases hv:v<0
 ·simp only[Rb hv];lia
 ·simp only[Rg hv];lia
theorem qD(lo hi:Option Int)(n:Nat):Builtin.Slice.sliceAdjust lo hi 1 (n:Int)=(((sIx n 0 lo:Nat):Int),((sIx n n hi:Nat):Int)):=by
 have h1:¬ ((1:Int)<0):=by lia
 unfold Builtin.Slice.sliceAdjust;simp only[h1,T8];refine Prod.ext ?_ ?_
 ·cases lo with
  |none=>rfl
  |some v=>exact r6 v n 0
 ·cases hi with
  |none=>rfl
  |some v=>exact r6 v n n
theorem qE(i j:Nat):Builtin.Slice.slicePlaces (i:Int) (j:Int) 1=j-i:=by
 unfold Builtin.Slice.slicePlaces;have h1:(1:Int)>0:=by lia
 simp only[h1,TL,Int.ediv_one];split <;> lia
theorem kG{v:Value}{o:Option Int}{Q:Option Int->Shared->Prop}(p:IsPart v o)(h:Q o s):wpAny (model prog w) A (Builtin.Slice.slicePartIndex v) Q E s:=by
 cases p with
 |none=>exact slicePart_none h
 |int i t=>exact slicePart_int h
theorem eS{sl:Addr}{vl vu:Value}{lo hi:Option Int}{n:Nat}{Q:Int×Int×Nat->Shared->Prop}(hs:s.heap.IsSliceOf sl vl vu .none)(pl:IsPart vl lo)(pu:IsPart vu hi)
  (h:Q (((sIx n 0 lo:Nat):Int),1,sIx n n hi-sIx n 0 lo) s):wpAny (model prog w) A (Builtin.Slice.sliceApplied (.ref sl) (pure (n:Int))) Q E s:=by
 obtain⟨os,KY,Ov,JR⟩:=id hs;unfold Builtin.Slice.sliceApplied Builtin.Slice.sliceFields;refine Q1 (Q1 (R9 KY JR (x:=vl) rfl (Q1 (R9 KY JR (x:=vu) rfl (Q1 (R9 KY JR (x:=.none) rfl (Q6 ?_)))))));refine Q1 (slicePart_none ?_);show wpAny _ _ (if((1:Int)==0)=true then _ else _) _ _ s;rw[Rg (by decide)];refine Q1 (kG pl (Q1 (kG pu (Q1 (Q6 ?_)))));show wpAny _ _ (match Builtin.Slice.sliceAdjust lo hi 1 (n:Int) with|(lo,hi)=>pure (lo,(1:Int),Builtin.Slice.slicePlaces lo hi 1)) _ _ s;rw[qD lo hi n];show wpAny _ _ (pure (((sIx n 0 lo:Nat):Int),(1:Int),Builtin.Slice.slicePlaces ((sIx n 0 lo:Nat):Int) ((sIx n n hi:Nat):Int) 1)) _ _ s;rw[qE];exact Q6 h
theorem vA(xs:Array Value)(i k:Nat):((List.range k).filterMap fun(m:Nat)=>xs[((i:Int)+(m:Int)*1).toNat]?).toArray=((xs.toList.drop i).take k).toArray:=by
 have e:(fun(m:Nat)=>xs[((i:Int)+(m:Int)*1).toNat]?)=fun m=>xs[i+m]?:=by
  funext m
  have:((i:Int)+(m:Int)*1).toNat=i+m:=by lia
  rw[this]
 rw[e];have:=pick_run xs i k;rw[List.filterMap_map]at this;have e2:((fun x=>xs[x]?)∘fun x=>i+x)=fun m=>xs[i+m]?:=rfl
 rw[e2]at this;rw[this]
theorem iE{t sl:Addr}{items:Array Value}{vl vu:Value}{lo hi:Option Int}{Q:Value->Shared->Prop}(ht:IsTup s.heap t items)(hs:s.heap.IsSliceOf sl vl vu .none)(pl:IsPart vl lo)(pu:IsPart vu hi)
  (hw:¬ (sIx items.size 0 lo=0/\sIx items.size items.size hi=items.size))
  (h:Q (.ref s.heap.objs.size) {s with heap:=s.heap.push {cls:=.type "tuple",data:=.seq ((items.toList.drop (sIx items.size 0 lo)).take (sIx items.size items.size hi-sIx items.size 0 lo)).toArray}})
  (hsz:items.size<=sizeLine):wpAny (model prog w) A (getItem (.ref t) (.ref sl)) Q E s:=by
 have JK:sizeOk (.seq ((items.toList.drop (sIx items.size 0 lo)).take (sIx items.size items.size hi-sIx items.size 0 lo)).toArray):=by
  show((items.toList.drop (sIx items.size 0 lo)).take (sIx items.size items.size hi-sIx items.size 0 lo)).toArray.size<=sizeLine;rw[Q4,RX,Tn,R4];lia
 have hj:sIx items.size items.size hi<=items.size:=rZ _ _ (Q8 _) hi;obtain⟨os,KY,Ov,JR⟩:=id hs;have O6:s.TypeIs (.ref sl) "slice":=⟨os,KY,Ov⟩
 unfold getItem;try with_reducible refine SJ ?_
 first|refine Q1 (Q6 ?_)|skip
 refine Q1 (wpAny_sequenceKey ht.typeIs (by decide) ?_);refine Q1 (wpAny_callSpecial?_slot (name:=Str.ofString "__getitem__") ht.typeIs Sg
  (RY Sg ht.typeIs entry_tuple_getitem ?_ (args_tuple_getitem _ _)))
 show wpAny _ _ (Builtin.Tuple.tupleItemsOf (.ref t) >>= _) _ _ s;refine Q1 (tupleItemsOf_ ht ?_);refine Q1 (Tu O6 ?_);rw[Rb (by decide)];refine Q1 (eS hs pl pu ?_);have Qh:¬ ((((sIx items.size 0 lo:Nat):Int)==0&&(1:Int)==1&&(sIx items.size items.size hi-sIx items.size 0 lo)==items.size)=true):=by
  intro q;rw[Rh,Rh]at q;have q1:((sIx items.size 0 lo:Nat):Int)=0:=eq_of_beq q.1.1;have q2:sIx items.size items.size hi-sIx items.size 0 lo=items.size:=eq_of_beq q.2;exact hw ⟨by lia,by lia⟩
 show wpAny _ _ (if(((sIx items.size 0 lo:Nat):Int)==0&&(1:Int)==1&&(sIx items.size items.size hi-sIx items.size 0 lo)==items.size)=true then _ else _) _ _ s;rw[Rg Qh,vA];first
  |exact Q1 (m:=Builtin.Tuple.tupleExact _) (RV (Q6 ⟨_,rfl,Q6 h⟩) JK)
  |exact Q1 (m:=Builtin.Tuple.tupleExact _) (RV (Q1 (Q6 (Q6 ⟨_,rfl,Q6 h⟩))) JK)
  |exact Q1 (Q1 (m:=Builtin.Tuple.tupleExact _) (RV (Q6 (Q6 ⟨_,rfl,Q6 h⟩)) JK))
  |exact Q1 (Q1 (m:=Builtin.Tuple.tupleExact _) (RV (Q6 ⟨_,rfl,Q6 h⟩) JK))
end
end HT
namespace L2
open PySem PySem.Spec PyProof.Rows
abbrev TO:=St->Hp->(Option Int->Hp->Prop)->Prop
def PO(X:Cx)(e:Option Expr)(t:TO):Prop:=
 ∀(pr:List (Addr×Obj)) (s:Shared) (σ:St) (H:Hp) (Q:Option Int->Hp->Prop),Inv X pr σ H s->t σ H Q->
  wpAny (model X.prog X.w) X.A (evalPart e X.env) (fun u s'=>∃o H',Inv X pr σ H' s'/\IsPart u o/\Q o H') X.xe s
def yk:TO:=fun _ H Q=>Q none H
def Dy(t:TE):TO:=fun σ H Q=>t σ H fun x H1=>∃i,x=.int i/\Q (some i) H1
section
variable{X:Cx}{e:Expr}{te:TE}{lo hi:Option Expr}{tl th:TO}{pos p2:Pos}
theorem ym:PO X none yk:=by
 intro pr s σ H Q I h;rw[evalPart_none];exact Q6 ⟨none,H,I,.none,h⟩
theorem yn(h:PE X e te):PO X (some e) (Dy te):=by
 intro pr s σ H Q I hw;rw[evalPart_some];refine Ge (h pr s σ H _ I hw) fun u s1 Gf=>?_
 obtain⟨x,H1,I1,r1,q1⟩:=Gf;obtain⟨i,rfl,q⟩:=q1;obtain⟨t,rfl⟩:=r1;exact⟨some i,H1,I1,.int i t,q⟩
def LZ(X:Cx)(r:V->Option Int->Option Int->Hp->VK->Prop):Prop:=
 ∀(pr:List (Addr×Obj)) (s:Shared) (σ:St) (H:Hp) (x:V) (v vl vu:Value) (lo hi:Option Int) (sl:Addr) (Q:VK),Inv X pr σ H s->RelV x v->s.heap.IsSliceOf sl vl vu .none->IsPart vl lo->IsPart vu hi->r x lo hi H Q->
  ∃T id,typeLookup (.type T) "__getitem__" = pure (some (.builtin id))/\s.TypeIs v T/\wpAny (model X.prog X.w) X.A (getItem v (.ref sl)) (EP X pr σ Q) X.xe s
def tSl(r:V->Option Int->Option Int->Hp->VK->Prop)(te:TE)(tl th:TO):TE:=fun σ H Q=>te σ H fun x H1=>tl σ H1 fun l H2=>th σ H2 fun u H3=>r x l u H3 Q
theorem vB{r:V->Option Int->Option Int->Hp->VK->Prop}(hr:LZ X r)(he:PE X e te)(hl:PO X lo tl)(hu:PO X hi th):PE X (.Subscript e (.Slice lo hi none p2) pos) (tSl r te tl th):=by
 intro pr s σ H Q I h;refine Subscript_ (Ge (he pr s σ H _ I h) fun v s1 Gf=>?_);obtain⟨x,H1,I1,r1,q1⟩:=Gf;refine wpAny_Slice (Ge (hl pr s1 σ H1 _ I1 q1) fun vl s2 ⟨l,H2,I2,pl,q2⟩=>Ge (hu pr s2 σ H2 _ I2 q2) fun vu s3 Gf=>?_);obtain⟨u,H3,I3,pu,q3⟩:=Gf;rw[evalPart_none];refine Q6 ?_;have I4:Inv X pr σ H3 {s3 with heap:=s3.heap.push {cls:=.type "slice",data:=.fields #[vl,vu,.none]}}:=I3.kept (t':=s3.toks) fun b ob q=>Heap.get?_push_of_some _ q
 obtain⟨T,id,hT,ht,hg⟩:=hr pr {s3 with heap:=s3.heap.push {cls:=.type "slice",data:=.fields #[vl,vu,.none]}} σ H3 x v vl vu l u s3.heap.objs.size Q I4 r1 (Heap.IsSliceOf.new ..) pl pu q3;show wpAny (model X.prog X.w) X.A (subscriptTail e (.Slice lo hi none p2) v (.ref s3.heap.objs.size)) (EP X pr σ Q) X.xe {s3 with heap:=s3.heap.push {cls:=.type "slice",data:=.fields #[vl,vu,.none]}};exact tail_any (ops:=[.ref s3.heap.objs.size,v]) ht hT hg (by with_unfolding_all rfl)
def xj(xs:List V)(lo hi:Option Int):List V:=(xs.drop (HT.sIx xs.length 0 lo)).take (HT.sIx xs.length xs.length hi-HT.sIx xs.length 0 lo)
theorem jx(xs:List V)(lo hi:Option Int):(xj xs lo hi).length<=xs.length:=by
 unfold xj;rw[RX,Tn];lia
def E6(K:W.Frag):V->Option Int->Option Int->Hp->VK->Prop:=fun x lo hi H Q=>∃a xs,x=.ref a/\SqT K H a xs/\
 ¬ (HT.sIx xs.length 0 lo=0/\HT.sIx xs.length xs.length hi=xs.length)/\∀p,H p=none->Q (.ref p) (upd H p (.tup (xj xs lo hi)))
theorem A9:LZ X (E6 X.K):=by
 intro pr s σ H x v vl vu lo hi sl Q I rx hs pl pu h;obtain⟨a,xs,rfl,hx,hw,q⟩:=h;cases rx;obtain⟨F1,r,ht,hz⟩:=I.tuple hx;have hlen:F1.toArray.size=xs.length:=by rw[Q4];exact r.length.symm
 refine⟨"tuple",_,PyProof.Rows.slot_tuple_getitem.lookup,ht.typeIs,?_⟩;refine HT.iE ht hs pl pu (by rw[hlen];exact hw) ?_ (by rw[hlen];exact hz);rw[hlen];refine⟨.ref s.heap.objs.size,_,I.laid (t':=s.toks) (o:=.tup (xj xs lo hi)) (fun b ob q=>Heap.get?_push_of_some _ q) (Q8 _) ?_,rfl,q _ (I.hok.fresh (Q8 _))⟩;exact⟨RB (jx xs lo hi) hz,_,(r.drop (HT.sIx xs.length 0 lo)).take (HT.sIx xs.length xs.length hi-HT.sIx xs.length 0 lo),IsTupN.new _ _⟩
def Dz(K:W.Frag):R2:=fun x y H Q=>∃a b xs ys,x=.ref a/\y=.ref b/\SqT K H a xs/\SqT K H b ys/\xs≠[]/\xs.length+ys.length<=sizeLine/\
 (ys=[]->Q (.ref a) H)/\(ys≠[]->∀p,H p=none->Q (.ref p) (upd H p (.tup (xs++ys))))
theorem Vals.nil_iff{xs:List V}{us:List Value}(r:Vals xs us):us=[]<->xs=[]:=by
 cases r with
 |nil=>simp
 |cons _ _=>simp
theorem yo:GH X (binaryOp .Add) (Dz X.K):=by
 intro pr s σ H x y v u Q I rx ry h;obtain⟨a,b,xs,ys,rfl,rfl,ha,hb,hx,hz,q1,q2⟩:=h;cases rx;cases ry;obtain⟨F1,r1,p1,_⟩:=I.tuple ha;obtain⟨Jl,r2,p2,_⟩:=I.tuple hb;refine HT.yj p1 p2 (fun z=>hx (r1.nil_iff.mp z)) (fun z=>⟨.ref a,H,I,rfl,q1 (r2.nil_iff.mp z)⟩) (fun z=>?_) (by rw[<-r1.length,<-r2.length];exact hz);refine⟨.ref s.heap.objs.size,_,I.laid (t':=s.toks) (o:=.tup (xs++ys)) (fun b ob q=>Heap.get?_push_of_some _ q) (Q8 _) ?_,rfl,q2 (fun w=>z (r2.nil_iff.mpr w)) _ (I.hok.fresh (Q8 _))⟩;exact⟨by rw[RC];exact hz,_,r1.append r2,IsTupN.new _ _⟩
end
def ixN(n:Nat)(i:Int):Option Nat:=if 0<=i then(if i<n then some i.toNat else none) else if -(n:Int)<=i then some (i+n).toNat else none
def Ht{α:Type}(xs:List α)(i:Int):Option α:=(ixN xs.length i).bind fun j=>xs[j]?
theorem r9{n:Nat}{i:Int}{j:Nat}(h:ixN n i=some j):seqIndex? i n=some j/\j<n/\-(n:Int)<=i/\i<n:=by
 unfold ixN at h;by_cases h0:0<=i
 ·rw[Rb h0]at h;by_cases h1:i<n
  ·rw[Rb h1]at h;have e:i.toNat=j:=Rt h;exact⟨by rw[seqIndex_of h0 h1,e],by lia,by lia,h1⟩
  ·rw[Rg h1]at h;cases h
 ·rw[Rg h0]at h;by_cases h1:-(n:Int)<=i
  ·rw[Rb h1]at h;have e:(i+n).toNat=j:=Rt h;exact⟨by rw[seqIndex_neg (by lia) h1,e],by lia,h1,by lia⟩
  ·rw[Rg h1]at h;cases h
theorem oD{α:Type}{xs:List α}{i:Int}{v:α}(h:Ht xs i=some v):∃j,seqIndex? i xs.length=some j/\xs[j]?=some v/\j<xs.length/\-(xs.length:Int)<=i/\i<xs.length:=by
 unfold Ht at h;cases e:ixN xs.length i with
 |none=>rw[e]at h;cases h
 |some j=>
  rw[e]at h;obtain⟨h1,h2,h3,h4⟩:=r9 e;exact⟨j,h1,h,h2,h3,h4⟩
theorem e9{α:Type}{xs:List α}{j:Nat}{v:α}(h:xs[j]?=some v):Ht xs (j:Int)=some v:=by
 have hj:j<xs.length:=(List.getElem?_eq_some_iff.mp h).1;have e:ixN xs.length (j:Int)=some j:=by
  unfold ixN;rw[Rb (by lia),Rb (by lia)];simp
 unfold Ht;rw[e];exact h
def sd(b:Expr):Prop:=∀o i,subscripted b false o i=operate [o,i] (getItem o i)
def Nl(X:Cx)(r:R2):Prop:=
 ∀(value slice:Expr) (pr:List (Addr×Obj)) (s:Shared) (σ:St) (H:Hp) (x y:V) (v u:Value) (Q:VK),Inv X pr σ H s->RelV x v->RelV y u->r x y H Q->
  subscripted slice false v u=operate [v,u] (getItem v u)->wpAny (model X.prog X.w) X.A (subscriptTail value slice v u) (EP X pr σ Q) X.xe s
def KZ(X:Cx)(id:String)(r:V->List V->Hp->VK->Prop):Prop:=
 ∀(pr:List (Addr×Obj)) (s:Shared) (σ:St) (H:Hp) (x:V) (xs:List V) (v:Value) (us:List Value) (Q:VK),Inv X pr σ H s->RelV x v->Vals xs us->r x xs H Q->
  wpAny (model X.prog X.w) X.A (call (.builtin id) (v::us)) (EP X pr σ Q) X.xe s
section
variable{X:Cx}{a b:Expr}{ta tb:TE}{pos:Pos}
theorem qF{r:R2}(hr:Nl X r)(ha:PE X a ta)(hb:PE X b tb)(hs:sd b):PE X (.Subscript a b pos) (MU r ta tb):=by
 intro pr s σ H Q I h;exact Subscript_ (Dq ha hb I h fun v u s2 x y H2 I2 rx ry q=>hr a b pr s2 σ H2 x y v u Q I2 rx ry q (hs _ _))
def E7(K:W.Frag):R2:=fun x y H Q=>∃p xs i v,x=.ref p/\y=.int i/\SqL K H p xs/\Ht xs i=some v/\Q v H
def E8(K:W.Frag):R2:=fun x y H Q=>∃p xs i v,x=.ref p/\y=.int i/\SqT K H p xs/\Ht xs i=some v/\Q v H
def E9:R2:=fun x y H Q=>∃z i c,x=.str z/\y=.int i/\z.length<=sizeLine/\Ht z.cps.toList i=some c/\Q (.str ⟨#[c]⟩) H
theorem lg:Nl X (E7 X.K):=by
 intro value slice pr s σ H x y v u Q I rx ry h hs;obtain⟨p,xs,i,z,rfl,rfl,hq,he,q⟩:=h;cases rx;obtain⟨t,rfl⟩:=ry;obtain⟨F1,r,pl,hz⟩:=I.list hq;obtain⟨j,h1,h2,h3,h4,h5⟩:=oD he;obtain⟨w,ew,JS⟩:=r.get h2;have hl:=r.length;have hn:=kF;have fin:EP X pr σ Q w s:=⟨z,H,I,JS,q⟩
 by_cases h0:0<=i
 ·have hj:i.toNat=j:=by
   rw[seqIndex_of h0 h5]at h1;exact Rt h1
  exact item_listR pl.isList h0 (by lia) (by rw[hj];simpa using ew) fin hs
 ·have hj:(i+(F1.toArray.size:Int)).toNat=j:=by
   rw[seqIndex_neg (by lia) h4]at h1;rw[Q4,<-hl];exact Rt h1
  exact subscriptTail_builtinR (x:=w) pl.isList.typeIs slot_list_getitem.lookup
   (wpAny_getItem_list_neg (Q:=fun r s'=>r=w/\EP X pr σ Q r s') pl.isList (by lia) (by rw[Q4] <;> lia) (by lia) (by rw[hj];simpa using ew) ⟨rfl,fin⟩) hs
theorem sf:Nl X (E8 X.K):=by
 intro value slice pr s σ H x y v u Q I rx ry h hs;obtain⟨p,xs,i,z,rfl,rfl,hq,he,q⟩:=h;cases rx;obtain⟨t,rfl⟩:=ry;obtain⟨F1,r,pl,hz⟩:=I.tuple hq;obtain⟨j,h1,h2,h3,h4,h5⟩:=oD he;obtain⟨w,ew,JS⟩:=r.get h2;have hl:=r.length;have hn:=kF;have fin:EP X pr σ Q w s:=⟨z,H,I,JS,q⟩
 exact subscriptTail_builtinR (x:=w) pl.typeIs slot_tuple_getitem.lookup
  (getItem_tuple (j:=j) (Q:=fun r s'=>r=w/\EP X pr σ Q r s') pl (by lia) (by lia) (by rw[Q4,<-hl];exact h1) (by simpa using ew) ⟨rfl,fin⟩) hs
theorem Ba:Nl X E9:=by
 intro value slice pr s σ H x y v u Q I rx ry h hs;obtain⟨z,i,c,rfl,rfl,hz,he,q⟩:=h;obtain⟨t,rfl⟩:=rx;obtain⟨t',rfl⟩:=ry;obtain⟨j,h1,h2,h3,h4,h5⟩:=oD he;have hl:z.cps.toList.length=z.length:=by simp[Str.length]
 rw[hl]at h1 h4 h5;have hn:=kF;exact tail_any (Vd s z t) slot_str_getitem.lookup (getItem_str (c:=c) (by
  have e1:decide (i < -(2 ^ 63:Int))=false:=RF (by lia);have e2:decide (i>=2 ^ 63)=false:=RF (by lia);rw[e1,e2,Bool.or_false]) (by rw[h1];simpa using h2) ⟨.str ⟨#[c]⟩,H,I.tok _,⟨_,rfl⟩,q⟩) hs
theorem qG(F1:List Value)(n j:Nat)(u:Value):Obj.mapSeq (·.setIfInBounds j u) {cls:=.type "list",data:=.seq F1.toArray n}={cls:=.type "list",data:=.seq (F1.set j u).toArray n}:=by
 simp[Obj.mapSeq]
theorem Inv.lst{pr:List (Addr×Obj)}{σ:St}{H:Hp}{s:Shared}{p:Addr}{xs:List V}(I:Inv X pr σ H s)(h:H p=some (.lst xs)):
  ∃(F1:List Value) (n:Nat),Vals xs F1/\s.heap.get? p=some {cls:=.type "list",data:=.seq F1.toArray n}/\xs.length<=sizeLine:=by
 obtain⟨z,F1,n,r,e⟩:=I.hok p _ h;exact⟨F1,n,r,e,z⟩
theorem Inv.lstUpd{pr:List (Addr×Obj)}{σ:St}{H:Hp}{s:Shared}{p:Addr}{xs ys:List V}{F1 its':List Value}{n n':Nat}{f:Obj->Obj}(I:Inv X pr σ H s)(h:H p=some (.lst xs))
  (ho:s.heap.get? p=some {cls:=.type "list",data:=.seq F1.toArray n}) (hf:f {cls:=.type "list",data:=.seq F1.toArray n}={cls:=.type "list",data:=.seq its'.toArray n'}) (r:Vals ys its') (hz:ys.length<=sizeLine) (t:Nat):
  Inv X pr σ (upd H p (.lst ys)) {s with heap:=s.heap.update p f,toks:=t}:=by
 have e:(s.heap.update p f).get? p=some {cls:=.type "list",data:=.seq its'.toArray n'}:=by
  rw[Heap.get?_update_self f ho (by rw[hf] <;> rfl),hf]
 refine I.write (x:=p) (e:=p) (by rw[h];trivial) (.inl rfl) (fun b u hb q=>(Heap.get?_update_other _ _ (SE hb)).trans q) ⟨_,e⟩ ?_;exact⟨hz,its',n',r,e⟩
def Bb:V->V->V->Hp->(Hp->Prop)->Prop:=fun o i v H Q=>∃p xs k j,o=.ref p/\i=.int k/\H p=some (.lst xs)/\ixN xs.length k=some j/\Q (upd H p (.lst (xs.set j v)))
theorem vC:EW X Bb:=by
 intro pr s σ H o i v ov iv u Q I ro ri rv h;obtain⟨p,xs,k,j,rfl,rfl,hp,hj,q⟩:=h;cases ro;obtain⟨t,rfl⟩:=ri;obtain⟨F1,n,r,ho,hz⟩:=I.lst hp;obtain⟨h1,h2,h3,h4⟩:=r9 hj;have hl:=r.length;have hn:=kF;have I':Inv X pr σ (upd H p (.lst (xs.set j v))) {s with heap:=s.heap.update p (Obj.mapSeq (·.setIfInBounds j u))}:=
  I.lstUpd hp ho (qG F1 n j u) (r.set rv j) (by rw[RN];exact hz) s.toks
 by_cases h0:0<=k
 ·have hk:k.toNat=j:=by
   rw[seqIndex_of h0 h4]at h1;exact Rt h1
  exact PySem.W.ki_setAt ho h0 (by lia) (by rw[Q4,<-hl];exact h4) (by rw[hk];exact⟨_,I',q⟩)
 ·have hk:(k+(F1.toArray.size:Int)).toNat=j:=by
   rw[seqIndex_neg (by lia) h3]at h1;rw[Q4,<-hl];exact Rt h1
  exact PySem.W.ki_setBack ho (by lia) (by rw[Q4,<-hl];exact h3) (by lia) (by rw[hk];exact⟨_,I',q⟩)
theorem mE(lo hi:Option Int)(n:Nat):(sliceBounds lo hi none n).1=((HT.sIx n 0 lo:Nat):Int)/\(sliceBounds lo hi none n).2.1=((HT.sIx n n hi:Nat):Int)/\(sliceBounds lo hi none n).2.2=1:=by
 refine⟨?_,?_,rfl⟩
 ·cases lo with
  |none=>simp[sliceBounds,HT.sIx]
  |some i=>
   simp only[sliceBounds,HT.sIx,S3,show(1:Int)>0 by decide,TL];by_cases h:i<0
   ·simp only[h,TL] <;> lia
   ·simp only[h,T8] <;> lia
 ·cases hi with
  |none=>simp[sliceBounds,HT.sIx]
  |some i=>
   simp only[sliceBounds,HT.sIx,S3,show(1:Int)>0 by decide,TL];by_cases h:i<0
   ·simp only[h,TL] <;> lia
   ·simp only[h,T8] <;> lia
theorem lh(F1:List Value)(lo hi:Option Int):slicePick F1.toArray lo hi none=((F1.drop (HT.sIx F1.length 0 lo)).take (HT.sIx F1.length F1.length hi-HT.sIx F1.length 0 lo)).toArray:=by
 obtain⟨h1,h2,h3⟩:=mE lo hi F1.toArray.size;unfold slicePick;rw[h1,h2,h3];simp only[sliceRange_one,pick_run,Q4] <;> rfl
def Fb(K:W.Frag):V->Option Int->Option Int->Hp->VK->Prop:=fun x lo hi H Q=>∃a xs,x=.ref a/\SqL K H a xs/\∀p,H p=none->Q (.ref p) (upd H p (.lst (xj xs lo hi)))
theorem yp:LZ X (Fb X.K):=by
 intro pr s σ H x v vl vu lo hi sl Q I rx hs pl pu h;obtain⟨a,xs,rfl,hx,q⟩:=h;cases rx;obtain⟨F1,r,ht,hz⟩:=I.list hx;have hlen:=r.length;refine⟨"list",_,slot_list_getitem.lookup,ht.isList.typeIs,?_⟩;refine Uu ht.isList hs pl pu .none (by simp) ?_ (by rw[Q4] <;> lia);rw[lh,<-hlen];refine⟨.ref s.heap.objs.size,_,I.laid (t':=s.toks) (o:=.lst (xj xs lo hi)) (fun b ob q=>Heap.get?_push_of_some _ q) (Q8 _) ?_,rfl,q _ (I.hok.fresh (Q8 _))⟩;exact⟨RB (jx xs lo hi) hz,_,0,(r.drop (HT.sIx xs.length 0 lo)).take (HT.sIx xs.length xs.length hi-HT.sIx xs.length 0 lo),Heap.get?_push_size _ rfl⟩
def vD:V->Bool
 | .non=>true
 | .bl _=>true
 | .int _=>true
 | .str _=>true
 |_=>false
def O7:V->V->Bool
 | .non,.non=>true
 | .bl a,.bl b=>a==b
 | .bl a,.int b=>(if a then 1 else 0)==b
 | .int a,.bl b=>a==(if b then 1 else 0)
 | .int a,.int b=>a==b
 | .str a,.str b=>a==b
 |_,_=>false
theorem xk{A:Around}{s:Shared}{y x:V}{u v:Value}(ry:RelV y u)(rx:RelV x v)(fy:vD y=true)(fx:vD x=true):SeqAt.EqAt A s u v (O7 y x):=by
 cases y with
 |non=>
  cases ry;cases x with
  |non=>cases rx;exact SeqAt.EqAt.same _
  |bl b=>cases rx;exact SeqAt.EqAt.none_bool b
  |int b=>obtain⟨t,rfl⟩:=rx;exact SeqAt.EqAt.none_int b t
  |str b=>obtain⟨t,rfl⟩:=rx;exact SeqAt.EqAt.none_str b t
  |_=>exact absurd (show false=true from fx) Rc
 |bl a=>
  cases ry;cases x with
  |non=>cases rx;exact SeqAt.EqAt.bool_none a
  |bl b=>cases rx;exact SeqAt.EqAt.bool_bool a b
  |int b=>obtain⟨t,rfl⟩:=rx;exact SeqAt.EqAt.bool_int a b t
  |str b=>obtain⟨t,rfl⟩:=rx;exact SeqAt.EqAt.bool_str a b t
  |_=>exact absurd (show false=true from fx) Rc
 |int a=>
  obtain⟨t',rfl⟩:=ry;cases x with
  |non=>cases rx;exact SeqAt.EqAt.int_none a t'
  |bl b=>cases rx;exact SeqAt.EqAt.int_bool a t' b
  |int b=>obtain⟨t,rfl⟩:=rx;exact SeqAt.EqAt.int_int a t' b t
  |str b=>obtain⟨t,rfl⟩:=rx;exact SeqAt.EqAt.int_str a t' b t
  |_=>exact absurd (show false=true from fx) Rc
 |str a=>
  obtain⟨t',rfl⟩:=ry;cases x with
  |non=>cases rx;exact SeqAt.EqAt.str_none a t'
  |bl b=>cases rx;exact SeqAt.EqAt.str_bool a t' b
  |int b=>obtain⟨t,rfl⟩:=rx;exact SeqAt.EqAt.str_int a t' b t
  |str b=>obtain⟨t,rfl⟩:=rx;exact SeqAt.EqAt.str_str a t' b t
  |_=>exact absurd (show false=true from fx) Rc
 |_=>exact absurd (show false=true from fy) Rc
theorem iR:di X (.builtin "len") (fun xs H Q=>∃p ys,xs=[.ref p]/\(SqL X.K H p ys\/SqT X.K H p ys)/\Q (.int ys.length) H):=by
 intro pr s σ H xs us Q I r h;obtain⟨p,ys,rfl,hq,q⟩:=h;obtain⟨u,rfl,rx⟩:=e8 r;cases rx;have hn:=kF;rcases hq with hq|hq
 ·obtain⟨F1,r',pl,hz⟩:=I.list hq;have hlen:=r'.length;exact Calls.call_len_list pl.isList (by simp only[Q4] <;> lia) ⟨.int ys.length,H,I.tok _,⟨s.toks+1,by rw[Q4,hlen]⟩,q⟩
 ·obtain⟨F1,r',pl,hz⟩:=I.tuple hq;have hlen:=r'.length;exact len_tuple pl (by simp only[Q4] <;> lia) ⟨.int ys.length,H,I.tok _,⟨s.toks+1,by rw[Q4,hlen]⟩,q⟩
theorem mF:di X (.builtin "len") (fun xs H Q=>∃z,xs=[.str z]/\z.length<=sizeLine/\Q (.int z.length) H):=by
 intro pr s σ H xs us Q I r h;obtain⟨z,rfl,hz,q⟩:=h;obtain⟨u,rfl,t,rfl⟩:=e8 r;have hn:=kF;exact len_str (by lia) ⟨.int z.length,H,I.tok _,⟨_,rfl⟩,q⟩
theorem iS:di X (.type "list") (fun xs H Q=>∃p ys,xs=[.ref p]/\(SqL X.K H p ys\/SqT X.K H p ys)/\∀l,H l=none->Q (.ref l) (upd H l (.lst ys))):=by
 intro pr s σ H xs us Q I r h;obtain⟨p,ys,rfl,hq,q⟩:=h;obtain⟨u,rfl,rx⟩:=e8 r;cases rx;have fin:∀(F1:List Value),Vals ys F1->ys.length<=sizeLine->∀(h':Heap) (c':Nat),(∀b o',s.heap.get? b=some o'->h'.get? b=some o')->
   h'.get? s.heap.objs.size=some {cls:=.type "list",dict:=none,data:=.seq F1.toArray c',slots:=#[]}->EP X pr σ Q (.ref s.heap.objs.size) {s with heap:=h'}:=fun F1 r' hz h' c' kp e=>
  ⟨.ref s.heap.objs.size,_,I.laid (t':=s.toks) kp (Q8 _) (show ObjOk X.prog X.w _ h' _ (.lst ys) from⟨hz,F1,c',r',e⟩),rfl,q _ (I.hok.fresh (Q8 _))⟩
 rcases hq with hq|hq
 ·obtain⟨F1,r',pl,hz⟩:=I.list hq;have hlen:=r'.length;obtain⟨o,ho,hc,n,hd⟩:=pl.isList;exact call_list_seq p (.inl rfl) ho hc hd (fun h' c' kp e=>fin F1 r' hz h' c' kp e) (by simp only[Q4] <;> lia)
 ·obtain⟨F1,r',pl,hz⟩:=I.tuple hq;have hlen:=r'.length;obtain⟨o,ho,hc,n,hd⟩:=pl;exact call_list_seq p (.inr rfl) ho hc hd (fun h' c' kp e=>fin F1 r' hz h' c' kp e) (by simp only[Q4] <;> lia)
theorem gX:di X (.type "tuple") (fun xs H Q=>∃p ys,xs=[.ref p]/\((SqL X.K H p ys/\∀l,H l=none->Q (.ref l) (upd H l (.tup ys)))\/(SqT X.K H p ys/\Q (.ref p) H))):=by
 intro pr s σ H xs us Q I r h;obtain⟨p,ys,rfl,h⟩:=h;obtain⟨u,rfl,rx⟩:=e8 r;cases rx;rcases h with⟨hq,q⟩|⟨hq,q⟩
 ·obtain⟨F1,r',pl,hz⟩:=I.list hq;have hlen:=r'.length;refine call_tuple_list pl.isList (fun h' kp=>?_) (by simp only[Q4] <;> lia);have I1:Inv X pr σ H {s with heap:=h'}:=I.kept (t':=s.toks) kp;have I2:Inv X pr σ (upd H h'.objs.size (.tup ys)) {s with heap:=h'.push {cls:=.type "tuple",data:=.seq F1.toArray}}:=
   I1.laid (t':=s.toks) (fun b o e=>Heap.get?_push_of_some _ e) (Q8 _) (show ObjOk X.prog X.w _ _ _ (.tup ys) from⟨hz,F1,r',IsTupN.new _ _⟩)
  exact⟨.ref h'.objs.size,_,I2,rfl,q _ (I1.hok.fresh (Q8 _))⟩
 ·obtain⟨F1,r',pl,hz⟩:=I.tuple hq;exact call_tuple_same pl ⟨.ref p,H,I,rfl,q⟩
def Ox(K:W.Frag)(T:String)(x:V)(H:Hp):Prop:=match x with
 | .str _=>T = "str"
 | .int _=>T = "int"
 | .ref p=>(T = "list"/\∃xs,SqL K H p xs)\/(T = "tuple"/\∃o,K.lookup p=some o/\o.cls=.type "tuple"/\o.dict=none)\/
   (T = "dict"/\((∃kvs,H p=some (.dK kvs))\/∃kvs,H p=some (.dT kvs)))\/(T = "set"/\∃S n,H p=some (.set S n))
 |_=>False
theorem xl{pr:List (Addr×Obj)}{σ:St}{H:Hp}{s:Shared}{T:String}{x:V}{v:Value}(I:Inv X pr σ H s)(r:RelV x v)(ty:Ox X.K T x H):
  s.TypeIs v T/\∀a,v=.ref a->∃ob,s.heap.get? a=some ob/\ob.dict=none:=by
 cases x with
 |str z=>
  obtain⟨t,rfl⟩:=r;cases(show T = "str" from ty);exact⟨Vd s z t,fun _ e=>nomatch e⟩
 |int i=>
  obtain⟨t,rfl⟩:=r;cases(show T = "int" from ty);exact⟨Ve s i t,fun _ e=>nomatch e⟩
 |ref p=>
  cases r;rcases ty with⟨rfl,xs,hq⟩|⟨rfl,o,hk,hc,hd⟩|⟨rfl,hk⟩|⟨rfl,S,n,hk⟩
  ·obtain⟨F1,_,pl,_⟩:=I.list hq;refine⟨pl.isList.typeIs,fun a e=>?_⟩;cases e;obtain⟨o,n,e,c,hd,_⟩:=pl;exact⟨o,e,hd⟩
  ·refine⟨⟨o,I.kIn p o hk,hc⟩,fun a e=>?_⟩;cases e;exact⟨o,I.kIn _ o hk,hd⟩
  ·have z:∃o,s.heap.get? p=some o/\o.ExactDict:=by
    rcases hk with⟨kvs,hk⟩|⟨kvs,hk⟩
    ·obtain⟨_,_,_,_,o,_,_,e,ex,_⟩:=I.hok p _ hk;exact⟨o,e,ex⟩
    ·obtain⟨_,_,_,_,o,_,_,e,ex,_⟩:=I.hok p _ hk;exact⟨o,e,ex⟩
   obtain⟨o,e,ex⟩:=z;refine⟨⟨o,e,ex.1⟩,fun a e2=>?_⟩;cases e2;exact⟨o,e,ex.2.1⟩
  ·obtain⟨o,_,_,_,e,ex,_⟩:=I.hok p _ hk;refine⟨⟨o,e,ex.1⟩,fun a e2=>?_⟩;cases e2;exact⟨o,e,ex.2.1⟩
 |_=>exact False.elim ty
def Fc(K:W.Frag)(T:String)(r:V->List V->Hp->VK->Prop)(to:TE):TE:=fun σ H Q=>to σ H fun x H1=>Ox K T x H1/\r x [] H1 Q
def tBM(K:W.Frag)(T:String)(r:V->List V->Hp->VK->Prop)(to:TE)(t:TA):TE:=fun σ H Q=>to σ H fun x H1=>Ox K T x H1/\t σ H1 fun xs H2=>r x xs H2 Q
variable{o e:Expr}{es:List Expr}{to:TE}{t:TA}{name:Str}{apos Gd:Pos}{T id:String}{r:V->List V->Hp->VK->Prop}
theorem xm(pa:PlainAttrs T)(slot:Slot T name id)(JT:typeOf (.builtin id)=pure (.type "method_descriptor"))(hm:KZ X id r)(ho:PE X o to)
  (GD:attributeBase o name X.env (eval o X.env)=eval o X.env:=by rfl) (GF:(apos.endLine==Gd.line)=true:=by rfl):PE X (.Call (.Attribute o name apos) [] [] Gd) (Fc X.K T r to):=by
 intro pr s σ H Q I h;refine wpAny_Call_method0_late GD GF (Ge (ho pr s σ H _ I h) fun v s1 Gf=>?_);obtain⟨x,H1,I1,r1,ty,q1⟩:=Gf;obtain⟨h1,h2⟩:=xl I1 r1 ty;exact⟨T,id,pa,slot,JT,h1,h2,TK rfl (PySem.evalArgs_none (hm pr s1 σ H1 x [] v [] Q I1 r1 .nil q1))⟩
theorem yq(pa:PlainAttrs T)(slot:Slot T name id)(JT:typeOf (.builtin id)=pure (.type "method_descriptor"))(hm:KZ X id r)(ho:PE X o to)(ha:PA X (e::es) t)
  (GD:attributeBase o name X.env (eval o X.env)=eval o X.env:=by rfl)
  (Ig:((backTo Gd (starEach (e::es) X.env)).all (fun x=>!x.1)&&(backToKw Gd (keywordEach [] X.env)).all (fun x=>x.1.isSome)
   && decide ((e::es).length+([]:List Keyword).length+(if([]:List Keyword).isEmpty then 0 else 1)<30))=true:=by rfl)
  (GF:(apos.endLine==Gd.line)=true:=by rfl) (hs:starEach (e::es) X.env=(false,eval e X.env)::starEach es X.env:=by rfl) (GO:(backTo Gd (starEach es X.env)).any (·.1)=false:=by rfl):
  PE X (.Call (.Attribute o name apos) (e::es) [] Gd) (tBM X.K T r to t):=by
 intro pr s σ H Q I h;refine wpAny_Call_method_late GD Ig GF rfl (Ge (ho pr s σ H _ I h) fun v s1 Gf=>?_);obtain⟨x,H1,I1,r1,ty,q1⟩:=Gf;obtain⟨h1,h2⟩:=xl I1 r1 ty;refine⟨T,id,pa,slot,JT,h1,h2,?_⟩;have hA:=ha Gd pr s1 σ H1 _ I1 q1;rw[hs]at hA ⊢;refine TK (by show(false||(backTo Gd (starEach es X.env)).any (·.1))=false;rw[GO] <;> rfl) (Calls.evalArgs_plain ?_);exact Ge hA fun us s2 ⟨vs,H2,I2,r2,q2⟩=>hm pr s2 σ H2 x vs v us Q I2 r1 r2 q2
end
def MtM(X:Cx)(id:String)(r:V->List V->Hp->VK->Prop):Prop:=
 ∀(pr:List (Addr×Obj)) (s:Shared) (σ:St) (H:Hp) (x:V) (xs:List V) (v:Value) (us:List Value) (Q:VK),Inv X pr σ H s->RelV x v->Vals xs us->r x xs H Q->
  wpAny (model X.prog X.w) X.A (call (.builtin id) (v::us)) (EP X pr σ Q) X.xe s
theorem Vals.one:∀{x:V}{us:List Value},Vals [x] us->∃u,us=[u]/\RelV x u
 |_,_,.cons r .nil=>⟨_,rfl,r⟩
theorem Vals.zero:∀{us:List Value},Vals [] us->us=[]
 |_,.nil=>rfl
theorem Vals.dropLast{xs:List V}{us:List Value}(h:Vals xs us):Vals xs.dropLast us.dropLast:=by
 induction h with
 |nil=>exact .nil
 |cons r t ih=>
  cases t with
  |nil=>exact .nil
  |cons q t'=>exact .cons r ih
theorem Vals.eraseIdx:∀{xs:List V}{us:List Value}(i:Nat),Vals xs us->Vals (xs.eraseIdx i) (us.eraseIdx i)
 |_,_,_,.nil=>.nil
 |_,_,0,.cons _ t=>t
 |_,_,i+1,.cons r t=>.cons r (Vals.eraseIdx i t)
theorem Vals.rep{xs:List V}{us:List Value}(h:Vals xs us):∀k:Nat,Vals (List.replicate k xs).flatten (List.replicate k us).flatten
 | 0=>.nil
 |k+1=>by
  rw[Sh,Sh,Sw,Sw];exact Vals.append h (Vals.rep h k)
theorem qH{α:Type}(l:List α):l.eraseIdx (l.length-1)=l.dropLast:=by
 induction l with
 |nil=>rfl
 |cons a r ih=>
  cases r with
  |nil=>rfl
  |cons b r=>
   have e:(a::b::r).length-1=((b::r).length-1)+1:=by
    have h1:(a::b::r).length=r.length+2:=rfl;have h2:(b::r).length=r.length+1:=rfl;lia
   rw[e,List.eraseIdx_cons_succ,ih];all_goals rfl
theorem mG(F1:List Value):∀(k:Nat) (acc:List Value),
  List.foldl (fun x1 x2=>x1++x2) acc.toArray (List.replicate k F1.toArray)=(acc++(List.replicate k F1).flatten).toArray
 | 0,acc=>by simp
 |k+1,acc=>by
  have e:acc.toArray++F1.toArray=(acc++F1).toArray:=by simp
  have e2:(acc++F1)++(List.replicate k F1).flatten=acc++(List.replicate (k+1) F1).flatten:=by
   rw[Sh,Sw,RK]
  rw[<-e2,<-mG F1 k (acc++F1),<-e,Sh,Ta]
section
variable{X:Cx}{pr:List (Addr×Obj)}{σ:St}{H:Hp}{s:Shared}{l b:Addr}{xs ys zs:List V}
theorem Inv.lset{F1 its':List Value}{n:Nat}{f:Array Value->Array Value}{t':Nat}(I:Inv X pr σ H s)(hH:H l=some (.lst xs))
  (e:s.heap.get? l=some {cls:=.type "list",data:=.seq F1.toArray n}) (hf:f F1.toArray=its'.toArray) (hv:Vals ys its') (hz:ys.length<=sizeLine):
  Inv X pr σ (upd H l (.lst ys)) {s with heap:=s.heap.update l (Obj.mapSeq f),toks:=t'}:=by
 have q:=PySem.IsL.update e f;rw[hf]at q;refine I.write (x:=l) (e:=l) (by rw[hH];exact trivial) (.inl rfl) (fun b' u hb hu=>(Heap.get?_update_other s.heap (Obj.mapSeq f) (SE hb)).trans hu) ⟨_,q⟩ ?_;exact⟨hz,its',_,hv,q⟩
theorem Inv.lnew{F1:List Value}{t':Nat}(I:Inv X pr σ H s)(hv:Vals ys F1)(hz:ys.length<=sizeLine):
  Inv X pr σ (upd H s.heap.objs.size (.lst ys)) {s with heap:=s.heap.push {cls:=.type "list",data:=.seq F1.toArray},toks:=t'}:=
 I.laid (fun _ _ q=>Heap.get?_push_of_some _ q) (Q8 _) ⟨hz,F1,0,hv,Heap.get?_push_size _ rfl⟩
theorem Inv.fresh(I:Inv X pr σ H s):H s.heap.objs.size=none:=I.hok.fresh (Q8 _)
theorem Inv.lstM(I:Inv X pr σ H s)(hH:H l=some (.lst xs)):xs.length<=sizeLine/\∃(F1:List Value) (n:Nat),Vals xs F1/\xs.length=F1.length/\s.heap.get? l=some {cls:=.type "list",data:=.seq F1.toArray n}:=by
 obtain⟨z,F1,n,r,e⟩:=I.hok l _ hH;exact⟨z,F1,n,r,r.length,e⟩
theorem vE{n:Nat}(h:n<=sizeLine):Builtin.List.listTooLong n=false:=by
 unfold Builtin.List.listTooLong;exact RF (by lia)
end
section
variable{X:Cx}
def yr:V->List V->Hp->VK->Prop:=fun x vs H Q=>∃l xs y,x=.ref l/\vs=[y]/\H l=some (.lst xs)/\xs.length<sizeLine/\Q .non (upd H l (.lst (xs++[y])))
theorem mH:MtM X "list.append" yr:=by
 intro pr s σ H x vs v us Q I rx rv h;obtain⟨l,xs,y,rfl,rfl,hH,hz,q⟩:=h;cases rx;obtain⟨u,rfl,ru⟩:=rv.one;obtain⟨z,F1,n,r,hl,e⟩:=I.lstM hH;refine Vf F.slot_list_append ⟨_,e,rfl⟩ F.entry_list_append (F.args_list_append_2 _ _) (PySem.list_append l F1.toArray n u (by rw[Q4];lia)) ⟨e,?_⟩;refine⟨.non,_,I.lset (its':=F1++[u]) hH e (by simp) (r.append (.cons ru .nil)) ?_,rfl,q⟩;rw[RC,RI];lia
def Fd:V->List V->Hp->VK->Prop:=fun x vs H Q=>∃l xs y,x=.ref l/\vs=[]/\H l=some (.lst xs)/\xs[xs.length-1]?=some y/\Q y (upd H l (.lst xs.dropLast))
theorem Ew:MtM X "list.pop" Fd:=by
 intro pr s σ H x vs v us Q I rx rv h;obtain⟨l,xs,y,rfl,rfl,hH,hy,q⟩:=h;cases rx;have O8:=rv.zero;subst O8;obtain⟨z,F1,n,r,hl,e⟩:=I.lstM hH;obtain⟨u,hu,ru⟩:=r.get hy;have hy':F1.toArray[F1.toArray.size-1]?=some u:=by
  show F1.toArray[F1.length-1]?=some u;rw[<-Array.getElem?_toList,<-hl];exact hu
 refine Vf F.slot_list_pop ⟨_,e,rfl⟩ F.entry_list_pop (F.args_list_pop_1 _) (MeetsSeq.list_pop_last l F1.toArray n u hy' (by rw[Q4];lia)) ⟨e,?_⟩;refine⟨y,_,I.lset (its':=F1.dropLast) hH e ?_ r.dropLast ?_,ru,q⟩
 ·show F1.toArray.eraseIdxIfInBounds (F1.toArray.size-1)=F1.dropLast.toArray;rw[Q4,List.eraseIdxIfInBounds_toArray,qH]
 ·rw[List.length_dropLast];lia
def Bc:V->List V->Hp->VK->Prop:=fun x vs H Q=>∃l xs,x=.ref l/\vs=[]/\H l=some (.lst xs)/\Q .non (upd H l (.lst []))
theorem pk:MtM X "list.clear" Bc:=by
 intro pr s σ H x vs v us Q I rx rv h;obtain⟨l,xs,rfl,rfl,hH,q⟩:=h;cases rx;have O8:=rv.zero;subst O8;obtain⟨z,F1,n,r,hl,e⟩:=I.lstM hH;refine Vf F.slot_list_clear ⟨_,e,rfl⟩ F.entry_list_clear (F.args_list_clear_1 _) (AutoSeq1.list_clear_list_0 l F1.toArray n (by rw[Q4];lia)) ⟨e,?_⟩;exact⟨.non,_,I.lset (its':=[]) (ys:=[]) hH e rfl .nil (RM _),rfl,q⟩
theorem lj{α:Type}(xs:List α)(k:Nat):(List.replicate k xs).flatten.length=k*xs.length:=by
 induction k with
 |zero=>simp
 |succ k ih=>rw[Sh,Sw,RC,ih,Nat.succ_mul,Nat.add_comm]
end
section
variable{prog:Program}{w:World}{A:Around}{E:Value->Shared->Prop}{s:Shared}
end
section
variable{X:Cx}
end
end L2
namespace Att
open PySem PySem.W PySem.Calls PyProof.Rows
theorem jy{P:Params}{h:Heap}:∀(ns:List Int) (vs:List Value),WellAll P h vs (ns.map WData.int)->IntsAre vs ns:=by
 intro ns;induction ns with
 |nil=>
  intro vs w;rw[RS]at w;cases w;exact .nil
 |cons n ns ih=>
  intro vs w;rw[Rl]at w;cases w with
  |cons a b=>
   cases a;exact .cons _ _ (ih _ b)
theorem si{l:OpenLaw}{n:Nat}(hn:l.most=some n){P:Params}{h:Heap}{args:List WData}{vals:List Value}
  (K0:l.row.toRowW.claim.pre args=true) (MV:WellAll P h vals args):
  ∃a vs ns,vals=[Value.ref a]/\args=[WData.list (ns.map WData.int)]/\h.get? a=some {cls:=.type "list",data:=.seq vs.toArray}/\IntsAre vs ns/\ns.length<=n:=by
 have hsh:WShape.hasAll [] args [.list .int]=true:=(pre_splitW K0).1;have hc:l.pre.holds [] {args:=args}=true:=(pre_splitW K0).2;obtain⟨d,r,rfl,h1,h2⟩:=hasAllW_cons hsh;obtain rfl:=hasAllW_nil h2;obtain⟨xs,rfl,h3⟩:=hasW_list h1;obtain⟨ns,rfl⟩:=items_int h3;have hlen:ns.length<=n:=by
  unfold OpenLaw.pre at hc;have h4:(WTm.not (.lt (.lit (.int (n:Int))) (.len (.arg 0)))).holds [] {args:=[.list (ns.map .int)]}=true:=by
   have h4:=(holds_andW hc).1;rw[hn]at h4;exact h4
  have h5:=condW_of h4 (w_not (w_lt w_lit (w_len_list (w_arg rfl))));rw[Q3]at h5;refine Nat.le_of_not_lt fun q=>?_
  have q':(n:Int)<((ns.length:Nat):Int):=by lia
  first
   |(rw[RJ q']at h5;exact absurd h5 (by decide))
   |(simp at h5;lia)
 cases MV with
 |cons w1 w2=>
  cases w2;cases w1 with
  |list ho Ki=>exact⟨_,_,ns,rfl,rfl,ho,jy ns _ Ki,hlen⟩
theorem sj(l:OpenLaw)(args:List WData):l.row.toRowW.claim.post args (.bool true) args=true:=
 postW_of (r:=l.row.toRowW) (X:=(true==true))
  (show WShape.has [] (.bool true) .bool=true by first|rfl|decide|simp[WShape.has,WShape.arms,WShape.armsAll])
  (show(WTm.eq .res (.lit (.bool true))).value [] {args:=args,res:=some (.bool true),after:=args}=some (.bool (true==true)) from w_eq_bool (w_res rfl) w_lit) rfl
theorem attach_call{l:OpenLaw}{n:Nat}{q:Program}{loose:List Str}{XP:(Str->Option Value)->Heap->Prop}{YP:World->Heap->Prop}{d:DefRec}
  (hn:l.most=some n) (Nm:d.params.defaults=[])
  (call:∀(w:World) (s₀ s₁:Shared) (mg mb:Str->Option Value) (fa:Addr) (o:Obj) (pm cd doc:Value) (a:Addr) (vs:List Value) (ns:List Int),
   Ground q loose [] XP w s₀ mg mb s₁.heap->YP w s₁.heap->
   s₁.heap.get? fa=some o->o.data=.func (docDef d.name d.params d.body d.scope pm cd doc)->s₁.heap.CodeRec cd d.name->mg d.name=some (.ref fa)->
   s₁.heap.get? a=some {cls:=.type "list",data:=.seq vs.toArray}->IntsAre vs ns->ns.length<=n->s₁.gens = #[]->
   codeAny (model l.prog w) callerA (.call (.ref fa) ⟨[.ref a],[]⟩) (fun r s'=>r=.ok (.ret (.bool true))/\OldK s₁.heap s'.heap/\s'.os=s₁.os/\AllBare s'.gens) s₁):
  WalkO q loose XP YP l.row.toRowW d [] (fun f vs=>PySem.call f vs):=by
 intro w s₀ s₁ mg mb G Y fa o pm cd doc dV kV ho hd Kg hD Nn hg args vals as K0 hlay hrd MV Qi;obtain rfl:dV=.none:=Dflts.none hD Nm;obtain rfl:kV=.none:=Dflts.noKw hD;obtain⟨a,vs,ns,rfl,rfl,L0,hints,hlen⟩:=si hn K0 MV;refine enter_call (codeAny_mono (call w s₀ s₁ mg mb fa o pm cd doc a vs ns G Y ho (fd_plain hd) Kg Nn L0 hints hlen hg) fun r s' hq=>?_);obtain⟨rfl,h2,h3,h4⟩:=hq;exact⟨.inl ⟨.bool true,.bool true,[],rfl,fun _=>rfl,.bool true,sj l _,fun _=>⟨List.Pairwise.nil,fun _ hm=>(nomatch hm)⟩⟩,h2,h3,h4⟩
section
variable{prog:Program}{w:World}{A:Around}{E:Value->Shared->Prop}{s:Shared}{K:Frag}
end
end Att
namespace L2
open PySem PySem.Spec PyProof.Rows
theorem mI:∀{vs:List Value}{ns:List Int},IntsAre vs ns->Vals (ns.map V.int) vs
 |_,_,.nil=>.nil
 |_,_,.cons n t h=>.cons ⟨t,rfl⟩ (mI h)
def DA(H:Hp):Prop:=∀b,H b=none\/∃o xs,H b=some (.frz o (.lst xs))
theorem vF{P:Program}{w:World}{K:W.Frag}{mg mb:Str->Option Value}{CX:CXT}{k:Nat}{fa a:Addr}{fd:FuncData}{x:Str}{sp:Sp}{s₁:Shared}{vs:List Value}{ns:List Int}
  (KX:K.In s₁.heap) (MW:s₁.heap.Ns mainGlobals mg) (hb:s₁.heap.Ns builtinsNs mb) (Np:∀x:Str,x≠"__name__"->mb x=bootBuiltins x) (hlim:s₁.heap.NoLimit) (hg:s₁.gens = #[])
  (ha:s₁.heap.get? a=some {cls:=.type "list",data:=.seq vs.toArray}) (hi:IntsAre vs ns) (hl:ns.length<=sizeLine) (hr:Room k callerA)
  (F:∀base:Heap,K.In base->base.Ns mainGlobals mg->FnOk P w K mg base CX k fa fd [x] sp) (Nq:∀(s:Shared) (u:Value),BindsTo s fd ⟨[u],[]⟩ [(x,u)])
  (LM:∀H:Hp,DA H->SqL K H a (ns.map V.int)->sp [.ref a] H (fun v _=>v=.bl true) fun _ _ _=>False)
  (O9:∀H e s',CX [] H s₁ (fun _ _ _=>False) e s'->False):
  codeAny (model P w) callerA (.call (.ref fa) ⟨[.ref a],[]⟩) (fun r s'=>r=.ok (.ret (.bool true))/\OldK s₁.heap s'.heap/\s'.os=s₁.os/\AllBare s'.gens) s₁:=by
 have rv:=mI hi;have lenV:=hi.length;have core:∀H:Hp,DA H->SqL K H a (ns.map V.int)->HOk P w H s₁.heap->(∀b,H b≠none->b=a)->(H a≠none->K.lookup a=none)->
   codeAny (model P w) callerA (.call (.ref fa) ⟨[.ref a],[]⟩) (fun r s'=>r=.ok (.ret (.bool true))/\OldK s₁.heap s'.heap/\s'.os=s₁.os/\AllBare s'.gens) s₁:=by
  intro H hO hS hok hA hK;have JL:∀{b:Addr}{o:Obj},s₁.heap.get? b=some o->H b=none->(vh s₁.heap H).get? b=some o:=fun e n=>vk e n
  have Nk:∀{b:Addr}{o:Obj}{es:Array DictEntry}{ep:Nat},s₁.heap.get? b=some o->o.data=.dict es ep->H b=none:=fun{b o es ep} e d=>by
   cases q:H b with
   |none=>rfl
   |some u=>
    have e':b=a:=hA b (by rw[q];simp);subst e';rw[ha]at e;cases e;have d':Data.seq vs.toArray _=Data.dict es ep:=d;cases d'
  have Oy:∀{b:Addr}{m:Str->Option Value},s₁.heap.Ns b m->(vh s₁.heap H).Ns b m:=fun{b m} ⟨o,es,ep,e,d,r⟩=>⟨o,es,ep,JL e (Nk e d),d,r⟩
  have Qj:K.In (vh s₁.heap H):=fun b o e=>JL (KX b o e) (by
   cases q:H b with
   |none=>rfl
   |some u=>
    have e':b=a:=hA b (by rw[q];simp);subst e';rw[hK (by rw[q];simp)]at e;cases e)
  have hM:Mod K mg (vh s₁.heap H):=⟨Qj,Oy MW,⟨mb,Oy hb,Np⟩,let⟨mc,h1,h2⟩:=hlim;⟨mc,Oy h1,h2⟩⟩
  have e0:Env0 P w K mg (vh s₁.heap H) callerA [] s₁ H:=⟨rfl,hM,fun b o e=>xZ e,Nat.le_of_eq (rL _ _),trivial,fun b hb=>absurd (show b∈([]:List Addr) from hb) (by simp),hok,.of_eq hg⟩
  refine codeAny_mono ((F _ Qj (Oy MW)).run callerA [] s₁ H ⟨[.ref a],[]⟩ [.ref a] [.ref a] _ _ hr e0 (Nq s₁ (.ref a)) (.cons rfl .nil) (LM H hO hS)) fun r s' h=>?_
  cases r with
  |error e=>exact(O9 H e s' h).elim
  |ok fl=>
   cases fl with
   |next=>exact False.elim h
   |brk=>exact False.elim h
   |cont=>exact False.elim h
   |ret u=>
    obtain⟨v,H',os,bare,un,hok',r',q⟩:=h;have q':v=.bl true:=q;subst q';obtain rfl:u=Value.bool true:=r';refine⟨rfl,OldK.of_keep fun b o e=>?_,os,bare⟩;cases q:H b with
    |none=>exact un.keep b o e q (by intro z;exact absurd (show b∈([]:List Addr) from z) (by simp)) (by simp)
    |some u=>
     rcases hO b with z|⟨ob,xs,z⟩
     ·rw[q]at z;cases z
     ·have z2:=un.frzs b ob _ z;obtain⟨e1,_⟩:=hok b _ z;obtain⟨e2,_⟩:=hok' b _ z2;rw[e]at e1;cases e1;exact e2
 cases hk:K.lookup a with
 |some o=>
  have e:=KX a o hk;rw[ha]at e;cases e;refine core (fun _=>none) (fun _=>.inl rfl) (.inr ⟨_,vs.toArray,_,hk,rfl,rfl,rfl,by rw[Q4,lenV];exact hl,by simpa using rv⟩) (fun b u z=>by have z':(none:Option HO)=some u:=z;cases z') (fun b z=>absurd rfl z) fun z=>absurd rfl z
 |none=>
  refine core (fun b=>if b=a then some (.frz {cls:=.type "list",data:=.seq vs.toArray} (.lst (ns.map V.int))) else none) (fun b=>?_) (.inl (.inr ⟨{cls:=.type "list",data:=.seq vs.toArray},Rb rfl⟩)) (fun b u z=>?_) (fun b z=>?_) fun _=>hk
  ·by_cases hb:b=a
   ·exact .inr ⟨_,_,Rb hb⟩
   ·exact .inl (Rg hb)
  ·by_cases hb:b=a
   ·have z':=(Rb hb).symm.trans z;cases z';subst hb;exact⟨ha,by rw[Q3];exact hl,vs,_,rv,ha⟩
   ·have z':=(Rg hb).symm.trans z;cases z'
  ·by_cases hb:b=a
   ·exact hb
   ·exact absurd (Rg hb) z
theorem yt{l:PySem.W.OpenLaw}{n k:Nat}{q:Program}{loose:List Str}{XP:(Str->Option Value)->Heap->Prop}{YP:World->Heap->Prop}{d:DefRec}{K:Params->W.Frag}{CX:World->CXT}{sp:World->Sp}{x:Str}
  (hn:l.most=some n) (hn2:n<=sizeLine) (Nm:d.params.defaults=[]) (hr:Room k callerA)
  (hY:∀(w:World) (h:Heap),YP w h->(K w.params).In h)
  (F:∀(w:World) (mg:Str->Option Value) (fa:Addr) (h:Heap),(K w.params).In h->h.Ns mainGlobals mg->mg d.name=some (.ref fa)->
   ∃fd:FuncData,(∀(s:Shared) (u:Value),BindsTo s fd ⟨[u],[]⟩ [(x,u)])/\
    ∀base:Heap,(K w.params).In base->base.Ns mainGlobals mg->FnOk l.prog w (K w.params) mg base (CX w) k fa fd [x] (sp w))
  (LM:∀(w:World) (H:Hp) (a:Addr) (ns:List Int),ns.length<=n->DA H->SqL (K w.params) H a (ns.map V.int)->sp w [.ref a] H (fun v _=>v=.bl true) fun _ _ _=>False)
  (O9:∀(w:World) (H:Hp) (s:Shared) (e:Value) (s':Shared),CX w [] H s (fun _ _ _=>False) e s'->False):
  PySem.W.WalkO q loose XP YP l.row.toRowW d [] (fun f vs=>PySem.call f vs):=by
 refine Att.attach_call hn Nm fun w s₀ s₁ mg mb fa o pm cd doc a vs ns G Y ho hd Kg Nn L0 hints hlen hg=>?_
 have KX:=hY w _ Y;obtain⟨fd,hb,hF⟩:=F w mg fa _ KX G.T.g Nn;exact vF KX G.T.g G.T.b G.T.builtins G.T.nolimit hg L0 hints (RB hlen hn2) hr hF hb (fun H hO hS=>LM w H a ns hlen hO hS) fun H e s'=>O9 w H s₁ e s'
def dQ(s:Stmt):Arguments:=match s with
 | .FunctionDef _ a _ _ _ _ _ _ _ _=>a
 |_=>{posonlyargs:=[],args:=[],vararg:=none,kwonlyargs:=[],kw_defaults:=[],kwarg:=none,defaults:=[]}
def cv(s:Stmt):List Stmt:=match s with
 | .FunctionDef _ _ b _ _ _ _ _ _ _=>b
 |_=>[]
def defScope(s:Stmt):Scope:=match s with
 | .FunctionDef _ _ _ _ _ _ sc _ _ _=>sc
 |_=>{kind:=.function,names:=[],isGenerator:=false,isCoroutine:=false}
abbrev JU:CXT:=fun _ _ _ _ _ _=>False
abbrev E0:XK:=fun _ _ _=>False
theorem DB{X:Cx}:rW JU X E0:=fun _ _ _ _ _ _ _ h=>h.elim
structure Fun(K:W.Frag)(x qual:Str)(st:Stmt)(f:Addr)(fd:FuncData):Prop where
 ex:∃(oc:Value) (od:Option Addr) (kV doc pm:Value) (an:Option Addr) (Gp ct:Value) (KO:Array (Option Value)),
  fd=PySem.W.fnOf x qual (dQ st) (cv st) (defScope st) .none kV doc pm an Gp ct/\K.lookup f=some ⟨oc,od,.func fd,KO⟩/\PySem.W.codeIn K Gp qual=true
 kp:PySem.W.keepIn K (.ref f)=true
section
variable{P:Program}{w:World}{K:W.Frag}{mg:Str->Option Value}{base:Heap}
theorem Fun.ok{x qual:Str}{st:Stmt}{f:Addr}{fd:FuncData}{N ps:List Str}{k:Nat}{sp:Sp}(F:Fun K x qual st f fd)(S:FnScope N ps (defScope st))(len:∀vs H Q E,sp vs H Q E->vs.length=ps.length)
  (Kh:∀(Gp:Value) (A:Around) (outer:List Env) (s:Shared) (H:Hp) (vs:List V) (Q:VK) (E:XK),Room k (A.deeper (envOfC qual (defScope st) s.heap.objs.size f Gp))->sp vs H Q E->
   ∃t,PSs (u0 JU P w K mg base N qual (defScope st) f Gp A outer s H E).nox (cv st) t/\t {nx:=fun _ H'=>Q .non H',rt:=Q} (ja N vs) H):FnOk P w K mg base JU (k+1) f fd ps sp:=by
 obtain⟨oc,od,kV,doc,pm,an,Gp,ct,KO,rfl,lk,Kg⟩:=F.ex;refine Dx lk Kg S len fun A outer s H vs Q E hr LM=>?_
 obtain⟨t,h,q⟩:=Kh Gp A outer s H vs Q E hr LM;exact⟨t,h.nox,q⟩
theorem Fun.binds{x qual:Str}{st:Stmt}{f:Addr}{fd:FuncData}{ps:List Str}(F:Fun K x qual st f fd)
  (h:∀(kV doc pm:Value) (an:Option Addr) (Gp ct:Value) (us:List Value),us.length=ps.length->bindArgs (PySem.W.fnOf x qual (dQ st) (cv st) (defScope st) .none kV doc pm an Gp ct) ⟨us,[]⟩=pure (ps.zip us)):Binds K fd ps []:=by
 obtain⟨oc,od,kV,doc,pm,an,Gp,ct,KO,rfl,lk,Kg⟩:=F.ex;exact .all (h kV doc pm an Gp ct)
theorem xn{x qual:Str}{st:Stmt}{f:Addr}{oc:Value}{od an:Option Addr}{KO:Array (Option Value)}{kV doc pm Gp ct:Value}(l:K.lookup f=some ⟨oc,od,.func (PySem.W.fnOf x qual (dQ st) (cv st) (defScope st) .none kV doc pm an Gp ct),KO⟩)
  (c:PySem.W.codeIn K Gp qual=true) (k:PySem.W.keepIn K (.ref f)=true):Fun K x qual st f (PySem.W.fnOf x qual (dQ st) (cv st) (defScope st) .none kV doc pm an Gp ct):=⟨⟨oc,od,kV,doc,pm,an,Gp,ct,KO,rfl,l,c⟩,k⟩
end
theorem hu_of{A:Around}{k:Nat}(hr:Room k A):A.units+1<cLine:=Nat.lt_of_le_of_lt (Nat.add_le_add_left (by decide:1<=64) _) hr.units
section
variable{X:Cx}
theorem pv(i:Nat){x:Str}{pos:Pos}(hN:X.N[i]?=some x:=by rfl)(hv:O0 X.env.scope x:=by first|exact Or.inl rfl|exact Or.inr (Or.inl rfl)|exact Or.inr (Or.inr rfl))(hd:(x==("__debug__" : Str))=false:=by decide)
  (Kg:(x==("__classdict__" : Str))=false:=by decide):PE X (.Name x pos) (pe i):=AG hN hv hd Kg
end
theorem iteF{A B:Prop}(h:B):if false=true then A else B:=by
 rw[Rg Rc];exact h
theorem C4{A B:Prop}(h:A):if true=true then A else B:=by
 rw[Rb rfl];exact h
def Same(H H':Hp):Prop:=∀b o,H b=some o->H' b=some o
theorem Same.refl(H:Hp):Same H H:=fun _ _ h=>h
theorem Same.trans{H H1 H2:Hp}(a:Same H H1)(b:Same H1 H2):Same H H2:=fun c o h=>b c o (a c o h)
end L2
set_option maxHeartbeats 4000000
namespace NX
open PySem PySem.Spec PyProof.Rows L2
section
variable{X:Cx}
theorem vH(v:Int)(n:Nat):max (0:Int) (min (if v<0 then v+(n:Int) else v) (n:Int))=((HT.sIx n 0 (some v):Nat):Int):=by
 show _=(((if v<0 then(v+(n:Int)).toNat else min v.toNat n):Nat):Int)
 split <;> lia
theorem Bd(a b:Nat):sliceRange (a:Int) (b:Int) 1=(List.range (b-a)).map (fun k=>a+k):=by
 unfold sliceRange;rw[Rb (by decide:(1:Int)>0)];by_cases Gy:(a:Int)<b
 ·have e3:(((b:Int)-a+1-1) / 1).toNat=b-a:=by first|lia|(simp;done)|(simp;lia)
  simp only[Gy,TL,e3];refine R5 fun k _=>?_
  lia
 ·have:b-a=0:=by lia
  simp[Gy,this]
theorem Fe(lo hi:Option Int)(n:Nat):Builtin.Str.strSliceIndices lo hi 1 n=(List.range (HT.sIx n n hi-HT.sIx n 0 lo)).map (fun k=>HT.sIx n 0 lo+k):=by
 rw[<-Bd];unfold Builtin.Str.strSliceIndices;simp only[show(1:Int)>0 from by decide,TL];cases lo with
 |none=>
  cases hi with
  |none=>rfl
  |some v=>exact R7 (fun z=>sliceRange 0 z 1) (vH v n)
 |some u=>
  cases hi with
  |none=>exact R7 (fun z=>sliceRange z (n:Int) 1) (vH u n)
  |some v=>exact(R7 (fun z=>sliceRange z _ 1) (vH u n)).trans (R7 (fun z=>sliceRange _ z 1) (vH v n))
def Be(xs:List Nat)(lo hi:Option Int):List Nat:=(xs.drop (HT.sIx xs.length 0 lo)).take (HT.sIx xs.length xs.length hi-HT.sIx xs.length 0 lo)
theorem xo{α:Type}(l:List α):∀(n a:Nat),a+n<=l.length->((List.range n).map (fun k=>a+k)).filterMap (l[·]?)=(l.drop a).take n
 | 0,_,_=>by simp
 |n+1,a,h=>by
  have Gy:a+n<l.length:=by lia
  rw[List.range_succ,Rw,List.filterMap_append,xo l n a (by lia),List.take_add_one,List.getElem?_drop];simp[List.getElem?_eq_getElem Gy]
theorem sk(x:Str)(lo hi:Option Int):(Txt.slice x lo hi).cps.toList=Be x.cps.toList lo hi:=by
 have hl:x.cps.toList.length=x.length:=R4;have ha:=HT.rZ x.length 0 (RM _) lo;have hb:=HT.rZ x.length x.length (Q8 _) hi;unfold Txt.slice Be;rw[Fe,hl];split
 ·rename_i h;have h2:HT.sIx x.length x.length hi-HT.sIx x.length 0 lo=x.length:=by simpa using h
  have ez:HT.sIx x.length 0 lo=0\/x.length=0:=by lia
  rcases ez with e|e
  ·rw[h2,e,Vm,SD (by lia)]
  ·have:x.cps.toList=[]:=RT (by lia);rw[this];simp
 ·have hk:∀(f:List Nat),f.filterMap (x.cps[·]?)=f.filterMap (x.cps.toList[·]?):=fun f=>by
   congr 1
   funext i
   simp
  show(List.filterMap _ _).toArray.toList=_;rw[Ud,hk];by_cases hle:HT.sIx x.length 0 lo<=HT.sIx x.length x.length hi
  ·rw[xo _ _ _ (by lia)]
  ·have e0:HT.sIx x.length x.length hi-HT.sIx x.length 0 lo=0:=by lia
   rw[e0];rfl
abbrev S(l:List Nat):Str:=⟨l.toArray⟩
theorem mJ(x:Str):S x.cps.toList=x:=by cases x;simp[S]
theorem S_inj{a b:List Nat}(h:S a=S b):a=b:=by
 have:=R7 (fun z:Str=>z.cps.toList) h;simpa[S] using this
theorem kq(l:List Nat):(S l).length=l.length:=by simp[S,Str.length]
theorem cX(l:List Nat):(S l).cps.toList=l:=by simp[S]
theorem DD(a b:List Nat):S a++S b=S (a++b):=by
 rw[<-mJ (S a++S b),PySem.W.KT.app_list,cX,cX]
def Ff:V->Option Int->Option Int->Hp->VK->Prop:=fun x lo hi H Q=>∃l,x=.str (S l)/\l.length<=sizeLine/\Q (.str (S (Be l lo hi))) H
theorem Bf:LZ X Ff:=by
 intro pr s σ H x v vl vu lo hi sl Q I rx hs pl pu h;obtain⟨l,rfl,hz,q⟩:=h;obtain⟨t,rfl⟩:=rx;have hz':(S l).length<=sizeLine:=by rw[kq];exact hz
 have e:∀t' k,EP X pr σ Q (.str (Txt.slice (S l) lo hi) t') {s with toks:=k}:=fun t' k=>by
  refine⟨.str (S (Be l lo hi)),H,I.tok _,⟨t',?_⟩,q⟩;have e1:=sk (S l) lo hi;rw[cX]at e1;rw[<-e1,mJ]
 refine⟨"str",_,PySem.F.slot_str_getitem.lookup,Vd _ _ _,?_⟩;have key:∀(L3 Oz:Option (Int×Tok)),partValue L3=vl->partValue Oz=vu->L3.map (·.1)=lo->Oz.map (·.1)=hi->
   wpAny (model X.prog X.w) X.A (getItem (.str (S l) t) (.ref sl)) (EP X pr σ Q) X.xe s:=by
  rintro L3 Oz rfl rfl rfl rfl;exact wpAny_getItem_str_slice (l:=L3) (u:=Oz) (st:=none) hs rfl (post_val_or_str ⟨RB (Txt.slice_le (S l) _ _) hz',fun t' k=>e t' k⟩)
 cases pl with
 |none=>
  cases pu with
  |none=>exact key none none rfl rfl rfl rfl
  |int j uj=>exact key none (some (j,uj)) rfl rfl rfl rfl
 |int i ui=>
  cases pu with
  |none=>exact key (some (i,ui)) none rfl rfl rfl rfl
  |int j uj=>exact key (some (i,ui)) (some (j,uj)) rfl rfl rfl rfl
theorem yu{xs:List V}{j:Nat}{x:V}(h:xs[j]?=some x):xs.getD j .non=x:=by rw[List.getD_eq_getElem?_getD,h];rfl
end
def Def(K:W.Frag)(mg:Str->Option Value)(x:Str)(st:Stmt):Prop:=∃f fd,Fun K x x st f fd/\mg x=some (.ref f)
def Ct(P:Program)(w:World)(K:W.Frag)(mg:Str->Option Value)(base:Heap)(x:Str)(k:Nat)(sp:Sp):Prop:=
 ∃f fd ps,FnOk P w K mg base JU k f fd ps sp/\mg x=some (.ref f)/\PySem.W.keepIn K (.ref f)=true/\Binds K fd ps []
section
variable{X:Cx}{e:Expr}{es:List Expr}{t:TA}{x:Str}{p pos:Pos}{k:Nat}{sp:Sp}
theorem vI(C:Ct X.prog X.w X.K X.mg X.base x k sp)(hr:Room k X.A)(hg:Gl X x)(ha:PA X (e::es) t)(HR:(x==("__debug__" : Str))=false:=by decide)
  (he:starEach (e::es) X.env=(false,eval e X.env)::starEach es X.env:=by rfl) (Hy:(backTo pos (starEach es X.env)).any (·.1)=false:=by rfl):
  PE X (.Call (.Name x p) (e::es) [] pos) (tCall sp [] E0 t):=by
 obtain⟨f,fd,ps,G,m,kp,b⟩:=C;exact yh G hr hg m kp b .nil DB ha HR he Hy
end
theorem bt_len:bootBuiltins "len" = some (.builtin "len"):=by decide +kernel
theorem ll:bootBuiltins "isinstance" = some (.builtin "isinstance"):=by decide +kernel
theorem lq:bootBuiltins "list" = some (.type "list"):=by decide +kernel
theorem Bg:bootBuiltins "int" = some (.type "int"):=by decide +kernel
theorem cI:bootBuiltins "tuple" = some (.type "tuple"):=by decide +kernel
theorem yv:bootBuiltins "bool" = some (.type "bool"):=by decide +kernel
theorem line_eq:sizeLine=16777216:=R0
theorem flat_strs(a:List (List Nat)):(a.map fun l=>V.str (S l)).all vD=true:=by
 rw[RD];intro v hv;obtain⟨l,_,rfl⟩:=RW.mp hv;rfl
section
variable{X:Cx}{e:Expr}{st:Stmt}
end
def clOf(scope:Scope)(env:Env):List (Str×Addr):=scope.names.foldl (fun cs y=>if y.2==NameKind.free then(y.1,(env.cells.lookup y.1).getD 0)::cs else cs) []
def gY(scope:Scope)(env:Env):Bool:=scope.names.all fun y=>y.2 != NameKind.free||env.kindOf y.1==some .cell||env.kindOf y.1==some .free
theorem fU(env:Env):∀(l:List (Str×NameKind)) (cs:List (Str×Addr)),(∀y∈l,y.2=.free->∃c,env.cells.lookup y.1=some c)->
  (forIn l cs fun(y:Str×NameKind) (r:List (Str×Addr))=>(do
   if y.2==NameKind.free then
    let a <-cellOf env y.1
    pure (ForInStep.yield ((y.1,a)::r))
   else pure (ForInStep.yield r):Sem (ForInStep (List (Str×Addr)))))=pure (l.foldl (fun cs y=>if y.2==NameKind.free then(y.1,(env.cells.lookup y.1).getD 0)::cs else cs) cs)
 |[],cs,_=>by simp
 |y::l,cs,h=>by
  rw[U2,Ta];by_cases k:y.2=.free
  ·obtain⟨c,e⟩:=h y Q2 k;have e2:cellOf env y.1=pure c:=by unfold cellOf;rw[e]
   simp only[k,Sm,TL,e2,e,TY,pure_bind];exact fU env l _ fun z hz=>h z (Q7 _ hz)
  ·have kb:(y.2==NameKind.free)=false:=by simpa using k
   simp only[kb,Sk,T8,pure_bind];exact fU env l _ fun z hz=>h z (Q7 _ hz)
theorem gk(env:Env)(x:Str)(c:Addr):∀(l:List (Str×NameKind)) (cs:List (Str×Addr)),(∀y∈l,y.2=.free->∃c,env.cells.lookup y.1=some c)->(cs.lookup x=some c->env.cells.lookup x=some c)->
  (l.foldl (fun cs y=>if y.2==NameKind.free then(y.1,(env.cells.lookup y.1).getD 0)::cs else cs) cs).lookup x=some c->env.cells.lookup x=some c
 |[],_,_,h,e=>h e
 |y::l,cs,hf,h,e=>by
  rw[Ta]at e;refine gk env x c l _ (fun z hz=>hf z (Q7 _ hz)) (fun q=>?_) e;split at q
  ·rename_i k;have k:y.2=.free:=by simpa using k
   obtain⟨d,ed⟩:=hf y Q2 k;rw[R1]at q;cases hx:x==y.1 with
   |true=>
    rw[hx]at q;have exy:x=y.1:=by simpa using hx
    rw[ed,TY]at q;rw[exy,ed];exact q
   |false=>
    rw[hx]at q;exact h q
  ·exact h q
theorem jz(env:Env)(x:Str):∀(l:List (Str×NameKind)) (cs:List (Str×Addr)),((∃d,cs.lookup x=some d)\/(x,NameKind.free)∈l)->
  ∃d,(l.foldl (fun cs y=>if y.2==NameKind.free then(y.1,(env.cells.lookup y.1).getD 0)::cs else cs) cs).lookup x=some d
 |[],_,h=>by
  rcases h with h|h
  ·exact h
  ·cases h
 |y::l,cs,h=>by
  rw[Ta];refine jz env x l _ ?_;rcases h with⟨d,h⟩|h
  ·refine .inl ?_;split
   ·rw[R1];cases hx:x==y.1 with
    |true=>exact⟨_,rfl⟩
    |false=>exact⟨d,h⟩
   ·exact⟨d,h⟩
  ·rcases Ri.mp h with h|h
   ·refine .inl ?_;rw[<-h];refine⟨(env.cells.lookup x).getD 0,?_⟩;show List.lookup x ((x,_)::cs)=_;rw[R1,Sm]
   ·exact .inr h
noncomputable def bO(X:Cx)(scope:Scope)(N:List Str)(C:Addr)(s:Shared)(H:Hp)(fp:List Addr)(pn:List (Addr×Obj)):Cx:=
 {X with N:=N,s₀:=s,H₀:=H,env:=compEnvC scope (clOf scope X.env) C X.env,outer:=X.stack,ex:=fp,fn:=fun _=>false,pn:=pn,xe:=fun _ _=>False}
def kH(ix:List (Option Nat))(σ:L2.St):L2.St:=ix.map fun i=>i.bind fun i=>(σ[i]?).bind id
noncomputable def yw(wi:TI)(ix:List (Option Nat))(g:TG)(tc:TT)(te:TE):TE:=fun σ H Q=>wi σ H fun J H1=>∀D,H1 D=none->∃W:Nat->Nat->L2.St->Hp->Prop,(∃m,W 0 m (kH ix σ) (upd H1 D (.lst [])))/\
 ∀i m σ1 H2,W i m σ1 H2->(J.stop i H2/\Q (.ref D) H2)\/(J.go i H2/\∀x H3,J.yld i H2 x H3->g x σ1 H3 fun σ2 H4=>tc σ2 H4 fun b H5=>if b=true then te σ2 H5 fun v H6=>
  ∃ys,H6 D=some (.lst ys)/\ys.length<sizeLine/\∃m',m'<m/\W (i+1) m' σ2 (upd H6 D (.lst (ys++[v]))) else ∃m',m'<m/\W (i+1) m' σ2 H5)
abbrev K1:Value->Shared->Prop:=fun _ _=>False
theorem MX{α:Type}{M:Model}{A:Around}{t:Sem α}{Q Q':α->Shared->Prop}{E:Value->Shared->Prop}{s:Shared}(h:wpAny M A t Q K1 s)(k:∀a s,Q a s->Q' a s):wpAny M A t Q' E s:=Ts h k fun _ _ z=>z.elim
theorem so{prog:Program}{w:World}{A:Around}{R:Result->Shared->Prop}{s:Shared}{elt target iter:Expr}{ifs:List Expr}{scope:Scope}{pos:Pos}{it acc:Value}{env:Env}(I:Nat->Shared->Prop)
  (turn:∀n s,I n s->wpAny (model prog w) A (pyNext it) (fun r s₁=>match r with
   |none=>R (.ok .next) s₁
   |some v=>wpAny (model prog w) A (letOwnedTupleGo target it v) (fun _ s₂=>wpAny (model prog w) A (assign target env v) (fun _ s₃=>
     wpAny (model prog w) A (forIn ifs true fun c r=>if r=true then do let ok <-isTrue c env (eval c env);pure (ForInStep.yield ok) else pure (ForInStep.yield r)) (fun ok s₄=>
      if ok=true then wpAny (model prog w) A (eval elt env) (fun x s₅=>
       wpAny (model prog w) A (call (.builtin "list.append") [acc,x]) (fun _ s₆=>∃m,m<n/\I m s₆) K1 s₅) K1 s₄
      else ∃m,m<n/\I m s₄) K1 s₃) K1 s₂) K1 s₁) K1 s)
  (n:Nat) (h:I n s):codeAny (model prog w) A (.compLoop (.ListComp elt [⟨target,iter,ifs,0⟩] scope pos) 0 it acc env) R s:=by
 refine codeAny_loop rfl I (fun n s hI=>?_) n h;show wpAny _ A ((compTurn (.ListComp elt [⟨target,iter,ifs,0⟩] scope pos) 0 it acc env).onRaise (fun x=>do noteFrame x env;theTreesLotGoes x)) _ _ s;refine wpAny_noted ?_;rw[compTurn_list];refine Q1 (Vv (Q1 (MX (turn n s hI) fun r s₁ h₁=>?_)));cases r with
 |none=>exact Q6 h₁
 |some v=>
  refine Q1 (MX h₁ fun _ s₂ h₂=>Q1 (MX h₂ fun _ s₃ h₃=>Q1 (MX h₃ fun ok s₄ h₄=>?_)));cases ok with
  |false=>exact Q6 ⟨rfl,h₄⟩
  |true=>exact Q1 (Q1 (MX h₄ fun x s₅ h₅=>Q1 (MX h₅ fun _ s₆ h₆=>Q6 (Q6 ⟨rfl,h₆⟩))))
def MY(X:Cx)(ifs:List Expr)(t:TT):Prop:=
 ∀(pr:List (Addr×Obj)) (s:Shared) (σ:L2.St) (H:Hp) (Q:Bool->Hp->Prop),Inv X pr σ H s->t σ H Q->
  wpAny (model X.prog X.w) X.A (forIn ifs true fun c r=>if r=true then do let ok <-isTrue c X.env (eval c X.env);pure (ForInStep.yield ok) else pure (ForInStep.yield r)) (TP X pr σ Q) X.xe s
def Fg:TT:=fun _ H Q=>Q true H
theorem yx{X:Cx}:MY X [] Fg:=fun _ _ _ H _ I h=>wpAny_tests_nil ⟨H,I,h⟩
theorem yy{X:Cx}{c:Expr}{t:TT}(h:PT X c t):MY X [c] t:=fun pr s σ H Q I k=>wpAny_tests_one (h pr s σ H Q I k)
def xp(X:Cx)(scope:Scope)(N:List Str)(ix:List (Option Nat)):Bool:=
 N.length==ix.length&&(N.zip ix).all fun y=>match y.2 with
  |none=>true
  |some j=>X.N[j]?==some y.1&&scope.names.lookup y.1==some .free
theorem mK{scope:Scope}{env:Env}{x:Str}(h:scope.names.lookup x=some .free):(relabel scope env).names.lookup x=some .cell\/(relabel scope env).names.lookup x=some .free:=by
 unfold relabel;dsimp only;generalize scope.names=l at h;induction l with
 |nil=>cases h
 |cons y l ih=>
  obtain⟨n,k⟩:=y;rw[R1]at h;rw[Rl];cases hx:x==n with
  |true=>
   rw[hx]at h;have hk:k=.free:=Rt h;subst hk;dsimp only;split
   ·exact .inl (by rw[R1,hx])
   ·exact .inr (by rw[R1,hx])
  |false=>
   rw[hx]at h;dsimp only;split
   ·rw[R1,hx];exact ih h
   ·rw[R1,hx];exact ih h
theorem mL{scope:Scope}{env:Env}{x:Str}(hc:∀y∈scope.names,y.2≠.cell)(h:(relabel scope env).names.lookup x=some .cell\/(relabel scope env).names.lookup x=some .free):(x,NameKind.free)∈scope.names:=by
 unfold relabel at h;dsimp only at h;generalize scope.names=l at h hc;induction l with
 |nil=>rcases h with h|h <;> cases h
 |cons y l ih=>
  obtain⟨n,k⟩:=y;rw[Rl]at h;dsimp only at h;have nk:k≠.cell:=hc (n,k) Q2;have Qk:=ih (hc:=fun z hz=>hc z (Q7 _ hz));by_cases cnd:(k==NameKind.free&&env.scope.kind==.function&&env.kindOf n==some .cell)=true
  ·rw[Rb cnd,R1]at h;have kf:k=.free:=by
    have:(k==NameKind.free)=true:=by
     simp only[Rh]at cnd;exact cnd.1.1
    simpa using this
   cases hx:x==n with
   |true=>
    have:x=n:=by simpa using hx
    rw[this,kf];exact Q2
   |false=>
    rw[hx]at h;exact Q7 _ (Qk h)
  ·rw[Rg cnd,R1]at h;cases hx:x==n with
   |true=>
    rw[hx]at h;have:x=n:=by simpa using hx
    rcases h with h|h
    ·exact absurd (Rt h) nk
    ·rw[this,<-Rt h];exact Q2
   |false=>
    rw[hx]at h;exact Q7 _ (Qk h)
section
variable{X:Cx}{pr:List (Addr×Obj)}{σ:L2.St}{H:Hp}{s:Shared}{scope:Scope}{N:List Str}{ix:List (Option Nat)}{fp:List Addr}
theorem lr(ok:X.Ok)(hf:gY scope X.env=true):∀y∈scope.names,y.2=.free->∃c,X.env.cells.lookup y.1=some c:=fun y hy k=>by
 have:=RD.mp hf y hy;rw[k]at this;simp only[Uv,Bool.false_or,U3,RO]at this;exact ok.has y.1 this
theorem jA(ok:X.Ok)(hf:gY scope X.env=true){x:Str}{c:Addr}(h:(clOf scope X.env).lookup x=some c):X.env.cells.lookup x=some c:=
 gk X.env x c scope.names [] (lr ok hf) (fun z=>nomatch z) h
theorem sr(ok:X.Ok)(hf:gY scope X.env=true){x:Str}(h:(x,NameKind.free)∈scope.names):∃c,(clOf scope X.env).lookup x=some c/\X.env.cells.lookup x=some c:=by
 obtain⟨c,e⟩:=jz X.env x scope.names [] (.inr h);exact⟨c,e,jA ok hf e⟩
theorem _root_.L2.Inv.block(I:Inv X pr σ H s)(hf:gY scope X.env=true)(hk:scope.kind=.function)(GN:∀y∈scope.names,y.2≠.cell)(HB:xp X scope N ix=true)(fo:∀b∈fp,rH X pr H b)(fin:∀b∈fp,∃o,s.heap.get? b=some o)
  {h1:Heap}{t1:Nat}{D C:Addr}(hD:D=s.heap.objs.size) (hC:C=s.heap.objs.size+1) (old:∀b o,s.heap.get? b=some o->h1.get? b=some o) {n:Nat}(acc:h1.get? D=some {cls:=.type "list",data:=.seq #[] n})
  {m:Str->Option Value}(ns:h1.Ns C m):Inv (bO X scope N C s H fp (X.pn++pr)) [] (kH ix σ) (upd H D (.lst [])) {s with heap:=h1,toks:=t1}:=by
 have Jm:s.heap.objs.size<=C:=by rw[hC];exact Tb _
 have freshD:s.heap.objs.size<=D:=by rw[hD];exact Q8 _
 have nD:H D=none:=I.hok.fresh freshD;have DC:D≠C:=by rw[hD,hC];exact Rp (S4 _)
 have L4:∀b,H b=none->b≠D->upd H D (.lst []) b=none:=fun b n z=>by rw[av z];exact n
 have MZ:∀b o,s.heap.get? b=some o->b≠D:=fun b o e=>Rp (Rj (Rf e) freshD)
 have K2:∀b o,s.heap.get? b=some o->b≠C:=fun b o e=>Rp (Rj (Rf e) Jm)
 have cellAt:∀x c,(clOf scope X.env).lookup x=some c->∃v o,s.heap.get? c=some o/\o.data=.cell v:=fun x c e=>by
  obtain⟨v,o,ho,hd⟩:=I.cell x c (jA I.ok hf e);exact⟨v,o,ho,hd⟩
 have okY:(bO X scope N C s H fp (X.pn++pr)).Ok:=by
  refine⟨I.ok.mod,hk,I.ok.glob,I.ok.blt,Jm,fun x y c e1 e2=>?_,fun x hx=>?_,fun x c z _=>?_,I.ok.hd,I.ok.frames,.inl rfl,fun b hb=>?_,I.bs,?_,fun b o e hb=>?_,fun b hb hs=>?_,I.stack,I.stkFree⟩
  ·exact I.ok.inj x y c (jA I.ok hf e1) (jA I.ok hf e2)
  ·obtain⟨c,e,_⟩:=sr I.ok hf (mL GN hx);exact⟨c,e⟩
  ·exact absurd (show false=true from z) Rc
  ·obtain⟨f0,f1,f2,f3,f4,f5⟩:=fo b hb;refine⟨?_,fun x c e=>f4 x c (jA I.ok hf e)⟩;intro z;have z:b=C:=z;obtain⟨o,ho⟩:=fin b hb;exact K2 b o ho z
  ·exact RB I.ok.bsz I.sz
  ·obtain⟨f0,f1,f2,f3,f4,f5⟩:=fo b hb;rcases f3 with q|q
   ·exact I.ok.noex b o e q
   ·exact absurd (Rj (Rf e) (RB I.ok.bsz q)) (SW _)
  ·obtain⟨f0,f1,f2,_⟩:=fo b hb;exact(Ri.mp (I.stkSub b hs)).elim f1 f2
 refine⟨okY,rfl,I.bare,Un.laid old freshD nD,⟨m,ns,fun i x v e1 e2 e3=>?_⟩,fun x c e=>?_,?_,fun x c e=>?_,fun p hp=>?_,I.hok.laid old freshD ⟨RM _,[],n,.nil,acc⟩,?_⟩
 ·
  have e2:(ix.map fun i=>i.bind fun i=>(σ[i]?).bind id)[i]?=some (some v):=e2;have e1:N[i]?=some x:=e1;unfold xp at HB;rw[Rh]at HB;rw[List.getElem?_map]at e2;cases q:ix[i]? with
  |none=>rw[q]at e2;cases e2
  |some o=>
   rw[q]at e2;have e2:(o.bind fun i=>(σ[i]?).bind id)=some v:=Rt e2;cases o with
   |none=>cases e2
   |some j=>
    have e2:(σ[j]?).bind id=some v:=e2;have hσ:σ[j]?=some (some v):=by
     cases w':σ[j]? with
     |none=>rw[w']at e2;cases e2
     |some y=>rw[w']at e2;exact R7 some e2
    have hz:(N.zip ix)[i]?=some (x,some j):=by
     rw[List.getElem?_zip_eq_some];exact⟨e1,q⟩
    have hy:=RD.mp HB.2 _ (Rz hz);simp only[Rh,RO]at hy;have Ql:(x,NameKind.free)∈scope.names:=Sy hy.2;obtain⟨c,c1,c2⟩:=sr I.ok hf Ql;have Nr:X.env.kindOf x=some .cell\/X.env.kindOf x=some .free:=by
     have:=RD.mp hf _ Ql;simpa using this
    obtain⟨mo,Qh,Qi⟩:=I.loc;obtain⟨u,r,l⟩:=Qi j x v hy.1 hσ (.inr Nr);refine⟨u,r,.inr ⟨mK hy.2,c,c1,?_⟩⟩;rcases l with⟨k1,_⟩|⟨_,c',e',Kf⟩
    ·rcases Nr with k2|k2 <;> (rw[k1]at k2;cases k2)
    ·rw[c2]at e';cases e';obtain⟨o,ho,hd⟩:=Kf;exact⟨o,old c o ho,hd⟩
 ·obtain⟨v,o,ho,hd⟩:=cellAt x c e;exact⟨v,o,old c o ho,hd⟩
 ·exact L4 C (I.hok.fresh Jm) (SE DC)
 ·obtain⟨v,o,ho,hd⟩:=cellAt x c e;exact L4 c (I.freeC x c (jA I.ok hf e)) (MZ c o ho)
 ·have hp:p∈X.pn++pr:=by
   have:p∈(X.pn++pr)++[]:=hp
   rwa [Ru]at this
  obtain⟨e,nn,ne,nf,d⟩:=I.pin p hp;refine⟨old _ _ e,L4 _ nn (MZ _ _ e),K2 _ _ e,fun z=>?_,d⟩;exact(Ri.mp (I.stkSub p.1 z)).elim ne nf
 ·unfold xp at HB;rw[Rh]at HB;have:N.length=ix.length:=by simpa using HB.1
  show(ix.map _).length=N.length;rw[Q3,this]
theorem _root_.L2.Inv.unblock{C:Addr}{σ1:L2.St}{H1:Hp}{s1:Shared}{h2:Heap}(I:Inv X pr σ H s)(fo:∀b∈fp,rH X pr H b)(hC:s.heap.objs.size<=C)(J:Inv (bO X scope N C s H fp (X.pn++pr)) [] σ1 H1 s1)(hs:Heap.SameBut C s1.heap h2):
  Inv X pr σ H1 {s1 with heap:=h2}:=by
 have K2:∀b o,s.heap.get? b=some o->b≠C:=fun b o e=>Rp (Rj (Rf e) hC)
 have bb:Un (JH X.stack) fp H H1 s.heap s1.heap:=J.base;have jf:H1 C=none:=J.free;refine I.call' (s':={s1 with heap:=h2}) (ch:=fp) J.os ⟨fun b o e n hb hx=>?_,fun b o e n hb hx=>?_,bb.free,fun b o e hx=>?_,bb.tups,bb.frzs,bb.tbls⟩ (fun b ob e=>?_) J.bare fun b hb=>?_
 ·exact(hs.2 b (K2 b o e)).trans (bb.keep b o e n hb hx)
 ·obtain⟨sl,q⟩:=bb.slot b o e n hb hx;exact⟨sl,(hs.2 b (K2 b o e)).trans q⟩
 ·obtain⟨o',q⟩:=bb.there b o e hx;exact⟨o',(hs.2 b (K2 b o e)).trans q⟩
 ·refine(J.hok b ob e).stay (fun c w' hc q=>(hs.2 c ?_).trans q) (fun _ q=>q) fun _ _ q=>q
  rintro rfl;rcases hc with rfl|hc
  ·rw[jf]at e;cases e
  ·rw[jf]at hc;cases hc
 ·obtain⟨f0,f1,f2,f3,f4,f5⟩:=fo b hb;exact⟨f3,f1,f4,f5⟩
end
section
variable{X:Cx}{scope:Scope}{N:List Str}{ix:List (Option Nat)}{tg iter elt:Expr}{ifs:List Expr}{pos:Pos}{wi:TI}{g:TG}{tc:TT}{te:TE}
theorem kI{pr:List (Addr×Obj)}{σ:L2.St}{H2:Hp}{s2:Shared}{J:It}{fp:List Addr}{it:Addr}{tn:Nat->Heap->Prop}{Q:VK}{RR:Value->Addr->Result->Shared->Prop}{E:Value->Shared->Prop}
  (hc:X.calm=true) (I2:Inv X pr σ H2 s2) (T:Turn X.prog X.w X.K tg J fp it tn) (F4:tn 0 s2.heap) (f2:∀b∈fp,rH X pr H2 b)
  (hg:∀C s H fp pn,PG (bO X scope N C s H fp pn) tg g) (ht:∀C s H fp pn,MY (bO X scope N C s H fp pn) ifs tc) (he:∀C s H fp pn,PE (bO X scope N C s H fp pn) elt te)
  (hf:gY scope X.env=true) (hk:scope.kind=.function) (GN:∀y∈scope.names,y.2≠.cell) (HB:xp X scope N ix=true)
  (q:∀D,H2 D=none->∃W:Nat->Nat->L2.St->Hp->Prop,(∃m,W 0 m (kH ix σ) (upd H2 D (.lst [])))/\
   ∀i m σ1 H3,W i m σ1 H3->(J.stop i H3/\Q (.ref D) H3)\/(J.go i H3/\∀x H4,J.yld i H3 x H4->g x σ1 H4 fun σ2 H5=>tc σ2 H5 fun b H6=>if b=true then te σ2 H6 fun v H7=>
    ∃ys,H7 D=some (.lst ys)/\ys.length<sizeLine/\∃m',m'<m/\W (i+1) m' σ2 (upd H7 D (.lst (ys++[v]))) else ∃m',m'<m/\W (i+1) m' σ2 H6))
  (hRR:∀(D C:Addr) (σ1:L2.St) (H1:Hp) (s1:Shared),s2.heap.objs.size<=C->Inv (bO X scope N C s2 H2 fp (X.pn++pr)) [] σ1 H1 s1->Q (.ref D) H1->RR (.ref D) C (.ok .next) s1):
  wpAny (model X.prog X.w) X.A (newList []) (fun acc s₃=>wpAny (model X.prog X.w) X.A (newFunctionEnv scope X.env.globals (clOf scope X.env) [] X.env.qual none .none (some X.env)) (fun Nu s₄=>
   codeAny (model X.prog X.w) X.A (.compStart (.ListComp elt [⟨tg,iter,ifs,0⟩] scope pos) 0 (.ref it) acc {Nu with scope:=relabel scope X.env}) (RR acc Nu.locals) s₄) E s₃) E s2:=by
 refine RV (wpAny_newFunctionEnv GN (by intro y hy;simp at hy) (fun h₁ hns₁ hsb₁=>?_) hk);dsimp only at hns₁ hsb₁ ⊢;generalize hH2:s2.heap.push {cls:=.type "list",dict:=none,data:=.seq ([]:List Value).toArray}=HH at hns₁ hsb₁ ⊢;have hC:HH.objs.size=s2.heap.objs.size+1:=by rw[<-hH2,S5]
 have hDC:s2.heap.objs.size≠HH.objs.size:=by rw[hC];exact Rp (S4 _)
 have Nv:s2.heap.objs.size<=HH.objs.size:=by rw[hC];exact Tb _
 have K2:∀b o,s2.heap.get? b=some o->b≠HH.objs.size:=fun b o e=>Rp (Rj (Rf e) Nv)
 have old:∀b o,s2.heap.get? b=some o->h₁.get? b=some o:=fun b o e=>hsb₁.extBut b o (K2 b o e) (Heap.get?_push_of_some _ (hH2▸Heap.get?_push_of_some _ e))
 have Jn:h₁.get? s2.heap.objs.size=some {cls:=.type "list",data:=.seq #[] 0}:=hsb₁.extBut _ _ hDC (Heap.get?_push_of_some _ (hH2▸Heap.get?_push_size _ rfl));obtain⟨W,⟨m0,w0⟩,turn⟩:=q s2.heap.objs.size (I2.hok.fresh (Q8 _));have fin:∀b∈fp,∃o,s2.heap.get? b=some o:=fun b hb=>let⟨o,e,_⟩:=T.obj 0 _ F4 b hb;⟨o,e⟩
 have Jk:∀{H':Hp},(∀b∈fp,H' b=none)->∀b∈fp,rH (bO X scope N HH.objs.size s2 H2 fp (X.pn++pr)) [] H' b:=fun{H'} hn b hb=>by
  obtain⟨f0,f1,ff,f3,f4,f5⟩:=f2 b hb;refine⟨hn b hb,?_,fun z=>?_,.inl hb,fun x c e=>f4 x c (jA I2.ok hf e),fun p hp=>?_⟩
  ·intro z;have z:b=HH.objs.size:=z;obtain⟨o,ho⟩:=fin b hb;exact K2 b o ho z
  ·exact(Ri.mp (I2.stkSub b z)).elim f1 ff
  ·have hp:p∈X.pn++pr:=by
    have:p∈(X.pn++pr)++[]:=hp
    rwa [Ru]at this
   exact f5 p hp
 have loop:∀s₃:Shared,s₃={s2 with heap:=h₁,toks:=s2.toks+([]:List (Str×Value)).length}->
   codeAny (model X.prog X.w) X.A (.compLoop (.ListComp elt [⟨tg,iter,ifs,0⟩] scope pos) 0 (.ref it) (.ref s2.heap.objs.size) (compEnvC scope (clOf scope X.env) HH.objs.size X.env)) (RR (.ref s2.heap.objs.size) HH.objs.size) s₃:=by
  rintro s₃ rfl;refine so (fun n s'=>∃i σ' H',Inv (bO X scope N HH.objs.size s2 H2 fp (X.pn++pr)) [] σ' H' s'/\tn i s'.heap/\(∀b∈fp,H' b=none)/\W i n σ' H') ?_ m0
   ⟨0,_,_,I2.block hf hk GN HB f2 fin rfl hC old Jn hns₁,T.keep 0 _ _ F4 fun b _ o e=>old b o e,fun b hb=>?_,w0⟩
  ·rintro n s3 ⟨i,σ3,H3,I3,Gn,Ng,w3⟩;rcases turn i n σ3 H3 w3 with⟨stop,qn⟩|⟨go,step⟩
   ·refine Ge (T.done (bO X scope N HH.objs.size s2 H2 fp (X.pn++pr)) rfl rfl rfl hc i [] s3 σ3 H3 K1 I3 (Jk Ng) Gn stop) fun r s4 Gf=>?_
    obtain⟨hr,I4⟩:=Gf;subst hr;exact hRR _ _ σ3 H3 s4 Nv I4 qn
   ·refine Ge (T.item (bO X scope N HH.objs.size s2 H2 fp (X.pn++pr)) rfl rfl rfl hc i [] s3 σ3 H3 K1 I3 (Jk Ng) Gn go) fun r s4 Gf=>?_
    obtain⟨u,hr,h4⟩:=Gf;subst hr;refine Ge h4 fun _ s5 Gf=>?_
    obtain⟨x,H5,I5,r5,y5,Ic,O2⟩:=Gf;have O3:=I5.pinned (Jk O2) (T.obj _ _ Ic);refine Ge (hg _ _ _ _ _ _ s5 σ3 H5 x u _ O3 r5 (step x H5 y5)) fun _ s6 Gf=>?_
    obtain⟨σ6,H6,I6,q6⟩:=Gf;refine Ge (ht _ _ _ _ _ _ s6 σ6 H6 _ I6 q6) fun ok s7 Gf=>?_
    obtain⟨H7,I7,q7⟩:=Gf;have again:∀{H8:Hp}{s8:Shared},Inv (bO X scope N HH.objs.size s2 H2 fp (X.pn++pr)) ([]++mw fp s5.heap) σ6 H8 s8->(∃m',m'<n/\W (i+1) m' σ6 H8)->
      ∃m,m<n/\∃i σ' H',Inv (bO X scope N HH.objs.size s2 H2 fp (X.pn++pr)) [] σ' H' s8/\tn i s8.heap/\(∀b∈fp,H' b=none)/\W i m σ' H':=fun{H8 s8} I8 ⟨m',hm,w8⟩=>by
     refine⟨m',hm,i+1,σ6,H8,I8.unpinned,T.keep _ _ _ Ic fun b hb o e=>(I8.pin (b,o) (Q5 _ (Q5 _ (fT hb e)))).1,fun b hb=>?_,w8⟩;obtain⟨o,e,d⟩:=T.obj _ _ Ic b hb;exact(I8.pin (b,o) (Q5 _ (Q5 _ (fT hb e)))).2.1
    cases ok with
    |false=>exact again I7 q7
    |true=>
     show wpAny _ _ _ _ _ _;refine Ge (he _ _ _ _ _ _ s7 σ6 H7 _ I7 q7) fun x8 s8 Gf=>?_
     obtain⟨v8,H8,I8,r8,ys,Pa,Gy,q8⟩:=Gf;refine Ge (mH _ s8 σ6 H8 (.ref s2.heap.objs.size) [v8] (.ref s2.heap.objs.size) [x8] (fun _ H9=>∃m',m'<n/\W (i+1) m' σ6 H9) I8 rfl (.cons r8 .nil) ⟨_,ys,v8,rfl,rfl,Pa,Gy,q8⟩) fun _ s9 Gf=>?_
     obtain⟨_,H9,I9,_,q9⟩:=Gf;exact again I9 q9
  ·rw[av (fun z=>by
    obtain⟨o,ho⟩:=fin b hb;exact absurd z (Rp (Rf ho)))]
   exact(f2 b hb).1
 exact codeAny_compStart_list (loop _ rfl) (T.self _ 0 _ _ _ (T.keep 0 _ _ F4 fun b _ o e=>old b o e) (loop _ rfl))
theorem yz(ix:List (Option Nat))(N:List Str)(hc:X.calm=true)(hi:PI X tg iter wi)(hg:∀C s H fp pn,PG (bO X scope N C s H fp pn) tg g)(ht:∀C s H fp pn,MY (bO X scope N C s H fp pn) ifs tc)(he:∀C s H fp pn,PE (bO X scope N C s H fp pn) elt te)
  (hf:gY scope X.env=true:=by rfl) (hk:scope.kind=.function:=by rfl) (GN:∀y∈scope.names,y.2≠.cell:=by decide +kernel) (HC:∀y∈scope.names,y.2=.local->scope.names.lookup y.1=some .local:=by decide +kernel) (HB:xp X scope N ix=true:=by rfl)
  (hs:∀x,foldedSetIterable iter X.env x=pure x:=by intro _;rfl):PE X (.ListComp elt [⟨tg,iter,ifs,0⟩] scope pos) (yw wi ix g tc te):=by
 intro pr s σ H Q I h;rw[eval_ListComp];have Kj:closureFor scope X.env=pure (clOf scope X.env):=by
  unfold closureFor clOf;have:=fU X.env scope.names [] (lr I.ok hf);simpa using this
 refine Uw (use:=none) rfl hs Kj hk HC (Ge (hi pr s σ H _ I h) fun v s1 h1=>Ge h1 fun Ot s2 h2=>?_);obtain⟨it,fp,tn,J,H2,e,I2,T,F4,f2,q⟩:=h2;subst e;refine kI (RR:=fun acc C=>compPost (model X.prog X.w) X.A X.xe none (EP X pr σ Q) acc C) (Q:=Q) (iter:=iter) hc I2 T F4 f2 hg ht he hf hk GN HB q fun D C σ1 H1 s1 hC J1 q1=>?_
 obtain⟨m,ns,_⟩:=J1.loc;exact⟨m,ns,fun h' L5=>⟨.ref D,H1,I2.unblock f2 hC J1 L5,rfl,q1⟩⟩
end
section
variable{X:Cx}{scope:Scope}{N:List Str}{ix:List (Option Nat)}{tg iter elt:Expr}{ifs:List Expr}{pos:Pos}{wi:TI}{g:TG}{tc:TT}{te:TE}
theorem yA{i:Nat}{y:Str}{py Ir:Pos}(ix:List (Option Nat))(N:List Str)(hN:X.N.Nodup)(Pb:X.N[i]?=some y)(hy:Loc X.env.scope y)(hc:X.calm=true)(hi:PI X tg iter wi)(hg:∀C s H fp pn,PG (bO X scope N C s H fp pn) tg g)(ht:∀C s H fp pn,MY (bO X scope N C s H fp pn) ifs tc)
  (he:∀C s H fp pn,PE (bO X scope N C s H fp pn) elt te) (Pc:swapsWith (.ListComp elt [⟨tg,iter,ifs,0⟩] scope pos) (some (.Name y py)) Ir.line X.env=pure true:=by rfl)
  (hf:gY scope X.env=true:=by rfl) (hk:scope.kind=.function:=by rfl) (GN:∀y∈scope.names,y.2≠.cell:=by decide +kernel) (HC:∀y∈scope.names,y.2=.local->scope.names.lookup y.1=some .local:=by decide +kernel) (HB:xp X scope N ix=true:=by rfl)
  (hs:∀x,foldedSetIterable iter X.env x=pure x:=by intro _;rfl) (KU:X.fn y=true\/X.env.scope.names.lookup y=some .local:=by first|exact .inl rfl|exact .inr rfl):
  PS X (.Assign [.Name y py] (.ListComp elt [⟨tg,iter,ifs,0⟩] scope pos) Ir) (fun D σ H=>yw wi ix g tc te σ H fun v H'=>D.nx (σ.set i (some v)) H'):=by
 intro pr s σ H Dd I h;rw[exec_Assign_Name_used _ _ _ _ Pc];have Kj:closureFor scope X.env=pure (clOf scope X.env):=by
  unfold closureFor clOf;have:=fU X.env scope.names [] (lr I.ok hf);simpa using this
 refine Q1 (Vv (Q1 ?_));show wpAny _ X.A (do let _ <-comprehension (.ListComp elt [⟨tg,iter,ifs,0⟩] scope pos) scope X.env _ (newList []) false (eval iter X.env) (some (assign (.Name y py) X.env))) _ _ s;refine Q1 (Ts (Uw (use:=some (assign (.Name y py) X.env)) (Q:=fun _ s'=>SP X pr Dd .next s') rfl hs Kj hk HC
  (Ge (hi pr s σ H _ I h) fun v s1 h1=>Ge h1 fun Ot s2 h2=>?_)) (fun _ s' hq=>Q6 (Q6 hq)) fun _ _ e=>e)
 obtain⟨it,fp,tn,J,H2,e,I2,T,F4,f2,q⟩:=h2;subst e;refine kI (RR:=fun acc C=>compPost (model X.prog X.w) X.A X.xe (some (assign (.Name y py) X.env)) (fun _ s'=>SP X pr Dd .next s') acc C) (Q:=fun v H'=>Dd.nx (σ.set i (some v)) H') (iter:=iter) hc I2 T F4 f2 hg ht he hf hk GN HB q fun D C σ1 H1 s1 hC J1 q1=>?_
 obtain⟨m,ns,_⟩:=id J1.loc;have ns:s1.heap.Ns C m:=ns;have I3:Inv X pr σ H1 s1:=I2.unblock f2 hC J1 (.refl ..);show wpAny _ X.A (assign (.Name y py) X.env (.ref D)) _ _ s1;refine wpAny_assign_Name (mr I3 hN Pb hy (v:=.ref D) rfl (fun s4 I4 ⟨a,sb,ha⟩=>?_) KU);have aC:C≠a:=by
  intro z;rcases ha with ha|ha
  ·exact Rp (Rj I2.lt hC) (ha▸z.symm)
  ·obtain⟨v,o,ho,_⟩:=I2.cell y a ha;exact Rp (Rj (Rf ho) hC) z.symm
 refine⟨m,ns.sameBut sb aC,fun h' L5=>?_⟩;have jf:H1 C=none:=J1.free;have kk:∀b o,b≠C->s4.heap.get? b=some o->h'.get? b=some o:=fun b o hb e=>(L5.2 b hb).trans e
 refine⟨σ.set i (some (.ref D)),H1,?_,q1⟩;have z:=I4.turned (t':=s4.toks) kk jf (fun z=>Rp (Rj I2.lt hC) z.symm) (.inr (RB I2.sz hC)) (fun x c e z=>by
  obtain⟨v,o,ho,_⟩:=I2.cell x c e;exact Rp (Rj (Rf ho) hC) z) (fun p hp z=>Rp (Rj (Rf (I2.pin p hp).1) hC) z)
 exact z
end
def Itv(val:Nat->V)(n:Nat):It:=⟨fun i _=>i<n,fun i H x H'=>H'=H/\x=val i,fun i _=>i=n⟩
theorem pq{P:Program}{w:World}{K:W.Frag}{tg:Expr}(ty:String)(JT:["enumerate","zip","dict_itemiterator","dict_reverseitemiterator","odict_iterator","itertools.zip_longest","itertools.pairwise"].contains ty=false)(l:List Nat)(t:Tok)(it:Addr)
  (Wk:∀A:Around,A.handled=none->Walks P w A it [it] [it] (S l).cps.size (SignAt (S l)) (fun i h=>h.IsStrIter it ty (S l) t i))
  (self:∀(A:Around) (i:Nat) (s:Shared) (Q:Value->Shared->Prop) (E:Value->Shared->Prop),s.heap.IsStrIter it ty (S l) t i->Q (.ref it) s->wpAny (model P w) A (pyIter (.ref it)) Q E s):
  Turn P w K tg (Itv (fun i=>.str (S [l.getD i 0])) l.length) [it] it (fun i h=>h.IsStrIter it ty (S l) t i) where
 mem:=by simp
 obj:=fun i h st b hb=>by
  have e:b=it:=by simpa using hb
  subst e;obtain⟨o,e,c,d⟩:=st;exact⟨o,e,fun v z=>by rw[d]at z;cases z⟩
 keep:=fun i h h' st k=>by
  obtain⟨o,e,r⟩:=st;exact⟨o,k it (by simp) o e,r⟩
 item:=by
  intro X hP hw hK hc i pr s σ H E I hf st hg;subst hP hw hK;obtain⟨f0,f1,f2,f3,f4,f5⟩:=hf it (by simp);have hg:i<l.length:=hg;refine(Wk X.A (I.ok.hd hc)).item i s _ _ (by simpa[S] using hg) st fun v h' tk hv HI kk=>?_
  obtain⟨c,u,Oo,rfl⟩:=hv;have I1:Inv X pr σ H {s with heap:=h',toks:=tk}:=I.turned (fun b o hb e=>kk b o (by simpa using hb) e) f0 f1 f3 f4 f5;obtain⟨o,e,cc,d⟩:=id HI;have IF:l.getD i 0=c:=by
   have:l[i]?=some c:=by simpa[S] using Oo
   rw[List.getD_eq_getElem?_getD,this];rfl
  refine⟨_,rfl,rM (s:={s with heap:=h',toks:=tk}) e cc d JT ⟨.str (S [l.getD i 0]),H,I1,⟨u,?_⟩,⟨rfl,rfl⟩,HI,fun b hb=>(hf b hb).1⟩⟩;rw[IF]
 done:=by
  intro X hP hw hK hc i pr s σ H E I hf st hg;subst hP hw hK;obtain⟨f0,f1,f2,f3,f4,f5⟩:=hf it (by simp);have hg:i=l.length:=hg;have hn:(S l).cps.size=i:=by rw[hg];simp[S]
  refine(Wk X.A (I.ok.hd hc)).done s _ _ (by rw[hn];exact st) fun h' tk kk=>⟨rfl,I.turned (fun b o hb e=>kk b o (by simpa using hb) e) f0 f1 f3 f4 f5⟩
 self:=self
def Fh(tl:TE):TI:=fun σ H R=>tl σ H fun x H1=>∃l,x=.str (S l)/\R (Itv (fun i=>.str (S [l.getD i 0])) l.length) H1
section
variable{X:Cx}{tg:Expr}
theorem Bh{l:Expr}{tl:TE}(hl:PE X l tl):PI X tg l (Fh tl):=by
 intro pr s σ H R I h;refine Ge (hl pr s σ H _ I h) fun v s1 Gf=>?_
 obtain⟨x,H1,I1,r1,l,e,q⟩:=Gf;subst e;obtain⟨t,rfl⟩:=r1;cases ha:(S l).cps.all (·< 128)
 ·refine wpAny_pyIter_wide ha ?_;refine⟨s1.heap.objs.size,[s1.heap.objs.size],_,_,H1,rfl,I1.kept (t':=s1.toks) fun b o e=>Heap.get?_push_of_some _ e,
   pq "str_iterator" (by decide) l t _ (fun A hA=>Walks.strWide hA _ _ _) (fun _ _ _ _ _ st h=>wpAny_pyIter_striter_wide st h),⟨_,Heap.get?_push_size _ rfl,rfl,rfl⟩,fun b hb=>?_,q⟩
  have e:b=s1.heap.objs.size:=by simpa using hb
  subst e;exact I1.fpOk (Q8 _) (I1.hok.fresh (Q8 _))
 ·refine wpAny_pyIter_ascii ha ?_;refine⟨s1.heap.objs.size,[s1.heap.objs.size],_,_,H1,rfl,I1.kept (t':=s1.toks) fun b o e=>Heap.get?_push_of_some _ e,
   pq "str_ascii_iterator" (by decide) l t _ (fun A hA=>Walks.strAscii hA _ _ _) (fun _ _ _ _ _ st h=>wpAny_pyIter_striter_ascii st h),⟨_,Heap.get?_push_size _ rfl,rfl,rfl⟩,fun b hb=>?_,q⟩
  have e:b=s1.heap.objs.size:=by simpa using hb
  subst e;exact I1.fpOk (Q8 _) (I1.hok.fresh (Q8 _))
theorem lu{pr:List (Addr×Obj)}{s:Shared}{σ:L2.St}{H:Hp}{p:Addr}{xs:List V}{E:Value->Shared->Prop}{R:Value->Shared->Prop}(hc:X.calm=true)(I:Inv X pr σ H s)(h:SqL X.K H p xs\/SqT X.K H p xs)
  (k:∀(it:Addr) (fp:List Addr) (o:Obj) (us:List Value) (Sx:Nat->Heap->Prop),Vals xs us->Walks X.prog X.w X.A.in1 it fp [it] us.length (fun i v=>us[i]?=some v) Sx->Sx 0 (s.heap.push o)->(∀b∈fp,b<(s.heap.push o).objs.size)->it=s.heap.objs.size->R (.ref it) {s with heap:=s.heap.push o}):
  wpAny (model X.prog X.w) X.A.in1 (pyIter (.ref p)) R E s:=by
 have hh:X.A.in1.handled=none:=I.ok.hd hc;rcases h with h|h
 ·obtain⟨us,r,pl,hz⟩:=I.list h;have Gy:p<s.heap.objs.size:=by obtain⟨o,ho,_⟩:=pl.isList;exact Rf ho
  refine SO pl.isList (k s.heap.objs.size [s.heap.objs.size,p] _ us (fun i h=>h.IsListIter s.heap.objs.size p i/\h.IsList p us.toArray) r (by
   have W:=Walks.list (prog:=X.prog) (w:=X.w) hh s.heap.objs.size p (Rp Gy) us.toArray;simpa using W) ⟨⟨_,Heap.get?_push_size _ rfl,rfl,rfl⟩,pl.isList.at fun o e=>Heap.get?_push_of_some _ e⟩ (fun b hb=>?_) rfl)
  rw[S5];rcases Ri.mp hb with rfl|hb
  ·exact S4 _
  ·rw[Ry]at hb;rw[hb];exact Ux Gy
 ·obtain⟨us,r,pl,hz⟩:=I.tuple h;have L3:s.heap.IsTuple p us.toArray:=pl;have Gy:p<s.heap.objs.size:=by obtain⟨o,ho,_⟩:=pl;exact Rf ho
  refine SI L3 (k s.heap.objs.size [s.heap.objs.size,p] _ us (fun i h=>h.IsTupleIter s.heap.objs.size p i/\h.IsTuple p us.toArray) r (by
   have W:=Walks.tuple (prog:=X.prog) (w:=X.w) hh s.heap.objs.size p (Rp Gy) us.toArray;simpa using W) ⟨⟨_,Heap.get?_push_size _ rfl,rfl,rfl⟩,L3.at fun o e=>Heap.get?_push_of_some _ e⟩ (fun b hb=>?_) rfl)
  rw[S5];rcases Ri.mp hb with rfl|hb
  ·exact S4 _
  ·rw[Ry]at hb;rw[hb];exact Ux Gy
theorem iF{pr:List (Addr×Obj)}{s:Shared}{σ:L2.St}{H:Hp}{o:Obj}{h':Heap}{tk:Nat}(I:Inv X pr σ H s)(kk:∀b ob,b∉[s.heap.objs.size]->(s.heap.push o).get? b=some ob->h'.get? b=some ob):
  Inv X pr σ H {s with heap:=h',toks:=tk}:=I.kept fun b ob e=>kk b ob (fun z=>Rp (Rf e) (by simpa using z)) (Heap.get?_push_of_some _ e)
theorem bh{α:Type}(l:List α)(i:Nat)(d:α)(h:i<l.length):l.getD i d=l[i]:=by
 rw[List.getD_eq_getElem?_getD,List.getElem?_eq_getElem h];rfl
def Bi:V->Bool
 | .bl b=>b
 |_=>false
def DE:V->Bool
 | .bl _=>true
 |_=>false
theorem vJ{xs:List V}{us:List Value}(r:Vals xs us)(hb:xs.all DE=true):TruthOf X.prog X.w X.A.in1 (fun i v=>us[i]?=some v) (fun i=>Bi (xs.getD i .non)):=by
 intro i v s Q E hv q;have hl:=r.length;obtain⟨hi,_⟩:=List.getElem?_eq_some_iff.mp hv;have e1:xs[i]?=some (xs[i]'(by lia)):=List.getElem?_eq_getElem _;obtain⟨u,hu,ru⟩:=r.get e1;rw[hv]at hu;cases hu;have q:Q (Bi (xs.getD i .non)) s:=q;rw[yu e1]at q;have bl:=RD.mp hb _ (Rz e1);generalize xs[i]'(by lia)=x at ru q bl;cases x <;> first|(exact absurd (show false=true from bl) Rc)|skip
 cases ru;exact Sv q
theorem su{xs:List V}(f:V->Bool):(List.range xs.length).all (fun i=>f (xs.getD i .non))=xs.all f:=by
 rw[RG,RD,RD];constructor
 ·intro h x hx;obtain⟨i,hi,rfl⟩:=Ue hx;have:=h i (RL.mpr hi)
  rwa [bh _ _ _ hi]at this
 ·intro h i hi;have hi:=RL.mp hi;rw[bh _ _ _ hi];exact h _ (To hi)
theorem vK(hc:X.calm=true):di X (.builtin "all") (fun vs H Q=>∃p xs,vs=[.ref p]/\(SqL X.K H p xs\/SqT X.K H p xs)/\xs.all DE=true/\Q (.bl (xs.all Bi)) H):=by
 intro pr s σ H vs us Q I r h;obtain⟨p,xs,rfl,hp,hb,q⟩:=h;obtain⟨u,rfl,r1⟩:=e8 r;cases r1;refine call_all_walk (lu hc I hp fun it fp o ws Sx rv W st hf hit=>⟨it,fp,[it],_,_,Sx,_,rfl,W,st,vJ rv hb,fun h' tk kk=>?_⟩);subst hit;refine⟨.bl (xs.all Bi),H,iF (s:=s) I kk,?_,q⟩;rw[<-rv.length,su];rfl
theorem gE{ns:List Int}{us:List Value}(r:Vals (ns.map V.int) us){i:Nat}{v:Value}(h:us[i]?=some v):∃t,v=.int (ns.getD i 0) t:=by
 have hl:=r.length;rw[Q3]at hl;obtain⟨hi,_⟩:=List.getElem?_eq_some_iff.mp h;have e1:(ns.map V.int)[i]?=some (.int (ns.getD i 0)):=by
  rw[List.getElem?_map,List.getElem?_eq_getElem (by lia),bh _ _ _ (by lia)];rfl
 obtain⟨u,hu,t,rfl⟩:=r.get e1;rw[h]at hu;exact⟨t,Rt hu⟩
theorem px{ns:List Int}{us:List Value}(r:Vals (ns.map V.int) us)(A:Around):CmpOf X.prog X.w A .Gt (fun i v=>us[i]?=some v) (fun i j=>decide (ns.getD j 0<ns.getD i 0)):=by
 intro i j vi vj s Q E hi hj q;obtain⟨t,rfl⟩:=gE r hi;obtain⟨t',rfl⟩:=gE r hj;exact gt_int q
def qI(ns:List Int):Int:=ns.foldl max (ns.headD 0)
def DF(ns:List Int):Int:=ns.foldl min (ns.headD 0)
theorem ly(ns:List Int):∀k,k<ns.length->argBest (fun i j=>decide (ns.getD j 0<ns.getD i 0)) k<ns.length/\ns.getD (argBest (fun i j=>decide (ns.getD j 0<ns.getD i 0)) k) 0=(ns.take (k+1)).foldl max (ns.headD 0)
 | 0,h=>by
  refine⟨h,?_⟩;cases ns with
  |nil=>cases h
  |cons a l=>show a=max a a;lia
 |k+1,h=>by
  obtain⟨ih1,ih2⟩:=ly ns k (by lia);have et:ns.take (k+1+1)=ns.take (k+1)++[ns.getD (k+1) 0]:=by
   rw[List.take_add_one,List.getElem?_eq_getElem h,bh _ _ _ h];rfl
  rw[et,List.foldl_append,<-ih2];show(if decide (ns.getD (argBest (fun i j=>decide (ns.getD j 0<ns.getD i 0)) k) 0<ns.getD (k+1) 0)=true then k+1 else argBest (fun i j=>decide (ns.getD j 0<ns.getD i 0)) k)<ns.length/\
   ns.getD (if decide (ns.getD (argBest (fun i j=>decide (ns.getD j 0<ns.getD i 0)) k) 0<ns.getD (k+1) 0)=true then k+1 else argBest (fun i j=>decide (ns.getD j 0<ns.getD i 0)) k) 0=max _ _
  split
  ·rename_i hd;have:=TM hd;exact⟨h,by lia⟩
  ·rename_i hd;rw[Ro]at hd;exact⟨ih1,by lia⟩
theorem sv(hc:X.calm=true):di X (.builtin "max") (fun vs H Q=>∃(p:Addr) (ns:List Int),vs=[.ref p]/\(SqL X.K H p (ns.map V.int)\/SqT X.K H p (ns.map V.int))/\ns≠[]/\Q (.int (qI ns)) H):=by
 intro pr s σ H vs us Q I r h;obtain⟨p,ns,rfl,hp,Iu,q⟩:=h;obtain⟨u,rfl,r1⟩:=e8 r;cases r1;have hn:0<ns.length:=by cases ns with|nil=>exact absurd rfl Iu|cons _ _=>simp
 refine call_max_walk (lu hc I hp fun it fp o ws Sx rv W st hf hit=>?_);have hl:=rv.length;rw[Q3]at hl;refine⟨it,fp,[it],_,_,Sx,_,rfl,W,st,hf,by lia,px rv _,fun v h' tk hv kk=>?_⟩;subst hit;obtain⟨b1,b2⟩:=ly ns (ns.length-1) (by lia);rw[<-hl]at hv;obtain⟨t,rfl⟩:=gE rv hv;refine⟨.int (qI ns),H,iF (s:=s) I kk,⟨t,?_⟩,q⟩;rw[b2,show ns.length-1+1=ns.length by lia,List.take_length];rfl
end
section
variable{prog:Program}{w:World}{A:Around}{R:Result->Shared->Prop}{it:Addr}{fp wr:List Addr}{n:Nat}{Pv:Nat->Value->Prop}{Sx:Nat->Heap->Prop}{kw:List (Str×Value)}
theorem lz:(toString "max"++toString ".loop" : String) = "max.loop":=by decide
theorem DG(Wk:Walks prog w A.in1 it fp wr n Pv Sx)(bt:Nat->Nat->Bool)(cm:CmpOf prog w A.in1 .Gt Pv bt)(T:Addr)(nT:T∉fp):∀(k j:Nat) (s:Shared) (vb:Value) (c:Nat),n-(j+1)=k->j+1<=n->Sx (j+1) s.heap->Pv (argBest bt j) vb->
   s.heap.get? T=some {cls:=.type "list",dict:=none,data:=.seq #[vb,vb] c,slots:=#[]}->
   (∀v h' tk,Pv (argBest bt (n-1)) v->(∀b o,b∉wr->b≠T->s.heap.get? b=some o->h'.get? b=some o)->R (.ok (.ret v)) {s with heap:=h',toks:=tk})->codeAny (model prog w) A (.builtin "max.loop" ⟨[.ref it,.none,.ref T],kw⟩) R s:=by
 have OA:T∉wr:=fun z=>nT (Wk.sub _ z)
 intro k;induction k with
 |zero=>
  intro j s vb c hk hj st hp hT fin;have ej:j+1=n:=by lia
  refine U4 UL ?_;rw[T4 SG _];show wpAny _ A.in1 (seqItems? (.ref T) >>= _) _ _ s;refine Q1 (R8 hT rfl ?_);show wpAny _ A.in1 (tryCatch (pyNext (.ref it)) _ >>= _) _ _ s;refine Q1 (TU (Wk.done s _ _ (ej▸st) fun h' tk kk=>?_));have LN:=kk T _ OA hT;show wpAny _ A.in1 (updateSeq T (fun _=>#[]) >>= _) _ _ _;refine Q1 (U5 LN rfl (Q1 (Tp (Q6 ?_))));exact fin vb _ tk (by rw[<-ej];exact hp) fun b o bw bT e=>(Heap.get?_update_other _ _ (SE bT)).trans (kk b o bw e)
 |succ k ih=>
  intro j s vb c hk hj st hp hT fin;have jn:j+1<n:=by lia
  refine U4 UL ?_;rw[T4 SG _];show wpAny _ A.in1 (seqItems? (.ref T) >>= _) _ _ s;refine Q1 (R8 hT rfl ?_);show wpAny _ A.in1 (tryCatch (pyNext (.ref it)) _ >>= _) _ _ s;refine Q1 (TU (Wk.item (j+1) s _ _ jn st fun v h' tk pv HI kk=>?_));have LN:=kk T _ OA hT;show wpAny _ A.in1 (tryCatch (holding [v,v] (richCompare .Gt v vb >>= _)) _ >>= _) _ _ _;refine Q1 (TU (SJ (Q1 (cm (j+1) (argBest bt j) v vb _ _ _ pv hp (Q1 (SJ (Sv (Q1 (Tp (Q6 ?_))))))))));cases eb:bt (j+1) (argBest bt j) with
  |true=>
   rw[Rb rfl];refine Q1 (U5 LN rfl (Q1 (Tp ?_)));rw[lz];refine Q6 ⟨UC SG _,ih (j+1) _ v _ (by lia) jn (Wk.frame _ _ _ HI fun b bf o e=>?_) (by simp only[argBest,eb,TL];exact pv) (Heap.get?_update_self _ LN rfl) fun v2 h2 t2 p2 k2=>?_⟩
   ·exact(Heap.get?_update_other _ _ (fun z:T=b=>nT (by rw[z];exact bf))).trans e
   ·exact fin v2 h2 t2 p2 fun b o bw bT e=>k2 b o bw bT ((Heap.get?_update_other _ _ (SE bT)).trans (kk b o bw e))
  |false=>
   rw[Rg Rc];refine Q1 (Tp ?_);rw[lz];refine Q6 ⟨UC SG _,ih (j+1) _ vb c (by lia) jn HI (by simp only[argBest,eb,Sk,T8];exact hp) LN fun v2 h2 t2 p2 k2=>?_⟩;exact fin v2 h2 t2 p2 fun b o bw bT e=>k2 b o bw bT (kk b o bw e)
theorem vL(Wk:Walks prog w A.in1 it fp wr n Pv Sx)(bt:Nat->Nat->Bool)(cm:CmpOf prog w A.in1 .Gt Pv bt)(T:Addr)(nT:T∉fp){s:Shared}{c:Nat}{d:Value}(hkw:kw=[(Str.ofString "default",d)])(st:Sx 0 s.heap)
  (hT:s.heap.get? T=some {cls:=.type "list",dict:=none,data:=.seq #[] c,slots:=#[]}) (fin:∀v h' tk,(if n=0 then v=d else Pv (argBest bt (n-1)) v)->(∀b o,b∉wr->b≠T->s.heap.get? b=some o->h'.get? b=some o)->R (.ok (.ret v)) {s with heap:=h',toks:=tk}):
  codeAny (model prog w) A (.builtin "max.loop" ⟨[.ref it,.none,.ref T],kw⟩) R s:=by
 have OA:T∉wr:=fun z=>nT (Wk.sub _ z)
 refine U4 UL ?_;rw[T4 SG _];show wpAny _ A.in1 (seqItems? (.ref T) >>= _) _ _ s;refine Q1 (R8 hT rfl ?_);show wpAny _ A.in1 (tryCatch (pyNext (.ref it)) _ >>= _) _ _ s;by_cases hn:n=0
 ·refine Q1 (TU (Wk.done s _ _ (by rw[hn];exact st) fun h' tk kk=>?_));subst hkw;refine Q1 (Vg (Q6 ?_));exact fin d _ tk (by rw[Rb hn]) fun b o bw bT e=>kk b o bw e
 ·refine Q1 (TU (Wk.item 0 s _ _ (by lia) st fun v h' tk pv HI kk=>?_));have LN:=kk T _ OA hT;show wpAny _ A.in1 (updateSeq T (fun _=>#[v,v]) >>= _) _ _ _;refine Q1 (U5 LN rfl ?_);rw[lz];refine Q6 ⟨UC SG _,DG Wk bt cm T nT _ 0 _ v _ rfl (by lia) (Wk.frame _ _ _ HI fun b bf o e=>?_) pv (Heap.get?_update_self _ LN rfl) fun v2 h2 t2 p2 k2=>?_⟩
  ·exact(Heap.get?_update_other _ _ (fun z:T=b=>nT (by rw[z];exact bf))).trans e
  ·exact fin v2 h2 t2 (by rw[Rg hn];exact p2) fun b o bw bT e=>k2 b o bw bT ((Heap.get?_update_other _ _ (SE bT)).trans (kk b o bw e))
end
theorem tree_kw{prog:Program}{w:World}{A:Around}{E:Value->Shared->Prop}{s:Shared}{id:String}{bf:Builtin}{args:List Value}{kw:List (Str×Value)}{Q:Value->Shared->Prop}(hk:builtinKind id=none)(hp:plainId id=true)
  (hb:entryFor table id=some bf) (ha:argsOk id ⟨args,kw⟩)
  (hc:wpAny (model prog w) A.in1 (bf ⟨args,kw⟩) (fun fin s'=>match fin with
   | .done f=>(match(Except.ok f:Result) with | .ok (.ret v)=>Q v s' | .ok _=>False | .error e=>E e s')
   | .again c'=>c'.quiet=true/\codeAny (model prog w) A c' (fun r s'=>match r with | .ok (.ret v)=>Q v s' | .ok _=>False | .error e=>E e s') s') E s):wpAny (model prog w) A (call (.builtin id) args kw) Q E s:=by
 refine wpAny_call (codeAny_call_builtin hp hb ?_);simp only[checkBuiltinCall,hk];cases hsig:Manifest.signature? id with
 |none=>exact Q6 hc
 |some sig=>
  have ha2:Bind.checkArgs id sig ⟨args,kw⟩=pure ():=by simpa only[argsOk,hsig] using ha
  simp only[ha2];exact Q6 hc
theorem sx(a d:Value):argsOk "max" ⟨[a],[(Str.ofString "default",d)]⟩:=by unfold argsOk;kernel_rfl
section
variable{X:Cx}{e k:Expr}{te tk:TE}{p pos JQ:Pos}
def maxD(ns:List Int)(d:Int):Int:=if ns=[] then d else qI ns
def DH(K:W.Frag)(te tk:TE):TE:=fun σ H Q=>vz te C3 σ H fun vs H1=>vz tk C3 σ H1 fun ks H2=>∃(a:Addr) (ns:List Int) (d:Int),vs=[.ref a]/\ks=[.int d]/\(SqL K H2 a (ns.map V.int)\/SqT K H2 a (ns.map V.int))/\Q (.int (maxD ns d)) H2
theorem yB(hc:X.calm=true)(hg:Gl X "max")(hm:X.mg "max" = none)(he:PE X e te)(hk:PE X k tk)(hs:starEach [e] X.env=[(false,eval e X.env)]:=by rfl):
  PE X (.Call (.Name "max" p) [e] [⟨some "default",k,JQ⟩] pos) (DH X.K te tk):=by
 intro pr s σ H Q I h;refine S6 (kC I hg hm (by decide +kernel:bootBuiltins "max" = some (.builtin "max")) ?_ (by decide) (by decide));refine callWith_kw (Ge (cH he iQ (hs:=hs) pos pr s σ H _ I h) fun us s1 ⟨vs,H1,I1,r1,q1⟩=>?_) (by rw[hs];rfl) (by rw[hs];rfl);refine Ge (yi hk A8 pos pr s1 σ H1 _ I1 q1) fun ws s2 Gf=>?_
 obtain⟨ks,H2,I2,r2,a,ns,d,e1,e2,hp,q⟩:=Gf;subst e1 e2;obtain⟨u,rfl,ru⟩:=e8 r1;obtain⟨w',rfl,t,rfl⟩:=e8 r2;cases ru;show wpAny _ _ (call (.builtin "max") [.ref a] [(Str.ofString "default",.int d t)]) _ _ s2;refine tree_kw F.kind_max F.plain_max F.entry_max (sx _ _) ?_;show wpAny _ X.A.in1 (Builtin.Builtins.bindParams "max" ["key","default"] 0 ⟨[],[(Str.ofString "default",.int d t)]⟩ >>= _) _ _ s2;refine Q1 (wpAny_of_eq (show Builtin.Builtins.bindParams "max" ["key","default"] 0 ⟨[],[(Str.ofString "default",.int d t)]⟩=pure [none,some (.int d t)] from rfl) ?_);refine Q1 (Q6 ?_);refine Q1 (lu hc I2 hp fun it fp o ws Sx rv Wk st hf hit=>?_);have hl:=rv.length;rw[Q3]at hl;refine Q1 (RV ?_);have nT:(s2.heap.push o).objs.size∉fp:=fun z=>SW _ (hf _ z)
 rw[lz];refine Q6 ⟨UC SG _,vL Wk _ (px rv _) (s2.heap.push o).objs.size nT rfl (Wk.frame _ _ _ st fun b _ ob e=>Heap.get?_push_of_some _ e) (Heap.get?_push_size _ rfl) fun v h' tk' hv kk=>?_⟩;subst hit;have I3:Inv X pr σ H2 {s2 with heap:=h',toks:=tk'}:=iF (s:=s2) (o:=o) I2 fun b ob nb e=>kk b ob nb (Rp (Rf e)) (Heap.get?_push_of_some _ e)
 refine⟨.int (maxD ns d),H2,I3,?_,q⟩;unfold maxD;by_cases hn:ns=[]
 ·rw[Rb (by rw[<-hl,hn];rfl)]at hv;rw[Rb hn,hv];exact⟨t,rfl⟩
 ·have h0:0<ns.length:=List.length_pos_iff.mpr hn;rw[Rg (by lia)]at hv;rw[Rg hn];obtain⟨b1,b2⟩:=ly ns (ns.length-1) (by lia);rw[<-hl]at hv;obtain⟨t2,rfl⟩:=gE rv hv;refine⟨t2,?_⟩;rw[b2,show ns.length-1+1=ns.length by lia,List.take_length];rfl
end
section
variable{prog:Program}{w:World}{A:Around}{E:Value->Shared->Prop}{s:Shared}
theorem vM{it t:Addr}{i:Nat}{items:Array Value}{x:Value}{Q:Value->Shared->Prop}(hi:s.heap.IsTupleIter it t i)(ht:s.heap.IsTuple t items)(hx:items[i]?=some x)
  (k:∀h',h'.IsTupleIter it t (i+1)->Heap.SameBut it s.heap h'->Q x {s with heap:=h'}):wpAny (model prog w) A (Builtin.SmallTypes.nextOf (.ref it)) Q E s:=by
 obtain⟨o,ho,oc,od⟩:=id hi;obtain⟨q,hq,_,n,qd⟩:=ht;unfold Builtin.SmallTypes.nextOf;refine Q1 (wpAny_callSpecial?_slot (name:=Str.ofString "__next__") hi.typeIs SF (RY SF hi.typeIs Ug ?_ (T9 _)));show wpAny _ _ (field (.ref it) 0 >>= _) _ _ s;refine Q1 (R9 ho od (x:=.ref t) rfl ?_);show wpAny _ _ (if(Value.ref t==Value.none)=true then _ else _) _ _ s;rw[Rg (fun z:(Value.ref t==Value.none)=true=>Rc z)];show wpAny _ _ (field (.ref it) 1 >>= _) _ _ s;refine Q1 (R9 ho od (x:=.int i 0) rfl (Q1 (R8 hq qd ?_)));simp only[RP,hx];refine Q1 (Ur ho od (by simp) (Q6 ⟨x,rfl,Q6 (k _ ⟨_,Heap.get?_update_self _ ho (Obj.isFreed_of_fields (Tz od _)),(Obj.cls_mapFields ..).trans oc,?_⟩ (Tq ..))⟩));rw[Tz od];simp[rawInt]
theorem yC{it t:Addr}{i:Nat}{items:Array Value}{Q:Value->Shared->Prop}(hh:A.handled=none)(hi:s.heap.IsTupleIter it t i)(ht:s.heap.IsTuple t items)(hx:items[i]?=none)
  (k:∀h' e,Heap.ExtBut it s.heap h'->(∃o,h'.get? e=some o/\o.cls=.type "StopIteration")->E (.ref e) {s with heap:=h'}):wpAny (model prog w) A (Builtin.SmallTypes.nextOf (.ref it)) Q E s:=by
 obtain⟨o,ho,oc,od⟩:=id hi;obtain⟨q,hq,_,n,qd⟩:=ht;unfold Builtin.SmallTypes.nextOf;refine Q1 (wpAny_callSpecial?_slot (name:=Str.ofString "__next__") hi.typeIs SF (RY SF hi.typeIs Ug ?_ (T9 _)));show wpAny _ _ (field (.ref it) 0 >>= _) _ _ s;refine Q1 (R9 ho od (x:=.ref t) rfl ?_);show wpAny _ _ (if(Value.ref t==Value.none)=true then _ else _) _ _ s;rw[Rg (fun z:(Value.ref t==Value.none)=true=>Rc z)];show wpAny _ _ (field (.ref it) 1 >>= _) _ _ s;refine Q1 (R9 ho od (x:=.int i 0) rfl (Q1 (R8 hq qd ?_)));simp only[RP,hx];refine Q1 (Vg (Q1 (Ur ho od (by simp) ?_)));show wpAny _ _ (newExc (.type "StopIteration") [] >>= _) _ _ _;refine Q1 ?_;simp only[newExc,newTuple];refine Q1 (RV (Q1 (m:=firstArgMember _ _) (wpAny_of_eq (a:=Value.none) (by first|rfl|(simp only[firstArgMember];rfl)) (RV ?_ (by size_fits)))) (by size_fits));simp only[raiseNew];refine Q1 (wpAny_handled ?_);first
  |rw[show A.in1.handled=none from hh]
  |rw[hh]
 exact Q1 (Q6 (wpAny_throw (k _ _ (((Tq ..).extBut.push _).push _) ⟨_,Heap.get?_push_size _ rfl,rfl⟩)))
def IsIt(k:Bool)(h:Heap)(it l:Addr)(i:Nat):Prop:=match k with
 |true=>h.IsListIter it l i
 |false=>h.IsTupleIter it l i
def IsSq(k:Bool)(h:Heap)(l:Addr)(xs:Array Value):Prop:=match k with
 |true=>h.IsList l xs
 |false=>h.IsTuple l xs
theorem IsIt.at{k:Bool}{h h':Heap}{it l:Addr}{i:Nat}(x:IsIt k h it l i)(e:∀o,h.get? it=some o->h'.get? it=some o):IsIt k h' it l i:=by
 cases k with
 |true=>obtain⟨o,ho,r⟩:=(show h.IsListIter it l i from x);exact(show h'.IsListIter it l i from⟨o,e o ho,r⟩)
 |false=>obtain⟨o,ho,r⟩:=(show h.IsTupleIter it l i from x);exact(show h'.IsTupleIter it l i from⟨o,e o ho,r⟩)
theorem IsSq.at{k:Bool}{h h':Heap}{l:Addr}{xs:Array Value}(x:IsSq k h l xs)(e:∀o,h.get? l=some o->h'.get? l=some o):IsSq k h' l xs:=by
 cases k with
 |true=>obtain⟨o,ho,r⟩:=(show h.IsList l xs from x);exact(show h'.IsList l xs from⟨o,e o ho,r⟩)
 |false=>obtain⟨o,ho,r⟩:=(show h.IsTuple l xs from x);exact(show h'.IsTuple l xs from⟨o,e o ho,r⟩)
theorem IsIt.obj{k:Bool}{h:Heap}{it l:Addr}{i:Nat}(x:IsIt k h it l i):∃o,h.get? it=some o/\∀v,o.data≠.cell v:=by
 cases k with
 |true=>obtain⟨o,ho,_,d⟩:=(show h.IsListIter it l i from x);exact⟨o,ho,fun v z=>by rw[d]at z;cases z⟩
 |false=>obtain⟨o,ho,_,d⟩:=(show h.IsTupleIter it l i from x);exact⟨o,ho,fun v z=>by rw[d]at z;cases z⟩
theorem oE{k:Bool}{it l:Addr}{i:Nat}{xs:Array Value}{x:Value}{Q:Value->Shared->Prop}(hi:IsIt k s.heap it l i)(hl:IsSq k s.heap l xs)(hx:xs[i]?=some x)
  (q:∀h',IsIt k h' it l (i+1)->Heap.SameBut it s.heap h'->Q x {s with heap:=h'}):wpAny (model prog w) A (Builtin.SmallTypes.nextOf (.ref it)) Q E s:=by
 cases k with
 |true=>exact wpAny_nextOf_list_item hi hl hx q
 |false=>exact vM hi hl hx q
theorem xq{k:Bool}{it l:Addr}{i:Nat}{xs:Array Value}{Q:Value->Shared->Prop}(hh:A.handled=none)(hi:IsIt k s.heap it l i)(hl:IsSq k s.heap l xs)(hx:xs[i]?=none)
  (q:∀h' e,Heap.ExtBut it s.heap h'->(∃o,h'.get? e=some o/\o.cls=.type "StopIteration")->E (.ref e) {s with heap:=h'}):wpAny (model prog w) A (Builtin.SmallTypes.nextOf (.ref it)) Q E s:=by
 cases k with
 |true=>exact wpAny_nextOf_list_end hh hi hl hx q
 |false=>exact yC hh hi hl hx q
theorem yD{k1 k2:Bool}{z TI TO i1 i2 l1 l2:Addr}{i:Nat}{xs ys:Array Value}{x y a b:Value}{Q:Value->Shared->Prop}(D:ZipApart z TI TO i1 i2 l1 l2)(hz:IsZip s.heap z TI TO .none)(Jo:IsPair s.heap TI (.ref i1) (.ref i2))(JV:IsPair s.heap TO a b)
  (h1:IsIt k1 s.heap i1 l1 i) (h2:IsIt k2 s.heap i2 l2 i) (g1:IsSq k1 s.heap l1 xs) (g2:IsSq k2 s.heap l2 ys) (hx:xs[i]?=some x) (hy:ys[i]?=some y)
  (q:∀h',IsZip h' z TI TO (rawInt s.heap.objs.size)->IsPair h' TO x y->IsIt k1 h' i1 l1 (i+1)->IsIt k2 h' i2 l2 (i+1)->IsPair h' s.heap.objs.size x y->
   (∀c o,c≠z->c≠TO->c≠i1->c≠i2->s.heap.get? c=some o->h'.get? c=some o)->Q (.ref s.heap.objs.size) {s with heap:=h'}):
  wpAny (model prog w) A (Builtin.«zip.__next__» ⟨[.ref z],[]⟩) (fun fin s'=>∃v,fin=.done (.ret v)/\Q v s') E s:=by
 show wpAny _ _ (field (.ref z) 2 >>= _) _ _ _;refine Q1 (R9 hz rfl (x:=.bool false) rfl ?_);show wpAny _ _ (field (.ref z) 3 >>= _) _ _ _;refine Q1 (R9 hz rfl (x:=.ref TI) rfl (Q1 (R8 Jo rfl ?_)));show wpAny _ _ (Builtin.SmallTypes.ownedTupleIsFree (.ref z) >>= _) _ _ _;refine Q1 ?_;unfold Builtin.SmallTypes.ownedTupleIsFree;refine Q1 (R9 hz rfl (x:=.none) rfl (Q6 ?_));rw[Rb (by rfl)];refine Q1 (Vg (Q1 (R9 hz rfl (x:=.ref TO) rfl (Q1 (SK hz (by simp) fun hA zA sA=>?_)))));have zA:IsZip hA z TI TO .ellipsis:=zA;refine Q1 ?_;simp only[List.zipIdx_cons,List.zipIdx_nil,U2,List.forIn_nil];refine Q1 (Q1 (UD ?_));show wpAny _ _ (Builtin.SmallTypes.nextOf (.ref i1) >>= _) _ _ _;refine Q1 (oE (h1.at fun o e=>sA.extBut _ _ D.i1z e) (g1.at fun o e=>sA.extBut _ _ D.l1z e) hx fun hB iB sB=>Q6 ?_);have tB:IsPair hB TO a b:=sB.extBut _ _ D.TOi1 (sA.extBut _ _ D.TOz JV);refine Q1 (R8 tB rfl (Q1 (T5 tB fun hC tC sC=>Q1 (Tp (Q6 ?_)))));have tC:IsPair hC TO x b:=tC;refine Q1 (Q1 (UD ?_));show wpAny _ _ (Builtin.SmallTypes.nextOf (.ref i2) >>= _) _ _ _;refine Q1 (oE (h2.at fun o e=>sC.extBut _ _ D.TOi2.symm (sB.extBut _ _ D.i12.symm (sA.extBut _ _ D.i2z e))) (g2.at fun o e=>sC.extBut _ _ D.l2TO (sB.extBut _ _ D.l2i1 (sA.extBut _ _ D.l2z e))) hy fun hD iD sD=>Q6 ?_);have tD:IsPair hD TO x b:=sD.extBut _ _ D.TOi2 tC;refine Q1 (R8 tD rfl (Q1 (T5 tD fun hE tE sE=>Q1 (Tp (Q6 (Q6 ?_))))));have tE:IsPair hE TO x y:=tE;refine Q1 (R8 tE rfl (Q1 (wpAny_newTuple ?_)));have ez:hE.objs.size=s.heap.objs.size:=by rw[sE.1,sD.1,sC.1,sB.1,sA.1]
 have zE:IsZip hE z TI TO .ellipsis:=sE.extBut _ _ D.TOz.symm (sD.extBut _ _ D.i2z.symm (sC.extBut _ _ D.TOz.symm (sB.extBut _ _ D.i1z.symm zA)));have kE:∀c o,c≠z->c≠TO->c≠i1->c≠i2->s.heap.get? c=some o->hE.get? c=some o:=fun c o c1 c2 c3 c4 e=>sE.extBut _ _ c2 (sD.extBut _ _ c4 (sC.extBut _ _ c2 (sB.extBut _ _ c3 (sA.extBut _ _ c1 e))))
 have i1E:IsIt k1 hE i1 l1 (i+1):=iB.at fun o e=>sE.extBut _ _ D.TOi1.symm (sD.extBut _ _ D.i12 (sC.extBut _ _ D.TOi1.symm e))
 have i2E:IsIt k2 hE i2 l2 (i+1):=iD.at fun o e=>sE.extBut _ _ D.TOi2.symm e
 show wpAny _ _ (Builtin.SmallTypes.ownedTupleHandOut (.ref z) (.ref hE.objs.size) >>= _) _ _ _;refine Q1 ?_;unfold Builtin.SmallTypes.ownedTupleHandOut;have zF:IsZip (hE.push {cls:=.type "tuple",data:=.seq #[x,y]}) z TI TO .ellipsis:=Heap.get?_push_of_some _ zE;refine Q1 (SK zF (by simp) fun hG zG sG=>?_);have zG:IsZip hG z TI TO (rawInt hE.objs.size):=zG;refine SK zG (by simp) fun hK zK sK=>?_
 have zK:IsZip hK z TI TO (rawInt hE.objs.size):=zK;have up:∀c o,c≠z->hE.get? c=some o->hK.get? c=some o:=fun c o c1 e=>sK.extBut _ _ c1 (sG.extBut _ _ c1 (Heap.get?_push_of_some _ e))
 have nz:hE.objs.size≠z:=VX (Rf zE);have tK:IsPair hK hE.objs.size x y:=sK.extBut _ _ nz (sG.extBut _ _ nz (Heap.get?_push_size _ rfl));rw[ez]at zK tK;refine Q6 ⟨_,rfl,?_⟩;show Q (.ref hE.objs.size) _;rw[ez];exact q hK zK (up _ _ D.TOz tE) (i1E.at fun o e=>up _ o D.i1z e) (i2E.at fun o e=>up _ o D.i2z e) tK fun c o c1 c2 c3 c4 e=>up c o c1 (kE c o c1 c2 c3 c4 e)
theorem Bj{k1 k2:Bool}{z TI TO i1 i2 l1 l2:Addr}{i:Nat}{xs ys:Array Value}{a b:Value}{Q:Fin->Shared->Prop}(hh:A.handled=none)(D:ZipApart z TI TO i1 i2 l1 l2)(hz:IsZip s.heap z TI TO .none)(Jo:IsPair s.heap TI (.ref i1) (.ref i2))(JV:IsPair s.heap TO a b)
  (h1:IsIt k1 s.heap i1 l1 i) (h2:IsIt k2 s.heap i2 l2 i) (g1:IsSq k1 s.heap l1 xs) (g2:IsSq k2 s.heap l2 ys) (he:xs[i]?=none\/ys[i]?=none)
  (q:∀h' e,(∀c o,c≠z->c≠TO->c≠i1->c≠i2->s.heap.get? c=some o->h'.get? c=some o)->(∃o,h'.get? e=some o/\o.cls=.type "StopIteration")->E (.ref e) {s with heap:=h'}):
  wpAny (model prog w) A (Builtin.«zip.__next__» ⟨[.ref z],[]⟩) Q E s:=by
 show wpAny _ _ (field (.ref z) 2 >>= _) _ _ _;refine Q1 (R9 hz rfl (x:=.bool false) rfl ?_);show wpAny _ _ (field (.ref z) 3 >>= _) _ _ _;refine Q1 (R9 hz rfl (x:=.ref TI) rfl (Q1 (R8 Jo rfl ?_)));show wpAny _ _ (Builtin.SmallTypes.ownedTupleIsFree (.ref z) >>= _) _ _ _;refine Q1 ?_;unfold Builtin.SmallTypes.ownedTupleIsFree;refine Q1 (R9 hz rfl (x:=.none) rfl (Q6 ?_));rw[Rb (by rfl)];refine Q1 (Vg (Q1 (R9 hz rfl (x:=.ref TO) rfl (Q1 (SK hz (by simp) fun hA zA sA=>?_)))));have zA:IsZip hA z TI TO .ellipsis:=zA;refine Q1 ?_;simp only[List.zipIdx_cons,List.zipIdx_nil,U2,List.forIn_nil];refine Q1 (Q1 (UD ?_));show wpAny _ _ (Builtin.SmallTypes.nextOf (.ref i1) >>= _) _ _ _;cases hx:xs[i]? with
 |none=>
  refine Q1 (xq hh (h1.at fun o e=>sA.extBut _ _ D.i1z e) (g1.at fun o e=>sA.extBut _ _ D.l1z e) hx fun hB e sB Gf=>?_);obtain⟨oe,ge,ce⟩:=Gf;have zB:IsZip hB z TI TO .ellipsis:=sB _ _ D.i1z.symm zA;have ne:e≠z:=fun x=>by subst x;rw[zB]at ge;cases ge;simp at ce
  exact SK zB (by simp) fun hC _ sC=>q hC e (fun c o c1 _ c3 _ x=>sC.extBut _ _ c1 (sB _ _ c3 (sA.extBut _ _ c1 x))) ⟨oe,sC.extBut _ _ ne ge,ce⟩
 |some x=>
  have hy:ys[i]?=none:=by
   rcases he with z|z
   ·rw[hx]at z;cases z
   ·exact z
  refine Q1 (oE (h1.at fun o e=>sA.extBut _ _ D.i1z e) (g1.at fun o e=>sA.extBut _ _ D.l1z e) hx fun hB iB sB=>Q6 ?_);have tB:IsPair hB TO a b:=sB.extBut _ _ D.TOi1 (sA.extBut _ _ D.TOz JV);refine Q1 (R8 tB rfl (Q1 (T5 tB fun hC tC sC=>Q1 (Tp (Q6 ?_)))));refine Q1 (Q1 (UD ?_));show wpAny _ _ (Builtin.SmallTypes.nextOf (.ref i2) >>= _) _ _ _;refine Q1 (xq hh (h2.at fun o e=>sC.extBut _ _ D.TOi2.symm (sB.extBut _ _ D.i12.symm (sA.extBut _ _ D.i2z e))) (g2.at fun o e=>sC.extBut _ _ D.l2TO (sB.extBut _ _ D.l2i1 (sA.extBut _ _ D.l2z e))) hy fun hD e sD Gf=>?_);obtain⟨oe,ge,ce⟩:=Gf;have zD:IsZip hD z TI TO .ellipsis:=sD _ _ D.i2z.symm (sC.extBut _ _ D.TOz.symm (sB.extBut _ _ D.i1z.symm zA));have ne:e≠z:=fun x=>by subst x;rw[zD]at ge;cases ge;simp at ce
  exact SK zD (by simp) fun hF _ sF=>q hF e (fun c o c1 c2 c3 c4 x=>sF.extBut _ _ c1 (sD _ _ c4 (sC.extBut _ _ c2 (sB.extBut _ _ c3 (sA.extBut _ _ c1 x))))) ⟨oe,sF.extBut _ _ ne ge,ce⟩
end
def itObj(k:Bool)(l:Addr):Obj:=match k with
 |true=>{cls:=.type "list_iterator",data:=.fields #[.ref l,.int 0 0]}
 |false=>{cls:=.type "tuple_iterator",data:=.fields #[.ref l,.int 0 0]}
theorem pA(k:Bool)(h:Heap)(l:Addr):IsIt k (h.push (itObj k l)) h.objs.size l 0:=by
 cases k with
 |true=>exact⟨_,Heap.get?_push_size _ rfl,rfl,rfl⟩
 |false=>exact⟨_,Heap.get?_push_size _ rfl,rfl,rfl⟩
abbrev zA(h:Heap)(k1:Bool)(l1:Addr):Heap:=h.push (itObj k1 l1)
abbrev zB(h:Heap)(k1 k2:Bool)(l1 l2:Addr):Heap:=(zA h k1 l1).push (itObj k2 l2)
abbrev zC(h:Heap)(k1 k2:Bool)(l1 l2:Addr):Heap:=(zB h k1 k2 l1 l2).push {cls:=.type "tuple",data:=.seq #[.ref h.objs.size,.ref (zA h k1 l1).objs.size]}
abbrev zD(h:Heap)(k1 k2:Bool)(l1 l2:Addr):Heap:=(zC h k1 k2 l1 l2).push {cls:=.type "tuple",data:=.seq #[.none,.none]}
abbrev zE(h:Heap)(k1 k2:Bool)(l1 l2:Addr):Heap:=(zD h k1 k2 l1 l2).push {cls:=.type "zip",data:=.fields #[.none,.bool false,.bool false,.ref (zB h k1 k2 l1 l2).objs.size,.ref (zC h k1 k2 l1 l2).objs.size]}
set_option maxHeartbeats 8000000 in
theorem Bk(k1 k2:Bool)(l1 l2:Addr)(xs ys:Array Value):
  Meets (Builtin.«zip.__new__» ⟨[.type "zip",.ref l1,.ref l2],[]⟩) (fun _ R s=>IsSq k1 s.heap l1 xs/\IsSq k2 s.heap l2 ys/\R (.ok (.ret (.ref (zD s.heap k1 k2 l1 l2).objs.size))) {s with heap:=zE s.heap k1 k2 l1 l2}):=
 .of_wp fun prog w A R s h=>by
  obtain⟨hp,g,d,tk,os⟩:=s;obtain⟨g1,g2,q⟩:=h;have hsub:=sub_zip;cases k1 with
  |true=>
   have e1:Heap.IsList (Shared.heap ⟨hp,g,d,tk,os⟩) l1 xs:=g1;cases k2 with
   |true=>
    have e2:Heap.IsList (Shared.heap ⟨hp.push {cls:=.type "list_iterator",data:=.fields #[.ref l1,.int 0 0]},g,d,tk,os⟩) l2 ys:=Heap.IsList.push g2 _
    wp_walk using SO e1,SO e2
    exact⟨_,rfl,q⟩
   |false=>
    have e2:Heap.IsTuple (Shared.heap ⟨hp.push {cls:=.type "list_iterator",data:=.fields #[.ref l1,.int 0 0]},g,d,tk,os⟩) l2 ys:=Heap.IsTuple.push g2 _
    wp_walk using SO e1,SI e2
    exact⟨_,rfl,q⟩
  |false=>
   have e1:Heap.IsTuple (Shared.heap ⟨hp,g,d,tk,os⟩) l1 xs:=g1;cases k2 with
   |true=>
    have e2:Heap.IsList (Shared.heap ⟨hp.push {cls:=.type "tuple_iterator",data:=.fields #[.ref l1,.int 0 0]},g,d,tk,os⟩) l2 ys:=Heap.IsList.push g2 _
    wp_walk using SI e1,SO e2
    exact⟨_,rfl,q⟩
   |false=>
    have e2:Heap.IsTuple (Shared.heap ⟨hp.push {cls:=.type "tuple_iterator",data:=.fields #[.ref l1,.int 0 0]},g,d,tk,os⟩) l2 ys:=Heap.IsTuple.push g2 _
    wp_walk using SI e1,SI e2
    exact⟨_,rfl,q⟩
def ZS(k1 k2:Bool)(z TI TO i1 i2 l1 l2:Addr)(i:Nat)(h:Heap):Prop:=IsZip h z TI TO .none/\IsPair h TI (.ref i1) (.ref i2)/\(∃a b,IsPair h TO a b)/\IsIt k1 h i1 l1 i/\IsIt k2 h i2 l2 i
theorem yE{prog:Program}{w:World}{A:Around}{E:Value->Shared->Prop}{s:Shared}{k1 k2:Bool}{l1 l2:Addr}{xs ys:Array Value}{Q:Value->Shared->Prop}(g1:IsSq k1 s.heap l1 xs)(g2:IsSq k2 s.heap l2 ys)
  (q:∀h',ZS k1 k2 (s.heap.objs.size+4) (s.heap.objs.size+2) (s.heap.objs.size+3) s.heap.objs.size (s.heap.objs.size+1) l1 l2 0 h'->(∀c o,s.heap.get? c=some o->h'.get? c=some o)->Q (.ref (s.heap.objs.size+4)) {s with heap:=h'}):
  wpAny (model prog w) A (call (.type "zip") [.ref l1,.ref l2]) Q E s:=by
 refine callType_new F.called_zip (by decide) (F.typeCall_zip_2 _ _) (F.newCall_zip_2 _ _) (fun obj=>F.args_object_init_3 obj _ _) F.entry_zip_new (Bk k1 k2 l1 l2 xs ys) ⟨g1,g2,?_⟩;have nA:(zA s.heap k1 l1).objs.size=s.heap.objs.size+1:=S5 ..;have nB:(zB s.heap k1 k2 l1 l2).objs.size=s.heap.objs.size+2:=by rw[S5,nA]
 have nC:(zC s.heap k1 k2 l1 l2).objs.size=s.heap.objs.size+3:=by rw[S5,nB]
 have nD:(zD s.heap k1 k2 l1 l2).objs.size=s.heap.objs.size+4:=by rw[S5,nC]
 have pu:∀{h:Heap}{o:Obj}{c:Addr}{v:Obj},h.get? c=some v->(h.push o).get? c=some v:=fun e=>Heap.get?_push_of_some _ e
 have gz:(zE s.heap k1 k2 l1 l2).get? (zD s.heap k1 k2 l1 l2).objs.size=some _:=Heap.get?_push_size _ rfl;have go:(zE s.heap k1 k2 l1 l2).get? (zC s.heap k1 k2 l1 l2).objs.size=some _:=pu (Heap.get?_push_size _ rfl);have gi:(zE s.heap k1 k2 l1 l2).get? (zB s.heap k1 k2 l1 l2).objs.size=some _:=pu (pu (Heap.get?_push_size _ rfl));have j2:IsIt k2 (zE s.heap k1 k2 l1 l2) (zA s.heap k1 l1).objs.size l2 0:=(pA k2 (zA s.heap k1 l1) l2).at fun o e=>pu (pu (pu e))
 have j1:IsIt k1 (zE s.heap k1 k2 l1 l2) s.heap.objs.size l1 0:=(pA k1 s.heap l1).at fun o e=>pu (pu (pu (pu e)))
 show _/\_;rw[nB,nC,nD]at gz;rw[nA,nB]at gi;rw[nC]at go;rw[nA]at j2;rw[nD];exact⟨⟨_,gz,rfl⟩,q _ ⟨gz,gi,⟨_,_,go⟩,j1,j2⟩ fun c o x=>pu (pu (pu (pu (pu x))))⟩
noncomputable def Pd(K:W.Frag)(k1 k2:Bool)(a b:Addr):It:=
 ⟨fun i H=>∃xs ys x y,(if k1 then SqL K H a xs else SqT K H a xs)/\(if k2 then SqL K H b ys else SqT K H b ys)/\xs[i]?=some x/\ys[i]?=some y,
  fun i H v H'=>∃T,H T=none/\v=.ref T/\∀xs ys x y,(if k1 then SqL K H a xs else SqT K H a xs)->(if k2 then SqL K H b ys else SqT K H b ys)->xs[i]?=some x->ys[i]?=some y->H'=upd H T (.tup [x,y]),
  fun i H=>∃xs ys,(if k1 then SqL K H a xs else SqT K H a xs)/\(if k2 then SqL K H b ys else SqT K H b ys)/\i=min xs.length ys.length⟩
section
variable{X:Cx}{pr:List (Addr×Obj)}{σ:L2.St}{H:Hp}{s:Shared}
theorem qJ(I:Inv X pr σ H s){k:Bool}{a:Addr}{xs:List V}(h:if k then SqL X.K H a xs else SqT X.K H a xs):∃us:List Value,Vals xs us/\IsSq k s.heap a us.toArray:=by
 cases k with
 |true=>
  obtain⟨us,r,p,_⟩:=I.list (show SqL X.K H a xs from h);exact⟨us,r,p.isList⟩
 |false=>
  obtain⟨us,r,p,_⟩:=I.tuple (show SqT X.K H a xs from h);exact⟨us,r,(show s.heap.IsTuple a us.toArray from p)⟩
theorem xr(I:Inv X pr σ H s){k:Bool}{a:Addr}{xs ys:List V}(h:if k then SqL X.K H a xs else SqT X.K H a xs)(h':if k then SqL X.K H a ys else SqT X.K H a ys):xs=ys:=by
 cases k with
 |true=>exact I.list_inj (show SqL X.K H a xs from h) (show SqL X.K H a ys from h')
 |false=>exact I.tuple_inj (show SqT X.K H a xs from h) (show SqT X.K H a ys from h')
theorem gc(I:Inv X pr σ H s){k:Bool}{a b:Addr}{xs:List V}(h:if k then SqL X.K H a xs else SqT X.K H a xs)(f:rH X pr H b):a≠b:=by
 rintro rfl;obtain⟨f0,_,_,f3,_⟩:=f;have nb:∀o,X.K.lookup a=some o->False:=fun o hk=>by
  have e:=I.ok.mod.kin a o hk;rcases f3 with z|z
  ·exact I.ok.noex a o e z
  ·exact absurd (Rj (Rf e) (RB I.ok.bsz z)) (SW _)
 cases k with
 |true=>
  rcases(show SqL X.K H a xs from h) with(h|⟨o,h⟩)|⟨o,F1,n,hk,_⟩
  ·rw[f0]at h;cases h
  ·rw[f0]at h;cases h
  ·exact nb o hk
 |false=>
  rcases(show SqT X.K H a xs from h) with(h|⟨o,h⟩)|⟨o,F1,n,hk,_⟩
  ·rw[f0]at h;cases h
  ·rw[f0]at h;cases h
  ·exact nb o hk
end
theorem nx_zip_item{prog:Program}{w:World}{A:Around}{E:Value->Shared->Prop}{s:Shared}{k1 k2:Bool}{z TI TO i1 i2 l1 l2:Addr}{i:Nat}{xs ys:Array Value}{x y:Value}{Q:Option Value->Shared->Prop}(D:ZipApart z TI TO i1 i2 l1 l2)(st:ZS k1 k2 z TI TO i1 i2 l1 l2 i s.heap)
  (g1:IsSq k1 s.heap l1 xs) (g2:IsSq k2 s.heap l2 ys) (hx:xs[i]?=some x) (hy:ys[i]?=some y)
  (q:∀h',IsZip h' z TI TO (rawInt s.heap.objs.size)->IsPair h' TO x y->IsIt k1 h' i1 l1 (i+1)->IsIt k2 h' i2 l2 (i+1)->IsPair h' s.heap.objs.size x y->
   (∀c o,c≠z->c≠TO->c≠i1->c≠i2->s.heap.get? c=some o->h'.get? c=some o)->Q (some (.ref s.heap.objs.size)) {s with heap:=h'}):wpAny (model prog w) A (pyNext (.ref z)) Q E s:=by
 obtain⟨hz,Jo,⟨a,b,JV⟩,h1,h2⟩:=st;have ty:s.TypeIs (.ref z) "zip":=⟨_,hz,rfl⟩
 unfold pyNext;exact Q1 (UE (wpAny_callSpecial?_slot (name:=Str.ofString "__next__") ty Uh (RY Uh ty F.entry_zip_next (yD D hz Jo JV h1 h2 g1 g2 hx hy fun h' a1 a2 a3 a4 a5 a6=>Q6 (q h' a1 a2 a3 a4 a5 a6)) (F.args_zip_next_1 _))))
theorem qK{prog:Program}{w:World}{A:Around}{E:Value->Shared->Prop}{s:Shared}{k1 k2:Bool}{z TI TO i1 i2 l1 l2:Addr}{i:Nat}{xs ys:Array Value}{Q:Option Value->Shared->Prop}(hh:A.handled=none)(D:ZipApart z TI TO i1 i2 l1 l2)(st:ZS k1 k2 z TI TO i1 i2 l1 l2 i s.heap)
  (g1:IsSq k1 s.heap l1 xs) (g2:IsSq k2 s.heap l2 ys) (he:xs[i]?=none\/ys[i]?=none) (q:∀h',(∀c o,c≠z->c≠TO->c≠i1->c≠i2->s.heap.get? c=some o->h'.get? c=some o)->Q none {s with heap:=h'}):wpAny (model prog w) A (pyNext (.ref z)) Q E s:=by
 obtain⟨hz,Jo,⟨a,b,JV⟩,h1,h2⟩:=st;have ty:s.TypeIs (.ref z) "zip":=⟨_,hz,rfl⟩
 unfold pyNext;refine Q1 (UE (wpAny_callSpecial?_slot (name:=Str.ofString "__next__") ty Uh (RY Uh ty F.entry_zip_next (Bj hh D hz Jo JV h1 h2 g1 g2 he fun h' e kk ⟨o,ho,oc⟩=>?_) (F.args_zip_next_1 _))));exact Q1 (wpAny_isInstance (T:="StopIteration") (b:=true) ⟨o,ho,oc⟩ isSubtype_stop (Q6 (q _ kk)))
theorem vN{P:Program}{w:World}{K:W.Frag}{es:List Expr}{kt:Nat}{pt:Pos}(k1 k2:Bool)(a b z TI TO i1 i2:Addr)(ne:z≠TI/\z≠TO/\z≠i1/\z≠i2/\TI≠TO/\TI≠i1/\TI≠i2/\TO≠i1/\TO≠i2/\i1≠i2):
  Turn P w K (.Tuple es kt pt) (Pd K k1 k2 a b) [z,TI,TO,i1,i2] z (ZS k1 k2 z TI TO i1 i2 a b) where
 mem:=by simp
 obj:=fun i h st c hc=>by
  obtain⟨hz,Jo,⟨x,y,JV⟩,h1,h2⟩:=st;simp only[Ri,Se,Wl]at hc;rcases hc with rfl|rfl|rfl|rfl|rfl
  ·exact⟨_,hz,fun v q=>by cases q⟩
  ·exact⟨_,Jo,fun v q=>by cases q⟩
  ·exact⟨_,JV,fun v q=>by cases q⟩
  ·exact h1.obj
  ·exact h2.obj
 keep:=fun i h h' st k=>by
  obtain⟨hz,Jo,⟨x,y,JV⟩,h1,h2⟩:=st;exact⟨k z (by simp) _ hz,k TI (by simp) _ Jo,⟨x,y,k TO (by simp) _ JV⟩,h1.at fun o e=>k i1 (by simp) o e,h2.at fun o e=>k i2 (by simp) o e⟩
 item:=by
  intro X hP hw hK hc i pr s σ H E I hf st hg;subst hP hw hK;obtain⟨xs,ys,x,y,s1,s2,hx,hy⟩:=hg;obtain⟨us,r1,q1⟩:=qJ I s1;obtain⟨ws,r2,q2⟩:=qJ I s2;obtain⟨u,hu,ru⟩:=r1.get hx;obtain⟨v,hv,rv⟩:=r2.get hy;obtain⟨n1,n2,n3,n4,n5,n6,n7,n8,n9,Pe⟩:=ne;have f:=fun c hc=>hf c hc
  have D:ZipApart z TI TO i1 i2 a b:=⟨n1.symm,n2.symm,n3.symm,n4.symm,n5,n6,n7,n8,n9,Pe,gc I s1 (f z (by simp)),gc I s1 (f TO (by simp)),gc I s1 (f i1 (by simp)),gc I s1 (f i2 (by simp)),
   gc I s2 (f z (by simp)),gc I s2 (f TO (by simp)),gc I s2 (f i1 (by simp)),gc I s2 (f i2 (by simp))⟩
  have Jo:=st.2.1;refine nx_zip_item D st q1 q2 (by simpa using hu) (by simpa using hv) fun h' z1 t1 j1 j2 tp kk=>⟨_,rfl,?_⟩
  refine wpAny_letOwnedTupleGo_zip z1 fun h2 z2 sb=>?_
  have nT:H s.heap.objs.size=none:=I.hok.fresh (Q8 _);have tT:s.heap.objs.size≠z:=VX (Rf st.1);have all:∀c o,c≠z->c≠TO->c≠i1->c≠i2->s.heap.get? c=some o->h2.get? c=some o:=fun c o c1 c2 c3 c4 e=>(sb.2 c c1).trans (kk c o c1 c2 c3 c4 e)
  have fz:=f z (by simp);have fo:=f TO (by simp);have f1:=f i1 (by simp);have f2:=f i2 (by simp);have L6:∀c ob,H c=some ob->c≠z/\c≠TO/\c≠i1/\c≠i2:=fun c ob e=>⟨(fun q=>by rw[q,fz.1]at e;cases e),(fun q=>by rw[q,fo.1]at e;cases e),(fun q=>by rw[q,f1.1]at e;cases e),(fun q=>by rw[q,f2.1]at e;cases e)⟩
  refine⟨.ref s.heap.objs.size,upd H s.heap.objs.size (.tup [x,y]),?_,rfl,⟨_,nT,rfl,fun Hq ys' x' y' a1 a2 a3 a4=>?_⟩,⟨z2,?_,⟨u,v,(sb.2 TO n2.symm).trans t1⟩,j1.at fun o e=>(sb.2 i1 n3.symm).trans e,j2.at fun o e=>(sb.2 i2 n4.symm).trans e⟩,fun c hc=>?_⟩
  ·have tup2:h2.get? s.heap.objs.size=some {cls:=.type "tuple",data:=.seq #[u,v]}:=(sb.2 _ tT).trans tp;have S0:Inv X pr σ (upd H s.heap.objs.size (.tup [x,y])) {s with heap:=h2,gens:=s.gens,drawn:=s.drawn,toks:=s.toks}:=by
    refine I.step (ch:=[z,TO,i1,i2]) (fun c hc=>?_) (fun c o _ _ nc e _=>all c o (fun q=>nc (by simp[q])) (fun q=>nc (by simp[q])) (fun q=>nc (by simp[q])) (fun q=>nc (by simp[q])) e)
     (fun c o _ _ nc e _=>⟨o.slots,all c o (fun q=>nc (by simp[q])) (fun q=>nc (by simp[q])) (fun q=>nc (by simp[q])) (fun q=>nc (by simp[q])) e⟩) (fun c o _ e n=>by rw[av (Rp (Rf e))];exact n)
     (fun c o nc e=>⟨o,all c o (fun q=>nc (by simp[q])) (fun q=>nc (by simp[q])) (fun q=>nc (by simp[q])) (fun q=>nc (by simp[q])) e⟩) (fun c l e=>by rw[av (aT e nT)];exact e) (fun c o u' e=>by rw[av (aT e nT)];exact e)
     (fun c ps e=>⟨#[],by rw[av (aT e nT),e];simp⟩) (fun m hm=>?_) (fun c ob e=>?_) I.bare
    ·simp only[Ri,Se,Wl]at hc;rcases hc with rfl|rfl|rfl|rfl
     ·exact⟨fz.2.2.2.1,fz.2.1,fz.2.2.2.2.1,fz.2.2.2.2.2⟩
     ·exact⟨fo.2.2.2.1,fo.2.1,fo.2.2.2.2.1,fo.2.2.2.2.2⟩
     ·exact⟨f1.2.2.2.1,f1.2.1,f1.2.2.2.2.1,f1.2.2.2.2.2⟩
     ·exact⟨f2.2.2.2.1,f2.2.1,f2.2.2.2.2.1,f2.2.2.2.2.2⟩
    ·obtain⟨o,es,ep,ho,r⟩:=hm;exact⟨o,es,ep,all _ o (SE fz.2.1) (SE fo.2.1) (SE f1.2.1) (SE f2.2.1) ho,r⟩
    ·by_cases ec:c=s.heap.objs.size
     ·subst ec;rw[aM]at e;cases e;exact⟨by simp only[Rk,Sa];rw[R0];decide,[u,v],.cons ru (.cons rv .nil),⟨_,tup2,rfl,⟨0,rfl⟩,rfl⟩⟩
     ·rw[av ec]at e;refine(I.hok c ob e).stay (fun d w' hd q=>?_) (fun d q=>by rw[av (aT q nT)];exact q) fun d l q=>by rw[av (aT q nT)];exact q
      have Nd:∃oo,H d=some oo:=by
       rcases hd with rfl|hd
       ·exact⟨_,e⟩
       ·exact⟨_,hd⟩
      obtain⟨oo,Pf⟩:=Nd;obtain⟨m1,m2,m3,m4⟩:=L6 d oo Pf;exact all d w' m1 m2 m3 m4 q
   exact S0
  ·have e1:=xr I a1 s1;have e2:=xr I a2 s2;subst e1 e2;rw[hx]at a3;rw[hy]at a4;cases a3;cases a4;rfl
  ·exact(sb.2 TI n1.symm).trans (kk TI _ n1.symm n5 n6 n7 Jo)
  ·have OB:=(f c hc).1;have cs:c≠s.heap.objs.size:=by
    have:=(fun i h st=>by
     exact(by
      obtain⟨hz,Jo,⟨x,y,JV⟩,h1,h2⟩:=st;simp only[Ri,Se,Wl]at hc;rcases hc with rfl|rfl|rfl|rfl|rfl
      ·exact⟨_,hz⟩
      ·exact⟨_,Jo⟩
      ·exact⟨_,JV⟩
      ·obtain⟨o,e,_⟩:=h1.obj;exact⟨o,e⟩
      ·obtain⟨o,e,_⟩:=h2.obj;exact⟨o,e⟩:∃o,h.get? c=some o):∀i h,ZS k1 k2 z TI TO i1 i2 a b i h->∃o,h.get? c=some o) i s.heap st
    obtain⟨o,e⟩:=this;exact Rp (Rf e)
   rw[av cs];exact OB
 done:=by
  intro X hP hw hK hc i pr s σ H E I hf st hg;subst hP hw hK;obtain⟨xs,ys,s1,s2,hi⟩:=hg;obtain⟨us,r1,q1⟩:=qJ I s1;obtain⟨ws,r2,q2⟩:=qJ I s2;have l1:=r1.length;have l2:=r2.length;obtain⟨n1,n2,n3,n4,n5,n6,n7,n8,n9,Pe⟩:=ne;have f:=fun c hc=>hf c hc
  have D:ZipApart z TI TO i1 i2 a b:=⟨n1.symm,n2.symm,n3.symm,n4.symm,n5,n6,n7,n8,n9,Pe,gc I s1 (f z (by simp)),gc I s1 (f TO (by simp)),gc I s1 (f i1 (by simp)),gc I s1 (f i2 (by simp)),
   gc I s2 (f z (by simp)),gc I s2 (f TO (by simp)),gc I s2 (f i1 (by simp)),gc I s2 (f i2 (by simp))⟩
  have fz:=f z (by simp);have fo:=f TO (by simp);have f1:=f i1 (by simp);have f2:=f i2 (by simp);refine qK (I.ok.hd hc) D st q1 q2 (by
   rcases Nat.le_total us.length ws.length with q|q
   ·exact .inl (by simp;lia)
   ·exact .inr (by simp;lia)) fun h' kk=>⟨rfl,?_⟩
  have L6:∀c ob,H c=some ob->c≠z/\c≠TO/\c≠i1/\c≠i2:=fun c ob e=>⟨(fun q=>by rw[q,fz.1]at e;cases e),(fun q=>by rw[q,fo.1]at e;cases e),(fun q=>by rw[q,f1.1]at e;cases e),(fun q=>by rw[q,f2.1]at e;cases e)⟩
  have S0:Inv X pr σ H {s with heap:=h',gens:=s.gens,drawn:=s.drawn,toks:=s.toks}:=by
   refine I.step (ch:=[z,TO,i1,i2]) (fun c hc=>?_) (fun c o _ _ nc e _=>kk c o (fun q=>nc (by simp[q])) (fun q=>nc (by simp[q])) (fun q=>nc (by simp[q])) (fun q=>nc (by simp[q])) e)
    (fun c o _ _ nc e _=>⟨o.slots,kk c o (fun q=>nc (by simp[q])) (fun q=>nc (by simp[q])) (fun q=>nc (by simp[q])) (fun q=>nc (by simp[q])) e⟩) (fun c o _ e n=>n)
    (fun c o nc e=>⟨o,kk c o (fun q=>nc (by simp[q])) (fun q=>nc (by simp[q])) (fun q=>nc (by simp[q])) (fun q=>nc (by simp[q])) e⟩) (fun c l e=>e) (fun c o u' e=>e)
    (fun c ps e=>⟨#[],by rw[e];simp⟩) (fun m hm=>?_) (fun c ob e=>?_) I.bare
   ·simp only[Ri,Se,Wl]at hc;rcases hc with rfl|rfl|rfl|rfl
    ·exact⟨fz.2.2.2.1,fz.2.1,fz.2.2.2.2.1,fz.2.2.2.2.2⟩
    ·exact⟨fo.2.2.2.1,fo.2.1,fo.2.2.2.2.1,fo.2.2.2.2.2⟩
    ·exact⟨f1.2.2.2.1,f1.2.1,f1.2.2.2.2.1,f1.2.2.2.2.2⟩
    ·exact⟨f2.2.2.2.1,f2.2.1,f2.2.2.2.2.1,f2.2.2.2.2.2⟩
   ·obtain⟨o,es,ep,ho,r⟩:=hm;exact⟨o,es,ep,kk _ o (SE fz.2.1) (SE fo.2.1) (SE f1.2.1) (SE f2.2.1) ho,r⟩
   ·refine(I.hok c ob e).stay (fun d w' hd q=>?_) (fun d q=>q) fun d l q=>q
    have Nd:∃oo,H d=some oo:=by
     rcases hd with rfl|hd
     ·exact⟨_,e⟩
     ·exact⟨_,hd⟩
    obtain⟨oo,Pf⟩:=Nd;obtain⟨m1,m2,m3,m4⟩:=L6 d oo Pf;exact kk d w' m1 m2 m3 m4 q
  exact S0
 self:=fun _ _ _ _ _ st h=>wpAny_pyIter_zip st.1 h
section
variable{X:Cx}{es:List Expr}{kt:Nat}{pt:Pos}
def Fi(K:W.Frag)(k1 k2:Bool)(ta:TA):TI:=fun σ H R=>ta σ H fun vs H1=>∃a b xs ys,vs=[.ref a,.ref b]/\(if k1 then SqL K H1 a xs else SqT K H1 a xs)/\(if k2 then SqL K H1 b ys else SqT K H1 b ys)/\R (Pd K k1 k2 a b) H1
theorem Bl(k1 k2:Bool){e1 e2:Expr}{ta:TA}{p pos:Pos}(hg:Gl X "zip")(hm:X.mg "zip" = none)(ha:PA X [e1,e2] ta)(he:starEach [e1,e2] X.env=(false,eval e1 X.env)::starEach [e2] X.env:=by rfl)(Hy:(backTo pos (starEach [e2] X.env)).any (·.1)=false:=by rfl):
  PI X (.Tuple es kt pt) (.Call (.Name "zip" p) [e1,e2] [] pos) (Fi X.K k1 k2 ta):=by
 intro pr s σ H R I h;refine S6 (kC I hg hm (by decide +kernel:bootBuiltins "zip" = some (.type "zip")) ?_ (by decide) (by decide));refine S9 (Ge (ha pos pr s σ H _ I h) fun us s1 ⟨vs,H1,I1,r1,a,b,xs,ys,e,s1',s2',q⟩=>?_) he Hy;subst e;obtain⟨u,w',rfl,ra,rb⟩:=yg r1;cases ra;cases rb;obtain⟨us,v1,q1⟩:=qJ I1 s1';obtain⟨ws,v2,q2⟩:=qJ I1 s2';refine yE q1 q2 fun h' st kk=>?_
 refine wpAny_pyIter_zip st.1 ?_;have fr:∀j,rH X pr H1 (s1.heap.objs.size+j):=fun j=>I1.fpOk (Nat.le_add_right _ _) (I1.hok.fresh (Nat.le_add_right _ _))
 have nn:∀i j:Nat,i≠j->s1.heap.objs.size+i≠s1.heap.objs.size+j:=fun i j h z=>h (Nat.add_left_cancel z)
 refine⟨_,_,_,_,H1,rfl,I1.kept (t':=s1.toks) kk,vN k1 k2 a b (s1.heap.objs.size+4) (s1.heap.objs.size+2) (s1.heap.objs.size+3) (s1.heap.objs.size+0) (s1.heap.objs.size+1)
  ⟨nn 4 2 (by decide),nn 4 3 (by decide),nn 4 0 (by decide),nn 4 1 (by decide),nn 2 3 (by decide),nn 2 0 (by decide),nn 2 1 (by decide),nn 3 0 (by decide),nn 3 1 (by decide),nn 0 1 (by decide)⟩,st,fun c hc=>?_,q⟩
 simp only[Ri,Se,Wl]at hc;rcases hc with rfl|rfl|rfl|rfl|rfl
 ·exact fr 4
 ·exact fr 2
 ·exact fr 3
 ·exact fr 0
 ·exact fr 1
end
end NX
namespace NX
open PySem PySem.W PyProof.Rows
section
variable{n:Nat}{O:KeyOrd}{κ:Nat->O.α}{cmp:Nat->Nat->(Bool->Shared->Prop)->Shared->Prop}{Good:Shared->Prop}
def kk(κ:Nat->O.α)(p:Array Nat)(i:Nat):O.α:=κ (p.getD i 0)
structure POk(n:Nat)(p:Array Nat):Prop where
 perm:p.toList.Perm (List.range n)
theorem POk.size{p:Array Nat}(h:POk n p):p.size=n:=by
 have:=h.perm.length_eq;simpa using this
theorem POk.lt{p:Array Nat}(h:POk n p){i:Nat}(hi:i<n):p.getD i 0<n:=by
 have hs:=h.size;have KP:i<p.size:=by lia
 have e:p.getD i 0=p[i]:=by simp[Array.getD,KP]
 rw[e];exact RL.mp (h.perm.mem_iff.mp (Array.getElem_mem_toList KP))
theorem POk.of{p q:Array Nat}(h:POk n p)(hq:q.Perm p):POk n q:=⟨(Array.perm_iff_toList_perm.mp hq).trans h.perm⟩
def aX(κ:Nat->O.α)(p:Array Nat)(m:Nat):Prop:=∀i j,i<=j->j<m->O.kle (kk κ p i) (kk κ p j)
def eh(κ:Nat->O.α)(p:Array Nat)(m:Nat):Prop:=∀i j,i<=j->j<m->O.kle (kk κ p j) (kk κ p i)
theorem dX{p q:Array Nat}{i j:Nat}(h:p[i]?=q[j]?):p.getD i 0=q.getD j 0:=by
 rw[Ui,Ui,h]
theorem pB{p:Array Nat}{i j:Nat}(hj:j<=p.size)(k:Nat):kk κ (kas_rev p i j) k=if i<=k/\k<j then kk κ p (i+j-1-k) else kk κ p k:=by
 have e:=getElem?_mirror_all (i:=i) hj k;unfold kk kas_rev;split
 ·rename_i h;rw[Rb h]at e;rw[dX e]
 ·rename_i h;rw[Rg h]at e;rw[dX e]
theorem xt{p:Array Nat}{src d:Nat}(hs:src<p.size)(hd:d<=src)(k:Nat):kk κ (bubble p src d) k=if k=src-d then kk κ p src else if src-d<k/\k<=src then kk κ p (k-1) else kk κ p k:=by
 have e:=getElem?_bubble hs d hd k;by_cases h:k=src-d
 ·rw[Rb h]at e ⊢;exact R7 κ (dX e)
 ·rw[Rg h]at e ⊢;by_cases h2:src-d<k/\k<=src
  ·rw[Rb h2]at e ⊢;exact R7 κ (dX e)
  ·rw[Rg h2]at e ⊢;exact R7 κ (dX e)
theorem POk.rev{p:Array Nat}(h:POk n p)(i j:Nat):POk n (kas_rev p i j):=h.of (mirror_perm _ _ _ _)
theorem POk.bub{p:Array Nat}(h:POk n p)(i j:Nat):POk n (bubble p i j):=h.of (bubble_perm _ _ _)
theorem qL(p:Array Nat):aX κ p 1:=fun i j a b=>by
 have e:i=j:=by lia
 rw[e];exact Sz _
theorem oF{p:Array Nat}{m:Nat}(h1:1<=m)(h:aX κ p m)(hm:O.kle (kk κ p (m-1)) (kk κ p m)):aX κ p (m+1):=by
 intro i j KQ hj;by_cases e:j=m
 ·subst e;by_cases e2:i=j
  ·subst e2;exact Sz _
  ·exact TZ (h i (j-1) (by lia) (by lia)) hm
 ·exact h i j KQ (by lia)
theorem dY{p:Array Nat}{m:Nat}(h1:1<=m)(h:eh κ p m)(hm:O.kle (kk κ p m) (kk κ p (m-1))):eh κ p (m+1):=by
 intro i j KQ hj;by_cases e:j=m
 ·subst e;by_cases e2:i=j
  ·subst e2;exact Sz _
  ·exact TZ hm (h i (j-1) (by lia) (by lia))
 ·exact h i j KQ (by lia)
variable(hc:∀i j,i<n->j<n->∀(Q:Bool->Shared->Prop) s,Good s->(∀s',Good s'->Q (O.blt (κ i) (κ j)) s')->cmp i j Q s)
include hc
theorem sy{p:Array Nat}(hp:POk n p){GA:Nat}(hn:GA<=n){Q:Nat->Shared->Prop}:∀(f m:Nat) (s:Shared),Good s->1<=m->m+f=GA->aX κ p m->
  (∀r s',Good s'->m<=r->r<=GA->aX κ p r->(r<GA->O.klt (kk κ p r) (kk κ p (r-1)))->Q r s')->(kas_asc p f m).kasWp cmp Q s
 | 0,m,s,g,h1,hf,hs,k=>k m s g (Q8 _) (by lia) hs (fun z=>by lia)
 |f+1,m,s,g,h1,hf,hs,k=>by
  show cmp (p.getD m 0) (p.getD (m-1) 0) _ s;refine hc _ _ (hp.lt (by lia)) (hp.lt (by lia)) _ s g fun s' g'=>?_
  cases e:O.blt (κ (p.getD m 0)) (κ (p.getD (m-1) 0)) with
  |true=>
   (try dsimp only)
   rw[Rb rfl];exact k m s' g' (Q8 _) (by lia) hs fun _=>e
  |false=>
   (try dsimp only)
   rw[Rg Rc];exact sy hp hn f (m+1) s' g' (by lia) (by lia) (oF h1 hs e) fun r s2 g2 a b c d=>k r s2 g2 (by lia) b c d
def yF(κ:Nat->O.α)(p:Array Nat)(m q:Nat):Prop:=∀k,m-(q+1)<=k->k<m->kk κ p k=kk κ p (m-1)
omit hc in
theorem mM{p:Array Nat}{m q:Nat}(hm:m<=p.size)(h:yF κ p m q)(k:Nat):kk κ (kas_rev p (m-(q+1)) m) k=kk κ p k:=by
 rw[pB hm];split
 ·rename_i hk;rw[h _ (by lia) (by lia),h k hk.1 hk.2]
 ·rfl
omit hc in
theorem iG{p p':Array Nat}{m:Nat}(e:∀k,kk κ p' k=kk κ p k)(h:eh κ p m):eh κ p' m:=fun i j a b=>by rw[e,e];exact h i j a b
theorem lA{GA:Nat}(hn:GA<=n){Q:Array Nat×Nat×Nat->Shared->Prop}:∀(f:Nat) (p:Array Nat) (m q:Nat) (s:Shared),POk n p->Good s->1<=m->q+1<=m->m+f=GA->eh κ p m->yF κ p m q->
  (∀p' m' q' s',POk n p'->Good s'->m<=m'->m'<=GA->q'+1<=m'->eh κ p' m'->yF κ p' m' q'->Q (p',m',q') s')->(kas_desc f p m q).kasWp cmp Q s
 | 0,p,m,q,s,hp,g,h1,hq,hf,hs,ha,k=>k p m q s hp g (Q8 _) (by lia) hq hs ha
 |f+1,p,m,q,s,hp,g,h1,hq,hf,hs,ha,k=>by
  show cmp (p.getD m 0) (p.getD (m-1) 0) _ s;refine hc _ _ (hp.lt (by lia)) (hp.lt (by lia)) _ s g fun s' g'=>?_
  have hsz:=hp.size;cases e:O.blt (κ (p.getD m 0)) (κ (p.getD (m-1) 0)) with
  |true=>
   (try dsimp only)
   rw[Rb rfl];have le:O.kle (kk κ p m) (kk κ p (m-1)):=TN e;by_cases h0:q>0
   ·rw[Rb h0];have same:=mM (κ:=κ) (p:=p) (m:=m) (q:=q) (by lia) ha;refine lA hn f _ (m+1) 0 s' (hp.rev _ _) g' (by lia) (by lia) (by lia) (dY h1 (iG same hs) (by rw[same,same];exact le)) ?_ fun p' m' q' s2 a b c d e' f' g2=>k p' m' q' s2 a b (by lia) d e' f' g2
    intro k' a b;have:k'=m:=by lia
    rw[this];rfl
   ·rw[Rg h0];refine lA hn f p (m+1) 0 s' hp g' (by lia) (by lia) (by lia) (dY h1 hs le) ?_ fun p' m' q' s2 a b c d e' f' g2=>k p' m' q' s2 a b (by lia) d e' f' g2
    intro k' a b;have:k'=m:=by lia
    rw[this];rfl
  |false=>
   (try dsimp only)
   rw[Rg Rc];show cmp (p.getD (m-1) 0) (p.getD m 0) _ s';refine hc _ _ (hp.lt (by lia)) (hp.lt (by lia)) _ s' g' fun s2 g2=>?_
   cases e2:O.blt (κ (p.getD (m-1) 0)) (κ (p.getD m 0)) with
   |true=>
    (try dsimp only)
    rw[Rb rfl];exact k p m q s2 hp g2 (Q8 _) (by lia) hq hs ha
   |false=>
    (try dsimp only)
    rw[Rg Rc];have eq:kk κ p (m-1)=kk κ p m:=KeyOrd.kle_antisymm (O:=O) e e2;refine lA hn f p (m+1) (q+1) s2 hp g2 (by lia) (by lia) (by lia) (dY h1 hs (by rw[eq];exact Sz _)) ?_ fun p' m' q' s3 a b c d e' f' g3=>k p' m' q' s3 a b (by lia) d e' f' g3
    intro k' a b;show kk κ p k'=kk κ p m;by_cases z:k'=m
    ·rw[z]
    ·rw[ha k' (by lia) (by lia),eq]
omit hc in
theorem qM{p:Array Nat}{m:Nat}(hm:m<=p.size)(h:eh κ p m):aX κ (kas_rev p 0 m) m:=by
 intro i j a b;rw[pB hm,pB hm,Rb (by lia),Rb (by lia)];exact h _ _ (by lia) (by lia)
theorem sH{p:Array Nat}(hp:POk n p){m GA:Nat}(hn:GA<=n)(h1:1<=m)(hm:m<=GA)(hs:eh κ p m){Q:Nat×Array Nat->Shared->Prop}{s:Shared}(g:Good s)
  (k:∀r p' s',POk n p'->Good s'->1<=r->r<=GA->aX κ p' r->Q (r,p') s'):(kas_tail3 m GA p).kasWp cmp Q s:=by
 unfold kas_tail3;rw[KasT.kasWp_bind];have hsz:=hp.size;refine sy hc (hp.rev 0 m) hn (GA-m) m s g h1 (by lia) (qM (by lia) hs) fun r s' g' a b c _=>?_
 exact k r _ s' (hp.rev 0 m) g' (by lia) b c
theorem jB{p:Array Nat}(hp:POk n p){m GA:Nat}(hn:GA<=n)(h1:1<=m)(hm:m+1<=GA)(hs:eh κ p (m+1)){Q:Nat×Array Nat->Shared->Prop}{s:Shared}(g:Good s)
  (k:∀r p' s',POk n p'->Good s'->1<=r->r<=GA->aX κ p' r->Q (r,p') s'):(kas_descPart m GA p).kasWp cmp Q s:=by
 unfold kas_descPart;rw[KasT.kasWp_bind];refine lA hc hn (GA-(m+1)) p (m+1) 0 s hp g (by lia) (by lia) (by lia) hs ?_ fun p' m' q' s' a b c d e f g2=>?_
 ·intro k' a b;have:k'=m:=by lia
  rw[this];rfl
 ·have hsz:=a.size;dsimp only;split
  ·have same:=mM (κ:=κ) (p:=p') (m:=m') (q:=q') (by lia) g2;exact sH hc (a.rev _ _) hn (by lia) d (iG same f) b k
  ·exact sH hc a hn (by lia) d f b k
theorem vO{p:Array Nat}(hp:POk n p){GA:Nat}(hn:GA<=n)(h1:1<=GA){Q:Nat×Array Nat->Shared->Prop}{s:Shared}(g:Good s)
  (k:∀r p' s',POk n p'->Good s'->1<=r->r<=GA->aX κ p' r->Q (r,p') s'):(kas_count GA p).kasWp cmp Q s:=by
 unfold kas_count;rw[KasT.kasWp_bind];have hsz:=hp.size;refine sy hc hp hn (GA-1) 1 s g (Q8 _) (by lia) (qL p) fun m s' g' a b c d=>?_
 by_cases e:m=GA
 ·rw[Rb (by simpa using e)];exact k m p s' hp g' (by lia) (by lia) c
 ·rw[Rg (by simpa using e)];have dd:=d (by lia);by_cases h2:m>1
  ·rw[Rb h2];show cmp (p.getD 0 0) (p.getD (m-1) 0) _ s';refine hc _ _ (hp.lt (by lia)) (hp.lt (by lia)) _ s' g' fun s2 g2=>?_
   cases e2:O.blt (κ (p.getD 0 0)) (κ (p.getD (m-1) 0)) with
   |true=>
    (try dsimp only)
    rw[Rb rfl];exact k m p s2 hp g2 (by lia) b c
   |false=>
    (try dsimp only)
    rw[Rg Rc];have eq:∀i,i<m->kk κ p i=kk κ p 0:=fun i hi=>by
     have x1:=c 0 i (by lia) hi;have x2:=c i (m-1) (by lia) (by lia);exact KeyOrd.kle_antisymm (O:=O) (TZ x2 e2) x1
    have same:∀i,kk κ (kas_rev p 0 m) i=kk κ p i:=fun i=>by
     rw[pB (by lia)];split
     ·rw[eq _ (by lia),eq i (by lia)]
     ·rfl
    refine jB hc (hp.rev 0 m) hn (by lia) (by lia) ?_ g2 k;refine iG same (dY (by lia) (fun i j x y=>?_) (TN dd));rw[eq i (by lia),eq j y];exact Sz _
  ·rw[Rg h2];refine jB hc hp hn (by lia) (by lia) (dY (by lia) (fun i j x y=>?_) (TN dd)) g' k;have:i=j:=by lia
   rw[this];exact Sz _
theorem lB{p:Array Nat}(hp:POk n p){t:Nat}(ht:t<n)(hs:aX κ p t){Q:Nat->Shared->Prop}:∀(f l r:Nat) (s:Shared),Good s->l<=r->r<=t->r-l<=f->(∀i,i<l->O.kle (kk κ p i) (kk κ p t))->(∀i,r<=i->i<t->O.klt (kk κ p t) (kk κ p i))->
  (∀x s',Good s'->x<=t->(∀i,i<x->O.kle (kk κ p i) (kk κ p t))->(∀i,x<=i->i<t->O.klt (kk κ p t) (kk κ p i))->Q x s')->(kas_place p t f l r).kasWp cmp Q s
 | 0,l,r,s,g,h1,h2,h3,lo,hi,k=>k l s g (by lia) lo fun i a b=>hi i (by lia) b
 |f+1,l,r,s,g,h1,h2,h3,lo,hi,k=>by
  unfold kas_place;by_cases e:l>=r
  ·rw[Rb e];exact k l s g (by lia) lo fun i a b=>hi i (by lia) b
  ·rw[Rg e];show cmp (p.getD t 0) (p.getD ((l+r) / 2) 0) _ s;refine hc _ _ (hp.lt ht) (hp.lt (by lia)) _ s g fun s' g'=>?_
   cases e2:O.blt (κ (p.getD t 0)) (κ (p.getD ((l+r) / 2) 0)) with
   |true=>
    (try dsimp only)
    rw[Rb rfl];refine lB hp ht hs f l ((l+r) / 2) s' g' (by lia) (by lia) (by lia) lo (fun i a b=>?_) k;exact KeyOrd.klt_of_klt_of_kle (O:=O) e2 (hs _ i a b)
   |false=>
    (try dsimp only)
    rw[Rg Rc];refine lB hp ht hs f ((l+r) / 2+1) r s' g' (by lia) (by lia) (by lia) (fun i a=>?_) hi k;exact TZ (O:=O) (hs i ((l+r) / 2) (by lia) (by lia)) e2
theorem xu{Q:Array Nat->Shared->Prop}:∀(f:Nat) (p:Array Nat) (t:Nat) (s:Shared),POk n p->Good s->t+f=n->aX κ p t->(∀p' s',POk n p'->Good s'->aX κ p' n->Q p' s')->(kas_bin f p t).kasWp cmp Q s
 | 0,p,t,s,hp,g,hf,hs,k=>k p s hp g (by rw[show n=t by lia];exact hs)
 |f+1,p,t,s,hp,g,hf,hs,k=>by
  unfold kas_bin;rw[KasT.kasWp_bind];have hsz:=hp.size;refine lB hc hp (by lia) hs t 0 t s g (RM _) (Q8 _) (by lia) (fun i a=>by lia) (fun i a b=>by lia) fun x s' g' hx lo hi=>?_
  refine xu f _ (t+1) s' (hp.bub _ _) g' (by lia) ?_ k;have ex:t-(t-x)=x:=by lia
  intro i j a b;rw[xt (by lia) (by lia),xt (by lia) (by lia),ex];have lo':=lo;by_cases i1:i=x
  ·by_cases j1:j=x
   ·rw[Rb i1,Rb j1];exact Sz _
   ·rw[Rb i1,Rg j1,Rb (by lia)];exact TN (hi (j-1) (by lia) (by lia))
  ·rw[Rg i1];by_cases i2:x<i/\i<=t
   ·rw[Rb i2,Rg (by lia),Rb (by lia)];exact hs (i-1) (j-1) (by lia) (by lia)
   ·rw[Rg i2];by_cases j1:j=x
    ·rw[Rb j1];exact lo i (by lia)
    ·rw[Rg j1];by_cases j2:x<j/\j<=t
     ·rw[Rb j2];exact hs i (j-1) (by lia) (by lia)
     ·rw[Rg j2];exact hs i j a (by lia)
theorem yG(h1:1<=n){Q:Array Nat->Shared->Prop}{s:Shared}(g:Good s)(k:∀p s',POk n p->Good s'->aX κ p n->Q p s'):(kas_sort n).kasWp cmp Q s:=by
 unfold kas_sort;rw[KasT.kasWp_bind];refine vO hc (p:=List.toArray (List.range n)) ⟨by simp⟩ (Q8 _) h1 g fun r p' s' hp g' a b c=>?_
 dsimp only;split
 ·have e:max r 1=r:=by lia
  rw[e];exact xu hc (n-r) p' r s' hp g' (by lia) c k
 ·exact k p' s' hp g' (by rw[show n=r by lia];exact c)
end
end NX
namespace NX
open PySem PySem.W PySem.Spec PyProof.Rows L2
section
variable{prog:Program}{w:World}{A:Around}{E:Value->Shared->Prop}{s:Shared}
theorem pC(n:Nat):POk n (List.toArray (List.range n)):=⟨by simp⟩
theorem gZ{O:KeyOrd}{key:Nat->O.α}{kd:SortKind}{a:Addr}{vs:List Value}{n:Nat}{P:PySem.Fin->Shared->Prop}(ho:s.heap.get? a=some (seqObj "list" vs.toArray n))(JW:vs.length<64)
  (Ie:2<=vs.length->∀(h':Heap),(∀b o,b≠a->s.heap.get? b=some o->h'.get? b=some o)->∀Q:SortKind->Shared->Prop,Q kd {s with heap:=h'}->wpAny (model prog w) A (keyKind' vs.toArray) Q E {s with heap:=h'})
  (Kk:∀i j,i<vs.length->j<vs.length->∀(h':Heap),(∀b o,b≠a->s.heap.get? b=some o->h'.get? b=some o)->∀C:Bool->Shared->Prop,C (O.blt (key i) (key j)) {s with heap:=h'}->kas_ask prog w A kd vs i j C {s with heap:=h'})
  (h:∀p h',POk vs.length p->aX key p vs.length->(∃e,h'.get? a=some (seqObj "list" (List.toArray (p.toList.map fun i=>vs.getD i .none)) e))->(∀b o,b≠a->s.heap.get? b=some o->h'.get? b=some o)->P (.done (.ret .none)) {s with heap:=h'}):
  wpAny (model prog w) A (Builtin.«list.sort» ⟨[.ref a],[]⟩) P E s:=by
 rw[list_sort_plain];have la:a<s.heap.objs.size:=Rf ho;have zs:vs.toArray.size=vs.length:=by simp
 refine Q1 (listItems_at ho rfl (Q1 (listUpdate_at ho rfl ?_ (by rw[zs,R0];lia) (RM _))));obtain⟨e1,h1⟩:∃e1,(s.heap.update a (Obj.mapSeq fun _=>#[])).get? a=some (seqObj "list" #[] e1):=⟨_,get?_update_seq ho (fun _=>#[])⟩
 refine Q1 (seqEpoch_at h1 rfl (Q1 (wpAny_newTuple (Q1 (VB (SJ ?_))) (by simp only[Ud];rw[R0];lia))));generalize e6:((s.heap.update a (Obj.mapSeq fun _=>#[])).push {cls:=.type "tuple",data:=.seq vs.toArray.toList.toArray}).push {cls:=.type "list",data:=.seq ([]:List Value).toArray}=h6;have k6:∀b o,b≠a->s.heap.get? b=some o->h6.get? b=some o:=fun b o nb e=>by
  rw[<-e6];exact Heap.get?_push_of_some _ (Heap.get?_push_of_some _ ((Heap.get?_update_other _ _ (SE nb)).trans e))
 have Nw:h6.get? a=some (seqObj "list" #[] e1):=by
  rw[<-e6];exact Heap.get?_push_of_some _ (Heap.get?_push_of_some _ h1)
 dsimp only;have fin:∀(p:Array Nat),POk vs.length p->aX key p vs.length->∀out:Array Value,out=List.toArray (p.toList.map fun i=>vs.getD i .none)->
   P (.done (.ret .none)) {s with heap:=h6.update a (Obj.mapSeq fun _=>out)}:=fun p hp hs out eo=>by
  subst eo;exact h p _ hp hs ⟨_,get?_update_seq Nw _⟩ fun b o nb e=>(Heap.get?_update_other _ _ (SE nb)).trans (k6 b o nb e)
 have fits:∀{out:Array Value}{p:Array Nat},POk vs.length p->out=List.toArray (p.toList.map fun i=>vs.getD i .none)->out.size<=sizeLine+1:=fun{out p} hp e=>by
  rw[e,Q4,Q3,hp.perm.length_eq,Rr,R0];lia
 by_cases h2:vs.toArray.size<2
 ·rw[Rb h2,Rb h2];refine Q1 (Q6 ?_);rw[StateT.run_pure];refine Q1 (Q6 ?_);dsimp only;have eo:(arrOf (SortSt.mk' general' (vs.toArray.zip vs.toArray) #[] 7 none)).map (·.2)=List.toArray ((List.toArray (List.range vs.length)).toList.map fun i=>vs.getD i .none):=by
   show(vs.toArray.zip vs.toArray).map (·.2)=_;apply Array.toList_inj.mp;simp only[Array.toList_map,Array.toList_zip,Ud];have a1:(vs.zip vs).map (·.2)=vs:=by
    rw[List.map_snd_zip];exact Q8 _
   rw[a1];apply Td;intro i;by_cases hi:i<vs.length
   ·simp[hi]
   ·simp[hi]
  refine Q1 (seqEpoch_at Nw rfl (Q1 (listUpdate_at Nw rfl ?_ (RM _) (fits (pC _) eo))));simp only[Uv,Sk,T8];refine Q6 (fin _ (pC _) ?_ _ eo);intro i j x y;have:i=j:=by lia
  rw[this];exact Sz _
 ·rw[Rg h2,Rg h2];have Pg:2<=vs.length:=by lia
  refine Q1 (Ie Pg h6 k6 _ ?_);refine Q1 (Ts (kat_run (ks:=vs) (vs:=vs) (Q:=fun HI s'=>∃p,POk vs.length p/\aX key p vs.length/\arrOf HI=p.map (kas_item (vs.toArray.zip vs.toArray))/\failedOf HI=none/\s'={s with heap:=h6})
   (G:=fun p s'=>POk vs.length p/\aX key p vs.length/\s'={s with heap:=h6}) rfl Pg JW (fun p HI s' hz Ph hf hg=>⟨p,hg.1,hg.2.1,Ph,hf,hg.2.2⟩)
   (yG (n:=vs.length) (O:=O) (κ:=key) (Good:=fun s'=>s'={s with heap:=h6}) (fun i j hi hj Q s' g k=>?_) (by lia) rfl fun p s' hp g hs=>⟨hp,hs,g⟩)) (fun r s' hq=>?_) fun _ _ e=>e)
  ·subst g;exact Kk i j hi hj h6 k6 Q (k _ rfl)
  ·obtain⟨p,hp,hs,Ph,hf,rfl⟩:=hq;have eo:=kat_snds (ks:=vs) (vs:=vs) rfl Ph;refine Q1 (seqEpoch_at Nw rfl (Q1 (listUpdate_at Nw rfl ?_ (RM _) (fits hp eo))));rw[hf];simp only[Uv,Sk,T8];exact Q6 (fin p hp hs _ eo)
theorem iH{O:KeyOrd}{key:Nat->O.α}{kd:SortKind}{l:Addr}{vs:List Value}{Q:Value->Shared->Prop}(hl:s.heap.IsList l vs.toArray)(JW:vs.length<64)
  (Ie:2<=vs.length->∀(A':Around) (E':Value->Shared->Prop) (h':Heap),(∀b o,s.heap.get? b=some o->h'.get? b=some o)->∀Q:SortKind->Shared->Prop,Q kd {s with heap:=h'}->wpAny (model prog w) A' (keyKind' vs.toArray) Q E' {s with heap:=h'})
  (Kk:∀i j,i<vs.length->j<vs.length->∀(h':Heap),(∀b o,s.heap.get? b=some o->h'.get? b=some o)->∀C:Bool->Shared->Prop,C (O.blt (key i) (key j)) {s with heap:=h'}->kas_ask prog w A.in1.in1 kd vs i j C {s with heap:=h'})
  (h:∀p h' e,POk vs.length p->aX key p vs.length->h'.get? (s.heap.objs.size+1)=some (seqObj "list" (List.toArray (p.toList.map fun i=>vs.getD i .none)) e)->(∀b o,s.heap.get? b=some o->h'.get? b=some o)->Q (.ref (s.heap.objs.size+1)) {s with heap:=h'}):
  wpAny (model prog w) A (call (.builtin "sorted") [.ref l]) Q E s:=by
 refine Tg kind_sorted plain_sorted entry_sorted (args_sorted1 _) ?_;unfold Builtin.«sorted»;refine Q1 (m:=checkCount "sorted" 1 1 _) (Q6 (Q1 (collect_list hl (Q1 (VB ?_ (by rw[R0];lia))) (by rw[R0];lia))));have zz:((s.heap.push (seqObj "list" #[] 0)).update s.heap.objs.size (Obj.mapSeq (·++vs.toArray))).objs.size=s.heap.objs.size+1:=by rw[Heap.size_update,size_push']
 generalize e5:(s.heap.push (seqObj "list" #[] 0)).update s.heap.objs.size (Obj.mapSeq (·++vs.toArray))=h5 at zz ⊢;have k5:∀b o,s.heap.get? b=some o->(h5.push (seqObj "list" vs.toArray 0)).get? b=some o:=fun b o e=>by
  rw[<-e5];exact Heap.get?_push_of_some _ ((Heap.get?_update_other _ _ (SE (Rp (Rf e)))).trans (Heap.get?_push_of_some _ e))
 have hL:(h5.push (seqObj "list" vs.toArray 0)).get? (s.heap.objs.size+1)=some (seqObj "list" vs.toArray 0):=by
  rw[<-zz];exact Heap.get?_push_size _ rfl
 have ne:∀b o,s.heap.get? b=some o->b≠s.heap.objs.size+1:=fun b o e=>Rp (Ux (Rf e))
 show wpAny _ _ _ _ _ {s with heap:=h5.push (seqObj "list" vs.toArray 0)};rw[zz];refine Q1 (SJ (RY slot_list_sort ⟨_,hL,rfl⟩ entry_list_sort (gZ (key:=key) (kd:=kd) hL JW (fun h2 h' kk Q' q=>Ie h2 _ _ h' (fun b o e=>kk b o (ne b o e) (k5 b o e)) Q' q)
  (fun i j hi hj h' kk C q=>Kk i j hi hj h' (fun b o e=>kk b o (ne b o e) (k5 b o e)) C q) fun p h' hp hs ⟨e,he⟩ kk=>⟨_,rfl,?_⟩) (args_list_sort _)))
 exact Q6 ⟨_,rfl,h p h' e hp hs he fun b o q=>kk b o (ne b o q) (k5 b o q)⟩
end
def intO:KeyOrd where
 α:=Int
 blt a b:=decide (a<b)
 irrefl a:=by simp
 trans a b c h1 h2:=by simp only[Ro] at *;lia
 negTrans a b c h:=by simp only[Ro] at *;lia
 total a b h1 h2:=by simp only[RZ] at *;lia
abbrev Ex:KeyOrd:=strKind.toKeyOrd
noncomputable def ot:KeyOrd where
 α:=Key
 blt a b:=match a,b with
  | .inl i,.inl j=>decide (i<j)
  | .inr x,.inr y=>decide (x.cps.toList<y.cps.toList)
  | .inl _,.inr _=>true
  | .inr _,.inl _=>false
 irrefl a:=by
  cases a with
  |inl i=>simp
  |inr x=>simpa using List.lt_irrefl x.cps.toList
 trans a b c h1 h2:=by
  cases a <;> cases b <;> cases c <;> simp_all
  ·lia
  ·exact List.lt_trans h1 h2
 negTrans a b c h:=by
  cases a <;> cases b <;> cases c <;> simp_all
  ·lia
  ·rename_i x y z;by_cases q:x.cps.toList<y.cps.toList
   ·exact .inl q
   ·exact .inr (List.lt_of_le_of_lt (UG.mp q) h)
 total a b h1 h2:=by
  cases a <;> cases b <;> simp_all
  ·lia
  ·rename_i x y;have e:x.cps.toList=y.cps.toList:=List.le_antisymm (by first|exact h2|exact UG.mp h2) (by first|exact h1|exact UG.mp h1);rw[<-mJ x,<-mJ y,e]
def c9:List Key->List Key->Bool
 |[],[]=>false
 |[],_::_=>true
 |_::_,[]=>false
 |a::r,b::t=>if a=b then c9 r t else ot.blt a b
theorem gF:∀a:List Key,c9 a a=false
 |[]=>rfl
 |a::r=>by
  show(if a=a then c9 r r else _)=false;rw[Rb rfl];exact gF r
theorem yH{a b:Key}(h:ot.blt a b=true):a≠b:=by
 rintro rfl;have:=ot.irrefl a;rw[h]at this;cases this
theorem fV:∀a b c:List Key,c9 a b=true->c9 b c=true->c9 a c=true
 |[],[],_,h,_=>by cases h
 |[],_::_,[],_,h=>by cases h
 |[],_::_,_::_,_,_=>rfl
 |_::_,[],_,h,_=>by cases h
 |_::_,_::_,[],_,h=>by cases h
 |a::r,b::t,c::u,h1,h2=>by
  have h1:(if a=b then c9 r t else ot.blt a b)=true:=h1;have h2:(if b=c then c9 t u else ot.blt b c)=true:=h2;show(if a=c then c9 r u else ot.blt a c)=true;by_cases e1:a=b
  ·by_cases e2:b=c
   ·rw[Rb e1]at h1;rw[Rb e2]at h2;rw[Rb (e1.trans e2)];exact fV r t u h1 h2
   ·rw[Rg e2]at h2;rw[e1,Rg e2];exact h2
  ·rw[Rg e1]at h1;by_cases e2:b=c
   ·rw[<-e2,Rg e1];exact h1
   ·rw[Rg e2]at h2;have h3:=ot.trans a b c h1 h2;rw[Rg (yH h3)];exact h3
theorem fW:∀a b:List Key,c9 a b=false->c9 b a=false->a=b
 |[],[],_,_=>rfl
 |[],_::_,h,_=>by cases h
 |_::_,[],_,h=>by cases h
 |a::r,b::t,h1,h2=>by
  have h1:(if a=b then c9 r t else ot.blt a b)=false:=h1;have h2:(if b=a then c9 t r else ot.blt b a)=false:=h2;by_cases e:a=b
  ·rw[Rb e]at h1;rw[Rb e.symm]at h2;rw[e,fW r t h1 h2]
  ·rw[Rg e]at h1;rw[Rg (SE e)]at h2;exact absurd (ot.total a b h1 h2) e
theorem vP(a b c:List Key)(h:c9 a c=true):c9 a b=true\/c9 b c=true:=by
 cases e:c9 a b with
 |true=>exact .inl rfl
 |false=>
  refine .inr ?_;cases e2:c9 b a with
  |true=>exact fV b a c e2 h
  |false=>
   rw[<-fW a b e e2];exact h
def C5:KeyOrd where
 α:=List Key
 blt:=c9
 irrefl:=gF
 trans:=fV
 negTrans:=vP
 total:=fW
section
variable{O:KeyOrd}
def qN(p:Array Nat)(xs:List V):List V:=p.toList.map fun i=>xs.getD i .non
theorem kr{α:Type}(xs:List α)(d:α):((List.range xs.length).map fun i=>xs.getD i d)=xs:=by
 apply Td;intro i;by_cases hi:i<xs.length
 ·simp[hi]
 ·simp[hi]
theorem jl{α:Type}{p:Array Nat}{xs:List α}(d:α)(hp:POk xs.length p):(p.toList.map fun i=>xs.getD i d).Perm xs:=by
 have:=hp.perm.map (fun i=>xs.getD i d)
 rwa [kr]at this
theorem fX{α:Type}{p:Array Nat}{xs:List α}(d:α)(key:α->O.α)(hp:POk xs.length p)(hs:aX (O:=O) (fun i=>key (xs.getD i d)) p xs.length):(p.toList.map fun i=>xs.getD i d).Pairwise fun a b=>O.kle (key a) (key b):=by
 rw[Th];intro i j hi hj KQ;have hsz:=hp.size;have KP:i<p.size:=by simpa using hi
 have L7:j<p.size:=by simpa using hj
 have h:=hs i j (UZ KQ) (by lia);unfold kk at h;simp only[List.getElem_map,Array.getElem_toList];have e1:p.getD i 0=p[i]:=by simp[Array.getD,KP]
 have e2:p.getD j 0=p[j]:=by simp[Array.getD,L7]
 rw[e1,e2]at h;exact h
theorem vals_pick{xs:List V}{us:List Value}(r:Vals xs us):∀l:List Nat,(∀i∈l,i<xs.length)->Vals (l.map fun i=>xs.getD i .non) (l.map fun i=>us.getD i .none)
 |[],_=>.nil
 |i::l,h=>by
  refine .cons ?_ (vals_pick r l fun j hj=>h j (Q7 _ hj));have hi:=h i Q2;have e1:xs[i]?=some (xs.getD i .non):=by rw[bh _ _ _ hi];exact List.getElem?_eq_getElem hi
  obtain⟨u,hu,ru⟩:=r.get e1;have e2:us.getD i .none=u:=by rw[List.getD_eq_getElem?_getD,hu];rfl
  show L2.RelV (xs.getD i .non) (us.getD i .none);rw[e2];exact ru
theorem jm{xs:List V}{us:List Value}{p:Array Nat}(r:Vals xs us)(hp:POk xs.length p):Vals (qN p xs) (p.toList.map fun i=>us.getD i .none):=
 vals_pick r _ fun i hi=>RL.mp (hp.perm.mem_iff.mp hi)
end
section
variable{X:Cx}
theorem g0{pr:List (Addr×Obj)}{s:Shared}{σ:L2.St}{H:Hp}{h':Heap}{ys:List V}{us:List Value}{e:Nat}{D:Addr}(I:Inv X pr σ H s)(kk:∀b o,s.heap.get? b=some o->h'.get? b=some o)(hD:s.heap.objs.size<=D)
  (ho:h'.get? D=some (seqObj "list" (List.toArray us) e)) (r:Vals ys us) (hz:ys.length<=sizeLine):Inv X pr σ (upd H D (.lst ys)) {s with heap:=h'}:=
 I.laid (t':=s.toks) kk hD ⟨hz,us,e,r,ho⟩
theorem jb(hc:X.calm=true):di X (.builtin "sorted") (fun vs H Q=>∃(p:Addr) (ns:List Int),vs=[.ref p]/\SqL X.K H p (ns.map V.int)/\ns.length<64/\∀(D:Addr) (ms:List Int),H D=none->ms.Perm ns->ms.Pairwise (·<=·)->Q (.ref D) (upd H D (.lst (ms.map V.int)))):=by
 intro pr s σ H vs us Q I r h;obtain⟨p,ns,rfl,hp,JW,q⟩:=h;obtain⟨u,rfl,r1⟩:=e8 r;cases r1;obtain⟨ws,rv,pl,hz⟩:=I.list hp;have hl:=rv.length;rw[Q3]at hl;have isI:∀v∈ws,∃n t,v=.int n t:=fun v hv=>by
  obtain⟨i,hi⟩:=Si.mp hv;obtain⟨t,e⟩:=gE rv hi;exact⟨_,t,e⟩
 refine iH (O:=intO) (key:=fun i=>ns.getD i 0) (kd:=oneType') pl.isList (by lia) (fun h2 A' E' h' kk Q' q'=>?_) (fun i j hi hj h' kk C q'=>?_) fun pp h' e HS hs he kk=>?_
 ·refine kas_kind h2 (T:=.type "int") (fun v hv=>?_) (by decide) (by decide) q';obtain⟨n,t,rfl⟩:=isI v hv;exact fun A Q E s _ q=>Tu (Ve s n t) q
 ·unfold kas_ask;have e1:ws[i]?=some (ws.getD i .none):=by rw[bh _ _ _ hi];exact List.getElem?_eq_getElem hi
  have e2:ws[j]?=some (ws.getD j .none):=by rw[bh _ _ _ hj];exact List.getElem?_eq_getElem hj
  obtain⟨t,Pj⟩:=gE rv e1;obtain⟨t',Pk⟩:=gE rv e2;rw[Pj,Pk];exact kat_lt_int q'
 ·rw[<-hl]at HS hs;have L8:POk (ns.map V.int).length pp:=by rw[Q3];exact HS
  have eo:qN pp (ns.map V.int)=(pp.toList.map fun i=>ns.getD i 0).map V.int:=by
   unfold qN;rw[Rq];refine R5 fun i hi=>?_
   have hi:=RL.mp (HS.perm.mem_iff.mp hi);show(ns.map V.int).getD i .non=V.int (ns.getD i 0);rw[bh _ _ _ (by rw[Q3];exact hi),bh _ _ _ hi];simp
  have hn:H (s.heap.objs.size+1)=none:=I.hok.fresh (Tb _);refine⟨.ref (s.heap.objs.size+1),_,g0 I kk (Tb _) he (jm rv L8) ?_,rfl,?_⟩
  ·show(qN pp (ns.map V.int)).length<=sizeLine;rw[eo,Q3,Q3,HS.perm.length_eq,Rr,R0];lia
  ·rw[eo];refine q _ _ hn (jl 0 HS) ?_;have:=fX (O:=intO) 0 (fun i:Int=>i) HS hs;refine this.imp fun{a b} L9=>?_
   have L9:decide (b<a)=false:=L9;have:=VC L9;lia
theorem oG{ls:List (List Nat)}{us:List Value}(r:Vals (ls.map fun l=>V.str (S l)) us){i:Nat}{v:Value}(h:us[i]?=some v):∃t,v=.str (S (ls.getD i [])) t:=by
 have hl:=r.length;rw[Q3]at hl;obtain⟨hi,_⟩:=List.getElem?_eq_some_iff.mp h;have e1:(ls.map fun l=>V.str (S l))[i]?=some (.str (S (ls.getD i []))):=by
  rw[List.getElem?_map,List.getElem?_eq_getElem (by lia),bh _ _ _ (by lia)];rfl
 obtain⟨u,hu,t,rfl⟩:=r.get e1;rw[h]at hu;exact⟨t,Rt hu⟩
theorem jc(hc:X.calm=true):di X (.builtin "sorted") (fun vs H Q=>∃(p:Addr) (ls:List (List Nat)),vs=[.ref p]/\SqL X.K H p (ls.map fun l=>V.str (S l))/\ls.length<64/\∀(D:Addr) (ms:List (List Nat)),H D=none->ms.Perm ls->ms.Pairwise (fun a b=>¬ b<a)->Q (.ref D) (upd H D (.lst (ms.map fun l=>V.str (S l))))):=by
 intro pr s σ H vs us Q I r h;obtain⟨p,ls,rfl,hp,JW,q⟩:=h;obtain⟨u,rfl,r1⟩:=e8 r;cases r1;obtain⟨ws,rv,pl,hz⟩:=I.list hp;have hl:=rv.length;rw[Q3]at hl;refine iH (O:=Ex) (key:=fun i=>ls.getD i []) (kd:=oneType') pl.isList (by lia) (fun h2 A' E' h' kk Q' q'=>?_) (fun i j hi hj h' kk C q'=>?_) fun pp h' e HS hs he kk=>?_
 ·refine kas_kind h2 (T:=.type "str") (fun v hv=>?_) (by decide) (by decide) q';obtain⟨i,hi⟩:=Si.mp hv;obtain⟨t,rfl⟩:=oG rv hi;exact fun A Q E s _ q=>Tu (Vd s _ t) q
 ·unfold kas_ask;have e1:ws[i]?=some (ws.getD i .none):=by rw[bh _ _ _ hi];exact List.getElem?_eq_getElem hi
  have e2:ws[j]?=some (ws.getD j .none):=by rw[bh _ _ _ hj];exact List.getElem?_eq_getElem hj
  obtain⟨t,Pj⟩:=oG rv e1;obtain⟨t',Pk⟩:=oG rv e2;rw[Pj,Pk];refine kas_lt_str ?_;rw[cX,cX];exact q'
 ·rw[<-hl]at HS hs;have L8:POk (ls.map fun l=>V.str (S l)).length pp:=by rw[Q3];exact HS
  have eo:qN pp (ls.map fun l=>V.str (S l))=(pp.toList.map fun i=>ls.getD i []).map fun l=>V.str (S l):=by
   unfold qN;rw[Rq];refine R5 fun i hi=>?_
   have hi:=RL.mp (HS.perm.mem_iff.mp hi);show(ls.map fun l=>V.str (S l)).getD i .non=V.str (S (ls.getD i []));rw[bh _ _ _ (by rw[Q3];exact hi),bh _ _ _ hi];simp
  have hn:H (s.heap.objs.size+1)=none:=I.hok.fresh (Tb _);refine⟨.ref (s.heap.objs.size+1),_,g0 I kk (Tb _) he (jm rv L8) ?_,rfl,?_⟩
  ·show(qN pp (ls.map fun l=>V.str (S l))).length<=sizeLine;rw[eo,Q3,Q3,HS.perm.length_eq,Rr,R0];lia
  ·rw[eo];refine q _ _ hn (jl [] HS) ?_;have:=fX (O:=Ex) [] (fun l:List Nat=>l) HS hs;refine this.imp fun{a b} L9=>?_
   have L9:decide (b<a)=false:=L9;exact VC L9
end
def kinds(k:List Key):List Bool:=k.map fun x=>x.isLeft
section
variable{prog:Program}{w:World}{A:Around}{s:Shared}
theorem sI(a b:Key):O7 (kV a) (kV b)=decide (a=b):=by
 cases a <;> cases b <;> (rw[RG];simp[kV,O7])
theorem jo(a:Key):vD (kV a)=true:=by cases a <;> rfl
theorem Bm{a b:Key}{u v:Value}{top:Bool}{Q:Bool->Shared->Prop}(ra:L2.RelV (kV a) u)(rb:L2.RelV (kV b) v)(hk:a.isLeft=b.isLeft)(q:Q (ot.blt a b) s):wpAny (model prog w) A (oneLt' top u v) Q (fun _ _=>False) s:=by
 cases a with
 |inl i=>
  cases b with
  |inr _=>cases hk
  |inl j=>
   obtain⟨t,rfl⟩:=ra;obtain⟨t',rfl⟩:=rb;cases top with
   |true=>exact kat_lt_int (E:=fun _ _=>False) q
   |false=>exact kat_one _ _ (lt_int q)
 |inr x=>
  cases b with
  |inl _=>cases hk
  |inr y=>
   obtain⟨t,rfl⟩:=ra;obtain⟨t',rfl⟩:=rb;cases top with
   |true=>exact oneLt_str q
   |false=>exact kat_one _ _ (lt_str q)
theorem jC{Q:Bool->Shared->Prop}:∀(k1 k2:List Key) (us ws:List Value) (i:Nat),Vals (k1.map kV) us->Vals (k2.map kV) ws->kinds k1=kinds k2->Q (c9 k1 k2) s->KatLex prog w A true false Q (us.zip ws) i s
 |[],[],_,_,_,.nil,.nil,_,q=>q
 |[],_::_,_,_,_,_,_,h,_=>by cases h
 |_::_,[],_,_,_,_,_,h,_=>by cases h
 |a::r,b::t,u::us,v::ws,i,.cons ru rus,.cons rv rvs,h,q=>by
  have h1:a.isLeft=b.isLeft:=(SX h).1;have h2:kinds r=kinds t:=(SX h).2;have q:Q (if a=b then c9 r t else ot.blt a b) s:=q;refine kat_cons (xk (A:=A) (s:=s) ru rv (jo a) (jo b) prog w _ _ ?_);rw[sI];by_cases e:a=b
  ·rw[Rb e]at q;rw[RJ e];exact kat_yes (jC r t us ws (i+1) rus rvs h2 q)
  ·rw[Rg e]at q;rw[RF e];exact kat_no (Bm ru rv h1 q)
end
section
variable{X:Cx}{pr:List (Addr×Obj)}{σ:L2.St}{H:Hp}{s:Shared}
theorem mN(I:Inv X pr σ H s){a:Addr}{xs:List V}(h:SqT X.K H a xs):∃(us:List Value) (o:Obj) (n:Nat),Vals xs us/\s.heap.get? a=some o/\o.cls=.type "tuple"/\o.data=.seq us.toArray n:=by
 obtain⟨us,r,pl,_⟩:=I.tuple h;obtain⟨o,ho,oc,n,od⟩:=pl;exact⟨us,o,n,r,ho,oc,od⟩
theorem lC{al:List (Addr×List Key)}{us:List Value}(r:Vals (al.map fun a=>V.ref a.1) us){i:Nat}(h:i<al.length):us.getD i .none=.ref (al.getD i (0,[])).1:=by
 have e1:(al.map fun a=>V.ref a.1)[i]?=some (.ref (al.getD i (0,[])).1):=by
  rw[List.getElem?_map,List.getElem?_eq_getElem h,bh _ _ _ h];rfl
 obtain⟨u,hu,ru⟩:=r.get e1;rw[List.getD_eq_getElem?_getD,hu];exact ru
theorem pD{al:List (Addr×List Key)}{us:List Value}{h':Heap}(I:Inv X pr σ H s)(kk:∀b o,s.heap.get? b=some o->h'.get? b=some o)(top:Bool):
  (r:Vals (al.map fun a=>V.ref a.1) us)->(∀a∈al,SqT X.K H a.1 (a.2.map kV)/\∃t,kinds a.2=top::t)->∃fs:List Value,KatTups h' us fs/\fs.length=al.length/\∀v∈fs,∀M:Model,Looks M h' (typeOf v) (.type (if top then "int" else "str")):=by
 induction al generalizing us with
 |nil=>
  intro r _;cases r;exact⟨[],trivial,rfl,fun v hv=>by cases hv⟩
 |cons a al ih=>
  intro r h;cases r with
  |cons ra rs=>
   cases ra;obtain⟨fs,t1,t2,t3⟩:=ih rs fun b hb=>h b (Q7 _ hb)
   obtain⟨ha,kt,hk⟩:=h a Q2;obtain⟨ws,o,n,rv,ho,oc,od⟩:=mN I ha;cases e2:a.2 with
   |nil=>rw[e2]at hk;cases hk
   |cons k ks=>
    rw[e2]at rv hk;have Qm:k.isLeft=top:=(SX hk).1;cases rv with
    | @cons _ f _ fr rf rfs=>
     refine⟨f::fs,KatTups.cons (kk _ _ ho) oc od (by simp) t1,by simp[t2],fun v hv M=>?_⟩;rcases Ri.mp hv with rfl|hv
     ·cases k with
      |inl i=>
       obtain⟨t,rfl⟩:=rf;have:top=true:=Qm.symm;subst this;exact fun A Q E s _ q=>Tu (Ve s _ t) q
      |inr x=>
       obtain⟨t,rfl⟩:=rf;have:top=false:=Qm.symm;subst this;exact fun A Q E s _ q=>Tu (Vd s _ t) q
     ·exact t3 v hv M
end
section
variable{X:Cx}
theorem jd(hc:X.calm=true):di X (.builtin "sorted") (fun vs H Q=>∃(p:Addr) (al:List (Addr×List Key)) (top:Bool) (t:List Bool),vs=[.ref p]/\SqL X.K H p (al.map fun a=>V.ref a.1)/\(∀a∈al,SqT X.K H a.1 (a.2.map kV)/\kinds a.2=top::t)/\al.length<64/\
  ∀(D:Addr) (ms:List (Addr×List Key)),H D=none->ms.Perm al->ms.Pairwise (fun a b=>c9 b.2 a.2=false)->Q (.ref D) (upd H D (.lst (ms.map fun a=>V.ref a.1)))):=by
 intro pr s σ H vs us Q I r h;obtain⟨p,al,top,kt,rfl,hp,IW,JW,q⟩:=h;obtain⟨u,rfl,r1⟩:=e8 r;cases r1;obtain⟨ws,rv,pl,hz⟩:=I.list hp;have hl:=rv.length;rw[Q3]at hl;refine iH (O:=C5) (key:=fun i=>(al.getD i (0,[])).2) (kd:=tuples' true) pl.isList (by lia) (fun h2 A' E' h' kk Q' q'=>?_) (fun i j hi hj h' kk C q'=>?_) fun pp h' e HS hs he kk=>?_
 ·obtain⟨fs,t1,t2,t3⟩:=pD I kk top rv fun a ha=>⟨(IW a ha).1,kt,(IW a ha).2⟩
  refine kat_kind (T:=.type (if top then "int" else "str")) t1 (by lia) (fun v hv=>t3 v hv _) (by simp) ?_;have:((Value.type (if top then "int" else "str")) != Value.type "tuple")=true:=by cases top <;> decide
  rw[this];exact q'
 ·unfold kas_ask;have KP:i<al.length:=by lia
  have L7:j<al.length:=by lia
  rw[lC rv KP,lC rv L7];have mi:al.getD i (0,[])∈al:=by rw[bh _ _ _ KP];exact To _
  have mj:al.getD j (0,[])∈al:=by rw[bh _ _ _ L7];exact To _
  obtain⟨u1,o1,n1,r1,g1,_,d1⟩:=mN I (IW _ mi).1;obtain⟨u2,o2,n2,r2,g2,_,d2⟩:=mN I (IW _ mj).1;have ek:kinds (al.getD i (0,[])).2=kinds (al.getD j (0,[])).2:=by rw[(IW _ mi).2,(IW _ mj).2]
  have el:u1.length=u2.length:=by
   have a1:=r1.length;have a2:=r2.length;have a3:=R7 List.length ek;simp only[kinds,Q3]at a1 a2 a3;lia
  refine kat_lt (kk _ _ g1) d1 (kk _ _ g2) d2 ?_;have ef:decide (u1.toArray.size<u2.toArray.size)=false:=by simp[el]
  rw[ef];exact jC _ _ _ _ 0 r1 r2 ek q'
 ·rw[<-hl]at HS hs;have L8:POk (al.map fun a=>V.ref a.1).length pp:=by rw[Q3];exact HS
  have eo:qN pp (al.map fun a=>V.ref a.1)=(pp.toList.map fun i=>al.getD i (0,[])).map fun a=>V.ref a.1:=by
   unfold qN;rw[Rq];refine R5 fun i hi=>?_
   have hi:=RL.mp (HS.perm.mem_iff.mp hi);show(al.map fun a=>V.ref a.1).getD i .non=V.ref (al.getD i (0,[])).1;rw[bh _ _ _ (by rw[Q3];exact hi),bh _ _ _ hi];simp
  have hn:H (s.heap.objs.size+1)=none:=I.hok.fresh (Tb _);refine⟨.ref (s.heap.objs.size+1),_,g0 I kk (Tb _) he (jm rv L8) ?_,rfl,?_⟩
  ·show(qN pp (al.map fun a=>V.ref a.1)).length<=sizeLine;rw[eo,Q3,Q3,HS.perm.length_eq,Rr,R0];lia
  ·rw[eo];refine q _ _ hn (jl (0,[]) HS) ?_;exact fX (O:=C5) (0,[]) (fun a:Addr×List Key=>a.2) HS hs
end
end NX
namespace L2
open PySem PySem.Spec PyProof.Rows
section
variable{κ:Type}[DecidableEq κ]
def mO(kvs:List (κ×V))(k:κ):Option V:=(kvs.find? fun kv=>decide (kv.1=k)).map (·.2)
def je(kvs:List (κ×V))(k:κ)(v:V):List (κ×V):=
 if(kvs.any fun kv=>decide (kv.1=k))=true then kvs.map (fun kv=>if kv.1=k then(kv.1,v) else kv) else kvs++[(k,v)]
theorem lD{p:κ×V}{r:List (κ×V)}{k:κ}(e:p.1=k):mO (p::r) k=some p.2:=by simp[mO,List.find?_cons,e]
theorem lE{p:κ×V}{r:List (κ×V)}{k:κ}(e:¬ p.1=k):mO (p::r) k=mO r k:=by simp[mO,List.find?_cons,e]
theorem pE(k:κ):∀kvs:List (κ×V),(kvs.any fun kv=>decide (kv.1=k))=(mO kvs k).isSome
 |[]=>rfl
 |p::r=>by
  rw[VD];by_cases e:p.1=k
  ·simp only[lD e,RJ e,Bool.true_or,Option.isSome_some]
  ·rw[lE e,RF e,Bool.false_or];exact pE k r
theorem gG(kvs:List (κ×V))(k:κ)(v:V):(je kvs k v).length<=kvs.length+1:=by
 unfold je;split
 ·rw[Q3];lia
 ·rw[RC,Rk,Sa];lia
theorem RelO.isSome_eq{o:Option V}{u:Option Value}(r:RelO o u):o.isSome=u.isSome:=by
 cases o with
 |none=>cases u with
  |none=>rfl
  |some _=>exact(show False from r).elim
 |some _=>cases u with
  |none=>exact(show False from r).elim
  |some _=>rfl
theorem KV.val{kvs:List (κ×V)}{vs:List (κ×Value)}(r:KV kvs vs)(k:κ):RelO (mO kvs k) (valueAt vs k):=by
 unfold KV at r;induction r with
 |nil=>exact True.intro
 | @cons p q ps qs h t ih=>
  obtain⟨h1,h2⟩:=h;by_cases e:p.1=k
  ·have e':q.1=k:=h1.symm.trans e;have b:valueAt (q::qs) k=some q.2:=by simp[valueAt,List.find?_cons,e']
   rw[lD e,b];exact h2
  ·have e':¬ q.1=k:=fun z=>e (h1.trans z)
   have b:valueAt (q::qs) k=valueAt qs k:=by simp[valueAt,List.find?_cons,e']
   rw[lE e,b];exact ih
theorem KV.any{kvs:List (κ×V)}{vs:List (κ×Value)}(r:KV kvs vs)(k:κ):(kvs.any fun kv=>decide (kv.1=k))=vs.any fun kv=>decide (kv.1=k):=by
 unfold KV at r;induction r with
 |nil=>rfl
 |cons h t ih=>rw[VD,VD,ih,h.1]
theorem KV.repl{kvs:List (κ×V)}{vs:List (κ×Value)}(r:KV kvs vs)(k:κ){y:V}{u:Value}(ry:RelV y u):
  KV (kvs.map fun kv=>if kv.1=k then(kv.1,y) else kv) (vs.map fun kv=>if kv.1=k then(kv.1,u) else kv):=by
 unfold KV at r ⊢;induction r with
 |nil=>exact .nil
 | @cons p q ps qs h t ih=>
  rw[Rl,Rl];refine .cons ?_ ih;obtain⟨h1,h2⟩:=h;by_cases e:p.1=k
  ·rw[Rb e,Rb (h1.symm.trans e)];exact⟨h1,ry⟩
  ·rw[Rg e,Rg (fun z=>e (h1.trans z))];exact⟨h1,h2⟩
theorem KV.put{kvs:List (κ×V)}{vs:List (κ×Value)}(r:KV kvs vs)(k:κ){y:V}{u:Value}(ry:RelV y u):KV (je kvs k y) (stored vs k u):=by
 unfold je stored;rw[r.any k];by_cases e:(vs.any fun kv=>decide (kv.1=k))=true
 ·rw[Rb e,Rb e];exact r.repl k ry
 ·rw[Rg e,Rg e];exact Paired.snoc r ⟨rfl,ry⟩
theorem KV.length{kvs:List (κ×V)}{vs:List (κ×Value)}(r:KV kvs vs):kvs.length=vs.length:=T7 r
end
theorem kV_is{P:Program}{w:World}{k:Key}{u:Value}(r:RelV (kV k) u):(mixKind P w).is k u=true:=by
 cases k with
 |inl i=>obtain⟨t,e⟩:=(show ∃t,u=Value.int i t from r);subst e;exact oB P w i t
 |inr x=>obtain⟨t,e⟩:=(show ∃t,u=Value.str x t from r);subst e;exact oC P w x t
theorem mP{P:Program}{w:World}:∀{ks:List Key}{us:List Value},Vals (ks.map kV) us->ItemsAre (mixKind P w) ks us
 |[],_,r=>by rw[RS]at r;cases r;exact .nil
 |k::ks,_,r=>by
  rw[Rl]at r;cases r with
  |cons h t=>exact .cons (kV_is h) (mP t)
abbrev KT(H:Hp):List (List Key×V)->List (List Key×Addr×Value)->Prop:=Paired fun p q=>p.1=q.1/\H q.2.1=some (.tup (p.1.map kV))/\RelV p.2 q.2.2
theorem KT.val{H:Hp}{kvs:List (List Key×V)}{xs:List (List Key×Addr×Value)}(r:KT H kvs xs)(k:List Key):RelO (mO kvs k) ((atKey xs k).map (·.2)):=by
 induction r with
 |nil=>exact True.intro
 | @cons p q ps qs h t ih=>
  obtain⟨h1,_,h2⟩:=h;by_cases e:p.1=k
  ·have e':q.1=k:=h1.symm.trans e;have b:atKey (q::qs) k=some q.2:=by simp[atKey,List.find?_cons,e']
   rw[lD e,b];exact h2
  ·have e':¬ q.1=k:=fun z=>e (h1.trans z)
   have b:atKey (q::qs) k=atKey qs k:=by simp[atKey,List.find?_cons,e']
   rw[lE e,b];exact ih
theorem KT.repl{H:Hp}{kvs:List (List Key×V)}{xs:List (List Key×Addr×Value)}(r:KT H kvs xs)(k:List Key){y:V}{u:Value}(ry:RelV y u):
  KT H (kvs.map fun kv=>if kv.1=k then(kv.1,y) else kv) (xs.map (putAt k u)):=by
 induction r with
 |nil=>exact .nil
 | @cons p q ps qs h t ih=>
  rw[Rl,Rl];refine .cons ?_ ih;obtain⟨h1,h2,h3⟩:=h;unfold putAt;by_cases e:p.1=k
  ·rw[Rb e,Rb (h1.symm.trans e)];exact⟨h1,h2,ry⟩
  ·rw[Rg e,Rg (fun z=>e (h1.trans z))];exact⟨h1,h2,h3⟩
theorem KT.put{H:Hp}{kvs:List (List Key×V)}{xs:List (List Key×Addr×Value)}(r:KT H kvs xs)(k:List Key){b:Addr}{y:V}{u:Value}(hb:H b=some (.tup (k.map kV)))(ry:RelV y u):
  KT H (je kvs k y) (storedH xs k b u):=by
 have e:(kvs.any fun kv=>decide (kv.1=k))=(atKey xs k).isSome:=by
  rw[pE,(r.val k).isSome_eq,Uy]
 unfold je storedH;rw[e];by_cases q:(atKey xs k).isSome=true
 ·rw[Rb q,Rb q];exact r.repl k ry
 ·rw[Rg q,Rg q];exact Paired.snoc r ⟨rfl,hb,ry⟩
theorem KT.keeps{H H':Hp}{kvs:List (List Key×V)}{xs:List (List Key×Addr×Value)}(r:KT H kvs xs)(ht:∀b ys,H b=some (.tup ys)->H' b=some (.tup ys)):KT H' kvs xs:=
 Paired.mapP r fun _ _ z=>⟨z.1,ht _ _ z.2.1,z.2.2⟩
section
variable{P:Program}{w:World}{H:Hp}{h:Heap}{a:Addr}
theorem Bn{u:HO}(ok:HOk P w H h)(e:Rd H a u):ObjOk P w H h a u:=e.ok ok
theorem qO{kvs:List (Key×V)}(ok:HOk P w H h)(e:Rd H a (.dK kvs)):kvs.length<=sizeLine/\(a==sysModules)=false/\∃vs,KV kvs vs/\h.DictOf (mixKind P w) a vs:=
 show ObjOk P w H h a (.dK kvs) from Bn ok e
theorem Bo{kvs:List (Key×V)}(ok:HOk P w H h)(e:H a=some (.dK kvs)):kvs.length<=sizeLine/\(a==sysModules)=false/\∃vs,KV kvs vs/\h.DictOf (mixKind P w) a vs:=qO ok (.inl e)
theorem mQ{ks:List Key}(ok:HOk P w H h)(e:H a=some (.tup (ks.map kV))):(tupleKind (mixKind P w)).is h ks a:=by
 obtain⟨_,F1,r,o,h1,h2,⟨n,h3⟩,_⟩:=(show ObjOk P w H h a (.tup (ks.map kV)) from ok a _ e)
 exact⟨o,F1.toArray,n,h1,h2,h3,by simpa using mP r⟩
theorem sJ{kvs:List (List Key×V)}(ok:HOk P w H h)(e:Rd H a (.dT kvs)):kvs.length<=sizeLine/\(a==sysModules)=false/\
  ∃xs,KT H kvs xs/\h.DictOfH (tupleKind (mixKind P w)) a xs:=by
 obtain⟨z,y,xs,r,o,es,ep,h1,h2,h3,h4,h5⟩:=(show ObjOk P w H h a (.dT kvs) from Bn ok e)
 refine⟨z,y,xs,r,o,es,ep,h1,h2,h3,h4,fun x hx=>?_,h5⟩;have all:∀{l:List (List Key×V)}{m:List (List Key×Addr×Value)},KT H l m->∀x∈m,(tupleKind (mixKind P w)).is h x.1 x.2.1:=by
  intro l m q;induction q with
  |nil=>intro x hx;exact nomatch hx
  | @cons p q ps qs hq t ih=>
   intro x hx;rcases Ri.mp hx with e|hx
   ·subst e;exact mQ ok (by rw[<-hq.1];exact hq.2.1)
   ·exact ih x hx
 exact all r x hx
theorem DI{kvs:List (List Key×V)}(ok:HOk P w H h)(e:H a=some (.dT kvs)):kvs.length<=sizeLine/\(a==sysModules)=false/\
  ∃xs,KT H kvs xs/\h.DictOfH (tupleKind (mixKind P w)) a xs:=sJ ok (.inl e)
end
def DGet(H:Hp)(a:Addr)(y:V)(r:Option V):Prop:=
 (∃kvs k,Rd H a (.dK kvs)/\y=kV k/\r=mO kvs k)\/∃kvs k b,Rd H a (.dT kvs)/\y=.ref b/\H b=some (.tup (k.map kV))/\r=mO kvs k
def DPut(H:Hp)(a:Addr)(y v:V)(H':Hp):Prop:=
 (∃kvs k,H a=some (.dK kvs)/\y=kV k/\kvs.length<sizeLine/\H'=upd H a (.dK (je kvs k v)))\/
 ∃kvs k b,H a=some (.dT kvs)/\y=.ref b/\H b=some (.tup (k.map kV))/\kvs.length<sizeLine/\H'=upd H a (.dT (je kvs k v))
theorem DGet.k{H:Hp}{a:Addr}{kvs:List (Key×V)}{k:Key}(e:H a=some (.dK kvs)):DGet H a (kV k) (mO kvs k):=.inl ⟨kvs,k,.inl e,rfl,rfl⟩
theorem DGet.t{H:Hp}{a b:Addr}{kvs:List (List Key×V)}{k:List Key}(e:H a=some (.dT kvs))(eb:H b=some (.tup (k.map kV))):DGet H a (.ref b) (mO kvs k):=.inr ⟨kvs,k,b,.inl e,rfl,eb,rfl⟩
theorem DPut.k{H:Hp}{a:Addr}{kvs:List (Key×V)}{k:Key}{v:V}(e:H a=some (.dK kvs))(hl:kvs.length<sizeLine):DPut H a (kV k) v (upd H a (.dK (je kvs k v))):=.inl ⟨kvs,k,e,rfl,hl,rfl⟩
theorem DPut.t{H:Hp}{a b:Addr}{kvs:List (List Key×V)}{k:List Key}{v:V}(e:H a=some (.dT kvs))(eb:H b=some (.tup (k.map kV)))(hl:kvs.length<sizeLine):
  DPut H a (.ref b) v (upd H a (.dT (je kvs k v))):=.inr ⟨kvs,k,b,e,rfl,eb,hl,rfl⟩
section
variable{X:Cx}{pr:List (Addr×Obj)}{σ:St}{H:Hp}{s:Shared}{a:Addr}{y v:V}{u r:Value}{o:Option V}{A:Around}{E:Value->Shared->Prop}
theorem Inv.big(I:Inv X pr σ H s):sysModules<s.heap.objs.size:=by
 have h:mainGlobals<s.heap.objs.size:=(I.mod.glob.keeps I.bk).lt;exact Nat.lt_trans (by decide) h
theorem sL{Q:Value->Shared->Prop}(hu:A.units+1<cLine)(I:Inv X pr σ H s)(g:DGet H a y (some v))(ry:RelV y u)(h:∀w' s',Inv X pr σ H s'->RelV v w'->Q w' s'):
  wpAny (model X.prog X.w) A (getItem (.ref a) u) Q E s:=by
 rcases g with⟨kvs,k,e,ey,l⟩|⟨kvs,k,b,e,ey,eb,l⟩
 ·subst ey;obtain⟨z,hd,vs,rel,dd⟩:=qO I.hok e;obtain⟨w',hw,JS⟩:=RelO.some_of (v:=v) (o:=valueAt vs k) (by rw[l];exact rel.val k);exact wpAny_getItem_of (kV_is ry) dd.mapOf hw (h w' _ (I.tok _) JS)
 ·subst ey;cases(show u=Value.ref b from ry);obtain⟨z,hd,xs,rel,dd⟩:=sJ I.hok e;obtain⟨w',hw,JS⟩:=RelO.some_of (v:=v) (o:=(atKey xs k).map (·.2)) (by rw[l];exact rel.val k);obtain⟨p,hp,Nx⟩:=RH.mp hw;refine wpAny_getItem_heap (TB hu) (mQ I.hok eb) dd hp ?_;rw[Nx];exact h w' _ (I.tok _) JS
theorem Fj{Q:Value->Shared->Prop}(hu:A.units+1<cLine)(I:Inv X pr σ H s)(g:DGet H a y o)(ry:RelV y u)(h:∀s',Inv X pr σ H s'->Q (.bool o.isSome) s'):
  wpAny (model X.prog X.w) A (compareOp .In u (.ref a)) Q E s:=by
 rcases g with⟨kvs,k,e,ey,l⟩|⟨kvs,k,b,e,ey,eb,l⟩
 ·subst ey;obtain⟨z,hd,vs,rel,dd⟩:=qO I.hok e;refine wpAny_in_of (kV_is ry) hd dd.mapOf ?_;rw[<-(rel.val k).isSome_eq,<-l];exact h _ (I.tok _)
 ·subst ey;cases(show u=Value.ref b from ry);obtain⟨z,hd,xs,rel,dd⟩:=sJ I.hok e;refine wpAny_in_heap (TB hu) (mQ I.hok eb) hd dd ?_;have q:=(rel.val k).isSome_eq;rw[Uy]at q;rw[<-q,<-l];exact h _ (I.tok _)
theorem yI{Q:Value->Shared->Prop}(hu:A.units+1<cLine)(I:Inv X pr σ H s)(g:DGet H a y o)(ry:RelV y u)(h:∀s',Inv X pr σ H s'->Q (.bool (!o.isSome)) s'):
  wpAny (model X.prog X.w) A (compareOp .NotIn u (.ref a)) Q E s:=by
 rcases g with⟨kvs,k,e,ey,l⟩|⟨kvs,k,b,e,ey,eb,l⟩
 ·subst ey;obtain⟨z,hd,vs,rel,dd⟩:=qO I.hok e;refine wpAny_notIn_of (kV_is ry) hd dd.mapOf ?_;rw[<-(rel.val k).isSome_eq,<-l];exact h _ (I.tok _)
 ·subst ey;cases(show u=Value.ref b from ry);obtain⟨z,hd,xs,rel,dd⟩:=sJ I.hok e;refine wpAny_notIn_heap (TB hu) (mQ I.hok eb) hd dd ?_;have q:=(rel.val k).isSome_eq;rw[Uy]at q;rw[<-q,<-l];exact h _ (I.tok _)
theorem oH{h':Heap}{t':Nat}{ob:HO}(I:Inv X pr σ H s)(mu:Nb (H a))(hs:Heap.SameBut a s.heap h')(he:∃q,h'.get? a=some q)(new:ObjOk X.prog X.w (upd H a ob) h' a ob):
  Inv X pr σ (upd H a ob) {s with heap:=h',toks:=t'}:=
 I.write (x:=a) (e:=a) mu (.inl rfl) (fun b q hb z=>(hs.2 b hb).trans z) he new
theorem xv{P:Program}{w:World}{H':Hp}{h':Heap}{kvs:List (Key×V)}{vs:List (Key×Value)}(z:kvs.length<=sizeLine)(hd:(a==sysModules)=false)(rel:KV kvs vs)(dd:h'.DictOf (mixKind P w) a vs):
  ObjOk P w H' h' a (.dK kvs):=⟨z,hd,vs,rel,dd⟩
theorem sM{H':Hp}{Q:Unit->Shared->Prop}(hu:A.units+1<cLine)(I:Inv X pr σ H s)(g:DPut H a y v H')(ry:RelV y u)(rv:RelV v r)(h:∀s',Inv X pr σ H' s'->Q () s'):
  wpAny (model X.prog X.w) A (setItem (.ref a) u r) Q E s:=by
 rcases g with⟨kvs,k,e,ey,l,eH⟩|⟨kvs,k,b,e,ey,eb,l,eH⟩
 ·subst ey eH;obtain⟨z,hd,vs,rel,dd⟩:=Bo I.hok e;have hz:vs.length<=sizeLine:=by rw[<-rel.length];exact z
  have hl:(je kvs k v).length<=sizeLine:=by have:=gG kvs k v;lia
  refine wpAny_setItem_pairs (hsz:=hz) (kV_is ry) dd fun h' K3 hs=>h _ ?_
  have he:∃q,h'.get? a=some q:=let⟨q,_,_,hq,_⟩:=K3;⟨q,hq⟩
  exact oH I (by rw[e];exact True.intro) hs he (xv hl hd (rel.put k rv) K3)
 ·subst ey eH;cases(show u=Value.ref b from ry);obtain⟨z,hd,xs,rel,dd⟩:=DI I.hok e;have hz:xs.length<=sizeLine:=by rw[<-T7 rel];exact z
  have hl:(je kvs k v).length<=sizeLine:=by have:=gG kvs k v;lia
  refine wpAny_setItem_heap (hsz:=hz) (TB hu) (mQ I.hok eb) dd fun h' K3 hs=>h _ ?_
  obtain⟨q,es,ep,hq,h2,h3,h4,_,h5⟩:=K3;refine oH I (by rw[e];exact True.intro) hs ⟨q,hq⟩ ⟨hl,hd,_,(rel.put k eb rv).keeps fun c ys ec=>?_,q,es,ep,hq,h2,h3,h4,h5⟩;rw[av (Dc ec e (fun z=>nomatch z))];exact ec
end
section
variable{X:Cx}{pr:List (Addr×Obj)}{σ:St}{H:Hp}{s:Shared}{a:Addr}{kvs:List (Key×V)}{k:Key}{u:Value}{A:Around}{E:Value->Shared->Prop}
end
def NoSl(i:Expr):Prop:=∀ov iv,subscripted i false ov iv=operate [ov,iv] (getItem ov iv)
theorem yJ{prog:Program}{w:World}{A:Around}{E:Value->Shared->Prop}{s:Shared}{env:Env}{value slice:Expr}{pos:Pos}{T id:String}{Q:Value->Shared->Prop}
  (hl:typeLookup (.type T) "__getitem__" = pure (some (.builtin id))) (hs:NoSl slice)
  (h:wpAny (model prog w) A (eval value env) (fun o s₁=>wpAny (model prog w) A (eval slice env) (fun i s₂=>s₂.TypeIs o T/\wpAny (model prog w) A (getItem o i) Q E s₂) E s₁) E s):
  wpAny (model prog w) A (eval (.Subscript value slice pos) env) Q E s:=by
 refine Subscript_ (Ts h (fun o s₁ h₁=>Ts h₁ (fun i s₂ h₂=>?_) fun _ _ x=>x) fun _ _ x=>x);obtain⟨hT,h₂⟩:=h₂;unfold subscriptTail;refine Q1 ?_;rw[getitemInPython_of_ne hT.not_modules];refine Q1 (wpAny_specialOf hT hl ?_);have fin:wpAny (model prog w) A (subscripted slice false o i) (fun r s₃=>wpAny (model prog w) A (letTemporaryGo value o r >>= fun _=>pure r) Q E s₃) E s₂:=by
  rw[hs o i];exact wpAny_operating (Ts h₂ (fun r s₃ h₃=>Q1 (wpAny_letTemporaryGo (Q6 h₃))) fun _ _ x=>x)
 first
  |exact Q6 (Q1 fin)
  |exact Q1 (Q6 (Q1 fin))
  |exact Q1 fin
theorem oI{X:Cx}{pr:List (Addr×Obj)}{σ:St}{H:Hp}{s:Shared}{a:Addr}{y:V}{o:Option V}(I:Inv X pr σ H s)(g:DGet H a y o):s.TypeIs (.ref a) "dict":=by
 rcases g with⟨kvs,k,e,_,_⟩|⟨kvs,k,b,e,_,_,_⟩
 ·obtain⟨_,_,vs,_,dd⟩:=qO I.hok e;exact dd.typeIs
 ·obtain⟨_,_,xs,_,dd⟩:=sJ I.hok e;exact dd.typeIs
def DJ(td ty:TE):TE:=fun σ H Q=>td σ H fun x H1=>ty σ H1 fun y H2=>∃a v,x=.ref a/\DGet H2 a y (some v)/\Q v H2
def DK(td ty tv:TE):TS:=fun D σ H=>tv σ H fun v H1=>td σ H1 fun x H2=>ty σ H2 fun y H3=>∃a H4,x=.ref a/\DPut H3 a y v H4/\D.nx σ H4
section
variable{X:Cx}{o i e value:Expr}{pos pos' Ni:Pos}{td ty tv:TE}
theorem yK(hu:X.A.units+1<cLine)(ho:PE X o td)(hi:PE X i ty)(hs:NoSl i):PE X (.Subscript o i pos) (DJ td ty):=by
 intro pr s σ H Q I h;refine yJ PySem.F.slot_dict_getitem.lookup hs (Ge (ho pr s σ H _ I h) fun u s1 ⟨x,H1,I1,rx,q1⟩=>Ge (hi pr s1 σ H1 _ I1 q1) fun iv s2 Gf=>?_);obtain⟨y,H2,I2,ry,a,v,ex,g,q2⟩:=Gf;subst ex;obtain rfl:u=Value.ref a:=rx;exact⟨oI I2 g,sL hu I2 g ry fun w' s3 I3 JS=>⟨v,H2,I3,JS,q2⟩⟩
theorem yL(hu:X.A.units+1<cLine)(ho:PE X o td)(hi:PE X i ty)(hv:PE X value tv)(hs:swapsWith value (some (.Subscript o i pos')) pos.line X.env=pure false):
  PS X (.Assign [.Subscript o i pos'] value pos) (DK td ty tv):=by
 intro pr s σ H D I h;refine wpAny_Assign_Subscript (Ge (hv pr s σ H _ I h) fun r s1 ⟨v,H1,I1,rv,q1⟩=>Ge (ho pr s1 σ H1 _ I1 q1) fun u s2 ⟨x,H2,I2,rx,q2⟩=>Ge (hi pr s2 σ H2 _ I2 q2) fun iv s3 ⟨y,H3,I3,ry,a,H4,ex,g,q3⟩=>?_) hs;subst ex;obtain rfl:u=Value.ref a:=rx;exact sM hu I3 g ry rv fun s4 I4=>⟨σ,H4,I4,q3⟩
end
theorem dk_empty{P:Program}{w:World}{H:Hp}(h:Heap)(hb:sysModules<h.objs.size):ObjOk P w H (h.push {cls:=.type "dict",data:=.dict #[]}) h.objs.size (.dK []):=
 ⟨RM _,R3.mpr (SE (Rp hb)),[],.nil,Heap.DictOf.new h⟩
section
variable{X:Cx}{pos:Pos}
end
def tPairs:List (TE×TE)->St->Hp->(List (V×V)->Hp->Prop)->Prop
 |[],_,H,Q=>Q [] H
 |(tk,tv)::r,σ,H,Q=>tk σ H fun x H1=>tv σ H1 fun y H2=>tPairs r σ H2 fun ps H3=>Q ((x,y)::ps) H3
abbrev VV:List (V×V)->List (Value×Value)->Prop:=Paired fun p q=>RelV p.1 q.1/\RelV p.2 q.2
def OC(X:Cx)(pos:Pos)(keys:List (Option Expr))(values:List Expr)(K4:List (TE×TE)):Prop:=
 ∀(pr:List (Addr×Obj)) (s:Shared) (σ:St) (H:Hp) (Q:List (V×V)->Hp->Prop),Inv X pr σ H s->tPairs K4 σ H Q->
  wpAny (model X.prog X.w) X.A (evalPairs (pairTrees keys values X.env pos)) (fun vs s'=>∃ps H',Inv X pr σ H' s'/\VV ps vs/\Q ps H') X.xe s
theorem yM{X:Cx}{pos:Pos}:OC X pos [] [] []:=fun pr s σ H Q I h=>pairTrees_nil_walk ⟨[],H,I,.nil,h⟩
theorem vQ{X:Cx}{pos:Pos}{k v:Expr}{ks:List (Option Expr)}{vs:List Expr}{tk tv:TE}{K4:List (TE×TE)}(hk:PE X k tk)(hv:PE X v tv)(hr:OC X pos ks vs K4):
  OC X pos (some k::ks) (v::vs) ((tk,tv)::K4):=fun pr s σ H Q I h=>
 pairTrees_cons_walk (Ge (hk pr s σ H _ I h) fun u s1 ⟨x,H1,I1,rx,q1⟩=>Ge (hv pr s1 σ H1 _ I1 q1) fun w2 s2 ⟨y,H2,I2,ry,q2⟩=>
  Ge (hr pr s2 σ H2 _ I2 q2) fun ws s3 ⟨ps,H3,I3,rel,q3⟩=>⟨(x,y)::ps,H3,I3,.cons ⟨rx,ry⟩ rel,q3⟩)
def mR(kvs more:List (Key×V)):List (Key×V):=more.foldl (fun acc kv=>je acc kv.1 kv.2) kvs
theorem KV.merge:∀{more:List (Key×V)}{rs:List (Key×Value)}{kvs:List (Key×V)}{vs:List (Key×Value)},KV more rs->KV kvs vs->KV (mR kvs more) (merged vs rs):=by
 intro more rs kvs vs r;unfold KV at r;induction r generalizing kvs vs with
 |nil=>intro q;exact q
 | @cons p q ps qs h t ih=>
  intro r0;have e:KV (je kvs p.1 p.2) (stored vs q.1 q.2):=by
   have:=r0.put p.1 h.2;rw[<-h.1];exact this
  exact ih e
theorem g5:∀(more kvs:List (Key×V)),(mR kvs more).length<=kvs.length+more.length
 |[],kvs=>by show kvs.length<=kvs.length+0;lia
 |p::r,kvs=>by
  have h1:=g5 r (je kvs p.1 p.2);have h2:=gG kvs p.1 p.2;show(mR (je kvs p.1 p.2) r).length<=_;rw[Rk];lia
theorem kJ{P:Program}{w:World}:∀{kvs:List (Key×V)}{ws:List (Value×Value)},VV (kvs.map fun kv=>(kV kv.1,kv.2)) ws->∃rs,Carries (mixKind P w) ws rs/\KV kvs rs
 |[],_,r=>by rw[RS]at r;cases r;exact⟨[],True.intro,.nil⟩
 |p::kvs,_,r=>by
  rw[Rl]at r;cases r with
  | @cons a b as bs h t=>
   obtain⟨rs,c,q⟩:=kJ (P:=P) (w:=w) t;obtain⟨b1,b2⟩:=b;exact⟨(p.1,b2)::rs,⟨kV_is h.1,rfl,c⟩,.cons ⟨rfl,h.2⟩ q⟩
def DL(K4:List (TE×TE)):TE:=fun σ H Q=>∀p,H p=none->tPairs K4 σ (upd H p (.dK [])) fun ps H2=>H2 p=some (.dK [])/\∃kvs:List (Key×V),ps=kvs.map (fun kv=>(kV kv.1,kv.2))/\kvs.length<=15/\Q (.ref p) (upd H2 p (.dK (mR [] kvs)))
theorem yN{X:Cx}{pos:Pos}{keys:List (Option Expr)}{values:List Expr}{K4:List (TE×TE)}(h:OC X pos keys values K4)(Ki:keys.all (·.isSome)=true)(hl:keys.length=values.length)(h0:keys≠[])
  (h15:keys.length<=15):PE X (.Dict keys values pos) (DL K4):=by
 intro pr s σ H Q I q;have hn:=I.hok.fresh (Q8 s.heap.objs.size);have I1:=I.laid (a:=s.heap.objs.size) (o:=.dK []) (h':=s.heap.push {cls:=.type "dict",data:=.dict #[]}) (t':=s.toks) (fun _ _ q=>Heap.get?_push_of_some _ q) (Q8 _) (dk_empty s.heap I.big);refine wpAny_Dict_walk (knd:=mixKind X.prog X.w) Ki hl h0 h15 (Ge (h pr _ σ _ _ I1 (q _ hn)) fun ws s2 Gf=>?_);obtain⟨ps,H2,I2,rel,e,kvs,ep,lk,q2⟩:=Gf;subst ep;obtain⟨rs,c,rk⟩:=kJ (P:=X.prog) (w:=X.w) rel;obtain⟨z,hd,vs0,r0,dd⟩:=Bo I2.hok e;cases r0;refine⟨rs,c,dd,fun h' K3 hs=>⟨.ref s.heap.objs.size,_,?_,rfl,q2⟩⟩;have hz:(mR [] kvs).length<=sizeLine:=by
  have h1:=g5 kvs [];rw[Sa]at h1;rw[R0];lia
 have he:∃q,h'.get? s.heap.objs.size=some q:=let⟨q,_,_,hq,_⟩:=K3;⟨q,hq⟩
 exact oH I2 (by rw[e];exact True.intro) hs he (xv hz hd (rk.merge .nil) K3)
section
variable{X:Cx}{pr:List (Addr×Obj)}{σ:St}{H:Hp}{s:Shared}{a:Addr}{y d:V}{u r:Value}{o:Option V}{A:Around}{E:Value->Shared->Prop}
end
section
variable{X:Cx}{o e f:Expr}{apos Gd:Pos}{td ty tx:TE}
end
section
variable{X:Cx}{pr:List (Addr×Obj)}{σ:St}{H:Hp}{s:Shared}{a:Addr}{kvs:List (Key×V)}{A:Around}{E:Value->Shared->Prop}
end
section
variable{X:Cx}{pr:List (Addr×Obj)}{σ:St}{H:Hp}{s:Shared}{a:Addr}{y:V}{u:Value}{A:Around}{E:Value->Shared->Prop}
end
section
variable{κ:Type}[DecidableEq κ]
end
end L2
namespace NX
open PySem PySem.Spec PyProof.Rows L2
def RawD(h:Heap)(d:Addr)(es:Array DictEntry)(ep:Nat):Prop:=∃o,h.get? d=some o/\o.ExactDict/\o.data=.dict es ep
theorem RawD.at{h h':Heap}{d:Addr}{es:Array DictEntry}{ep:Nat}(x:RawD h d es ep)(e:∀o,h.get? d=some o->h'.get? d=some o):RawD h' d es ep:=by
 obtain⟨o,g,r⟩:=x;exact⟨o,e o g,r⟩
section
variable{prog:Program}{w:World}{A:Around}{E:Value->Shared->Prop}{s:Shared}{d it:Addr}{es:Array DictEntry}{ep i:Nat}
theorem jq(x:RawD s.heap d es ep):s.TypeIs (.ref d) "dict":=by
 obtain⟨o,g,ex,_⟩:=x;exact⟨o,g,ex.1⟩
theorem vR{Q:Value->Shared->Prop}(nm:(d==sysModules)=false)(x:RawD s.heap d es ep)
  (q:Q (.ref s.heap.objs.size) {s with heap:=s.heap.push {cls:=.type "dict_keyiterator",data:=.fields #[.ref d,.int 0 0,.int es.size 0,.int ep 0]}}):wpAny (model prog w) A (pyIter (.ref d)) Q E s:=by
 have ty:=jq x;obtain⟨o,g,ex,dat⟩:=x;refine wpAny_pyIter_slot ty F.slot_dict_iter (RY F.slot_dict_iter ty F.entry_dict_iter (Q1 ?_) (F.args_dict_iter_1 _));refine Q1 (wpAny_notOrdered_dict ty (Q6 ?_));show wpAny _ _ (Builtin.Dict.showsAll d >>= fun _=>_) _ _ s;have ns:Builtin.Dict.showsAll d=pure ():=by
  unfold Builtin.Dict.showsAll;rw[nm];rfl
 rw[ns];refine Q1 (Q6 (Q1 (TQ g dat (Q1 (U7 g dat (Q1 (RV (Q6 ⟨_,rfl,"dict_keyiterator",_,⟨_,Heap.get?_push_size _ rfl,rfl⟩,F.slot_dict_keyiterator_next.lookup,?_⟩))))))));exact q
theorem vS{Q:Option Value->Shared->Prop}{e:DictEntry}(hit:s.heap.IsKeyIter it d i es.size ep)(x:RawD s.heap d es ep)(hx:es[i]?=some e)
  (q:∀h',h'.IsKeyIter it d (i+1) es.size ep->Heap.SameBut it s.heap h'->Q (some e.key) {s with heap:=h'}):wpAny (model prog w) A (pyNext (.ref it)) Q E s:=by
 have ti:=hit.typeIs;obtain⟨o,g,oc,od⟩:=hit;obtain⟨ob,gd,_,dat⟩:=x;have Gy:i<es.size:=(Array.getElem?_eq_some_iff.mp hx).1;unfold pyNext;refine Q1 (UE (wpAny_callSpecial?_slot (name:=Str.ofString "__next__") ti Sr (RY Sr ti T3
  (Q1 (Q6 (Q1 (Q1 ?_)))) (TV _))))
 refine Q1 (Sn ti (Q6 (Q1 (wpAny_fieldsOf g od ?_))));have JP:Builtin.Dict_items.ownsTuple "dict_keyiterator" = false:=by decide
 simp only[JP,Sk,T8];show wpAny _ _ (if(Value.ref d==Value.none)=true then _ else _) _ _ s;have nz:¬ ((Value.ref d==Value.none)=true):=Rc;rw[Rg nz];refine Q1 (Q6 (Q1 (TQ gd dat ?_)));rw[Rg (by simp)];refine Q1 (Q6 (Q1 (U7 gd dat ?_)));rw[Rg (by simp)];refine Q6 ?_;simp only[Rg (show ¬ ((i:Int)<0) by lia),RP,hx];refine Q1 (Q1 (Sn ti (Q6 (Q1 (wpAny_isOneOf_keyiter ti ?_)))));show wpAny _ _ (setField (.ref it) 1 (rawInt ((i:Int)+1)) >>= fun _=>_) _ _ s;refine Q1 (Ur g od (by simp) ?_);have nx:(s.heap.update it (Obj.mapFields fun y=>y.setIfInBounds 1 (rawInt ((i:Int)+1)))).IsKeyIter it d (i+1) es.size ep:=
  ⟨_,Heap.get?_update_self _ g (Obj.isFreed_of_fields (Tz od _)),(Obj.cls_mapFields ..).trans oc,(Tz od _).trans (by simp[rawInt])⟩
 refine Q1 (SJ (Q1 (wpAny_isOneOf_keyiter (s:={s with heap:=s.heap.update it (Obj.mapFields fun y=>y.setIfInBounds 1 (rawInt ((i:Int)+1)))}) nx.typeIs ?_)));show wpAny _ _ (pure e.key) _ _ _;exact Q6 (Q6 ⟨_,rfl,Q6 (q _ nx (Tq ..))⟩)
theorem yO{Q:Option Value->Shared->Prop}(hh:A.handled=none)(hit:s.heap.IsKeyIter it d i es.size ep)(x:RawD s.heap d es ep)(hx:es[i]?=none)
  (q:∀h',Heap.ExtBut it s.heap h'->Q none {s with heap:=h'}):wpAny (model prog w) A (pyNext (.ref it)) Q E s:=by
 have ti:=hit.typeIs;obtain⟨o,g,oc,od⟩:=hit;obtain⟨ob,gd,_,dat⟩:=x;unfold pyNext;refine Q1 (UE (wpAny_callSpecial?_slot (name:=Str.ofString "__next__") ti Sr (RY Sr ti T3
  (Q1 (Q6 (Q1 (Q1 ?_)))) (TV _))))
 refine Q1 (Sn ti (Q6 (Q1 (wpAny_fieldsOf g od ?_))));have JP:Builtin.Dict_items.ownsTuple "dict_keyiterator" = false:=by decide
 simp only[JP,Sk,T8];show wpAny _ _ (if(Value.ref d==Value.none)=true then _ else _) _ _ s;have nz:¬ ((Value.ref d==Value.none)=true):=Rc;rw[Rg nz];refine Q1 (Q6 (Q1 (TQ gd dat ?_)));rw[Rg (by simp)];refine Q1 (Q6 (Q1 (U7 gd dat ?_)));rw[Rg (by simp)];refine Q6 ?_;simp only[Rg (show ¬ ((i:Int)<0) by lia),RP,hx];refine Q1 (Q1 (Sn ti (Q6 ?_)));show wpAny _ _ (setField (.ref it) 0 .none >>= fun _=>_) _ _ s;refine Q1 (Ur g od (by simp) ?_);show wpAny _ _ (newExc (.type "StopIteration") [] >>= fun _=>_) _ _ _;refine Q1 ?_;simp only[newExc,newTuple];refine Q1 (RV (Q1 (m:=firstArgMember _ _) (wpAny_of_eq (a:=Value.none) (by first|rfl|(simp only[firstArgMember];rfl)) (RV ?_ (by size_fits)))) (by size_fits));simp only[raiseNew];refine Q1 (wpAny_handled ?_);rw[show A.in1.handled=none from hh];refine Q1 (Q6 (wpAny_throw ?_));refine Q1 (wpAny_isInstance (b:=true) (T:="StopIteration") ⟨_,Heap.get?_push_size _ rfl,rfl⟩ isSubtype_stop ?_);exact Q6 (q _ (((Tq ..).extBut.push _).push _))
theorem sN(hh:A.handled=none)(I:Addr)(ne:d≠I):Walks prog w A I [I,d] [I] es.size (fun i v=>∃e,es[i]?=some e/\v=e.key) (fun i h=>h.IsKeyIter I d i es.size ep/\RawD h d es ep) where
 sub:=fun b hb=>by
  rw[Ry]at hb;rw[hb];exact Q2
 frame:=fun _ _ _ st hk=>⟨st.1.at fun o e=>hk I Q2 o e,st.2.at fun o e=>hk d (Q7 _ Q2) o e⟩
 item:=fun i s Q E hi st hQ=>by
  refine vS st.1 st.2 (Array.getElem?_eq_getElem hi) fun h' it' sb=>?_
  exact hQ _ h' s.toks ⟨_,Array.getElem?_eq_getElem hi,rfl⟩ ⟨it',st.2.at fun o e=>sb.extBut d o ne e⟩ fun b o hb e=>sb.extBut b o (fun z=>hb (by rw[z];exact Q2)) e
 done:=fun s Q E st hQ=>yO hh st.1 st.2 (Array.getElem?_eq_none (Q8 _)) fun h' ext=>hQ h' s.toks fun b o hb e=>ext b o (fun z=>hb (by rw[z];exact Q2)) e
 self:=fun _ _ _ _ st hQ=>wpAny_pyIter_keyiter st.1 hQ
theorem yP(nm:(d==sysModules)=false):PySem.W.KdlSrc prog w "dict" d d es.size (fun i v=>∃e,es[i]?=some e/\v=e.key) (fun h=>RawD h d es ep) where
 type:=fun _ x=>jq x
 there:=fun _ x=>by
  obtain⟨o,g,_⟩:=x;exact⟨Rf g,Rf g⟩
 keep:=fun _ _ x hk=>x.at fun o e=>hk d (.inl rfl) o e
 notList:=by decide
 notTuple:=by decide
 hint:=fun _ _ _ _ x q=>PySem.W.kdl_hint_dict (jq x) q
 iter:=fun _ s hh x=>⟨_,_,(fun _ _ q=>vR nm x q),sN hh _ (by obtain⟨o,g,_⟩:=x;exact Rp (Rf g)),⟨⟨_,Heap.get?_push_size _ rfl,rfl,rfl⟩,x.at fun o e=>Heap.get?_push_of_some _ e⟩⟩
end
end NX
namespace NX
open PySem PySem.W PySem.Spec PyProof.Rows L2
section
variable{prog:Program}{w:World}{A:Around}{E:Value->Shared->Prop}{s:Shared}
theorem qP{O:KeyOrd}{key:Nat->O.α}{kd:SortKind}{l:Addr}{vs:List Value}{Q:Value->Shared->Prop}
  (hcol:∀Q':List Value->Shared->Prop,(∀h' tk,(∀b o,s.heap.get? b=some o->h'.get? b=some o)->Q' vs {s with heap:=h',toks:=tk})->wpAny (model prog w) A.in1 (collect (.ref l)) Q' E s) (JW:vs.length<64)
  (Ie:2<=vs.length->∀(A':Around) (E':Value->Shared->Prop) (s':Shared),(∀b o,s.heap.get? b=some o->s'.heap.get? b=some o)->∀Q:SortKind->Shared->Prop,Q kd s'->wpAny (model prog w) A' (keyKind' vs.toArray) Q E' s')
  (Kk:∀i j,i<vs.length->j<vs.length->∀s':Shared,(∀b o,s.heap.get? b=some o->s'.heap.get? b=some o)->∀C:Bool->Shared->Prop,C (O.blt (key i) (key j)) s'->kas_ask prog w A.in1.in1 kd vs i j C s')
  (h:∀(p:Array Nat) (h5 h':Heap) (tk e:Nat),POk vs.length p->aX key p vs.length->(∀b o,s.heap.get? b=some o->h5.get? b=some o)->(∀b o,h5.get? b=some o->h'.get? b=some o)->h'.get? h5.objs.size=some (seqObj "list" (List.toArray (p.toList.map fun i=>vs.getD i .none)) e)->Q (.ref h5.objs.size) {s with heap:=h',toks:=tk}):
  wpAny (model prog w) A (call (.builtin "sorted") [.ref l]) Q E s:=by
 refine Tg kind_sorted plain_sorted entry_sorted (args_sorted1 _) ?_;unfold Builtin.«sorted»;refine Q1 (m:=checkCount "sorted" 1 1 _) (Q6 (Q1 (hcol _ fun h5 tk k5=>?_)));refine Q1 (VB ?_ (by rw[R0];lia));have k6:∀b o,s.heap.get? b=some o->(h5.push (seqObj "list" vs.toArray 0)).get? b=some o:=fun b o e=>Heap.get?_push_of_some _ (k5 b o e)
 have hL:(h5.push (seqObj "list" vs.toArray 0)).get? h5.objs.size=some (seqObj "list" vs.toArray 0):=Heap.get?_push_size _ rfl;have Qn:∀b o,s.heap.get? b=some o->b<h5.objs.size:=fun b o e=>Rf (k5 b o e)
 show wpAny _ _ _ _ _ {s with heap:=h5.push (seqObj "list" vs.toArray 0),toks:=tk};refine Q1 (SJ (RY slot_list_sort ⟨_,hL,rfl⟩ entry_list_sort (gZ (key:=key) (kd:=kd) hL JW (fun h2 h' kk Q' q=>Ie h2 _ _ _ (fun b o e=>kk b o (Rp (Qn b o e)) (k6 b o e)) Q' q)
  (fun i j hi hj h' kk C q=>Kk i j hi hj _ (fun b o e=>kk b o (Rp (Qn b o e)) (k6 b o e)) C q) fun p h' hp hs ⟨e,he⟩ kk=>⟨_,rfl,?_⟩) (args_list_sort _)))
 exact Q6 ⟨_,rfl,h p h5 h' tk e hp hs k5 (fun b o q=>kk b o (Rp (Rf q)) (Heap.get?_push_of_some _ q)) he⟩
end
section
variable{X:Cx}{pr:List (Addr×Obj)}{σ:L2.St}{H:Hp}{s:Shared}
theorem yQ{H:Hp}{kvs:List (List Key×V)}{xs:List (List Key×Addr×Value)}(r:KT H kvs xs):xs.map (·.1)=kvs.map (·.1):=by
 induction r with
 |nil=>rfl
 |cons hq _ ih=>rw[Rl,Rl,ih,hq.1]
theorem DM{H:Hp}{kvs:List (List Key×V)}{xs:List (List Key×Addr×Value)}(r:KT H kvs xs):∀y∈xs,H y.2.1=some (.tup (y.1.map kV)):=by
 induction r with
 |nil=>exact fun y hy=>nomatch hy
 |cons hq _ ih=>
  intro y hy;rcases Ri.mp hy with rfl|hy
  ·rw[<-hq.1];exact hq.2.1
  ·exact ih y hy
theorem yR(I:Inv X pr σ H s){a:Addr}{kvs:List (List Key×V)}(h:Rd H a (.dT kvs)):(a==sysModules)=false/\∃(al:List (Addr×List Key)) (es:Array DictEntry) (ep:Nat),
  RawD s.heap a es ep/\es.toList.map (·.key)=al.map (fun x=>Value.ref x.1)/\al.map (·.2)=kvs.map (·.1)/\∀x∈al,H x.1=some (.tup (x.2.map kV)):=by
 obtain⟨_,nm,xs,r,o,es,ep,h1,h2,h3,h4,_⟩:=h.ok I.hok;refine⟨nm,xs.map fun x=>(x.2.1,x.1),es,ep,⟨o,h1,h2,h3⟩,?_,?_,?_⟩
 ·rw[h4,Rq,Rq];rfl
 ·rw[Rq];exact yQ r
 ·intro x hx;obtain⟨y,hy,rfl⟩:=RW.mp hx;exact DM r y hy
theorem ku(hc:X.calm=true):di X (.builtin "sorted") (fun vs H Q=>∃(p:Addr) (kvs:List (List Key×V)) (top:Bool) (t:List Bool),vs=[.ref p]/\Rd H p (.dT kvs)/\(∀kv∈kvs,kinds kv.1=top::t)/\kvs.length<64/\
  ∀(D:Addr) (ms:List (Addr×List Key)),H D=none->(∀a∈ms,H a.1=some (.tup (a.2.map kV)))->(ms.map (·.2)).Perm (kvs.map (·.1))->ms.Pairwise (fun a b=>c9 b.2 a.2=false)->Q (.ref D) (upd H D (.lst (ms.map fun a=>V.ref a.1)))):=by
 intro pr s σ H vs us Q I r h;obtain⟨p,kvs,top,kt,rfl,hp,hk,JW,q⟩:=h;obtain⟨u,rfl,r1⟩:=e8 r;cases r1;obtain⟨nm,al,es,ep,raw,Kl,OD,Ma⟩:=yR I hp;have Ki:al.length=kvs.length:=by
  have:=R7 List.length OD;simpa using this
 have IW:∀a∈al,SqT X.K H a.1 (a.2.map kV)/\kinds a.2=top::kt:=fun a ha=>by
  refine⟨SqT.of (Ma a ha),?_⟩;have:a.2∈kvs.map (·.1):=by rw[<-OD];exact RW.mpr ⟨a,ha,rfl⟩
  obtain⟨kv,HZ,e⟩:=RW.mp this;rw[<-e];exact hk kv HZ
 have rv:Vals (al.map fun a=>V.ref a.1) (al.map fun a=>Value.ref a.1):=by
  clear Kl OD Ma Ki IW;induction al with
  |nil=>exact .nil
  |cons a al ih=>exact .cons rfl ih
 have hl:(al.map fun a=>Value.ref a.1).length=al.length:=Q3 ..;refine qP (O:=C5) (key:=fun i=>(al.getD i (0,[])).2) (kd:=tuples' true) (vs:=al.map fun a=>Value.ref a.1) (fun Q' hq=>?_) (by lia) (fun h2 A' E' s' kk Q' q'=>?_) (fun i j hi hj s' kk C q'=>?_) fun pp h5 h' tk e HS hs k5 k' he=>?_
 ·refine kdu_collect (yP nm) (I.ok.hd hc) raw (by have:=R7 List.length Kl;simp only[Q3,R4]at this;rw[R0];lia) fun h' tk acc kk Jn=>?_
  have ea:acc.toList=al.map fun a=>Value.ref a.1:=by
   rw[<-Kl];apply Td;intro j;rw[List.getElem?_map,Array.getElem?_toList,Array.getElem?_toList];cases hj:acc[j]? with
   |none=>
    have:es[j]?=none:=by
     rw[Array.getElem?_eq_none_iff]at hj ⊢;rw[<-Jn.1];exact hj
    rw[this];rfl
   |some v=>
    obtain⟨en,h1,h2⟩:=Jn.2 j v hj;rw[h1,h2];rfl
  have:=hq h' tk kk;rw[<-ea]at this;exact this
 ·obtain⟨fs,t1,t2,t3⟩:=pD (h':=s'.heap) I kk top rv fun a ha=>⟨(IW a ha).1,kt,(IW a ha).2⟩
  refine kat_kind (T:=.type (if top then "int" else "str")) t1 (by lia) (fun v hv=>t3 v hv _) (by simp) ?_;have:((Value.type (if top then "int" else "str")) != Value.type "tuple")=true:=by cases top <;> decide
  rw[this];exact q'
 ·unfold kas_ask;have KP:i<al.length:=by lia
  have L7:j<al.length:=by lia
  rw[lC rv KP,lC rv L7];have mi:al.getD i (0,[])∈al:=by rw[bh _ _ _ KP];exact To _
  have mj:al.getD j (0,[])∈al:=by rw[bh _ _ _ L7];exact To _
  obtain⟨u1,o1,n1,r1,g1,_,d1⟩:=mN I (IW _ mi).1;obtain⟨u2,o2,n2,r2,g2,_,d2⟩:=mN I (IW _ mj).1;have ek:kinds (al.getD i (0,[])).2=kinds (al.getD j (0,[])).2:=by rw[(IW _ mi).2,(IW _ mj).2]
  have el:u1.length=u2.length:=by
   have a1:=r1.length;have a2:=r2.length;have a3:=R7 List.length ek;simp only[kinds,Q3]at a1 a2 a3;lia
  refine kat_lt (kk _ _ g1) d1 (kk _ _ g2) d2 ?_;have ef:decide (u1.toArray.size<u2.toArray.size)=false:=by simp[el]
  rw[ef];exact jC _ _ _ _ 0 r1 r2 ek q'
 ·rw[hl]at HS hs;have L8:POk (al.map fun a=>V.ref a.1).length pp:=by rw[Q3];exact HS
  have eo:qN pp (al.map fun a=>V.ref a.1)=(pp.toList.map fun i=>al.getD i (0,[])).map fun a=>V.ref a.1:=by
   unfold qN;rw[Rq];refine R5 fun i hi=>?_
   have hi:=RL.mp (HS.perm.mem_iff.mp hi);show(al.map fun a=>V.ref a.1).getD i .non=V.ref (al.getD i (0,[])).1;rw[bh _ _ _ (by rw[Q3];exact hi),bh _ _ _ hi];simp
  have I5:Inv X pr σ H {s with heap:=h5,toks:=tk}:=I.kept k5;have hn:H h5.objs.size=none:=I5.hok.fresh (Q8 _);refine⟨.ref h5.objs.size,_,g0 (s:={s with heap:=h5,toks:=tk}) I5 k' (Q8 _) he (jm rv L8) ?_,rfl,?_⟩
  ·show(qN pp (al.map fun a=>V.ref a.1)).length<=sizeLine;rw[eo,Q3,Q3,HS.perm.length_eq,Rr,R0];lia
  ·rw[eo];have pm:=jl (0,[]) HS;refine q _ _ hn (fun a ha=>Ma a (pm.mem_iff.mp ha)) ?_ ?_
   ·rw[<-OD];exact pm.map _
   ·exact fX (O:=C5) (0,[]) (fun a:Addr×List Key=>a.2) HS hs
end
end NX
namespace NX
open PySem PySem.Spec PyProof.Rows L2
section
open PySem.SeqAt
open PySem.AutoSeq1 (wpAny_loadPart')
open PySem.MeetsSeq PySem.MeetsSeq2 PySem.MeetsSeq3
theorem pF{A:Around}{s:Shared}{a c:Key}{u v:Value}(ra:RelV (kV a) u)(rc:RelV (kV c) v):EqAt A s u v (decide (a=c)):=by
 have h:=xk (A:=A) (s:=s) ra rc (jo a) (jo c);rw[sI]at h;exact h
theorem vT{prog:Program}{w:World}{A:Around}{E:Value->Shared->Prop}{s:Shared}{Q:Value->Shared->Prop}{a c:Key}{u v:Value}(ra:RelV (kV a) u)(rc:RelV (kV c) v)(hk:a.isLeft=c.isLeft)(h:Q (.bool (ot.blt a c)) s):
  wpAny (model prog w) A (richCompare .Lt u v) Q E s:=by
 cases a with
 |inl i=>
  cases c with
  |inr _=>cases hk
  |inl j=>
   obtain⟨t,rfl⟩:=ra;obtain⟨t',rfl⟩:=rc;exact(PyProof.Rows.lt_int h:wpAny (model prog w) A (compareOp .Lt (.int i t) (.int j t')) Q E s)
 |inr x=>
  cases c with
  |inl _=>cases hk
  |inr y=>
   obtain⟨t,rfl⟩:=ra;obtain⟨t',rfl⟩:=rc;exact(PyProof.Rows.lt_str h:wpAny (model prog w) A (compareOp .Lt (.str x t) (.str y t')) Q E s)
theorem vU{prog:Program}{w:World}{A:Around}{E:Value->Shared->Prop}{s:Shared}{Q:Value->Shared->Prop}{a c:Key}{u v:Value}(ra:RelV (kV a) u)(rc:RelV (kV c) v)(hk:a.isLeft=c.isLeft)(h:Q (.bool (!ot.blt a c)) s):
  wpAny (model prog w) A (richCompare .GtE u v) Q E s:=by
 cases a with
 |inl i=>
  cases c with
  |inr _=>cases hk
  |inl j=>
   obtain⟨t,rfl⟩:=ra;obtain⟨t',rfl⟩:=rc;refine(PyProof.Rows.ge_int ?_:wpAny (model prog w) A (compareOp .GtE (.int i t) (.int j t')) Q E s);have e:(!ot.blt (.inl i) (.inl j))=decide (j<=i):=by
    show(!decide (i<j))=decide (j<=i);rw[RG];simp
   rw[e]at h;exact h
 |inr x=>
  cases c with
  |inl _=>cases hk
  |inr y=>
   obtain⟨t,rfl⟩:=ra;obtain⟨t',rfl⟩:=rc;exact(PySem.P.ge_str h:wpAny (model prog w) A (compareOp .GtE (.str x t) (.str y t')) Q E s)
theorem mS(a c:Key)(r t:List Key):c9 (a::r) (c::t)=if a=c then c9 r t else ot.blt a c:=rfl
theorem lF(l b:Addr)(items GP:Array Value)(n n2:Nat)(dd JI:Option Addr)(sl JJ:Array (Option Value))(ks js:List Key)(hi:Vals (ks.map kV) items.toList)(hj:Vals (js.map kV) GP.toList)(hk:kinds ks=kinds js):
  Meets (Builtin.«tuple.__lt__» ⟨[.ref l,.ref b],[]⟩)
   (fun _ R s=>s.heap.get? l=some {cls:=.type "tuple",dict:=dd,data:=.seq items n,slots:=sl}/\s.heap.get? b=some {cls:=.type "tuple",dict:=JI,data:=.seq GP n2,slots:=JJ}/\R (.ok (.ret (.bool (c9 ks js)))) s):=
 .of_wp fun prog w A R s h=>by
  obtain⟨hp,g,d,tk,os⟩:=s;obtain⟨hl,hb,h⟩:=h;have f2:=Uz;have z1:items.size=ks.length:=by have:=hi.length;simp at this;lia
  have z2:GP.size=js.length:=by have:=hj.length;simp at this;lia
  have z3:ks.length=js.length:=by have:=R7 List.length hk;simpa[kinds] using this
  wp_walk using wpAny_loadPart' hl,wpAny_loadPart' hb,UM _ (fun dq b s'=>b.1=none/\s'=⟨hp,g,d,tk,os⟩/\∃(vs ws:List Value) (Hu HU:List Key),dq=vs.zip ws/\
   Vals (Hu.map kV) vs/\Vals (HU.map kV) ws/\kinds Hu=kinds HU/\R (.ok (.ret (.bool (c9 Hu HU)))) ⟨hp,g,d,tk,os⟩) _
  case turn=>
   rintro⟨y,x⟩ dq b s' ⟨Mb,rfl,vs,ws,Hu,HU,hz,K5,Mc,Jp,hR⟩;cases Hu with
   |nil=>
    cases K5;rw[List.zip_nil_left]at hz;cases hz
   |cons a Hu=>
    cases HU with
    |nil=>cases Jp
    |cons c HU=>
     cases K5 with
     | @cons _ va _ Iw ra hvi'=>
      cases Mc with
      | @cons _ vc _ Km rc hwi'=>
       rw[Sl]at hz;injection hz with hyx hrest;injection hyx with hy hx;subst hy hx;have Pn:a.isLeft=c.isLeft:=(SX Jp).1;have OE:kinds Hu=kinds HU:=(SX Jp).2;rw[mS]at hR;have he:=pF (A:=A.in1) (s:=⟨hp,g,d,tk,os⟩) ra rc;refine Q1 (he prog w _ _ ?_);by_cases hac:a=c
       ·rw[Rb hac]at hR;rw[RJ hac]
        wp_walk
        exact⟨rfl,rfl,_,_,_,_,hrest,hvi',hwi',OE,hR⟩
       ·rw[Rg hac]at hR;rw[RF hac];have Po:=fun E Q=>vT (prog:=prog) (w:=w) (A:=A.in1) (E:=E) (s:=⟨hp,g,d,tk,os⟩) (Q:=Q) ra rc Pn
        wp_walk using Po
        exact⟨_,rfl,by simpa using hR⟩
  case fin=>
   rintro⟨b1,b2⟩ s' ⟨Mb,rfl,vs,ws,Hu,HU,hz,K5,Mc,Jp,hR⟩;simp only at Mb;subst Mb;have hv:c9 Hu HU=decide (items.size<GP.size):=by
    cases Hu with
    |nil=>
     cases HU with
     |nil=>exact(RF (by lia)).symm
     |cons c HU=>cases Jp
    |cons a Hu=>
     cases HU with
     |nil=>cases Jp
     |cons c HU=>
      cases K5;cases Mc;rw[Sl]at hz;cases hz
   rw[hv]at hR
   wp_walk
   exact⟨_,rfl,by simpa[Builtin.Tuple.tupleCompareSizes] using hR⟩
  case h=>
   exact⟨rfl,rfl,items.toList,GP.toList,ks,js,rfl,hi,hj,hk,h⟩
theorem lG(l b:Addr)(items GP:Array Value)(n n2:Nat)(dd JI:Option Addr)(sl JJ:Array (Option Value))(ks js:List Key)(hi:Vals (ks.map kV) items.toList)(hj:Vals (js.map kV) GP.toList)(hk:kinds ks=kinds js):
  Meets (Builtin.«tuple.__ge__» ⟨[.ref l,.ref b],[]⟩)
   (fun _ R s=>s.heap.get? l=some {cls:=.type "tuple",dict:=dd,data:=.seq items n,slots:=sl}/\s.heap.get? b=some {cls:=.type "tuple",dict:=JI,data:=.seq GP n2,slots:=JJ}/\R (.ok (.ret (.bool (!c9 ks js)))) s):=
 .of_wp fun prog w A R s h=>by
  obtain⟨hp,g,d,tk,os⟩:=s;obtain⟨hl,hb,h⟩:=h;have f2:=Uz;have z1:items.size=ks.length:=by have:=hi.length;simp at this;lia
  have z2:GP.size=js.length:=by have:=hj.length;simp at this;lia
  have z3:ks.length=js.length:=by have:=R7 List.length hk;simpa[kinds] using this
  wp_walk using wpAny_loadPart' hl,wpAny_loadPart' hb,UM _ (fun dq b s'=>b.1=none/\s'=⟨hp,g,d,tk,os⟩/\∃(vs ws:List Value) (Hu HU:List Key),dq=vs.zip ws/\
   Vals (Hu.map kV) vs/\Vals (HU.map kV) ws/\kinds Hu=kinds HU/\R (.ok (.ret (.bool (!c9 Hu HU)))) ⟨hp,g,d,tk,os⟩) _
  case turn=>
   rintro⟨y,x⟩ dq b s' ⟨Mb,rfl,vs,ws,Hu,HU,hz,K5,Mc,Jp,hR⟩;cases Hu with
   |nil=>
    cases K5;rw[List.zip_nil_left]at hz;cases hz
   |cons a Hu=>
    cases HU with
    |nil=>cases Jp
    |cons c HU=>
     cases K5 with
     | @cons _ va _ Iw ra hvi'=>
      cases Mc with
      | @cons _ vc _ Km rc hwi'=>
       rw[Sl]at hz;injection hz with hyx hrest;injection hyx with hy hx;subst hy hx;have Pn:a.isLeft=c.isLeft:=(SX Jp).1;have OE:kinds Hu=kinds HU:=(SX Jp).2;rw[mS]at hR;have he:=pF (A:=A.in1) (s:=⟨hp,g,d,tk,os⟩) ra rc;refine Q1 (he prog w _ _ ?_);by_cases hac:a=c
       ·rw[Rb hac]at hR;rw[RJ hac]
        wp_walk
        exact⟨rfl,rfl,_,_,_,_,hrest,hvi',hwi',OE,hR⟩
       ·rw[Rg hac]at hR;rw[RF hac];have Po:=fun E Q=>vU (prog:=prog) (w:=w) (A:=A.in1) (E:=E) (s:=⟨hp,g,d,tk,os⟩) (Q:=Q) ra rc Pn
        wp_walk using Po
        exact⟨_,rfl,by simpa using hR⟩
  case fin=>
   rintro⟨b1,b2⟩ s' ⟨Mb,rfl,vs,ws,Hu,HU,hz,K5,Mc,Jp,hR⟩;simp only at Mb;subst Mb;have hv:(!c9 Hu HU)=decide (GP.size<=items.size):=by
    cases Hu with
    |nil=>
     cases HU with
     |nil=>exact(RJ (by lia)).symm
     |cons c HU=>cases Jp
    |cons a Hu=>
     cases HU with
     |nil=>cases Jp
     |cons c HU=>
      cases K5;cases Mc;rw[Sl]at hz;cases hz
   rw[hv]at hR
   wp_walk
   exact⟨_,rfl,by simpa[Builtin.Tuple.tupleCompareSizes] using hR⟩
  case h=>
   exact⟨rfl,rfl,items.toList,GP.toList,ks,js,rfl,hi,hj,hk,h⟩
end
section
variable{X:Cx}
def Ey(K:W.Frag)(neg:Bool):R2:=fun x y H Q=>∃a b ks js,x=.ref a/\y=.ref b/\SqT K H a (ks.map kV)/\SqT K H b (js.map kV)/\kinds ks=kinds js/\Q (.bl (if neg then !c9 ks js else c9 ks js)) H
theorem Bp(hu:X.A.units<cLine):GH X (compareOp .Lt) (Ey X.K false):=by
 intro pr s σ H x y v u Q I rx ry h;obtain⟨a,b,ks,js,rfl,rfl,ha,hb,hk,q⟩:=h;cases rx;cases ry;obtain⟨F1,r1,p1,_⟩:=I.tuple ha;obtain⟨Jl,r2,p2,_⟩:=I.tuple hb;obtain⟨⟨cls,dd,data,sl⟩,ho,hc,n,hd⟩:=id p1;obtain⟨⟨KW,JI,data2,JJ⟩,Hz,IV,n2,hd2⟩:=id p2;simp only at hc hd IV hd2;subst hc hd IV hd2;exact richCompare_meets_room (op:=.Lt) ⟨_,ho,rfl⟩ ⟨_,Hz,rfl⟩ PySem.F.slot_tuple_lt PySem.F.entry_tuple_lt (PySem.F.args_tuple_lt_2 _ _) (lF a b _ _ n n2 dd JI sl JJ ks js (by simpa using r1) (by simpa using r2) hk)
  ⟨ho,Hz,show Value.bool (c9 ks js)≠Value.notImplemented/\EP X pr σ Q (.bool (c9 ks js)) s from⟨(fun x=>nomatch x),⟨.bl (c9 ks js),H,I,rfl,q⟩⟩⟩ hu
theorem Bq(hu:X.A.units<cLine):GH X (compareOp .GtE) (Ey X.K true):=by
 intro pr s σ H x y v u Q I rx ry h;obtain⟨a,b,ks,js,rfl,rfl,ha,hb,hk,q⟩:=h;cases rx;cases ry;obtain⟨F1,r1,p1,_⟩:=I.tuple ha;obtain⟨Jl,r2,p2,_⟩:=I.tuple hb;obtain⟨⟨cls,dd,data,sl⟩,ho,hc,n,hd⟩:=id p1;obtain⟨⟨KW,JI,data2,JJ⟩,Hz,IV,n2,hd2⟩:=id p2;simp only at hc hd IV hd2;subst hc hd IV hd2;exact richCompare_meets_room (op:=.GtE) ⟨_,ho,rfl⟩ ⟨_,Hz,rfl⟩ PySem.F.slot_tuple_ge PySem.F.entry_tuple_ge (PySem.F.args_tuple_ge_2 _ _) (lG a b _ _ n n2 dd JI sl JJ ks js (by simpa using r1) (by simpa using r2) hk)
  ⟨ho,Hz,show Value.bool (!c9 ks js)≠Value.notImplemented/\EP X pr σ Q (.bool (!c9 ks js)) s from⟨(fun x=>nomatch x),⟨.bl (!c9 ks js),H,I,rfl,q⟩⟩⟩ hu
end
section
variable{prog:Program}{w:World}{A:Around}{E:Value->Shared->Prop}{s:Shared}
end
section
variable{X:Cx}{pr:List (Addr×Obj)}{σ:L2.St}{H:Hp}{s:Shared}{scope:Scope}{N:List Str}{ix:List (Option Nat)}{fp:List Addr}
end
section
variable{X:Cx}{scope:Scope}{N:List Str}{ix:List (Option Nat)}{tg iter elt:Expr}{ifs:List Expr}{pos:Pos}{wi:TI}{g:TG}{tc:TT}{te:TE}
end
noncomputable def CXC(P:Program)(w:World)(base:Heap)(C:Addr):CXT:=fun outer H s E e s'=>
 ∃(a t:Addr) (B:Heap) (H':Hp),e=.ref a/\s'.os=s.os/\AllBare s'.gens/\Un (JH outer) [] H H' s.heap s'.heap/\HOk P w H' s'.heap/\Heap.FlyingW B outer a (.ref C) (.ref t) s'.heap/\
  (∀b u,s'.heap.get? b=some u->(H' b≠none\/∃o,s.heap.get? b=some o)->b∉JH outer->B.get? b=some u)/\E (.ref C) none H'
section
variable{X:Cx}{st:Stmt}{dq:List Stmt}{t:TS}{u u':L2.St->Hp->Prop}{e:Expr}{es:List Expr}{x:Str}{C:Addr}{Ww:Hp->Prop}{np Gd pos:Pos}
end
def XP(X:Cx)(pr:List (Addr×Obj))(σ:L2.St)(C:Addr)(Ww:Hp->Prop)(e:Value)(s':Shared):Prop:=∃(s1:Shared) (H1:Hp),Inv X pr σ H1 s1/\CXC X.prog X.w X.base C X.stack H1 s1 (fun _ _ H'=>Ww H') e s'
abbrev TX:=L2.St->Hp->(Hp->Prop)->Prop
section
variable{X:Cx}{st:Stmt}{dq:List Stmt}{tx:TX}{e a b:Expr}{es:List Expr}{x:Str}{C:Addr}{k:Nat}{sp:Sp}{p pos:Pos}
end
open PySem.Builtin.ObjectAttr PySem.Builtin.Getset_descriptor
section
variable{prog:Program}{w:World}{A:Around}{E:Value->Shared->Prop}{s:Shared}{K:W.Frag}{x D:Addr}
end
section
variable{X:Cx}{pr:List (Addr×Obj)}{σ:L2.St}{H:Hp}{s:Shared}{a:Addr}{o:Obj}
end
end NX
namespace NX
open PySem PySem.W PySem.Spec PyProof.Rows L2
section
variable{prog:Program}{w:World}{A:Around}{E:Value->Shared->Prop}{s:Shared}
end
section
variable{X:Cx}
end
end NX
namespace NX
open PySem PySem.Spec PyProof.Rows L2
section
variable{X:Cx}{es:List Expr}{kt:Nat}{pt:Pos}
end
end NX
namespace PV
open PySem L2 NX
inductive D where
 |non|bl (b:Bool)|int (i:Int)|str (l:List Nat)|tup (ds:List D)|lst (ds:List D)|dct (tk:Bool) (ks vs:List D)
inductive O where
 |f|l (c:O)|t (cs:List O)|d|pin (p:Addr) (c:O)
abbrev R:=O×D
abbrev Env:=List (Option R)
inductive Res(α:Type) where
 |ok (a:α)|exc (c:List Nat)|bad
def kD:Key->D
 | .inl i=>.int i
 | .inr x=>.str x.cps.toList
def isM:HO->Bool
 | .lst _=>true
 | .dK _=>true
 | .dT _=>true
 |_=>false
def isT:HO->Bool
 | .tup _=>true
 | .frz _ (.tup _)=>true
 |_=>false
def qQ:Key->Prop
 | .inl _=>True
 | .inr x=>x.cps.toList.length<=sizeLine
def DictO(o:HO)(tk:Bool)(ks:List D)(xs:List V):Prop:=match tk with
 |true=>∃kvs:List (List Key×V),o=.dT kvs/\ks=kvs.map (fun kv=>D.tup (kv.1.map kD))/\xs=kvs.map (·.2)/\∀kv∈kvs,∀k∈kv.1,qQ k
 |false=>∃kvs:List (Key×V),o=.dK kvs/\ks=kvs.map (fun kv=>kD kv.1)/\xs=kvs.map (·.2)/\∀kv∈kvs,qQ kv.1
mutual
noncomputable def Rep(K:W.Frag)(G:Hp):D->V->Prop
 | .non,v=>v=.non
 | .bl b,v=>v=.bl b
 | .int i,v=>v=.int i
 | .str l,v=>v=.str (S l)/\l.length<=sizeLine
 | .tup ds,v=>∃p xs,v=.ref p/\G p=some (.tup xs)/\Reps K G ds xs
 | .lst ds,v=>∃p xs,v=.ref p/\SqL K G p xs/\Reps K G ds xs
 | .dct tk ks vs,v=>∃p xs o,v=.ref p/\Rd G p o/\DictO o tk ks xs/\Reps K G vs xs
noncomputable def Reps(K:W.Frag)(G:Hp):List D->List V->Prop
 |[],xs=>xs=[]
 |d::ds,xs=>∃y ys,xs=y::ys/\Rep K G d y/\Reps K G ds ys
end
def AllO(P:D->V->List Addr->Prop):List D->List V->List Addr->Prop
 |[],xs,fp=>xs=[]/\fp=[]
 |d::ds,xs,fp=>∃y ys a b,xs=y::ys/\fp=a++b/\P d y a/\AllO P ds ys b
mutual
noncomputable def RepO(K:W.Frag)(G H:Hp):O->D->V->List Addr->Prop
 | .f,d,v,fp=>Rep K G d v/\fp=[]
 | .l c,.lst ds,v,fp=>∃p xs F2,v=.ref p/\H p=some (.lst xs)/\fp=p::F2/\AllO (RepO K G H c) ds xs F2
 | .t cs,.tup ds,v,fp=>∃p xs,v=.ref p/\G p=some (.tup xs)/\RepT K G H cs ds xs fp
 | .d,.dct tk ks vs,v,fp=>∃p xs o,v=.ref p/\H p=some o/\DictO o tk ks xs/\fp=[p]/\Reps K G vs xs
 | .pin p c,d,v,fp=>v=.ref p/\RepO K G H c d v fp
 |_,_,_,_=>False
noncomputable def RepT(K:W.Frag)(G H:Hp):List O->List D->List V->List Addr->Prop
 |[],[],xs,fp=>xs=[]/\fp=[]
 |c::cs,d::ds,xs,fp=>∃y ys a b,xs=y::ys/\fp=a++b/\RepO K G H c d y a/\RepT K G H cs ds ys b
 |_,_,_,_=>False
end
section
variable{K:W.Frag}{G G' H H':Hp}
theorem Rd.mono{p:Addr}{u:HO}(h:Same G G')(r:Rd G p u):Rd G' p u:=by
 rcases r with r|⟨o,r⟩
 ·exact .inl (h _ _ r)
 ·exact .inr ⟨o,h _ _ r⟩
theorem eB{p:Addr}{xs:List V}(h:Same G G')(r:SqL K G p xs):SqL K G' p xs:=r.elim (fun r=>.inl (Rd.mono h r)) .inr
theorem bE{p:Addr}{xs:List V}(h:Same G G')(r:SqT K G p xs):SqT K G' p xs:=r.elim (fun r=>.inl (Rd.mono h r)) .inr
mutual
theorem Rep.mono(h:Same G G'):∀{d:D}{v:V},Rep K G d v->Rep K G' d v
 | .non,_,r=>by simpa only[Rep] using r
 | .bl _,_,r=>by simpa only[Rep] using r
 | .int _,_,r=>by simpa only[Rep] using r
 | .str _,_,r=>by simpa only[Rep] using r
 | .tup ds,_,r=>by
  simp only[Rep]at r ⊢;obtain⟨p,xs,e,q,rs⟩:=r;exact⟨p,xs,e,h _ _ q,Reps.mono h rs⟩
 | .lst ds,_,r=>by
  simp only[Rep]at r ⊢;obtain⟨p,xs,e,q,rs⟩:=r;exact⟨p,xs,e,eB h q,Reps.mono h rs⟩
 | .dct tk ks vs,_,r=>by
  simp only[Rep]at r ⊢;obtain⟨p,xs,o,e,q,dd,rs⟩:=r;exact⟨p,xs,o,e,Rd.mono h q,dd,Reps.mono h rs⟩
theorem Reps.mono(h:Same G G'):∀{ds:List D}{xs:List V},Reps K G ds xs->Reps K G' ds xs
 |[],_,r=>by simpa only[Reps] using r
 |d::ds,_,r=>by
  simp only[Reps]at r ⊢;obtain⟨y,ys,e,r1,r2⟩:=r;exact⟨y,ys,e,Rep.mono h r1,Reps.mono h r2⟩
end
theorem AllO.imp{P P':D->V->List Addr->Prop}:∀{ds:List D}{xs:List V}{fp:List Addr},(∀d v a,(∀p∈a,p∈fp)->P d v a->P' d v a)->AllO P ds xs fp->AllO P' ds xs fp
 |[],_,_,_,r=>r
 |d::ds,xs,fp,h,r=>by
  obtain⟨y,ys,a,b,e1,e2,p,q⟩:=r;subst e2;exact⟨y,ys,a,b,e1,rfl,h _ _ _ (fun p hp=>Q9 _ hp) p,AllO.imp (fun d v c hc=>h d v c fun p hp=>Q5 _ (hc p hp)) q⟩
mutual
theorem RepO.step(h:Same G G'):∀{o:O}{d:D}{v:V}{fp:List Addr},(∀p∈fp,H' p=H p)->RepO K G H o d v fp->RepO K G' H' o d v fp
 | .f,d,v,fp,hk,r=>by
  simp only[RepO]at r ⊢;exact⟨Rep.mono h r.1,r.2⟩
 | .pin p c,d,v,fp,hk,r=>by
  simp only[RepO]at r ⊢;exact⟨r.1,RepO.step h hk r.2⟩
 | .l c,.lst ds,v,fp,hk,r=>by
  simp only[RepO]at r ⊢;obtain⟨p,xs,F2,e,q,e2,a⟩:=r;subst e2;exact⟨p,xs,F2,e,(hk p Q2).trans q,rfl,AllO.imp (fun d v c hc=>RepO.step h fun z hz=>hk z (Q7 _ (hc z hz))) a⟩
 | .t cs,.tup ds,v,fp,hk,r=>by
  simp only[RepO]at r ⊢;obtain⟨p,xs,e,q,a⟩:=r;exact⟨p,xs,e,h _ _ q,RepT.step h hk a⟩
 | .d,.dct tk ks vs,v,fp,hk,r=>by
  simp only[RepO]at r ⊢;obtain⟨p,xs,o,e,q,dd,e2,rs⟩:=r;subst e2;exact⟨p,xs,o,e,(hk p Q2).trans q,dd,rfl,Reps.mono h rs⟩
 | .l _,.non,_,_,_,r | .l _,.bl _,_,_,_,r | .l _,.int _,_,_,_,r | .l _,.str _,_,_,_,r | .l _,.tup _,_,_,_,r | .l _,.dct _ _ _,_,_,_,r=>by simp only[RepO]at r
 | .t _,.non,_,_,_,r | .t _,.bl _,_,_,_,r | .t _,.int _,_,_,_,r | .t _,.str _,_,_,_,r | .t _,.lst _,_,_,_,r | .t _,.dct _ _ _,_,_,_,r=>by simp only[RepO]at r
 | .d,.non,_,_,_,r | .d,.bl _,_,_,_,r | .d,.int _,_,_,_,r | .d,.str _,_,_,_,r | .d,.tup _,_,_,_,r | .d,.lst _,_,_,_,r=>by simp only[RepO]at r
theorem RepT.step(h:Same G G'):∀{cs:List O}{ds:List D}{xs:List V}{fp:List Addr},(∀p∈fp,H' p=H p)->RepT K G H cs ds xs fp->RepT K G' H' cs ds xs fp
 |[],[],_,_,_,r=>by simpa only[RepT] using r
 |c::cs,d::ds,xs,fp,hk,r=>by
  simp only[RepT]at r ⊢;obtain⟨y,ys,a,b,e1,e2,r1,r2⟩:=r;subst e2;exact⟨y,ys,a,b,e1,rfl,RepO.step h (fun p hp=>hk p (Q9 _ hp)) r1,RepT.step h (fun p hp=>hk p (Q5 _ hp)) r2⟩
 |[],_::_,_,_,_,r=>by simp only[RepT]at r
 |_::_,[],_,_,_,r=>by simp only[RepT]at r
end
theorem AllO.frozen{P:D->V->List Addr->Prop}:∀{ds:List D}{xs:List V}{fp:List Addr},(∀d v a,(∀p∈a,p∈fp)->P d v a->Rep K G' d v)->AllO P ds xs fp->Reps K G' ds xs
 |[],_,_,_,r=>by simp only[Reps];exact r.1
 |d::ds,xs,fp,h,r=>by
  obtain⟨y,ys,a,b,e1,e2,p,q⟩:=r;subst e2;simp only[Reps];exact⟨y,ys,e1,h _ _ _ (fun p hp=>Q9 _ hp) p,AllO.frozen (fun d v c hc=>h d v c fun p hp=>Q5 _ (hc p hp)) q⟩
mutual
theorem RepO.frozen(h:Same G G'):∀{o:O}{d:D}{v:V}{fp:List Addr},(∀p∈fp,∀u,H p=some u->G' p=some u)->RepO K G H o d v fp->Rep K G' d v
 | .f,d,v,fp,hk,r=>by
  simp only[RepO]at r;exact Rep.mono h r.1
 | .pin p c,d,v,fp,hk,r=>by
  simp only[RepO]at r;exact RepO.frozen h hk r.2
 | .l c,.lst ds,v,fp,hk,r=>by
  simp only[RepO]at r;simp only[Rep];obtain⟨p,xs,F2,e,q,e2,a⟩:=r;subst e2;exact⟨p,xs,e,SqL.of (hk p Q2 _ q),AllO.frozen (fun d v c hc=>RepO.frozen h fun z hz=>hk z (Q7 _ (hc z hz))) a⟩
 | .t cs,.tup ds,v,fp,hk,r=>by
  simp only[RepO]at r;simp only[Rep];obtain⟨p,xs,e,q,a⟩:=r;exact⟨p,xs,e,h _ _ q,RepT.frozen h hk a⟩
 | .d,.dct tk ks vs,v,fp,hk,r=>by
  simp only[RepO]at r;simp only[Rep];obtain⟨p,xs,o,e,q,dd,e2,rs⟩:=r;subst e2;exact⟨p,xs,o,e,.inl (hk p Q2 _ q),dd,Reps.mono h rs⟩
 | .l _,.non,_,_,_,r | .l _,.bl _,_,_,_,r | .l _,.int _,_,_,_,r | .l _,.str _,_,_,_,r | .l _,.tup _,_,_,_,r | .l _,.dct _ _ _,_,_,_,r=>by simp only[RepO]at r
 | .t _,.non,_,_,_,r | .t _,.bl _,_,_,_,r | .t _,.int _,_,_,_,r | .t _,.str _,_,_,_,r | .t _,.lst _,_,_,_,r | .t _,.dct _ _ _,_,_,_,r=>by simp only[RepO]at r
 | .d,.non,_,_,_,r | .d,.bl _,_,_,_,r | .d,.int _,_,_,_,r | .d,.str _,_,_,_,r | .d,.tup _,_,_,_,r | .d,.lst _,_,_,_,r=>by simp only[RepO]at r
theorem RepT.frozen(h:Same G G'):∀{cs:List O}{ds:List D}{xs:List V}{fp:List Addr},(∀p∈fp,∀u,H p=some u->G' p=some u)->RepT K G H cs ds xs fp->Reps K G' ds xs
 |[],[],_,_,_,r=>by simp only[RepT]at r;simp only[Reps];exact r.1
 |c::cs,d::ds,xs,fp,hk,r=>by
  simp only[RepT]at r;simp only[Reps];obtain⟨y,ys,a,b,e1,e2,r1,r2⟩:=r;subst e2;exact⟨y,ys,e1,RepO.frozen h (fun p hp=>hk p (Q9 _ hp)) r1,RepT.frozen h (fun p hp=>hk p (Q5 _ hp)) r2⟩
 |[],_::_,_,_,_,r=>by simp only[RepT]at r
 |_::_,[],_,_,_,r=>by simp only[RepT]at r
end
theorem AllO.live{P:D->V->List Addr->Prop}:∀{ds:List D}{xs:List V}{fp:List Addr},(∀d v a,P d v a->∀p∈a,∃u,H p=some u)->AllO P ds xs fp->∀p∈fp,∃u,H p=some u
 |[],_,_,_,r=>by rw[r.2];intro p hp;cases hp
 |d::ds,xs,fp,h,r=>by
  obtain⟨y,ys,a,b,e1,e2,p,q⟩:=r;subst e2;intro z hz;rcases RA.mp hz with hz|hz
  ·exact h _ _ _ p z hz
  ·exact AllO.live h q z hz
mutual
theorem RepO.live:∀{o:O}{d:D}{v:V}{fp:List Addr},RepO K G H o d v fp->∀p∈fp,∃u,H p=some u
 | .f,d,v,fp,r=>by
  simp only[RepO]at r;rw[r.2];intro p hp;cases hp
 | .pin p c,d,v,fp,r=>by
  simp only[RepO]at r;exact RepO.live r.2
 | .l c,.lst ds,v,fp,r=>by
  simp only[RepO]at r;obtain⟨p,xs,F2,e,q,e2,a⟩:=r;subst e2;intro z hz;rcases Ri.mp hz with rfl|hz
  ·exact⟨_,q⟩
  ·exact AllO.live (fun d v a=>RepO.live) a z hz
 | .t cs,.tup ds,v,fp,r=>by
  simp only[RepO]at r;obtain⟨p,xs,e,q,a⟩:=r;exact RepT.live a
 | .d,.dct tk ks vs,v,fp,r=>by
  simp only[RepO]at r;obtain⟨p,xs,o,e,q,dd,e2,rs⟩:=r;subst e2;intro z hz;rw[Ry]at hz;exact⟨_,hz▸q⟩
 | .l _,.non,_,_,r | .l _,.bl _,_,_,r | .l _,.int _,_,_,r | .l _,.str _,_,_,r | .l _,.tup _,_,_,r | .l _,.dct _ _ _,_,_,r=>by simp only[RepO]at r
 | .t _,.non,_,_,r | .t _,.bl _,_,_,r | .t _,.int _,_,_,r | .t _,.str _,_,_,r | .t _,.lst _,_,_,r | .t _,.dct _ _ _,_,_,r=>by simp only[RepO]at r
 | .d,.non,_,_,r | .d,.bl _,_,_,r | .d,.int _,_,_,r | .d,.str _,_,_,r | .d,.tup _,_,_,r | .d,.lst _,_,_,r=>by simp only[RepO]at r
theorem RepT.live:∀{cs:List O}{ds:List D}{xs:List V}{fp:List Addr},RepT K G H cs ds xs fp->∀p∈fp,∃u,H p=some u
 |[],[],_,_,r=>by
  simp only[RepT]at r;rw[r.2];intro p hp;cases hp
 |c::cs,d::ds,xs,fp,r=>by
  simp only[RepT]at r;obtain⟨y,ys,a,b,e1,e2,r1,r2⟩:=r;subst e2;intro z hz;rcases RA.mp hz with hz|hz
  ·exact RepO.live r1 z hz
  ·exact RepT.live r2 z hz
 |[],_::_,_,_,r=>by simp only[RepT]at r
 |_::_,[],_,_,r=>by simp only[RepT]at r
end
theorem DictO.isM{o:HO}{tk:Bool}{ks:List D}{xs:List V}(h:DictO o tk ks xs):PV.isM o=true:=by
 cases tk with
 |true=>
  obtain⟨kvs,e,_⟩:=h;rw[e];rfl
 |false=>
  obtain⟨kvs,e,_⟩:=h;rw[e];rfl
theorem AllO.mut{P:D->V->List Addr->Prop}:∀{ds:List D}{xs:List V}{fp:List Addr},(∀d v a,P d v a->∀p∈a,∃u,H p=some u/\isM u=true)->AllO P ds xs fp->∀p∈fp,∃u,H p=some u/\isM u=true
 |[],_,_,_,r=>by rw[r.2];intro p hp;cases hp
 |d::ds,xs,fp,h,r=>by
  obtain⟨y,ys,a,b,e1,e2,p,q⟩:=r;subst e2;intro z hz;rcases RA.mp hz with hz|hz
  ·exact h _ _ _ p z hz
  ·exact AllO.mut h q z hz
mutual
theorem RepO.mut:∀{o:O}{d:D}{v:V}{fp:List Addr},RepO K G H o d v fp->∀p∈fp,∃u,H p=some u/\isM u=true
 | .f,d,v,fp,r=>by
  simp only[RepO]at r;rw[r.2];intro p hp;cases hp
 | .pin p c,d,v,fp,r=>by
  simp only[RepO]at r;exact RepO.mut r.2
 | .l c,.lst ds,v,fp,r=>by
  simp only[RepO]at r;obtain⟨p,xs,F2,e,q,e2,a⟩:=r;subst e2;intro z hz;rcases Ri.mp hz with rfl|hz
  ·exact⟨_,q,rfl⟩
  ·exact AllO.mut (fun d v a=>RepO.mut) a z hz
 | .t cs,.tup ds,v,fp,r=>by
  simp only[RepO]at r;obtain⟨p,xs,e,q,a⟩:=r;exact RepT.mut a
 | .d,.dct tk ks vs,v,fp,r=>by
  simp only[RepO]at r;obtain⟨p,xs,o,e,q,dd,e2,rs⟩:=r;subst e2;intro z hz;rw[Ry]at hz;exact⟨_,hz▸q,dd.isM⟩
 | .l _,.non,_,_,r | .l _,.bl _,_,_,r | .l _,.int _,_,_,r | .l _,.str _,_,_,r | .l _,.tup _,_,_,r | .l _,.dct _ _ _,_,_,r=>by simp only[RepO]at r
 | .t _,.non,_,_,r | .t _,.bl _,_,_,r | .t _,.int _,_,_,r | .t _,.str _,_,_,r | .t _,.lst _,_,_,r | .t _,.dct _ _ _,_,_,r=>by simp only[RepO]at r
 | .d,.non,_,_,r | .d,.bl _,_,_,r | .d,.int _,_,_,r | .d,.str _,_,_,r | .d,.tup _,_,_,r | .d,.lst _,_,_,r=>by simp only[RepO]at r
theorem RepT.mut:∀{cs:List O}{ds:List D}{xs:List V}{fp:List Addr},RepT K G H cs ds xs fp->∀p∈fp,∃u,H p=some u/\isM u=true
 |[],[],_,_,r=>by
  simp only[RepT]at r;rw[r.2];intro p hp;cases hp
 |c::cs,d::ds,xs,fp,r=>by
  simp only[RepT]at r;obtain⟨y,ys,a,b,e1,e2,r1,r2⟩:=r;subst e2;intro z hz;rcases RA.mp hz with hz|hz
  ·exact RepO.mut r1 z hz
  ·exact RepT.mut r2 z hz
 |[],_::_,_,_,r=>by simp only[RepT]at r
 |_::_,[],_,_,r=>by simp only[RepT]at r
end
noncomputable def RepE(K:W.Frag)(G H:Hp):Env->List (Option V)->List Addr->Prop
 |[],vs,fp=>vs=[]/\fp=[]
 |e::es,vs,fp=>∃y ys,vs=y::ys/\match e with
  |none=>RepE K G H es ys fp
  |some r=>∃v a b,y=some v/\fp=a++b/\RepO K G H r.1 r.2 v a/\RepE K G H es ys b
theorem RepE.step(h:Same G G'):∀{es:Env}{vs:List (Option V)}{fp:List Addr},(∀p∈fp,H' p=H p)->RepE K G H es vs fp->RepE K G' H' es vs fp
 |[],_,_,_,r=>r
 |none::es,vs,fp,hk,r=>by
  obtain⟨y,ys,e,r⟩:=r;exact⟨y,ys,e,RepE.step h hk r⟩
 |some r::es,vs,fp,hk,q=>by
  obtain⟨y,ys,e,v,a,b,e1,e2,r1,r2⟩:=q;subst e2;exact⟨y,ys,e,v,a,b,e1,rfl,RepO.step h (fun p hp=>hk p (Q9 _ hp)) r1,RepE.step h (fun p hp=>hk p (Q5 _ hp)) r2⟩
theorem RepE.live:∀{es:Env}{vs:List (Option V)}{fp:List Addr},RepE K G H es vs fp->∀p∈fp,∃u,H p=some u
 |[],_,_,r=>by
  rw[r.2];intro p hp;cases hp
 |none::es,vs,fp,r=>by
  obtain⟨y,ys,e,r⟩:=r;exact RepE.live r
 |some r::es,vs,fp,q=>by
  obtain⟨y,ys,e,v,a,b,e1,e2,r1,r2⟩:=q;subst e2;intro z hz;rcases RA.mp hz with hz|hz
  ·exact r1.live z hz
  ·exact RepE.live r2 z hz
theorem RepE.mut:∀{es:Env}{vs:List (Option V)}{fp:List Addr},RepE K G H es vs fp->∀p∈fp,∃u,H p=some u/\isM u=true
 |[],_,_,r=>by
  rw[r.2];intro p hp;cases hp
 |none::es,vs,fp,r=>by
  obtain⟨y,ys,e,r⟩:=r;exact RepE.mut r
 |some r::es,vs,fp,q=>by
  obtain⟨y,ys,e,v,a,b,e1,e2,r1,r2⟩:=q;subst e2;intro z hz;rcases RA.mp hz with hz|hz
  ·exact r1.mut z hz
  ·exact RepE.mut r2 z hz
theorem RepE.length:∀{es:Env}{vs:List (Option V)}{fp:List Addr},RepE K G H es vs fp->vs.length=es.length
 |[],_,_,r=>by rw[r.1];rfl
 |none::es,vs,fp,r=>by
  obtain⟨y,ys,e,r⟩:=r;rw[e,Rk,Rk,RepE.length r]
 |some r::es,vs,fp,q=>by
  obtain⟨y,ys,e,v,a,b,e1,e2,r1,r2⟩:=q;rw[e,Rk,Rk,RepE.length r2]
theorem RepE.take:∀{es:Env}{vs:List (Option V)}{fp:List Addr}{i:Nat}{r:R},RepE K G H es vs fp->es[i]?=some (some r)->
  ∃v a b,vs[i]?=some (some v)/\RepO K G H r.1 r.2 v a/\RepE K G H (es.set i none) vs b/\fp.Perm (a++b)
 |[],_,_,_,_,_,e=>by simp at e
 |none::es,vs,fp,0,r,q,e=>by simp at e
 |some r'::es,vs,fp,0,r,q,e=>by
  obtain⟨y,ys,e0,v,a,b,e1,e2,r1,r2⟩:=q;simp at e;subst e;subst e0;subst e1;exact⟨v,a,b,rfl,r1,⟨some v,ys,rfl,r2⟩,by rw[e2]⟩
 |none::es,vs,fp,i+1,r,q,e=>by
  obtain⟨y,ys,e0,q⟩:=q;obtain⟨v,a,b,g1,g2,g3,g4⟩:=RepE.take q (i:=i) (r:=r) (by simpa using e);subst e0;exact⟨v,a,b,by simpa using g1,g2,⟨y,ys,rfl,g3⟩,g4⟩
 |some r'::es,vs,fp,i+1,r,q,e=>by
  obtain⟨y,ys,e0,v',a',b',e1,e2,r1,r2⟩:=q;obtain⟨v,a,b,g1,g2,g3,g4⟩:=RepE.take r2 (i:=i) (r:=r) (by simpa using e);subst e0;refine⟨v,a,a'++b,by simpa using g1,g2,⟨y,ys,rfl,v',a',b,e1,rfl,r1,g3⟩,?_⟩;rw[e2];refine(U9 a' g4).trans ?_;rw[<-RK,<-RK];exact UU b Va
theorem RepE.put:∀{es:Env}{vs:List (Option V)}{b:List Addr}{i:Nat}{r:R}{v:V}{a:List Addr},RepE K G H es vs b->es[i]?=some none->RepO K G H r.1 r.2 v a->
  ∃fp,RepE K G H (es.set i (some r)) (vs.set i (some v)) fp/\fp.Perm (a++b)
 |[],_,_,_,_,_,_,_,e,_=>by simp at e
 |none::es,vs,b,0,r,v,a,q,e,ro=>by
  obtain⟨y,ys,e0,q⟩:=q;subst e0;exact⟨a++b,⟨some v,ys,rfl,v,a,b,rfl,rfl,ro,q⟩,.refl _⟩
 |some r'::es,vs,b,0,r,v,a,q,e,ro=>by simp at e
 |none::es,vs,b,i+1,r,v,a,q,e,ro=>by
  obtain⟨y,ys,e0,q⟩:=q;obtain⟨fp,g1,g2⟩:=RepE.put q (i:=i) (r:=r) (by simpa using e) ro;subst e0;exact⟨fp,⟨y,_,rfl,g1⟩,g2⟩
 |some r'::es,vs,b,i+1,r,v,a,q,e,ro=>by
  obtain⟨y,ys,e0,v',a',b',e1,e2,r1,r2⟩:=q;obtain⟨fp,g1,g2⟩:=RepE.put r2 (i:=i) (r:=r) (by simpa using e) ro;subst e0;refine⟨a'++fp,⟨y,_,rfl,v',a',fp,e1,rfl,r1,g1⟩,?_⟩;rw[e2];refine(U9 a' g2).trans ?_;rw[<-RK,<-RK];exact UU b' Va
structure Rel(K:W.Frag)(G H:Hp)(es:Env)(vs:List (Option V))(fp:List Addr):Prop where
 rep:RepE K G H es vs fp
 nd:fp.Nodup
 gn:∀p∈fp,G p=none
 gh:Same G H
structure Step(G H:Hp)(fp:List Addr)(G' H':Hp)(F2:List Addr):Prop where
 gg:Same G G'
 keep:∀q u,H q=some u->q∉fp->H' q=some u
 fpn:∀q∈F2,q∈fp\/H q=none
 gnew:∀q u,G' q=some u->G q=some u\/q∈fp\/H q=none\/isT u=true/\H q=some u
 there:∀q u,H q=some u->∃u',H' q=some u'
theorem Step.refl{fp:List Addr}:Step G H fp G H fp:=⟨.refl _,fun _ _ h _=>h,fun _ h=>.inl h,fun _ _ h=>.inl h,fun _ u h=>⟨u,h⟩⟩
theorem Step.trans{G1 H1 G2 H2:Hp}{fp Gg Gv:List Addr}(a:Step G H fp G1 H1 Gg)(b:Step G1 H1 Gg G2 H2 Gv):Step G H fp G2 H2 Gv:=by
 refine⟨a.gg.trans b.gg,fun q u h n=>?_,fun q hq=>?_,fun q u hq=>?_,fun q u h=>?_⟩
 ·refine b.keep q u (a.keep q u h n) fun hq=>?_
  rcases a.fpn q hq with z|z
  ·exact n z
  ·rw[z]at h;cases h
 ·rcases b.fpn q hq with z|z
  ·exact a.fpn q z
  ·cases e:H q with
   |none=>exact .inr rfl
   |some u=>
    obtain⟨u',e'⟩:=a.there q u e;rw[z]at e';cases e'
 ·rcases b.gnew q u hq with z|z|z|⟨t,z⟩
  ·exact a.gnew q u z
  ·exact .inr ((a.fpn q z).imp_right .inl)
  ·cases e:H q with
   |none=>exact .inr (.inr (.inl rfl))
   |some u=>
    obtain⟨u',e'⟩:=a.there q u e;rw[z]at e';cases e'
  ·cases e:H q with
   |none=>exact .inr (.inr (.inl rfl))
   |some u2=>
    by_cases hf:q∈fp
    ·exact .inr (.inl hf)
    ·rw[a.keep q u2 e hf]at z;cases z;exact .inr (.inr (.inr ⟨t,rfl⟩))
 ·obtain⟨u',h'⟩:=a.there q u h;exact b.there q u' h'
theorem Step.perm{fp fq F2 Ny:List Addr}(a:Step G H fp G' H' F2)(h:∀q,q∈fp<->q∈fq)(h':∀q∈Ny,q∈F2):Step G H fq G' H' Ny:=
 ⟨a.gg,fun q u e n=>a.keep q u e fun z=>n ((h q).mp z),fun q hq=>(a.fpn q (h' q hq)).imp_left (h q).mp,fun q u e=>(a.gnew q u e).imp_right (Or.imp_left (h q).mp),a.there⟩
theorem Step.wide{fp fq F2 Ny:List Addr}(a:Step G H fp G' H' F2)(h:∀q∈fp,q∈fq)(h':∀q∈Ny,q∈F2\/q∈fq):Step G H fq G' H' Ny:=
 ⟨a.gg,fun q u e n=>a.keep q u e fun z=>n (h q z),fun q hq=>(h' q hq).elim (fun z=>(a.fpn q z).imp_left (h q)) .inl,fun q u e=>(a.gnew q u e).imp_right (Or.imp_left (h q)),a.there⟩
theorem Rel.perm{es:Env}{vs:List (Option V)}{fp fq:List Addr}(r:RepE K G H es vs fq)(nd:fp.Nodup)(gn:∀p∈fp,G p=none)(gh:Same G H)(h:fp.Perm fq):Rel K G H es vs fq:=
 ⟨r,h.nodup_iff.mp nd,fun p hp=>gn p (h.mem_iff.mpr hp),gh⟩
theorem Rel.frame{r:R}{v:V}{es:Env}{vs:List (Option V)}{fp:List Addr}(q:Rel K G H (some r::es) (some v::vs) fp):
  ∃a b,fp=a++b/\RepO K G H r.1 r.2 v a/\Rel K G H es vs b/\∀(G' H':Hp) (IU:Env) (Iw:List (Option V)) (b':List Addr),Step G H b G' H' b'->Rel K G' H' IU Iw b'->
   Rel K G' H' (some r::IU) (some v::Iw) (a++b')/\Step G H (a++b) G' H' (a++b'):=by
 obtain⟨y,ys,e,v',a,b,e1,e2,r1,r2⟩:=q.rep;cases e;cases e1;subst e2;have nd:=Rv.mp q.nd;refine⟨a,b,rfl,r1,⟨r2,nd.2.1,fun p hp=>q.gn p (Q5 _ hp),q.gh⟩,fun G' H' IU Iw b' st k=>?_⟩;have nb:∀p∈a,p∉b:=fun p hp hb=>nd.2.2 p hp p hb rfl
 have same:∀p∈a,H' p=H p:=fun p hp=>by
  obtain⟨u,hu⟩:=r1.live p hp;rw[hu];exact st.keep p u hu (nb p hp)
 refine⟨⟨⟨some v,Iw,rfl,v,a,b',rfl,rfl,r1.step st.gg same,k.rep⟩,?_,fun p hp=>?_,k.gh⟩,st.wide (fun p hp=>Q5 _ hp) fun p hp=>?_⟩
 ·rw[Rv];refine⟨nd.1,k.nd,fun p hp z hz e=>?_⟩;subst e;obtain⟨u,hu⟩:=r1.live p hp;rcases st.fpn p hz with z|z
  ·exact nb p hp z
  ·rw[z]at hu;cases hu
 ·rcases RA.mp hp with hp|hp
  ·cases e:G' p with
   |none=>rfl
   |some u=>
    exfalso;obtain⟨u',hu⟩:=r1.live p hp;rcases st.gnew p u e with z|z|z|⟨t,z⟩
    ·rw[q.gn p (Q9 _ hp)]at z;cases z
    ·exact nb p hp z
    ·rw[z]at hu;cases hu
    ·obtain⟨u2,h2,hm⟩:=r1.mut p hp;rw[z]at h2;cases h2;cases u with
     |tup _=>cases hm
     |frz _ _=>cases hm
     |_=>cases t
  ·exact k.gn p hp
 ·rcases RA.mp hp with hp|hp
  ·exact .inr (Q9 _ hp)
  ·exact .inl hp
theorem Rel.freeze{r:R}{v:V}{es:Env}{vs:List (Option V)}{fp:List Addr}(q:Rel K G H (some r::es) (some v::vs) fp):
  ∃G' b,Rep K G' r.2 v/\Rel K G' H es vs b/\Step G H fp G' H b:=by
 obtain⟨y,ys,e,v',a,b,e1,e2,r1,r2⟩:=q.rep;cases e;cases e1;subst e2;have nd:=Rv.mp q.nd;have nb:∀p∈a,p∉b:=fun p hp hb=>nd.2.2 p hp p hb rfl
 have hg:Same G (fun p=>if p∈a then H p else G p):=fun p u e=>by
  show(if p∈a then H p else G p)=some u;by_cases hp:p∈a
  ·rw[Rb hp];exact q.gh p u e
  ·rw[Rg hp];exact e
 refine⟨fun p=>if p∈a then H p else G p,b,r1.frozen hg fun p hp u e=>?_,⟨r2.step hg fun _ _=>rfl,nd.2.1,fun p hp=>?_,fun p u e=>?_⟩,⟨hg,fun _ _ e _=>e,fun p hp=>.inl (Q5 _ hp),fun p u e=>?_,fun _ u e=>⟨u,e⟩⟩⟩
 ·show(if p∈a then H p else G p)=some u;rw[Rb hp];exact e
 ·show(if p∈a then H p else G p)=none;rw[Rg (fun z=>nb p z hp)];exact q.gn p (Q5 _ hp)
 ·have e:(if p∈a then H p else G p)=some u:=e;by_cases hp:p∈a
  ·rw[Rb hp]at e;exact e
  ·rw[Rg hp]at e;exact q.gh p u e
 ·have e:(if p∈a then H p else G p)=some u:=e;by_cases hp:p∈a
  ·exact .inr (.inl (Q9 _ hp))
  ·rw[Rg hp]at e;exact .inl e
end
section
variable{K:W.Frag}{G G' H H':Hp}{es:Env}{vs:List (Option V)}{fp:List Addr}
theorem pG:∀{ds:List D}{xs:List V}{fp:List Addr},AllO (RepO K G H .f) ds xs fp<->Reps K G ds xs/\fp=[]
 |[],xs,fp=>by simp only[AllO,Reps]
 |d::ds,xs,fp=>by
  simp only[AllO,Reps,RepO];constructor
  ·rintro⟨y,ys,a,b,e1,e2,⟨r,e3⟩,q⟩;obtain⟨q1,q2⟩:=pG.mp q;subst e3;subst q2;exact⟨⟨y,ys,e1,r,q1⟩,e2⟩
  ·rintro⟨⟨y,ys,e1,r,q1⟩,e⟩;exact⟨y,ys,[],[],e1,e,⟨r,rfl⟩,pG.mpr ⟨q1,rfl⟩⟩
theorem df{d:D}{v:V}{a:List Addr}:RepO K G H .f d v a<->Rep K G d v/\a=[]:=by simp only[RepO]
theorem eC{ds:List D}{v:V}{a:List Addr}:RepO K G H (.l .f) (.lst ds) v a<->∃p xs,v=.ref p/\H p=some (.lst xs)/\a=[p]/\Reps K G ds xs:=by
 rw[RepO];constructor
 ·rintro⟨p,xs,b,e,q,e2,r⟩;obtain⟨r',eb⟩:=pG.mp r;subst eb;exact⟨p,xs,e,q,e2,r'⟩
 ·rintro⟨p,xs,e,q,e2,r⟩;exact⟨p,xs,[],e,q,e2,pG.mpr ⟨r,rfl⟩⟩
theorem Reps.length:∀{ds:List D}{xs:List V},Reps K G ds xs->xs.length=ds.length
 |[],xs,r=>by simp only[Reps]at r;rw[r];rfl
 |d::ds,xs,r=>by
  simp only[Reps]at r;obtain⟨y,ys,e,_,q⟩:=r;rw[e,Rk,Rk,Reps.length q]
theorem Reps.get:∀{ds:List D}{xs:List V}{i:Nat}{d:D},Reps K G ds xs->ds[i]?=some d->∃v,xs[i]?=some v/\Rep K G d v
 |[],_,_,_,_,e=>by simp at e
 |d'::ds,xs,0,d,r,e=>by
  simp only[Reps]at r;obtain⟨y,ys,e1,q,_⟩:=r;simp at e;subst e;exact⟨y,by rw[e1];rfl,q⟩
 |d'::ds,xs,i+1,d,r,e=>by
  simp only[Reps]at r;obtain⟨y,ys,e1,_,q⟩:=r;obtain⟨v,a,b⟩:=Reps.get q (i:=i) (d:=d) (by simpa using e);exact⟨v,by rw[e1];simpa using a,b⟩
theorem Reps.app:∀{ds es:List D}{xs ys:List V},Reps K G ds xs->Reps K G es ys->Reps K G (ds++es) (xs++ys)
 |[],_,_,_,r,q=>by simp only[Reps]at r;rw[r];exact q
 |d::ds,es,xs,ys,r,q=>by
  simp only[Reps]at r;obtain⟨z,zs,e,r1,r2⟩:=r;rw[e];simp only[SH,Reps];exact⟨z,_,rfl,r1,r2.app q⟩
theorem Reps.one{d:D}{v:V}(r:Rep K G d v):Reps K G [d] [v]:=by
 simp only[Reps];exact⟨v,[],rfl,r,rfl⟩
theorem Reps.nil:Reps K G [] []:=by simp only[Reps]
theorem Reps.cons{d:D}{v:V}{ds:List D}{xs:List V}(r:Rep K G d v)(q:Reps K G ds xs):Reps K G (d::ds) (v::xs):=by
 simp only[Reps];exact⟨v,xs,rfl,r,q⟩
theorem Reps.cons_iff{d:D}{v:V}{ds:List D}{xs:List V}:Reps K G (d::ds) (v::xs)<->Rep K G d v/\Reps K G ds xs:=by
 simp only[Reps];constructor
 ·rintro⟨y,ys,e,r,q⟩;cases e;exact⟨r,q⟩
 ·rintro⟨r,q⟩;exact⟨v,xs,rfl,r,q⟩
theorem Reps.take:∀{ds:List D}{xs:List V}(n:Nat),Reps K G ds xs->Reps K G (ds.take n) (xs.take n)
 |_,_,0,_=>by rw[Vn,Vn];exact Reps.nil
 |[],xs,n+1,r=>by simp only[Reps]at r;rw[r];exact Reps.nil
 |d::ds,xs,n+1,r=>by
  simp only[Reps]at r;obtain⟨y,ys,e,r1,r2⟩:=r;rw[e,Vr,Vr];exact .cons r1 (r2.take n)
theorem Reps.drop:∀{ds:List D}{xs:List V}(n:Nat),Reps K G ds xs->Reps K G (ds.drop n) (xs.drop n)
 |_,_,0,r=>r
 |[],xs,n+1,r=>by simp only[Reps]at r;rw[r];exact Reps.nil
 |d::ds,xs,n+1,r=>by
  simp only[Reps]at r;obtain⟨y,ys,e,r1,r2⟩:=r;rw[e,Vs,Vs];exact r2.drop n
theorem Reps.set:∀{ds:List D}{xs:List V}(n:Nat) {d:D}{v:V},Reps K G ds xs->Rep K G d v->Reps K G (ds.set n d) (xs.set n v)
 |[],xs,n,d,v,r,q=>by simp only[Reps]at r;rw[r];exact Reps.nil
 |d'::ds,xs,0,d,v,r,q=>by
  simp only[Reps]at r;obtain⟨y,ys,e,r1,r2⟩:=r;rw[e];exact .cons q r2
 |d'::ds,xs,n+1,d,v,r,q=>by
  simp only[Reps]at r;obtain⟨y,ys,e,r1,r2⟩:=r;rw[e];exact .cons r1 (r2.set n q)
theorem Reps.eraseIdx:∀{ds:List D}{xs:List V}(n:Nat),Reps K G ds xs->Reps K G (ds.eraseIdx n) (xs.eraseIdx n)
 |[],xs,n,r=>by simp only[Reps]at r;rw[r];exact Reps.nil
 |d'::ds,xs,0,r=>by
  simp only[Reps]at r;obtain⟨y,ys,e,r1,r2⟩:=r;rw[e];exact r2
 |d'::ds,xs,n+1,r=>by
  simp only[Reps]at r;obtain⟨y,ys,e,r1,r2⟩:=r;rw[e];exact .cons r1 (r2.eraseIdx n)
theorem Reps.ofAll{ds:List D}{xs:List V}(hl:xs.length=ds.length)(h:∀(i:Nat) (d:D) (v:V),ds[i]?=some d->xs[i]?=some v->Rep K G d v):Reps K G ds xs:=by
 induction ds generalizing xs with
 |nil=>simp only[Reps];exact RT hl
 |cons d ds ih=>
  cases xs with
  |nil=>simp at hl
  |cons v xs=>exact .cons (h 0 d v rfl rfl) (ih (by simpa using hl) fun i d v a b=>h (i+1) d v (by simpa using a) (by simpa using b))
theorem Step.cut{fq:List Addr}(h:∀q∈fq,q∈fp):Step G H fp G H fq:=⟨.refl _,fun _ _ e _=>e,fun q hq=>.inl (h q hq),fun _ _ e=>.inl e,fun _ u e=>⟨u,e⟩⟩
theorem Rel.drop{r:R}{y:Option V}(q:Rel K G H (some r::es) (y::vs) fp):∃b,Rel K G H es vs b/\Step G H fp G H b:=by
 obtain⟨y,ys,e,v',a,b,e1,e2,r1,r2⟩:=q.rep;cases e;cases e1;subst e2;have nd:=Rv.mp q.nd;exact⟨b,⟨r2,nd.2.1,fun p hp=>q.gn p (Q5 _ hp),q.gh⟩,Step.cut fun p hp=>Q5 _ hp⟩
theorem Rel.top{r:R}{v:V}(q:Rel K G H (some r::es) (some v::vs) fp):Rep K H r.2 v:=by
 obtain⟨y,ys,e,v',a,b,e1,e2,r1,r2⟩:=q.rep;cases e;cases e1;exact r1.frozen q.gh fun p hp u e=>e
theorem Rel.out{i:Nat}{r:R}(q:Rel K G H es vs fp)(e:es[i]?=some (some r)):∃v fq,vs[i]?=some (some v)/\Rel K G H (some r::es.set i none) (some v::vs) fq/\Step G H fp G H fq/\Step G H fq G H fp:=by
 obtain⟨v,a,b,e1,r1,r2,pm⟩:=q.rep.take e;exact⟨v,a++b,e1,Rel.perm ⟨some v,vs,rfl,v,a,b,rfl,rfl,r1,r2⟩ q.nd q.gn q.gh pm,Step.cut fun p hp=>pm.mem_iff.mpr hp,Step.cut fun p hp=>pm.mem_iff.mp hp⟩
theorem Rel.view{i:Nat}{r:R}(q:Rel K G H es vs fp)(e:es[i]?=some (some r)):∃v,vs[i]?=some (some v)/\Rep K H r.2 v:=by
 obtain⟨v,fq,e1,r1,_⟩:=q.out e;exact⟨v,e1,r1.top⟩
theorem lH{α:Type}{l:List α}{i:Nat}{x:α}(h:l[i]?=some x):l.set i x=l:=by
 apply Td;intro j;by_cases e:i=j
 ·subst e;rw[List.getElem?_set_self (List.getElem?_eq_some_iff.mp h).1,h]
 ·rw[List.getElem?_set_ne e]
theorem Rel.store{i:Nat}{r:R}{v:V}(q:Rel K G H (some r::es) (some v::vs) fp)(hi:i<es.length):∃fq,Rel K G H (es.set i (some r)) (vs.set i (some v)) fq/\Step G H fp G H fq:=by
 obtain⟨y,ys,e,v',a,b,e1,e2,r1,r2⟩:=q.rep;cases e;cases e1;subst e2;obtain⟨c,hc⟩:∃c,es[i]?=some c:=⟨_,List.getElem?_eq_getElem hi⟩
 have nd:=Rv.mp q.nd;have key:∃b',RepE K G H (es.set i none) vs b'/\(∀p∈b',p∈b)/\b'.Nodup:=by
  cases c with
  |none=>exact⟨b,by rw[lH hc];exact r2,fun _ h=>h,nd.2.1⟩
  |some r'=>
   obtain⟨v2,a2,b2,_,_,g,pm⟩:=r2.take hc;refine⟨b2,g,fun p hp=>pm.mem_iff.mpr (Q5 _ hp),?_⟩;exact(Rv.mp (pm.nodup_iff.mp nd.2.1)).2.1
 obtain⟨b',g,sub,ndb⟩:=key;obtain⟨fq,g2,pm⟩:=g.put (i:=i) (r:=r) (v:=v) (by rw[List.getElem?_set_self hi]) r1;rw[Sj]at g2;have Md:(a++b').Nodup:=by
  rw[Rv];exact⟨nd.1,ndb,fun p hp z hz=>nd.2.2 p hp z (sub z hz)⟩
 refine⟨fq,Rel.perm g2 Md (fun p hp=>?_) q.gh pm.symm,Step.cut fun p hp=>?_⟩
 ·refine q.gn p ?_;rcases RA.mp hp with hp|hp
  ·exact Q9 _ hp
  ·exact Q5 _ (sub p hp)
 ·rcases RA.mp (pm.mem_iff.mp hp) with hp|hp
  ·exact Q9 _ hp
  ·exact Q5 _ (sub p hp)
theorem Rel.back{i:Nat}{r:R}{v:V}(q:Rel K G H (some r::es) (some v::vs) fp)(hi:i<es.length)(hv:vs[i]?=some (some v)):∃fq,Rel K G H (es.set i (some r)) vs fq/\Step G H fp G H fq:=by
 obtain⟨fq,g,st⟩:=q.store hi;rw[lH hv]at g;exact⟨fq,g,st⟩
theorem Rel.freezeAt{i:Nat}{r:R}(q:Rel K G H es vs fp)(e:es[i]?=some (some r)):∃v G' fq,vs[i]?=some (some v)/\Rep K G' r.2 v/\Rel K G' H (es.set i (some (.f,r.2))) vs fq/\Step G H fp G' H fq:=by
 obtain⟨v,fq,ev,g,st,_⟩:=q.out e;obtain⟨G',b,rv,g2,F4⟩:=g.freeze;have g3:Rel K G' H (some (.f,r.2)::es.set i none) (some v::vs) b:=by
  refine⟨⟨some v,vs,rfl,v,[],b,rfl,rfl,?_,g2.rep⟩,g2.nd,g2.gn,g2.gh⟩;exact df.mpr ⟨rv,rfl⟩
 obtain⟨fz,g4,GZ⟩:=g3.back (i:=i) (by rw[RN];exact(List.getElem?_eq_some_iff.mp e).1) ev;rw[Sj]at g4;exact⟨v,G',fz,ev,rv,g4,st.trans (F4.trans GZ)⟩
theorem Rel.push{d:D}{v:V}(q:Rel K G H es vs fp)(r:Rep K G d v):Rel K G H (some (.f,d)::es) (some v::vs) fp:=by
 refine⟨⟨some v,vs,rfl,v,[],fp,rfl,rfl,?_,q.rep⟩,q.nd,q.gn,q.gh⟩;exact df.mpr ⟨r,rfl⟩
theorem Rel.newF{p:Addr}{u:HO}(q:Rel K G H es vs fp)(hp:H p=none):Rel K (upd G p u) (upd H p u) es vs fp/\Step G H fp (upd G p u) (upd H p u) fp:=by
 have gp:G p=none:=by
  cases e:G p with
  |none=>rfl
  |some o=>rw[q.gh p o e]at hp;cases hp
 have np:p∉fp:=fun z=>by
  obtain⟨u,e⟩:=q.rep.live p z;rw[hp]at e;cases e
 have sg:Same G (upd G p u):=fun b o e=>by rw[av (aT e gp)];exact e
 have sh:Same H (upd H p u):=fun b o e=>by rw[av (aT e hp)];exact e
 refine⟨⟨q.rep.step sg fun z hz=>av fun e=>np (e▸hz),q.nd,fun z hz=>?_,fun b o e=>?_⟩,⟨sg,fun b o e _=>sh b o e,fun _ h=>.inl h,fun b o e=>?_,fun b o e=>⟨o,sh b o e⟩⟩⟩
 ·have:z≠p:=fun e=>np (e▸hz)
  rw[av this];exact q.gn z hz
 ·by_cases hb:b=p
  ·subst hb;rw[aM]at e ⊢;exact e
  ·rw[av hb]at e ⊢;exact q.gh b o e
 ·by_cases hb:b=p
  ·subst hb;exact .inr (.inr (.inl hp))
  ·rw[av hb]at e;exact .inl e
theorem Rel.newL{p:Addr}{ds:List D}{xs:List V}(q:Rel K G H es vs fp)(hp:H p=none)(r:Reps K G ds xs):
  Rel K G (upd H p (.lst xs)) (some (.l .f,.lst ds)::es) (some (.ref p)::vs) (p::fp)/\Step G H fp G (upd H p (.lst xs)) (p::fp):=by
 have gp:G p=none:=by
  cases e:G p with
  |none=>rfl
  |some o=>rw[q.gh p o e]at hp;cases hp
 have np:p∉fp:=fun z=>by
  obtain⟨u,e⟩:=q.rep.live p z;rw[hp]at e;cases e
 have sh:Same H (upd H p (.lst xs)):=fun b o e=>by rw[av (aT e hp)];exact e
 refine⟨⟨⟨some (.ref p),vs,rfl,.ref p,[p],fp,rfl,rfl,eC.mpr ⟨p,xs,rfl,aM,rfl,r⟩,q.rep.step (.refl _) fun z hz=>av fun e=>np (e▸hz)⟩,Rx.mpr ⟨np,q.nd⟩,fun z hz=>?_,fun b o e=>?_⟩,
  ⟨.refl _,fun b o e _=>sh b o e,fun b hb=>?_,fun b o e=>.inl e,fun b o e=>⟨o,sh b o e⟩⟩⟩
 ·rcases Ri.mp hz with rfl|hz
  ·exact gp
  ·exact q.gn z hz
 ·exact sh b o (q.gh b o e)
 ·rcases Ri.mp hb with rfl|hb
  ·exact .inr hp
  ·exact .inl hb
theorem Rel.chg{i:Nat}{ds ds':List D}(q:Rel K G H es vs fp)(e:es[i]?=some (some (.l .f,.lst ds))):∃p xs,vs[i]?=some (some (.ref p))/\H p=some (.lst xs)/\Reps K G ds xs/\
  ∀Hq,Reps K G ds' Hq->∃fq,Rel K G (upd H p (.lst Hq)) (es.set i (some (.l .f,.lst ds'))) vs fq/\Step G H fp G (upd H p (.lst Hq)) fq:=by
 obtain⟨v,fq,ev,g,st,HI⟩:=q.out e;obtain⟨y,ys,e0,v',a,b,e1,e2,r1,r2⟩:=g.rep;cases e0;cases e1;obtain⟨p,xs,e3,hp,e4,rs⟩:=eC.mp r1;subst e3;subst e4;subst e2;have nd:=Rx.mp (show(p::b).Nodup from g.nd);refine⟨p,xs,ev,hp,rs,fun Hq H0=>?_⟩;have g2:Rel K G (upd H p (.lst Hq)) (some (.l .f,.lst ds')::es.set i none) (some (.ref p)::vs) (p::b):=by
  refine⟨⟨some (.ref p),vs,rfl,.ref p,[p],b,rfl,rfl,eC.mpr ⟨p,Hq,rfl,aM,rfl,H0⟩,r2.step (.refl _) fun z hz=>av fun e=>nd.1 (e▸hz)⟩,g.nd,g.gn,fun z o ez=>?_⟩;have:z≠p:=fun w=>by
   subst w;rw[g.gn z Q2]at ez;cases ez
  rw[av this];exact g.gh z o ez
 have Me:Step G H (p::b) G (upd H p (.lst Hq)) (p::b):=by
  refine⟨.refl _,fun z o ez nz=>?_,fun z hz=>.inl hz,fun z o ez=>.inl ez,fun z o ez=>?_⟩
  ·have:z≠p:=fun w=>nz (by rw[w];exact Q2)
   rw[av this];exact ez
  ·by_cases w:z=p
   ·subst w;exact⟨_,aM⟩
   ·exact⟨o,by rw[av w];exact ez⟩
 obtain⟨fz,g3,Gn⟩:=g2.back (i:=i) (by rw[RN];exact(List.getElem?_eq_some_iff.mp e).1) ev;rw[Sj]at g3;exact⟨fz,g3,st.trans (Me.trans Gn)⟩
end
mutual
noncomputable def flatD:D->Bool
 | .tup ds=>flatDs ds
 | .lst _=>false
 | .dct _ _ _=>false
 |_=>true
noncomputable def flatDs:List D->Bool
 |[]=>true
 |d::ds=>flatD d&&flatDs ds
end
mutual
noncomputable def aE:O->D->Bool
 | .f,d=>flatD d
 | .l c,.lst ds=>ds.all (aE c)
 | .t cs,.tup ds=>iT cs ds
 | .d,.dct _ _ vs=>flatDs vs
 | .pin _ c,d=>aE c d
 |_,_=>false
noncomputable def iT:List O->List D->Bool
 |[],[]=>true
 |c::cs,d::ds=>aE c d&&iT cs ds
 |_,_=>false
end
def frz:Option R->Option R:=Option.map fun r=>(.f,r.2)
theorem b7:∀ds,flatDs ds=ds.all flatD
 |[]=>rfl
 |d::ds=>by rw[flatDs,Te,b7 ds]
section
variable{K:W.Frag}{G G' G2 G3 H H' H2:Hp}{es:Env}{vs:List (Option V)}{fp:List Addr}
mutual
theorem Rep.flat(h:∀p u,isT u=true->G2 p=some u->G3 p=some u):∀{d:D}{v:V},flatD d=true->Rep K G2 d v->Rep K G3 d v
 | .non,_,_,r=>by simpa only[Rep] using r
 | .bl _,_,_,r=>by simpa only[Rep] using r
 | .int _,_,_,r=>by simpa only[Rep] using r
 | .str _,_,_,r=>by simpa only[Rep] using r
 | .tup ds,_,e,r=>by
  simp only[Rep]at r ⊢;simp only[flatD]at e;obtain⟨p,xs,ev,q,rs⟩:=r;exact⟨p,xs,ev,h _ _ rfl q,Reps.flat h e rs⟩
 | .lst ds,_,e,r=>by simp only[flatD]at e;cases e
 | .dct _ _ _,_,e,r=>by simp only[flatD]at e;cases e
theorem Reps.flat(h:∀p u,isT u=true->G2 p=some u->G3 p=some u):∀{ds:List D}{xs:List V},flatDs ds=true->Reps K G2 ds xs->Reps K G3 ds xs
 |[],_,_,r=>by simpa only[Reps] using r
 |d::ds,_,e,r=>by
  simp only[Reps]at r ⊢;simp only[flatDs,Rh]at e;obtain⟨y,ys,ev,r1,r2⟩:=r;exact⟨y,ys,ev,Rep.flat h e.1 r1,Reps.flat h e.2 r2⟩
end
theorem AllO.clean{P P':D->V->List Addr->Prop}{c:D->Bool}:∀{ds:List D}{xs:List V}{fp:List Addr},(∀d v a,c d=true->P d v a->P' d v a)->ds.all c=true->AllO P ds xs fp->AllO P' ds xs fp
 |[],_,_,_,_,r=>r
 |d::ds,xs,fp,h,e,r=>by
  obtain⟨y,ys,a,b,e1,e2,p,q⟩:=r;rw[Te,Rh]at e;exact⟨y,ys,a,b,e1,e2,h _ _ _ e.1 p,AllO.clean h e.2 q⟩
mutual
theorem RepO.clean(h:∀p u,isT u=true->G2 p=some u->G3 p=some u):∀{o:O}{d:D}{v:V}{fp:List Addr},aE o d=true->RepO K G2 H o d v fp->RepO K G3 H o d v fp
 | .f,d,v,fp,e,r=>by
  simp only[RepO]at r ⊢;simp only[aE]at e;exact⟨r.1.flat h e,r.2⟩
 | .pin p c,d,v,fp,e,r=>by
  simp only[RepO]at r ⊢;simp only[aE]at e;exact⟨r.1,RepO.clean h e r.2⟩
 | .l c,.lst ds,v,fp,e,r=>by
  rw[RepO]at r ⊢;rw[aE]at e;obtain⟨p,xs,F2,ev,q,e2,a⟩:=r;exact⟨p,xs,F2,ev,q,e2,AllO.clean (fun d v a=>RepO.clean h) e a⟩
 | .t cs,.tup ds,v,fp,e,r=>by
  rw[RepO]at r ⊢;rw[aE]at e;obtain⟨p,xs,ev,q,a⟩:=r;exact⟨p,xs,ev,h _ _ rfl q,RepT.clean h e a⟩
 | .d,.dct tk ks vs,v,fp,e,r=>by
  rw[RepO]at r ⊢;rw[aE]at e;obtain⟨p,xs,o,ev,q,dd,e2,rs⟩:=r;exact⟨p,xs,o,ev,q,dd,e2,rs.flat h e⟩
 | .l _,.non,_,_,_,r | .l _,.bl _,_,_,_,r | .l _,.int _,_,_,_,r | .l _,.str _,_,_,_,r | .l _,.tup _,_,_,_,r | .l _,.dct _ _ _,_,_,_,r=>by simp only[RepO]at r
 | .t _,.non,_,_,_,r | .t _,.bl _,_,_,_,r | .t _,.int _,_,_,_,r | .t _,.str _,_,_,_,r | .t _,.lst _,_,_,_,r | .t _,.dct _ _ _,_,_,_,r=>by simp only[RepO]at r
 | .d,.non,_,_,_,r | .d,.bl _,_,_,_,r | .d,.int _,_,_,_,r | .d,.str _,_,_,_,r | .d,.tup _,_,_,_,r | .d,.lst _,_,_,_,r=>by simp only[RepO]at r
theorem RepT.clean(h:∀p u,isT u=true->G2 p=some u->G3 p=some u):∀{cs:List O}{ds:List D}{xs:List V}{fp:List Addr},iT cs ds=true->RepT K G2 H cs ds xs fp->RepT K G3 H cs ds xs fp
 |[],[],_,_,_,r=>by simpa only[RepT] using r
 |c::cs,d::ds,xs,fp,e,r=>by
  rw[RepT]at r ⊢;rw[iT,Rh]at e;obtain⟨y,ys,a,b,e1,e2,r1,r2⟩:=r;exact⟨y,ys,a,b,e1,e2,RepO.clean h e.1 r1,RepT.clean h e.2 r2⟩
 |[],_::_,_,_,_,r=>by simp only[RepT]at r
 |_::_,[],_,_,_,r=>by simp only[RepT]at r
end
theorem RepE.frz(h:Same G G'):∀{es:Env}{vs:List (Option V)}{fp:List Addr},(∀p∈fp,∀u,H p=some u->G' p=some u)->RepE K G H es vs fp->RepE K G' H' (es.map PV.frz) vs []
 |[],_,_,_,r=>⟨r.1,rfl⟩
 |none::es,vs,fp,hk,r=>by
  obtain⟨y,ys,e,r⟩:=r;exact⟨y,ys,e,RepE.frz h hk r⟩
 |some r::es,vs,fp,hk,q=>by
  obtain⟨y,ys,e,v,a,b,e1,e2,r1,r2⟩:=q;subst e2;exact⟨y,ys,e,v,[],[],e1,rfl,df.mpr ⟨r1.frozen h (fun p hp=>hk p (Q9 _ hp)),rfl⟩,RepE.frz h (fun p hp=>hk p (Q5 _ hp)) r2⟩
theorem RepE.rep(h:Same G G'):∀{es:Env}{vs:List (Option V)}{fp:List Addr}{i:Nat}{r:R}{v:V},(∀p∈fp,∀u,H p=some u->G' p=some u)->RepE K G H es vs fp->es[i]?=some (some r)->vs[i]?=some (some v)->Rep K G' r.2 v:=fun{es vs fp i r v} hk q e ev=>by
 obtain⟨v',a,b,e1,r1,_,pm⟩:=q.take e;rw[ev]at e1;cases e1;exact r1.frozen h fun p hp=>hk p (pm.mem_iff.mpr (Q9 _ hp))
theorem Rel.lend(q:Rel K G H es vs fp):∃G1,Same G G1/\Same G1 H/\(∀(i:Nat) (r:R) (v:V),es[i]?=some (some r)->vs[i]?=some (some v)->Rep K G1 r.2 v)/\
  RepE K G1 H (es.map PV.frz) vs []/\
  ∀(H2 G2:Hp) (Gv:List Addr) (r:R) (v:V),Step G1 H [] G2 H2 Gv->Rel K G2 H2 [some r] [some v] Gv->
   (aE r.1 r.2=true->∃G3 Ha,Step G H fp G3 H2 Ha/\Rel K G3 H2 (some r::es) (some v::vs) Ha)/\
   ∃G3 Ha,Step G H fp G3 H2 Ha/\Rel K G3 H2 (some r::es.map PV.frz) (some v::vs) Ha:=by
 have hg:Same G (fun p=>if p∈fp then H p else G p):=fun p u e=>by
  show(if p∈fp then H p else G p)=some u;by_cases hp:p∈fp
  ·rw[Rb hp];exact q.gh p u e
  ·rw[Rg hp];exact e
 have hh:Same (fun p=>if p∈fp then H p else G p) H:=fun p u e=>by
  have e:(if p∈fp then H p else G p)=some u:=e;by_cases hp:p∈fp
  ·rw[Rb hp]at e;exact e
  ·rw[Rg hp]at e;exact q.gh p u e
 have hk:∀p∈fp,∀u,H p=some u->(fun p=>if p∈fp then H p else G p) p=some u:=fun p hp u e=>by
  show(if p∈fp then H p else G p)=some u;rw[Rb hp];exact e
 refine⟨fun p=>if p∈fp then H p else G p,hg,hh,fun i r v e ev=>q.rep.rep hg hk e ev,q.rep.frz hg hk,fun H2 G2 Gv r v st k=>?_⟩;obtain⟨y,ys,e0,v',a,b,e1,e2,r1,r2⟩:=k.rep;cases e0;cases e1;obtain⟨_,e3⟩:=r2;subst e3;rw[Ru]at e2;subst e2;have fresh:∀p∈Gv,H p=none:=fun p hp=>by
  rcases st.fpn p hp with z|z
  ·cases z
  ·exact z
 have kept:∀p∈fp,H2 p=H p:=fun p hp=>by
  obtain⟨u,hu⟩:=q.rep.live p hp;rw[hu];exact st.keep p u hu (by simp)
 refine⟨fun cl=>?_,⟨G2,Gv,⟨hg.trans st.gg,fun p u e n=>st.keep p u e (by simp),fun p hp=>.inr (fresh p hp),fun p u e=>?_,st.there⟩,?_⟩⟩
 ·have apart:∀p∈Gv,p∉fp:=fun p hp hf=>by
   obtain⟨u,hu⟩:=q.rep.live p hf;rw[fresh p hp]at hu;cases hu
  have g3:Same G (fun p=>if p∈fp then none else G2 p):=fun p u e=>by
   show(if p∈fp then none else G2 p)=some u;rw[Rg (fun z=>by rw[q.gn p z]at e;cases e)];exact st.gg p u (hg p u e)
  refine⟨fun p=>if p∈fp then none else G2 p,Gv++fp,⟨g3,fun p u e n=>st.keep p u e (by simp),fun p hp=>?_,fun p u e=>?_,st.there⟩,⟨⟨some v,vs,rfl,v,Gv,fp,rfl,rfl,r1.clean (fun p u t e=>?_) cl,q.rep.step g3 kept⟩,?_,fun p hp=>?_,fun p u e=>?_⟩⟩
  ·rcases RA.mp hp with hp|hp
   ·exact .inr (fresh p hp)
   ·exact .inl hp
  ·have e:(if p∈fp then none else G2 p)=some u:=e;by_cases hp:p∈fp
   ·rw[Rb hp]at e;cases e
   ·rw[Rg hp]at e;rcases st.gnew p u e with z|z|z
    ·have z:(if p∈fp then H p else G p)=some u:=z;rw[Rg hp]at z;exact .inl z
    ·cases z
    ·exact .inr (.inr z)
  ·show(if p∈fp then none else G2 p)=some u;by_cases hp:p∈fp
   ·exfalso;obtain⟨u',hu,hm⟩:=q.rep.mut p hp;have:=st.gg p u' (hk p hp u' hu);rw[e]at this;cases this;cases u with
    |lst _=>cases t
    |dK _=>cases t
    |dT _=>cases t
    |_=>cases hm
   ·rw[Rg hp];exact e
  ·rw[Rv];exact⟨k.nd,q.nd,fun p hp z hz e=>apart p hp (e▸hz)⟩
  ·show(if p∈fp then none else G2 p)=none;by_cases hf:p∈fp
   ·rw[Rb hf]
   ·rw[Rg hf];rcases RA.mp hp with hp|hp
    ·exact k.gn p hp
    ·exact absurd hp hf
  ·have e:(if p∈fp then none else G2 p)=some u:=e;by_cases hp:p∈fp
   ·rw[Rb hp]at e;cases e
   ·rw[Rg hp]at e;exact k.gh p u e
 ·rcases st.gnew p u e with z|z|z
  ·have z:(if p∈fp then H p else G p)=some u:=z;by_cases hp:p∈fp
   ·exact .inr (.inl hp)
   ·rw[Rg hp]at z;exact .inl z
  ·cases z
  ·exact .inr (.inr z)
 ·refine⟨⟨some v,vs,rfl,v,Gv,[],rfl,(Ru _).symm,r1,q.rep.frz (hg.trans st.gg) fun p hp u e=>st.gg p u (hk p hp u e)⟩,k.nd,k.gn,k.gh⟩
end
end PV
namespace PV
open PySem PySem.Spec PyProof.Rows L2 NX
def Res.bind{α β:Type}:Res α->(α->Res β)->Res β
 | .ok a,f=>f a
 | .exc c,_=>.exc c
 | .bad,_=>.bad
inductive BindOk{α β:Type}(x:Res α)(f:α->Res β)(b:β):Prop
 |mk (a:α) (h:x=.ok a) (k:f a=.ok b):BindOk x f b
theorem ah{α β:Type}{x:Res α}{f:α->Res β}{b:β}(h:x.bind f=.ok b):BindOk x f b:=by
 cases x with
 |ok a=>exact⟨a,rfl,h⟩
 |exc c=>cases h
 |bad=>cases h
inductive Opd where
 |val (d:D)|var (i:Nat)
def OpdOk(K:W.Frag)(G:Hp)(σ:L2.St):Opd->V->Prop
 | .val d,v=>Rep K G d v
 | .var i,v=>σ[i]?=some (some v)
theorem OpdOk.mono{K:W.Frag}{G G':Hp}{σ:L2.St}{o:Opd}{v:V}(h:Same G G')(r:OpdOk K G σ o v):OpdOk K G' σ o v:=by
 cases o with
 |val d=>exact Rep.mono h r
 |var i=>exact r
def kK(K:W.Frag)(G:Hp)(σ:L2.St):List Opd->List V->Prop
 |[],vs=>vs=[]
 |o::os,vs=>∃y ys,vs=y::ys/\OpdOk K G σ o y/\kK K G σ os ys
def vV:O->Bool
 | .f=>true
 | .l .f=>true
 | .d=>true
 | .pin _ .f=>true
 | .pin _ (.l .f)=>true
 | .pin _ .d=>true
 |_=>false
def Hi(env:PV.Env):Opd->Res D
 | .val d=>.ok d
 | .var i=>match env[i]? with
  |some (some r)=>if vV r.1 then .ok r.2 else .bad
  |_=>.bad
def qR(env:PV.Env):Opd->Res D
 | .val d=>.ok d
 | .var i=>match env[i]? with
  |some (some r)=>.ok r.2
  |_=>.bad
def ou(env:PV.Env):List Opd->Res (List D)
 |[]=>.ok []
 |o::os=>(Hi env o).bind fun d=>(ou env os).bind fun ds=>.ok (d::ds)
def g6(env:PV.Env):List Opd->Res (List D)
 |[]=>.ok []
 |o::os=>(qR env o).bind fun d=>(g6 env os).bind fun ds=>.ok (d::ds)
def Vw(K:W.Frag)(G H:Hp):D->V->Prop
 | .lst ds,v=>∃p xs,v=.ref p/\SqL K H p xs/\Reps K G ds xs
 | .dct tk ks vs,v=>∃p xs o,v=.ref p/\Rd H p o/\DictO o tk ks xs/\Reps K G vs xs
 |d,v=>Rep K G d v
def LO(K:W.Frag)(G H:Hp):List D->List V->Prop
 |[],vs=>vs=[]
 |d::ds,vs=>∃y ys,vs=y::ys/\Vw K G H d y/\LO K G H ds ys
section
variable{K:W.Frag}{G G' H H':Hp}{es:PV.Env}{σ:L2.St}{fp:List Addr}
theorem Vw.of{d:D}{v:V}(gh:Same G H)(r:Rep K G d v):Vw K G H d v:=by
 cases d with
 |lst ds=>
  rw[Rep]at r;obtain⟨p,xs,e,q,rs⟩:=r;exact⟨p,xs,e,eB gh q,rs⟩
 |dct tk ks vs=>
  rw[Rep]at r;obtain⟨p,xs,o,e,q,dd,rs⟩:=r;exact⟨p,xs,o,e,PV.Rd.mono gh q,dd,rs⟩
 |_=>exact r
theorem Vw.rep{d:D}{v:V}(gh:Same G H)(r:Vw K G H d v):Rep K H d v:=by
 cases d with
 |lst ds=>
  obtain⟨p,xs,e,q,rs⟩:=r;rw[Rep];exact⟨p,xs,e,q,rs.mono gh⟩
 |dct tk ks vs=>
  obtain⟨p,xs,o,e,q,dd,rs⟩:=r;rw[Rep];exact⟨p,xs,o,e,q,dd,rs.mono gh⟩
 |non=>exact Rep.mono gh r
 |bl b=>exact Rep.mono gh r
 |int i=>exact Rep.mono gh r
 |str l=>exact Rep.mono gh r
 |tup ds=>exact Rep.mono gh r
theorem RepO.vw0{o:O}{d:D}{v:V}{a:List Addr}(gh:Same G H)(hs:o=.f\/o=.l .f\/o=.d)(r:RepO K G H o d v a):Vw K G H d v:=by
 rcases hs with rfl|rfl|rfl
 ·exact Vw.of gh (df.mp r).1
 ·cases d with
  |lst ds=>
   obtain⟨p,xs,e,q,_,rs⟩:=eC.mp r;exact⟨p,xs,e,SqL.of q,rs⟩
  |_=>simp only[RepO]at r
 ·cases d with
  |dct tk ks vs=>
   rw[RepO]at r;obtain⟨p,xs,o,e,q,dd,_,rs⟩:=r;exact⟨p,xs,o,e,.inl q,dd,rs⟩
  |_=>simp only[RepO]at r
theorem RepO.vw{o:O}{d:D}{v:V}{a:List Addr}(gh:Same G H)(hs:vV o=true)(r:RepO K G H o d v a):Vw K G H d v:=by
 unfold vV at hs;split at hs
 ·exact r.vw0 gh (.inl rfl)
 ·exact r.vw0 gh (.inr (.inl rfl))
 ·exact r.vw0 gh (.inr (.inr rfl))
 ·rw[RepO]at r;exact r.2.vw0 gh (.inl rfl)
 ·rw[RepO]at r;exact r.2.vw0 gh (.inr (.inl rfl))
 ·rw[RepO]at r;exact r.2.vw0 gh (.inr (.inr rfl))
 ·cases hs
theorem Rel.vw{o:Opd}{v:V}{d:D}(q:Rel K G H es σ fp)(k:OpdOk K G σ o v)(e:Hi es o=.ok d):Vw K G H d v:=by
 cases o with
 |val d'=>
  cases e;exact Vw.of q.gh k
 |var i=>
  unfold Hi at e;dsimp only at e;split at e
  ·rename_i r hr;split at e
   ·rename_i hs;cases e;obtain⟨v',a,b,ev,r1,_⟩:=q.rep.take hr;have k:σ[i]?=some (some v):=k;rw[k]at ev;cases ev;exact r1.vw q.gh hs
   ·cases e
  ·cases e
theorem Rel.vwA{o:Opd}{v:V}{d:D}(q:Rel K G H es σ fp)(k:OpdOk K G σ o v)(e:qR es o=.ok d):Rep K H d v:=by
 cases o with
 |val d'=>
  cases e;exact Rep.mono q.gh k
 |var i=>
  unfold qR at e;dsimp only at e;split at e
  ·rename_i r hr;cases e;obtain⟨v',ev,r1⟩:=q.view hr;have k:σ[i]?=some (some v):=k;rw[k]at ev;cases ev;exact r1
  ·cases e
theorem Rel.vws(q:Rel K G H es σ fp):∀{os:List Opd}{vs:List V}{ds:List D},kK K G σ os vs->ou es os=.ok ds->LO K G H ds vs
 |[],_,_,k,e=>by
  cases e;exact k
 |o::os,_,_,⟨y,ys,e0,k1,k2⟩,e=>by
  unfold ou at e;obtain⟨d,e1,e⟩:=ah e;obtain⟨ds,e2,e⟩:=ah e;cases e;exact⟨y,ys,e0,q.vw k1 e1,Rel.vws q k2 e2⟩
theorem g7{G1:Hp}(gg:Same G G1)(ht:∀(i:Nat) (r:R) (v:V),es[i]?=some (some r)->σ[i]?=some (some v)->Rep K G1 r.2 v):∀{os:List Opd}{vs:List V}{ds:List D},kK K G σ os vs->g6 es os=.ok ds->Reps K G1 ds vs
 |[],_,_,k,e=>by
  cases e;have k:_=_:=k;rw[k];exact Reps.nil
 |o::os,_,_,⟨y,ys,e0,k1,k2⟩,e=>by
  unfold g6 at e;obtain⟨d,e1,e⟩:=ah e;obtain⟨ds,e2,e⟩:=ah e;cases e;rw[e0];refine .cons ?_ (g7 gg ht k2 e2);cases o with
  |val d'=>
   cases e1;exact Rep.mono gg k1
  |var i=>
   unfold qR at e1;dsimp only at e1;split at e1
   ·rename_i r hr;cases e1;exact ht i r y hr k1
   ·cases e1
end
abbrev FX:=PV.Env->Res (R×PV.Env)
abbrev FO:=PV.Env->Res (Opd×PV.Env)
abbrev FOs:=PV.Env->Res (List Opd×PV.Env)
abbrev FT:=PV.Env->Res (Bool×PV.Env)
inductive Out where
 |nx (env:PV.Env)|rt (r:R)|bk (env:PV.Env)|ct (env:PV.Env)
abbrev FS:=PV.Env->Res Out
inductive tQ(K:W.Frag)(f:FX)(σ:L2.St)(H:Hp)(Q:VK):Prop
 |mk:∀G env fp r env',Rel K G H env σ fp->f env=.ok (r,env')->(∀v H' G' F2,Step G H fp G' H' F2->Rel K G' H' (some r::env') (some v::σ) F2->Q v H')->tQ K f σ H Q
inductive tO(K:W.Frag)(f:FO)(σ:L2.St)(H:Hp)(Q:VK):Prop
 |mk:∀G env fp o env',Rel K G H env σ fp->f env=.ok (o,env')->(∀v H' G' F2,Step G H fp G' H' F2->Rel K G' H' env' σ F2->OpdOk K G' σ o v->Q v H')->tO K f σ H Q
inductive tOs(K:W.Frag)(f:FOs)(σ:L2.St)(H:Hp)(Q:List V->Hp->Prop):Prop
 |mk:∀G env fp o env',Rel K G H env σ fp->f env=.ok (o,env')->(∀v H' G' F2,Step G H fp G' H' F2->Rel K G' H' env' σ F2->kK K G' σ o v->Q v H')->tOs K f σ H Q
inductive tQT(K:W.Frag)(f:FT)(σ:L2.St)(H:Hp)(Q:Bool->Hp->Prop):Prop
 |mk:∀G env fp b env',Rel K G H env σ fp->f env=.ok (b,env')->(∀H' G' F2,Step G H fp G' H' F2->Rel K G' H' env' σ F2->Q b H')->tQT K f σ H Q
inductive Mode where
 |plain|mut
def Ez(md:Mode)(K:W.Frag)(G H:Hp)(r:R)(v:V)(fp:List Addr):Prop:=match md with
 | .plain=>Rel K G H [some r] [some v] fp
 | .mut=>∃o d p c d0,r=(.t [o,.pin p c],.tup [d,d0])/\Rel K G H [some (o,d),some (.pin p c,d0)] [some v,some (.ref p)] fp
noncomputable def OutOk{md:Mode}(K:W.Frag)(G H:Hp)(fp:List Addr)(Dd:Ends):Res Out->Prop
 | .ok (.nx env')=>∀σ' H' G' F2,Step G H fp G' H' F2->Rel K G' H' env' σ' F2->Dd.nx σ' H'
 | .ok (.bk env')=>∀σ' H' G' F2,Step G H fp G' H' F2->Rel K G' H' env' σ' F2->Dd.bk σ' H'
 | .ok (.ct env')=>∀σ' H' G' F2,Step G H fp G' H' F2->Rel K G' H' env' σ' F2->Dd.ct σ' H'
 | .ok (.rt r)=>∀v H' G' F2,Step G H fp G' H' F2->Ez md K G' H' r v F2->Dd.rt v H'
 |_=>False
inductive tQS{md:Mode}(K:W.Frag)(g:FS)(Dd:Ends)(σ:L2.St)(H:Hp):Prop
 |mk:∀G env fp,Rel K G H env σ fp->OutOk (md:=md) K G H fp Dd (g env)->tQS (md:=md) K g Dd σ H
def QE(X:Cx)(e:Expr)(f:FX):Prop:=PE X e (tQ X.K f)
def QO(X:Cx)(e:Expr)(f:FO):Prop:=PE X e (tO X.K f)
def JX(X:Cx)(es:List Expr)(f:FOs):Prop:=PA X es (tOs X.K f)
def QT(X:Cx)(e:Expr)(f:FT):Prop:=PT X e (tQT X.K f)
def QW(X:Cx)(e:Expr)(f:FT):Prop:=PW X e (tQT X.K f)
def QS{md:Mode}(X:Cx)(st:Stmt)(g:FS):Prop:=PS X st (tQS (md:=md) X.K g)
def JY{md:Mode}(X:Cx)(st:List Stmt)(g:FS):Prop:=PSs X st (tQS (md:=md) X.K g)
theorem aY{X:Cx}{e:Expr}{t t':TE}(h:PE X e t)(k:∀σ H Q,t' σ H Q->t σ H Q):PE X e t':=fun pr s σ H Q I w=>h pr s σ H Q I (k σ H Q w)
theorem pH{X:Cx}{e:Expr}{t t':TT}(h:PT X e t)(k:∀σ H Q,t' σ H Q->t σ H Q):PT X e t':=fun pr s σ H Q I w=>h pr s σ H Q I (k σ H Q w)
theorem xw{X:Cx}{e:Expr}{t t':TT}(h:PW X e t)(k:∀σ H Q,t' σ H Q->t σ H Q):PW X e t':=fun wh pr s σ H Q I w=>h wh pr s σ H Q I (k σ H Q w)
theorem pI{X:Cx}{e:List Expr}{t t':TA}(h:PA X e t)(k:∀σ H Q,t' σ H Q->t σ H Q):PA X e t':=fun pos pr s σ H Q I w=>h pos pr s σ H Q I (k σ H Q w)
theorem dZ{X:Cx}{e:Stmt}{t t':TS}(h:PS X e t)(k:∀D σ H,t' D σ H->t D σ H):PS X e t':=fun pr s σ H D I w=>h pr s σ H D I (k D σ H w)
theorem sO{X:Cx}{e:List Stmt}{t t':TS}(h:PSs X e t)(k:∀D σ H,t' D σ H->t D σ H):PSs X e t':=fun pr s σ H D I w=>h pr s σ H D I (k D σ H w)
theorem OutOk.imp{md:Mode}{K:W.Frag}{G H G1 H1:Hp}{fp Gg:List Addr}{Dd Nz:Ends}{r:Res Out}(st:Step G H fp G1 H1 Gg)(h:OutOk (md:=md) K G H fp Dd r)(n:∀σ H,Dd.nx σ H->Nz.nx σ H)(b:∀σ H,Dd.bk σ H->Nz.bk σ H)(c:∀σ H,Dd.ct σ H->Nz.ct σ H)(t:∀v H,Dd.rt v H->Nz.rt v H):OutOk (md:=md) K G1 H1 Gg Nz r:=by
 match r,h with
 | .ok (.nx env'),h=>exact fun σ' H' G' F2 s q=>n _ _ (h σ' H' G' F2 (st.trans s) q)
 | .ok (.bk env'),h=>exact fun σ' H' G' F2 s q=>b _ _ (h σ' H' G' F2 (st.trans s) q)
 | .ok (.ct env'),h=>exact fun σ' H' G' F2 s q=>c _ _ (h σ' H' G' F2 (st.trans s) q)
 | .ok (.rt r),h=>exact fun v H' G' F2 s q=>t _ _ (h v H' G' F2 (st.trans s) q)
theorem OutOk.after{md:Mode}{K:W.Frag}{G H G1 H1:Hp}{fp Gg:List Addr}{Dd:Ends}{r:Res Out}(st:Step G H fp G1 H1 Gg)(h:OutOk (md:=md) K G H fp Dd r):OutOk (md:=md) K G1 H1 Gg Dd r:=h.imp st (fun _ _ z=>z) (fun _ _ z=>z) (fun _ _ z=>z) fun _ _ z=>z
def aI(d:D):FX:=fun env=>.ok ((.f,d),env)
def fz:O->O
 | .pin p .f=>.pin p .f
 |_=>.f
def aN(i:Nat):FX:=fun env=>match env[i]? with
 |some (some r)=>.ok ((.f,r.2),env.set i (some (fz r.1,r.2)))
 |_=>.bad
def lI(i:Nat):FX:=fun env=>match env[i]? with
 |some (some r)=>.ok (r,env.set i none)
 |_=>.bad
def au(f:FX):FO:=fun env=>(f env).bind fun p=>.ok (.val p.1.2,p.2)
def ao(i:Nat):FO:=fun env=>match env[i]? with
 |some (some _)=>.ok (.var i,env)
 |_=>.bad
def aG:FOs:=fun env=>.ok ([],env)
def ai(f:FO)(g:FOs):FOs:=fun env=>(f env).bind fun p=>(g p.2).bind fun q=>.ok (p.1::q.1,q.2)
section
variable{X:Cx}
theorem pJ{e:Expr}{v:V}{d:D}(h:PE X e (tC v))(r:∀G,Rep X.K G d v):QE X e (aI d):=aY h fun σ H Q F7=>by
 obtain⟨G,env,fp,rr,env',rel,e,k⟩:=F7;cases e;exact k v H G fp .refl (rel.push (r G))
theorem aj{i j pos}:QE X (.Constant (.int i) j pos) (aI (.int i)):=pJ kB fun G=>by rw[Rep]
theorem sP{i j pos}:QE X (.Constant (.bool i) j pos) (aI (.bl i)):=pJ De fun G=>by rw[Rep]
theorem eT{j pos}:QE X (.Constant .none j pos) (aI .non):=pJ AH fun G=>by rw[Rep]
theorem gm{x j pos}{l:List Nat}(h:x=S l)(hl:l.length<=1000):QE X (.Constant (.str x) j pos) (aI (.str l)):=pJ AI fun G=>by
 rw[Rep,h];exact⟨rfl,by rw[line_eq];lia⟩
theorem aA{i:Nat}{e:Expr}(h:PE X e (pe i)):QE X e (aN i):=aY h fun σ H Q F7=>by
 obtain⟨G,env,fp,rr,env',rel,e,k⟩:=F7;unfold aN at e;split at e
 ·rename_i r hr;cases e;by_cases hf:fz r.1=.f
  ·obtain⟨v,G',fq,ev,rv,Gq,st⟩:=rel.freezeAt hr;rw[hf]at k;exact⟨v,ev,k v H G' fq st (Gq.push rv)⟩
  ·have hp:∃p,r.1=.pin p .f:=by
    unfold fz at hf;split at hf
    ·rename_i p hp;exact⟨p,hp⟩
    ·exact absurd rfl hf
   obtain⟨p,hp⟩:=hp;obtain⟨v,a,b,ev,r1,_,_⟩:=rel.rep.take hr;rw[hp,RepO]at r1;have es:env.set i (some (fz r.1,r.2))=env:=by
    refine lH ?_;rw[hr,hp];show some (some r)=some (some (.pin p .f,r.2));rw[<-hp]
   rw[es]at k;exact⟨v,ev,k v H G fp .refl (rel.push (df.mp r1.2).1)⟩
 ·cases e
theorem iI{i:Nat}{e:Expr}(h:PE X e (pe i)):QE X e (lI i):=aY h fun σ H Q F7=>by
 obtain⟨G,env,fp,rr,env',rel,e,k⟩:=F7;unfold lI at e;split at e
 ·rename_i r hr;cases e;obtain⟨v,fq,ev,Gq,st,_⟩:=rel.out hr;exact⟨v,ev,k v H G fq st Gq⟩
 ·cases e
theorem aa{e:Expr}{f:FX}(h:QE X e f):QO X e (au f):=aY h fun σ H Q F7=>by
 obtain⟨G,env,fp,o,env',rel,e,k⟩:=F7;obtain⟨⟨r,FY⟩,e1,e⟩:=ah e;cases e;refine⟨G,env,fp,r,FY,rel,e1,fun v H' G' F2 st Gq=>?_⟩;obtain⟨G2,b,rv,FZ,F4⟩:=Gq.freeze;exact k v H' G2 b (st.trans F4) FZ rv
theorem ae{i:Nat}{e:Expr}(h:PE X e (pe i)):QO X e (ao i):=aY h fun σ H Q F7=>by
 obtain⟨G,env,fp,o,env',rel,e,k⟩:=F7;unfold ao at e;split at e
 ·rename_i r hr;cases e;obtain⟨v,ev,_⟩:=rel.view hr;exact⟨v,ev,k v H G fp .refl rel ev⟩
 ·cases e
theorem aw:JX X [] aG:=pI iQ fun σ H Q F7=>by
 obtain⟨G,env,fp,o,env',rel,e,k⟩:=F7;cases e;exact k [] H G fp .refl rel rfl
theorem af{e:Expr}{es:List Expr}{f:FO}{g:FOs}(h:QO X e f)(hs:JX X es g)(Kb:starEach (e::es) X.env=(false,eval e X.env)::starEach es X.env:=by rfl):JX X (e::es) (ai f g):=
 pI (cH h hs Kb) fun σ H Q F7=>by
  obtain⟨G,env,fp,o,env',rel,e,k⟩:=F7;obtain⟨⟨o1,FY⟩,e1,e⟩:=ah e;obtain⟨⟨os,F5⟩,e2,e⟩:=ah e;cases e;exact⟨G,env,fp,o1,FY,rel,e1,fun v H1 G1 Gg Gb F0 Hv=>⟨G1,FY,Gg,os,F5,F0,e2,fun vs H2 G2 Gv F4 FZ JZ=>k _ H2 G2 Gv (Gb.trans F4) FZ ⟨v,vs,rfl,Hv.mono F4.gg,JZ⟩⟩⟩
def aB(g:D->D->Res R)(fa fb:FO):FX:=fun env=>(fa env).bind fun p=>(fb p.2).bind fun q=>(Hi q.2 p.1).bind fun a=>(Hi q.2 q.1).bind fun b=>(g a b).bind fun r=>.ok (r,q.2)
def cQ(g:D->D->Res R)(fa fb:FO):FX:=fun env=>(fa env).bind fun p=>(fb p.2).bind fun q=>(qR q.2 p.1).bind fun a=>(qR q.2 q.1).bind fun b=>(g a b).bind fun r=>.ok (r,q.2)
structure Goes(K:W.Frag)(H:Hp)(G:Hp)(fp:List Addr)(es:PV.Env)(vs:L2.St)(r:R)(Q:VK):Prop where
 rel:Rel K G H es vs fp
 jk:∀v H' G' F2,Step G H fp G' H' F2->Rel K G' H' (some r::es) (some v::vs) F2->Q v H'
inductive rG(K:W.Frag)(g:D->D->Res R)(x:V)(y:V)(H:Hp)(Q:VK):Prop
 |mk:∀G fp es vs a b r,Goes K H G fp es vs r Q->Vw K G H a x->Vw K G H b y->g a b=.ok r->rG K g x y H Q
inductive rGA(K:W.Frag)(g:D->D->Res R)(x:V)(y:V)(H:Hp)(Q:VK):Prop
 |mk:∀G fp es vs a b r,Goes K H G fp es vs r Q->Rep K H a x->Rep K H b y->g a b=.ok r->rGA K g x y H Q
variable{a b c:Expr}{fa fb fc:FO}{pos:Pos}{g g':D->D->Res R}
theorem pK{σ:L2.St}{H:Hp}{Q:VK}(h:tQ X.K (aB g fa fb) σ H Q):MU (rG X.K g) (tO X.K fa) (tO X.K fb) σ H Q:=by
 obtain⟨G,env,fp,r,env',rel,e,k⟩:=h;obtain⟨⟨oa,e1⟩,ha,e⟩:=ah e;obtain⟨⟨ob,e2⟩,hb,e⟩:=ah e;obtain⟨da,K6,e⟩:=ah e;obtain⟨db,HR,e⟩:=ah e;obtain⟨r',hr,e⟩:=ah e;cases e;exact⟨G,env,fp,oa,e1,rel,ha,fun x H1 G1 Gg Gb F0 Hv=>⟨G1,e1,Gg,ob,e2,F0,hb,fun y H2 G2 Gv F4 FZ JZ=>
  ⟨G2,Gv,e2,σ,da,db,r,⟨FZ,fun v H' G' F2 st Gq=>k v H' G' F2 (Gb.trans (F4.trans st)) Gq⟩,FZ.vw (Hv.mono F4.gg) K6,FZ.vw JZ HR,hr⟩⟩⟩
theorem yS{σ:L2.St}{H:Hp}{Q:VK}(h:tQ X.K (cQ g fa fb) σ H Q):MU (rGA X.K g) (tO X.K fa) (tO X.K fb) σ H Q:=by
 obtain⟨G,env,fp,r,env',rel,e,k⟩:=h;obtain⟨⟨oa,e1⟩,ha,e⟩:=ah e;obtain⟨⟨ob,e2⟩,hb,e⟩:=ah e;obtain⟨da,K6,e⟩:=ah e;obtain⟨db,HR,e⟩:=ah e;obtain⟨r',hr,e⟩:=ah e;cases e;exact⟨G,env,fp,oa,e1,rel,ha,fun x H1 G1 Gg Gb F0 Hv=>⟨G1,e1,Gg,ob,e2,F0,hb,fun y H2 G2 Gv F4 FZ JZ=>
  ⟨G2,Gv,e2,σ,da,db,r,⟨FZ,fun v H' G' F2 st Gq=>k v H' G' F2 (Gb.trans (F4.trans st)) Gq⟩,FZ.vwA (Hv.mono F4.gg) K6,FZ.vwA JZ HR,hr⟩⟩⟩
theorem aJ{op:Operator}(ho:GH X (binaryOp op) (rG X.K g))(ha:QO X a fa)(hb:QO X b fb):QE X (.BinOp a op b pos) (aB g fa fb):=aY (Dr ho ha hb) fun _ _ _=>pK
theorem Br{op:CmpOp}(ho:GH X (compareOp op) (rG X.K g))(ha:QO X a fa)(hb:QO X b fb)(hm:behindInMarks op b=false):QE X (.Compare a [op] [b] pos) (aB g fa fb):=aY (yf ho ha hb hm) fun _ _ _=>pK
def GJ(f:FX):FT:=fun env=>(f env).bind fun p=>match p.1.2 with
 | .bl k=>.ok (k,p.2)
 |_=>.bad
theorem yT{f:FX}{σ:L2.St}{H:Hp}{Q:Bool->Hp->Prop}(h:tQT X.K (GJ f) σ H Q):tQ X.K f σ H fun x H'=>∃k,x=.bl k/\Q k H':=by
 obtain⟨G,env,fp,k,env',rel,e,q⟩:=h;obtain⟨⟨⟨o,d⟩,FY⟩,e1,e⟩:=ah e;dsimp only at e;split at e
 ·cases e;refine⟨G,env,fp,_,_,rel,e1,fun v H' G' F2 st Gq=>?_⟩;have hv:=Gq.top;rw[show((o,D.bl k):R).2=D.bl k from rfl,Rep]at hv;obtain⟨b,FZ,F4⟩:=Gq.drop;exact⟨k,hv,q H' G' b (st.trans F4) FZ⟩
 ·cases e
theorem kM{e:Expr}{f:FX}(h:QE X e f)(he:∀whole,isTrue e X.env whole=(do let v <-whole;standAt e.pos;holding [v] (truthy v)):=by intro _;rfl):QT X e (GJ f):=pH (AJ h he) fun _ _ _=>yT
theorem kN{op:CmpOp}(ho:GH X (compareOp op) (rG X.K g))(ha:QO X a fa)(hb:QO X b fb)(hm:behindInMarks op b=false):QT X (.Compare a [op] [b] pos) (GJ (aB g fa fb)):=
 pH (rU ho ha hb hm) fun _ _ _ h=>pK (yT h)
theorem ba{op:CmpOp}(ho:GH X (compareOp op) (rGA X.K g))(ha:QO X a fa)(hb:QO X b fb)(hm:behindInMarks op b=false):QT X (.Compare a [op] [b] pos) (GJ (cQ g fa fb)):=
 pH (rU ho ha hb hm) fun _ _ _ h=>yS (yT h)
def Au(f g:FT):FT:=fun env=>(f env).bind fun p=>if p.1 then g p.2 else .ok (false,p.2)
def M0(f g:FT):FT:=fun env=>(f env).bind fun p=>if p.1 then .ok (true,p.2) else g p.2
def xx(f:FT):FT:=fun env=>(f env).bind fun p=>.ok (!p.1,p.2)
variable{ga gb:FT}{dq:List Expr}
theorem lJ(h:QT X a ga):QW X (.BoolOp .And [a] pos) ga:=x6 h
theorem xy(h:QT X a ga):QW X (.BoolOp .Or [a] pos) ga:=AK h
theorem pL(h:QT X a ga)(h2:QW X (.BoolOp .And (b::dq) pos) gb):QW X (.BoolOp .And (a::b::dq) pos) (Au ga gb):=xw (AL h h2) fun σ H Q F7=>by
 obtain⟨G,env,fp,k,env',rel,e,q⟩:=F7;obtain⟨⟨k1,FY⟩,e1,e⟩:=ah e;refine⟨G,env,fp,k1,FY,rel,e1,fun H1 G1 Gg Gb F0=>?_⟩;dsimp only at e;cases k1 with
 |true=>exact⟨G1,FY,Gg,k,env',F0,e,fun H2 G2 Gv F4 FZ=>q H2 G2 Gv (Gb.trans F4) FZ⟩
 |false=>
  cases e;exact q H1 G1 Gg Gb F0
theorem vW(h:QT X a ga)(h2:QW X (.BoolOp .Or (b::dq) pos) gb):QW X (.BoolOp .Or (a::b::dq) pos) (M0 ga gb):=xw (Dg h h2) fun σ H Q F7=>by
 obtain⟨G,env,fp,k,env',rel,e,q⟩:=F7;obtain⟨⟨k1,FY⟩,e1,e⟩:=ah e;refine⟨G,env,fp,k1,FY,rel,e1,fun H1 G1 Gg Gb F0=>?_⟩;dsimp only at e;cases k1 with
 |false=>exact⟨G1,FY,Gg,k,env',F0,e,fun H2 G2 Gv F4 FZ=>q H2 G2 Gv (Gb.trans F4) FZ⟩
 |true=>
  cases e;exact q H1 G1 Gg Gb F0
theorem QW.qt{e:Expr}{f:FT}(h:QW X e f):QT X e f:=h.pt
theorem kO(h:QT X a ga):QT X (.UnaryOp .Not a pos) (xx ga):=pH (AM h) fun σ H Q F7=>by
 obtain⟨G,env,fp,k,env',rel,e,q⟩:=F7;obtain⟨⟨k1,FY⟩,e1,e⟩:=ah e;cases e;exact⟨G,env,fp,k1,FY,rel,e1,fun H1 G1 Gg Gb F0=>q H1 G1 Gg Gb F0⟩
def DN(f g:FX):FX:=fun env=>(f env).bind fun p=>match p.1.2 with
 | .bl true=>g p.2
 | .bl false=>.ok ((.f,.bl false),p.2)
 |_=>.bad
def eOr(f g:FX):FX:=fun env=>(f env).bind fun p=>match p.1.2 with
 | .bl true=>.ok ((.f,.bl true),p.2)
 | .bl false=>g p.2
 |_=>.bad
def DO(f:FX):FX:=fun env=>(f env).bind fun p=>match p.1.2 with
 | .bl k=>.ok ((.f,.bl (!k)),p.2)
 |_=>.bad
def eIf(c:FT)(f g:FX):FX:=fun env=>(c env).bind fun p=>if p.1 then f p.2 else g p.2
variable{ea eb:FX}
theorem Bs{op}(h:QE X a ea):QE X (.BoolOp op [a] pos) ea:=AN h
theorem bW{K:W.Frag}{G:Hp}(k:Bool):Rep K G (.bl k) (.bl k):=by rw[Rep]
theorem bF{K:W.Frag}{G:Hp}(k:Int):Rep K G (.int k) (.int k):=by rw[Rep]
theorem lK{K:W.Frag}{G:Hp}:Rep K G .non .non:=by rw[Rep]
theorem gH{K:W.Frag}{G:Hp}{l:List Nat}(h:l.length<=sizeLine):Rep K G (.str l) (.str (S l)):=by
 rw[Rep];exact⟨rfl,h⟩
theorem cG{K:W.Frag}{G:Hp}{k:Bool}{v:V}(h:Rep K G (.bl k) v):v=.bl k:=by rw[Rep]at h;exact h
theorem bo{K:W.Frag}{G:Hp}{k:Int}{v:V}(h:Rep K G (.int k) v):v=.int k:=by rw[Rep]at h;exact h
theorem bU{K:W.Frag}{G:Hp}{v:V}(h:Rep K G .non v):v=.non:=by rw[Rep]at h;exact h
theorem a7{K:W.Frag}{G:Hp}{l:List Nat}{v:V}(h:Rep K G (.str l) v):v=.str (S l)/\l.length<=sizeLine:=by rw[Rep]at h;exact h
inductive OfT(K:W.Frag)(G:Hp)(l:List D)(v:V):Prop
 |mk (p:Addr) (xs:List V) (e:v=.ref p) (q:SqT K G p xs) (r:Reps K G l xs):OfT K G l v
inductive OfL(K:W.Frag)(G:Hp)(l:List D)(v:V):Prop
 |mk (p:Addr) (xs:List V) (e:v=.ref p) (q:SqL K G p xs) (r:Reps K G l xs):OfL K G l v
theorem a8{K:W.Frag}{G:Hp}{l:List D}{v:V}(h:Rep K G (.tup l) v):OfT K G l v:=by
 rw[Rep]at h;obtain⟨p,xs,e,q,r⟩:=h;exact⟨p,xs,e,SqT.of q,r⟩
theorem sQ{K:W.Frag}{G:Hp}{l:List D}{v:V}(h:Rep K G (.tup l) v):∃p xs,v=.ref p/\G p=some (.tup xs)/\Reps K G l xs:=by rw[Rep]at h;exact h
theorem bg{K:W.Frag}{G:Hp}{l:List D}{v:V}(h:Rep K G (.lst l) v):OfL K G l v:=by
 rw[Rep]at h;obtain⟨p,xs,e,q,r⟩:=h;exact⟨p,xs,e,q,r⟩
theorem bC{K:W.Frag}{G H:Hp}{k:Int}{v:V}(h:Vw K G H (.int k) v):v=.int k:=bo (K:=K) (G:=G) h
theorem eU{K:W.Frag}{G H:Hp}{l:List Nat}{v:V}(h:Vw K G H (.str l) v):v=.str (S l)/\l.length<=sizeLine:=a7 (K:=K) (G:=G) h
theorem gq{K:W.Frag}{G H:Hp}{l:List D}{v:V}(h:Vw K G H (.tup l) v):OfT K G l v:=a8 (K:=K) (G:=G) h
theorem Bt(h:QE X a ea)(h2:QE X (.BoolOp .And (b::dq) pos) eb):QE X (.BoolOp .And (a::b::dq) pos) (DN ea eb):=aY (AO h h2) fun σ H Q F7=>by
 obtain⟨G,env,fp,r,env',rel,e,q⟩:=F7;obtain⟨⟨⟨o,d⟩,FY⟩,e1,e⟩:=ah e;refine⟨G,env,fp,_,FY,rel,e1,fun v H1 G1 Gg Gb F0=>?_⟩;have hv:=F0.top;obtain⟨b',FZ,F4⟩:=F0.drop;dsimp only at e hv;split at e
 ·exact⟨true,cG hv,C4 ⟨G1,FY,b',r,env',FZ,e,fun v H2 G2 Gv Gn Gj=>q v H2 G2 Gv (Gb.trans (F4.trans Gn)) Gj⟩⟩
 ·cases e;exact⟨false,cG hv,iteF (q _ H1 G1 b' (Gb.trans F4) (FZ.push (bW _)))⟩
 ·cases e
theorem Bu(h:QE X a ea):QE X (.UnaryOp .Not a pos) (DO ea):=aY (AQ h) fun σ H Q F7=>by
 obtain⟨G,env,fp,r,env',rel,e,q⟩:=F7;obtain⟨⟨⟨o,d⟩,FY⟩,e1,e⟩:=ah e;refine⟨G,env,fp,_,FY,rel,e1,fun v H1 G1 Gg Gb F0=>?_⟩;have hv:=F0.top;obtain⟨b',FZ,F4⟩:=F0.drop;dsimp only at e hv;split at e
 ·cases e;exact⟨_,cG hv,q _ H1 G1 b' (Gb.trans F4) (FZ.push (bW _))⟩
 ·cases e
noncomputable def EA(g g':D->D->Res R)(fa fb fc:FO):FX:=fun env=>(fa env).bind fun p=>(fb p.2).bind fun q=>(Hi q.2 p.1).bind fun a=>(Hi q.2 q.1).bind fun b=>(g a b).bind fun r=>match r with
 |(.f,.bl true)=>(fc q.2).bind fun t=>(Hi t.2 q.1).bind fun b=>(Hi t.2 t.1).bind fun c=>(g' b c).bind fun r=>.ok (r,t.2)
 |(.f,.bl false)=>.ok ((.f,.bl false),q.2)
 |_=>.bad
inductive rC(K:W.Frag)(g:List D->Res R)(xs:List V)(H:Hp)(Q:VK):Prop
 |mk:∀G fp es vs ds r,Goes K H G fp es vs r Q->LO K G H ds xs->g ds=.ok r->rC K g xs H Q
def bu(g:List D->Res R)(fs:FOs):FX:=fun env=>(fs env).bind fun p=>(ou p.2 p.1).bind fun ds=>(g ds).bind fun r=>.ok (r,p.2)
theorem sR{gg:List D->Res R}{fs:FOs}{σ:L2.St}{H:Hp}{Q:VK}(h:tQ X.K (bu gg fs) σ H Q):O5 (rC X.K gg) (tOs X.K fs) σ H Q:=by
 obtain⟨G,env,fp,r,env',rel,e,k⟩:=h;obtain⟨⟨os,e1⟩,ha,e⟩:=ah e;obtain⟨ds,hd,e⟩:=ah e;obtain⟨r',hr,e⟩:=ah e;cases e;exact⟨G,env,fp,os,e1,rel,ha,fun vs H1 G1 Gg Gb F0 Hv=>⟨G1,Gg,e1,σ,ds,r,⟨F0,fun v H' G' F2 st Gq=>k v H' G' F2 (Gb.trans st) Gq⟩,F0.vws Hv hd,hr⟩⟩
variable{x:Str}{p:Pos}{e:Expr}{es:List Expr}{gg:List D->Res R}{fs:FOs}{id T:String}
theorem bx(hc:di X (.builtin id) (rC X.K gg))(hg:Gl X x)(hm:X.mg x=none)(hv:bootBuiltins x=some (.builtin id))(ha:JX X (e::es) fs)(hn:x≠"__name__":=by decide)(HR:(x==("__debug__" : Str))=false:=by decide)
  (he:starEach (e::es) X.env=(false,eval e X.env)::starEach es X.env:=by rfl) (Hy:(backTo pos (starEach es X.env)).any (·.1)=false:=by rfl):QE X (.Call (.Name x p) (e::es) [] pos) (bu gg fs):=
 aY (ph hc hg hm hv ha hn HR he Hy) fun _ _ _=>sR
theorem bP(hc:di X (.type T) (rC X.K gg))(hg:Gl X x)(hm:X.mg x=none)(hv:bootBuiltins x=some (.type T))(ha:JX X (e::es) fs)(hn:x≠"__name__":=by decide)(HR:(x==("__debug__" : Str))=false:=by decide)
  (he:starEach (e::es) X.env=(false,eval e X.env)::starEach es X.env:=by rfl) (Hy:(backTo pos (starEach es X.env)).any (·.1)=false:=by rfl):QE X (.Call (.Name x p) (e::es) [] pos) (bu gg fs):=
 aY (rY hc hg hm hv ha hn HR he Hy) fun _ _ _=>sR
inductive spF(K:W.Frag)(F:List D->Res R)(vs:List V)(H:Hp)(Q:VK)(zz:XK):Prop
 |mk:∀G ds r,Same G H->Reps K G ds vs->F ds=.ok r->(∀v H' G' F2,Step G H [] G' H' F2->Rel K G' H' [some r] [some v] F2->Q v H')->spF K F vs H Q zz
def eZ(F:List D->Res R)(fs:FOs):FX:=fun env=>(fs env).bind fun p=>(g6 p.2 p.1).bind fun ds=>(F ds).bind fun r=>.ok (r,if aE r.1 r.2 then p.2 else p.2.map frz)
theorem bj{F:List D->Res R}{k:Nat}(C:Ct X.prog X.w X.K X.mg X.base x k (spF X.K F))(hr:Room k X.A)(hg:Gl X x)(ha:JX X (e::es) fs)(HR:(x==("__debug__" : Str))=false:=by decide)
  (he:starEach (e::es) X.env=(false,eval e X.env)::starEach es X.env:=by rfl) (Hy:(backTo pos (starEach es X.env)).any (·.1)=false:=by rfl):QE X (.Call (.Name x p) (e::es) [] pos) (eZ F fs):=
 aY (vI C hr hg ha HR he Hy) fun σ H Q F7=>by
  obtain⟨G,env,fp,r,env',rel,e,k⟩:=F7;obtain⟨⟨os,e1⟩,ha,e⟩:=ah e;obtain⟨ds,hd,e⟩:=ah e;obtain⟨r',hr,e⟩:=ah e;refine⟨G,env,fp,os,e1,rel,ha,fun vs H1 G1 Gg Gb F0 Hv=>?_⟩;show spF X.K F (vs++[]) H1 Q _;rw[Ru];obtain⟨G2,K7,Mf,HJ,_,HK⟩:=F0.lend;refine⟨G2,ds,r',Mf,g7 K7 HJ Hv hd,hr,fun v H' G' F2 st Gq=>?_⟩;obtain⟨k1,k2⟩:=HK H' G' F2 r' v st Gq;by_cases hc:aE r'.1 r'.2=true
  ·rw[Rb hc]at e;cases e;obtain⟨G3,Ha,Gn,Gj⟩:=k1 hc;exact k v H' G3 Ha (Gb.trans Gn) Gj
  ·rw[Rg hc]at e;cases e;obtain⟨G3,Ha,Gn,Gj⟩:=k2;exact k v H' G3 Ha (Gb.trans Gn) Gj
end
def sSeq(g1 g2:FS):FS:=fun env=>(g1 env).bind fun o=>match o with
 | .nx e=>g2 e
 |o=>.ok o
def cY:FS:=fun env=>.ok (.nx env)
def xA:FS:=fun _=>.bad
def ck(i:Nat)(f:FX):FS:=fun env=>(f env).bind fun p=>if i<p.2.length then .ok (.nx (p.2.set i (some p.1))) else .bad
def g8(f:FX):FS:=fun env=>(f env).bind fun p=>.ok (.nx p.2)
def eV(f:FX):FS:=fun env=>(f env).bind fun p=>.ok (.rt p.1)
def HQ(c:FT)(g h:FS):FS:=fun env=>(c env).bind fun p=>if p.1 then g p.2 else h p.2
section
variable{md:Mode}{X:Cx}{st:Stmt}{Pp:List Stmt}{g h:FS}{f:FX}{c:FT}{pos:Pos}{e:Expr}
theorem bc:JY (md:=md) X [] cY:=sO x9 fun D σ H ⟨G,env,fp,rel,k⟩=>k σ H G fp .refl rel
theorem ay(a:QS (md:=md) X st g):JY (md:=md) X [st] g:=ya a
theorem ag(a:QS (md:=md) X st g)(b:JY (md:=md) X Pp h):JY (md:=md) X (st::Pp) (sSeq g h):=sO (vn a b) fun D σ H F7=>by
 obtain⟨G,env,fp,rel,k⟩:=F7;refine⟨G,env,fp,rel,?_⟩;have k:OutOk X.K G H fp D ((g env).bind fun o=>match o with | .nx e=>h e|o=>.ok o):=k;match q:g env,k with
 | .ok (.nx FY),k=>exact fun σ1 H1 G1 Gg Gb F0=>⟨G1,FY,Gg,F0,OutOk.after Gb k⟩
 | .ok (.bk FY),k=>exact k
 | .ok (.ct FY),k=>exact k
 | .ok (.rt r),k=>exact k
theorem vX:QS (md:=md) X st xA:=dZ vo fun D σ H ⟨G,env,fp,rel,k⟩=>k
theorem sS{K:W.Frag}{G H:Hp}{fp:List Addr}{D:Ends}{i:Nat}{env:PV.Env}{σ:L2.St}(rel:Rel K G H env σ fp)(k:OutOk (md:=md) K G H fp D (ck i f env)):tQ K f σ H fun v H'=>D.nx (σ.set i (some v)) H':=by
 unfold ck at k;match q:f env,k with
 | .ok (r,FY),k=>
  have k:OutOk K G H fp D (if i<FY.length then .ok (.nx (FY.set i (some r))) else .bad):=k;by_cases hi:i<FY.length
  ·rw[Rb hi]at k;refine⟨G,env,fp,r,FY,rel,q,fun v H1 G1 Gg Gb F0=>?_⟩;obtain⟨fq,FZ,F4⟩:=F0.store hi;exact k _ H1 G1 fq (Gb.trans F4) FZ
  ·rw[Rg hi]at k;exact k.elim
theorem aK{i:Nat}{x:Str}{pos':Pos}(hN:X.N.Nodup)(hi:X.N[i]?=some x)(hx:Loc X.env.scope x)(he:QE X e f)(hs:swapsWith e (some (.Name x pos')) pos.line X.env=pure false:=by rfl)(hf:X.fn x=true\/X.env.scope.names.lookup x=some .local:=by first|exact .inl rfl|exact .inr rfl|assumption):
  QS (md:=md) X (.Assign [.Name x pos'] e pos) (ck i f):=dZ (AW (i:=i) hN hi hx he hs hf) fun D σ H ⟨G,env,fp,rel,k⟩=>sS rel k
theorem dr(he:QE X e f)(hs:swapsWith e none pos.line X.env=pure false:=by rfl):QS (md:=md) X (.Expr e pos) (g8 f):=dZ (yb he hs) fun D σ H F7=>by
 obtain⟨G,env,fp,rel,k⟩:=F7;unfold g8 at k;match q:f env,k with
 | .ok (r,FY),k=>
  refine⟨G,env,fp,r,FY,rel,q,fun v H1 G1 Gg Gb F0=>?_⟩;obtain⟨b,FZ,F4⟩:=F0.drop;exact k _ H1 G1 b (Gb.trans F4) FZ
theorem Rel.only{K:W.Frag}{G H:Hp}{r:R}{v:V}{es:PV.Env}{vs:L2.St}{fp:List Addr}(q:Rel K G H (some r::es) (some v::vs) fp):∃a,Rel K G H [some r] [some v] a/\Step G H fp G H a:=by
 obtain⟨y,ys,e,v',a,b,e1,e2,r1,r2⟩:=q.rep;cases e;cases e1;subst e2;have nd:=Rv.mp q.nd;exact⟨a,⟨⟨some v,[],rfl,v,a,[],rfl,(Ru _).symm,r1,rfl,rfl⟩,nd.1,fun p hp=>q.gn p (Q9 _ hp),q.gh⟩,Step.cut fun p hp=>Q9 _ hp⟩
theorem a9(he:QE X e f):QS (md:=.plain) X (.Return (some e) pos) (eV f):=dZ (xg he) fun D σ H F7=>by
 obtain⟨G,env,fp,rel,k⟩:=F7;unfold eV at k;match q:f env,k with
 | .ok (r,FY),k=>
  refine⟨G,env,fp,r,FY,rel,q,fun v H1 G1 Gg Gb F0=>?_⟩;obtain⟨b,FZ,F4⟩:=F0.only;exact k _ H1 G1 b (Gb.trans F4) FZ
theorem Rel.nilF{K:W.Frag}{G H:Hp}{es:PV.Env}{vs:L2.St}{fp:List Addr}(q:Rel K G H es vs fp):Rel K G H [] [] []:=⟨⟨rfl,rfl⟩,SM,(fun _ h=>nomatch h),q.gh⟩
theorem de{a b:List Stmt}{ct:Expr}(hc:QT X ct c)(ha:JY (md:=md) X a g)(hb:JY (md:=md) X b h):QS (md:=md) X (.If ct a b pos) (HQ c g h):=dZ (Dl hc ha hb) fun D σ H F7=>by
 obtain⟨G,env,fp,rel,k⟩:=F7;unfold HQ at k;match q:c env,k with
 | .ok (true,FY),k=>exact⟨G,env,fp,true,FY,rel,q,fun H1 G1 Gg Gb F0=>C4 ⟨G1,FY,Gg,F0,OutOk.after Gb k⟩⟩
 | .ok (false,FY),k=>exact⟨G,env,fp,false,FY,rel,q,fun H1 G1 Gg Gb F0=>iteF ⟨G1,FY,Gg,F0,OutOk.after Gb k⟩⟩
def cZ(c:FT)(g:FS):Nat->FS
 | 0,_=>.bad
 |n+1,env=>(c env).bind fun p=>if p.1 then(g p.2).bind fun o=>match o with
  | .nx e=>cZ c g n e
  | .ct e=>cZ c g n e
  | .bk e=>.ok (.nx e)
  | .rt r=>.ok (.rt r)
  else .ok (.nx p.2)
theorem pM{ct:Expr}{body:List Stmt}(n:Nat)(hp:PassesOwn (model X.prog X.w) X.A X.env X.xe)(hc:QT X ct c)(hb:JY (md:=md) X body g):QS (md:=md) X (.While ct body [] pos) (cZ c g n):=
 dZ (vq hp hc hb) fun D σ H F7=>by
  obtain⟨G,env,fp,rel,k⟩:=F7;refine⟨fun m σ' H'=>∃G' env' F2,Rel X.K G' H' env' σ' F2/\OutOk X.K G' H' F2 D (cZ c g m env'),⟨n,G,env,fp,rel,k⟩,?_⟩;rintro m σ1 H1 ⟨G1,FY,Gg,F0,k1⟩;cases m with
  |zero=>exact k1.elim
  |succ m=>
   unfold cZ at k1;match q:c FY,k1 with
   | .ok (false,F5),k1=>exact⟨G1,FY,Gg,false,F5,F0,q,fun H2 G2 Gv F4 FZ=>iteF (k1 _ H2 G2 Gv F4 FZ)⟩
   | .ok (true,F5),k1=>
    refine⟨G1,FY,Gg,true,F5,F0,q,fun H2 G2 Gv F4 FZ=>C4 ?_⟩;refine⟨fun σ' H'=>∃G' env' F2,Rel X.K G' H' env' σ' F2/\OutOk X.K G' H' F2 D (cZ c g m env'),fun σ' H' z=>⟨m,S4 _,z⟩,G2,F5,Gv,FZ,?_⟩;have k2:OutOk X.K G1 H1 Gg D ((g F5).bind fun o=>match o with | .nx e=>cZ c g m e | .ct e=>cZ c g m e | .bk e=>.ok (.nx e) | .rt r=>.ok (.rt r)):=k1;match q2:g F5,k2 with
    | .ok (.nx e),k2=>exact fun σ' H' G' F2 st rel=>⟨G',e,F2,rel,OutOk.after (F4.trans st) k2⟩
    | .ok (.ct e),k2=>exact fun σ' H' G' F2 st rel=>⟨G',e,F2,rel,OutOk.after (F4.trans st) k2⟩
    | .ok (.bk e),k2=>exact fun σ' H' G' F2 st rel=>k2 σ' H' G' F2 (F4.trans st) rel
    | .ok (.rt r),k2=>exact fun v H' G' F2 st rel=>k2 v H' G' F2 (F4.trans st) rel
def Walk(K:W.Frag)(G:Hp)(J:It)(ds:List D):Prop:=∀G' H' es vs fp,Same G G'->Rel K G' H' es vs fp->∀i:Nat,
 (∀d,ds[i]?=some d->J.go i H'/\∀x H2,J.yld i H' x H2->∃G2,Rep K G2 d x/\Rel K G2 H2 es vs fp/\Step G' H' fp G2 H2 fp)/\(i=ds.length->J.stop i H')
abbrev FI:=PV.Env->Res (List D×PV.Env)
inductive tQI(K:W.Frag)(f:FI)(σ:L2.St)(H:Hp)(R:It->Hp->Prop):Prop
 |mk:∀G env fp ds env',Rel K G H env σ fp->f env=.ok (ds,env')->(∀J H' G' F2,Step G H fp G' H' F2->Rel K G' H' env' σ F2->Walk K G' J ds->R J H')->tQI K f σ H R
def QI(X:Cx)(tg e:Expr)(f:FI):Prop:=PI X tg e (tQI X.K f)
theorem jD{X:Cx}{tg e:Expr}{t t':TI}(h:PI X tg e t)(k:∀σ H R,t' σ H R->t σ H R):PI X tg e t':=fun pr s σ H R I w=>h pr s σ H R I (k σ H R w)
abbrev FG:=D->PV.Env->Res PV.Env
inductive tQG(K:W.Frag)(a:FG)(v:V)(σ:L2.St)(H:Hp)(Q:L2.St->Hp->Prop):Prop
 |mk:∀G env fp d env',Rel K G H env σ fp->Rep K G d v->a d env=.ok env'->(∀σ' G' F2,Step G H fp G' H F2->Rel K G' H env' σ' F2->Q σ' H)->tQG K a v σ H Q
def QG(X:Cx)(tg:Expr)(a:FG):Prop:=PG X tg (tQG X.K a)
def aD(i:Nat):FG:=fun d env=>if i<env.length then .ok (env.set i (some (.f,d))) else .bad
theorem xB{X:Cx}{tg:Expr}{t t':TG}(h:PG X tg t)(k:∀v σ H Q,t' v σ H Q->t v σ H Q):PG X tg t':=fun pr s σ H v u Q I r w=>h pr s σ H v u Q I r (k v σ H Q w)
theorem sT{X:Cx}{tg:List Expr}{t t':LJ}(h:LX X tg t)(k:∀v σ H Q,t' v σ H Q->t v σ H Q):LX X tg t':=fun pr s σ H v u Q I r w=>h pr s σ H v u Q I r (k v σ H Q w)
theorem aH{i:Nat}{x:Str}(hN:X.N.Nodup)(hi:X.N[i]?=some x)(hx:Loc X.env.scope x)(hf:X.fn x=true\/X.env.scope.names.lookup x=some .local:=by first|exact .inl rfl|exact .inr rfl|assumption):QG X (.Name x pos) (aD i):=
 xB (yc (i:=i) hN hi hx hf) fun v σ H Q F7=>by
  obtain⟨G,env,fp,d,env',rel,r,e,k⟩:=F7;unfold aD at e;split at e
  ·rename_i hl;cases e;obtain⟨fq,FZ,F4⟩:=(rel.push r).store hl;exact k _ G fq F4 FZ
  ·cases e
abbrev K8:=List D->PV.Env->Res PV.Env
inductive tQGs(K:W.Frag)(a:K8)(vs:List V)(σ:L2.St)(H:Hp)(Q:L2.St->Hp->Prop):Prop
 |mk:∀G env fp ds env',Rel K G H env σ fp->Reps K G ds vs->a ds env=.ok env'->(∀σ' G' F2,Step G H fp G' H F2->Rel K G' H env' σ' F2->Q σ' H)->tQGs K a vs σ H Q
def OF(X:Cx)(tg:List Expr)(a:K8):Prop:=LX X tg (tQGs X.K a)
def d4:K8:=fun ds env=>match ds with
 |[]=>.ok env
 |_=>.bad
def aQ(a:FG)(b:K8):K8:=fun ds env=>match ds with
 |d::ds=>(a d env).bind fun e=>b ds e
 |_=>.bad
theorem eD:OF X [] d4:=sT yd fun vs σ H Q F7=>by
 obtain⟨G,env,fp,ds,env',rel,r,e,k⟩:=F7;cases ds with
 |nil=>
  cases e;rw[Reps]at r;exact⟨r,k σ G fp .refl rel⟩
 |cons d ds=>cases e
theorem aV{tg:Expr}{J0:List Expr}{a:FG}{b:K8}(h1:QG X tg a)(h2:OF X J0 b)(hs:(assignEach (tg::J0) X.env).map (·.2)=assign tg X.env::(assignEach J0 X.env).map (·.2):=by rfl):OF X (tg::J0) (aQ a b):=
 sT (vp h1 h2 hs) fun vs σ H Q F7=>by
  obtain⟨G,env,fp,ds,env',rel,r,e,k⟩:=F7;cases ds with
  |nil=>cases e
  |cons d ds=>
   rw[Reps]at r;obtain⟨y,ys,ev,r1,r2⟩:=r;obtain⟨FY,e1,e2⟩:=ah e;exact⟨y,ys,ev,G,env,fp,d,FY,rel,r1,e1,fun σ1 G1 Gg Gb F0=>⟨G1,FY,Gg,ds,env',F0,r2.mono Gb.gg,e2,fun σ2 G2 Gv F4 FZ=>k σ2 G2 Gv (Gb.trans F4) FZ⟩⟩
def kx(n:Nat)(a:K8):FG:=fun d env=>match d with
 | .tup ds=>if ds.length=n then a ds env else .bad
 |_=>.bad
theorem g9{J0:List Expr}{k n:Nat}{a:K8}(hc:X.calm=true)(h:OF X J0 a)(hn:(assignEach J0 X.env).length=n:=by rfl)(Kb:(assignEach J0 X.env).findIdx? (·.1)=none:=by rfl):QG X (.Tuple J0 k pos) (kx n a):=
 xB (AU hc h hn Kb) fun v σ H Q F7=>by
  obtain⟨G,env,fp,d,env',rel,r,e,k⟩:=F7;unfold kx at e;split at e
  ·rename_i ds;split at e
   ·rename_i hl;obtain⟨p,xs,ev,sq,rs⟩:=a8 r;exact⟨p,xs,ev,bE rel.gh sq,rs.length.trans hl,G,env,fp,ds,env',rel,rs,e,k⟩
   ·cases e
  ·cases e
def dD(a:FG)(g:FS):List D->FS
 |[],env=>.ok (.nx env)
 |d::ds,env=>(a d env).bind fun e=>(g e).bind fun o=>match o with
  | .nx e=>dD a g ds e
  | .ct e=>dD a g ds e
  | .bk e=>.ok (.nx e)
  | .rt r=>.ok (.rt r)
def qS(f:FI)(a:FG)(g:FS):FS:=fun env=>(f env).bind fun p=>dD a g p.1 p.2
theorem gu{tg iter:Expr}{body:List Stmt}{fi:FI}{a:FG}(hp:PassesOwn (model X.prog X.w) X.A X.env X.xe)(hc:X.calm=true)(hi:QI X tg iter fi)(hg:QG X tg a)(hb:JY (md:=md) X body g)(hs:∀x,foldedSetIterable iter X.env x=pure x:=by intro _;rfl):QS (md:=md) X (.For tg iter body [] pos) (qS fi a g):=
 dZ (xh hp hc hi hg hb hs) fun D σ H F7=>by
  obtain⟨G,env,fp,rel,k⟩:=F7;unfold qS at k;match q:fi env,k with
  | .ok (ds,FY),k=>
   refine⟨G,env,fp,ds,FY,rel,q,fun J H1 G1 Gg Gb F0 wk=>?_⟩;have k:OutOk X.K G H fp D (dD a g ds FY):=k;refine⟨fun i m σ' H'=>m=ds.length-i/\i<=ds.length/\∃G' env' F2,Same G1 G'/\Rel X.K G' H' env' σ' F2/\OutOk X.K G' H' F2 D (dD a g (ds.drop i) env'),⟨_,rfl,RM _,G1,FY,Gg,.refl _,F0,OutOk.after Gb k⟩,?_⟩;rintro i m σ2 H2 ⟨rfl,hi,G2,F5,Gv,gg,FZ,k2⟩;obtain⟨w1,w2⟩:=wk G2 H2 _ _ _ gg FZ i;by_cases Gy:i<ds.length
   ·have hd:ds[i]?=some ds[i]:=List.getElem?_eq_getElem Gy;obtain⟨go,yl⟩:=w1 _ hd;rw[Ti Gy]at k2;refine .inr ⟨go,fun σ' H'=>∃G' env' F2,Same G1 G'/\Rel X.K G' H' env' σ' F2/\OutOk X.K G' H' F2 D (dD a g (ds.drop (i+1)) env'),fun σ' H' z=>⟨ds.length-(i+1),by lia,rfl,Gy,z⟩,fun x H3 y=>?_⟩;obtain⟨G3,rx,Gj,Gn⟩:=yl x H3 y;unfold dD at k2;match q3:a ds[i] F5,k2 with
    | .ok GC,k2=>
     refine⟨G3,F5,Gv,ds[i],GC,Gj,rx,q3,fun σ4 G4 Mg GZ Gw=>⟨G4,GC,Mg,Gw,?_⟩⟩;have k3:OutOk X.K G2 H2 Gv D ((g GC).bind fun o=>match o with | .nx e=>dD a g (ds.drop (i+1)) e | .ct e=>dD a g (ds.drop (i+1)) e | .bk e=>.ok (.nx e) | .rt r=>.ok (.rt r)):=k2;match q4:g GC,k3 with
     | .ok (.nx e),k3=>exact fun σ' H' G' F2 st rel=>⟨G',e,F2,gg.trans (Gn.gg.trans (GZ.gg.trans st.gg)),rel,OutOk.after (Gn.trans (GZ.trans st)) k3⟩
     | .ok (.ct e),k3=>exact fun σ' H' G' F2 st rel=>⟨G',e,F2,gg.trans (Gn.gg.trans (GZ.gg.trans st.gg)),rel,OutOk.after (Gn.trans (GZ.trans st)) k3⟩
     | .ok (.bk e),k3=>exact fun σ' H' G' F2 st rel=>k3 σ' H' G' F2 (Gn.trans (GZ.trans st)) rel
     | .ok (.rt r),k3=>exact fun v H' G' F2 st rel=>k3 v H' G' F2 (Gn.trans (GZ.trans st)) rel
   ·have e:i=ds.length:=by lia
    subst e;rw[UN]at k2;exact .inl ⟨w2 rfl,k2 σ2 H2 G2 Gv .refl FZ⟩
def Bv(f:FX):FI:=fun env=>(f env).bind fun p=>match p.1.2 with
 | .lst ds=>.ok (ds,p.2)
 |_=>.bad
def gI(f:FX):FI:=fun env=>(f env).bind fun p=>match p.1.2 with
 | .tup ds=>.ok (ds,p.2)
 |_=>.bad
variable{tg l:Expr}
theorem mT{K:W.Frag}{G:Hp}{a:Addr}{xs:List V}{ds:List D}(sq:SqL K G a xs)(rs:Reps K G ds xs):Walk K G (MT K a) ds:=by
 intro G' H' es vs fp gg rel i;have Hw:SqL K H' a xs:=eB rel.gh (eB gg sq);refine⟨fun d hd=>?_,fun e=>⟨xs,Hw,by rw[rs.length];lia⟩⟩;obtain⟨x,hx,rx⟩:=rs.get hd;refine⟨⟨xs,x,Hw,hx⟩,fun y H2 ⟨e,hy⟩=>?_⟩;subst e;have:=hy xs Hw;rw[hx]at this;cases this;exact⟨G',Rep.mono gg rx,rel,.refl⟩
theorem vY{K:W.Frag}{G:Hp}{a:Addr}{xs:List V}{ds:List D}(sq:SqT K G a xs)(rs:Reps K G ds xs):Walk K G (O1 K a) ds:=by
 intro G' H' es vs fp gg rel i;have Hw:SqT K H' a xs:=bE rel.gh (bE gg sq);refine⟨fun d hd=>?_,fun e=>⟨xs,Hw,by rw[rs.length];lia⟩⟩;obtain⟨x,hx,rx⟩:=rs.get hd;refine⟨⟨xs,x,Hw,hx⟩,fun y H2 ⟨e,hy⟩=>?_⟩;subst e;have:=hy xs Hw;rw[hx]at this;cases this;exact⟨G',Rep.mono gg rx,rel,.refl⟩
theorem yU(h:QE X l f):QI X tg l (Bv f):=jD (rO h) fun σ H R F7=>by
 obtain⟨G,env,fp,ds,env',rel,e,k⟩:=F7;obtain⟨⟨⟨o,d⟩,FY⟩,e1,e⟩:=ah e;dsimp only at e;split at e
 ·cases e;refine⟨G,env,fp,_,_,rel,e1,fun v H1 G1 Gg Gb F0=>?_⟩;obtain⟨G2,b,rv,FZ,F4⟩:=F0.freeze;obtain⟨p,xs,ev,sq,rs⟩:=bg rv;exact⟨p,ev,⟨xs,eB FZ.gh sq⟩,k _ H1 G2 b (Gb.trans F4) FZ (mT sq rs)⟩
 ·cases e
theorem iU(h:QE X l f):QI X tg l (gI f):=jD (AY h) fun σ H R F7=>by
 obtain⟨G,env,fp,ds,env',rel,e,k⟩:=F7;obtain⟨⟨⟨o,d⟩,FY⟩,e1,e⟩:=ah e;dsimp only at e;split at e
 ·cases e;refine⟨G,env,fp,_,_,rel,e1,fun v H1 G1 Gg Gb F0=>?_⟩;obtain⟨G2,b,rv,FZ,F4⟩:=F0.freeze;obtain⟨p,xs,ev,sq,rs⟩:=a8 rv;exact⟨p,ev,⟨xs,bE FZ.gh sq⟩,k _ H1 G2 b (Gb.trans F4) FZ (vY sq rs)⟩
 ·cases e
def gJ(f:FX):FI:=fun env=>(f env).bind fun p=>match p.1.2 with
 | .str l=>.ok (l.map fun c=>.str [c],p.2)
 |_=>.bad
theorem iV(h:QE X l f):QI X tg l (gJ f):=jD (Bh h) fun σ H R F7=>by
 obtain⟨G,env,fp,ds,env',rel,e,k⟩:=F7;obtain⟨⟨⟨o,d⟩,FY⟩,e1,e⟩:=ah e;dsimp only at e;split at e
 ·rename_i cs;cases e;refine⟨G,env,fp,_,_,rel,e1,fun v H1 G1 Gg Gb F0=>?_⟩;obtain⟨G2,b,rv,FZ,F4⟩:=F0.freeze;obtain⟨ev,hl⟩:=a7 rv;refine⟨cs,ev,k _ H1 G2 b (Gb.trans F4) FZ fun G' H' es vs F2 gg Gq i=>⟨fun d hd=>?_,fun e=>?_⟩⟩
  ·rw[List.getElem?_map]at hd;cases hc:cs[i]? with
   |none=>rw[hc]at hd;cases hd
   |some c=>
    rw[hc]at hd;cases hd;refine⟨(List.getElem?_eq_some_iff.mp hc).1,fun x H2 ⟨e1,e2⟩=>?_⟩;subst e1;refine⟨G',?_,Gq,.refl⟩;rw[e2];show Rep X.K G' (.str [c]) (.str (S [cs.getD i 0]));rw[List.getD_eq_getElem?_getD,hc];exact gH (by rw[line_eq];simp)
  ·rw[Q3]at e;exact e
 ·cases e
def dt(f:FO):FI:=fun env=>(f env).bind fun p=>(Hi p.2 p.1).bind fun d=>match d with
 | .int j=>if -4611686018427387904<=j/\j<4611686018427387904 then .ok ((List.range j.toNat).map fun(k:Nat)=>D.int (k:Int),p.2) else .bad
 |_=>.bad
theorem qT{K:W.Frag}{G:Hp}(lo:Int)(n:Nat):Walk K G (Ou lo n) ((List.range n).map fun(k:Nat)=>D.int (lo+(k:Int))):=by
 intro G' H' es vs fp gg rel i;refine⟨fun d hd=>?_,fun e=>?_⟩
 ·rw[List.getElem?_map]at hd;cases hc:(List.range n)[i]? with
  |none=>rw[hc]at hd;cases hd
  |some c=>
   rw[hc]at hd;cases hd;obtain⟨h1,h2⟩:=List.getElem?_eq_some_iff.mp hc;rw[Rr]at h1;rw[Uo]at h2;subst h2;refine⟨h1,fun x H2 ⟨e1,e2⟩=>?_⟩;subst e1;exact⟨G',by rw[e2];exact bF _,rel,.refl⟩
 ·rw[Q3,Rr]at e;exact Nat.le_of_eq e.symm
theorem du{a:Expr}{fa:FO}{p pos:Pos}(hg:Gl X "range")(hm:X.mg "range" = none)(ha:QO X a fa)(hs:starEach [a] X.env=[(false,eval a X.env)]:=by rfl):QI X tg (.Call (.Name "range" p) [a] [] pos) (dt fa):=
 jD (rP hg hm (af ha aw hs) hs) fun σ H R F7=>by
  obtain⟨G,env,fp,ds,env',rel,e,k⟩:=F7;obtain⟨⟨o,FY⟩,e1,e⟩:=ah e;obtain⟨d,e2,e⟩:=ah e;dsimp only at e;split at e
  ·rename_i j;split at e
   ·rename_i hj;cases e;refine⟨G,env,fp,[o],_,rel,by show(fa env).bind _=_;rw[e1];rfl,fun vs H1 G1 Gg Gb F0 Hv=>?_⟩;obtain⟨y,ys,ev,k1,k2⟩:=Hv;have k2:ys=[]:=k2;subst k2;have hv:=bC (F0.vw k1 e2);subst hv;refine⟨j,ev,by lia,by lia,k _ H1 G1 Gg Gb F0 ?_⟩;have w:=qT (K:=X.K) (G:=G1) 0 j.toNat
    simpa using w
   ·cases e
  ·cases e
noncomputable def DP(fs:FOs):FI:=fun env=>(fs env).bind fun p=>(ou p.2 p.1).bind fun d=>match d with
 |[.int i,.int j]=>if(-4611686018427387904<=i/\i<4611686018427387904)/\-4611686018427387904<=j/\j<4611686018427387904 then .ok ((List.range (j-i).toNat).map fun(k:Nat)=>D.int (i+(k:Int)),p.2) else .bad
 |_=>.bad
def iJ(k:Bool):D->Res (List D)
 | .lst ds=>if k then .ok ds else .bad
 | .tup ds=>if k then .bad else .ok ds
 |_=>.bad
def qU(k1 k2:Bool)(fs:FOs):FI:=fun env=>(fs env).bind fun p=>match p.1 with
 |[.val d1,.val d2]=>(iJ k1 d1).bind fun a=>(iJ k2 d2).bind fun b=>.ok ((a.zip b).map fun z=>D.tup [z.1,z.2],p.2)
 |_=>.bad
theorem pN{K:W.Frag}{G:Hp}{k:Bool}{d:D}{ds:List D}{v:V}(e:iJ k d=.ok ds)(r:Rep K G d v):∃p xs,v=.ref p/\(if k then SqL K G p xs else SqT K G p xs)/\Reps K G ds xs:=by
 cases d with
 |lst es=>
  cases k with
  |true=>
   cases e;obtain⟨p,xs,e1,q,rs⟩:=bg r;exact⟨p,xs,e1,q,rs⟩
  |false=>cases e
 |tup es=>
  cases k with
  |true=>cases e
  |false=>
   cases e;obtain⟨p,xs,e1,q,rs⟩:=a8 r;exact⟨p,xs,e1,q,rs⟩
 |_=>cases e
theorem lM{K:W.Frag}{G G':Hp}{k:Bool}{p:Addr}{xs:List V}(h:Same G G')(r:if k then SqL K G p xs else SqT K G p xs):if k then SqL K G' p xs else SqT K G' p xs:=by
 cases k with
 |true=>exact eB h r
 |false=>exact bE h r
theorem vZ{K:W.Frag}{G:Hp}{k1 k2:Bool}{p1 p2:Addr}{xs ys:List V}{as bs:List D}(s1:if k1 then SqL K G p1 xs else SqT K G p1 xs)(s2:if k2 then SqL K G p2 ys else SqT K G p2 ys)(r1:Reps K G as xs)(r2:Reps K G bs ys):
  Walk K G (Pd K k1 k2 p1 p2) ((as.zip bs).map fun z=>D.tup [z.1,z.2]):=by
 intro G' H' es vs fp gg rel i;have g1:=lM (gg.trans rel.gh) s1;have g2:=lM (gg.trans rel.gh) s2;refine⟨fun d hd=>?_,fun e=>⟨xs,ys,g1,g2,?_⟩⟩
 ·rw[List.getElem?_map]at hd;cases hz:(as.zip bs)[i]? with
  |none=>rw[hz]at hd;cases hd
  |some z=>
   rw[hz]at hd;cases hd;obtain⟨h1,h2⟩:=List.getElem?_zip_eq_some.mp hz;obtain⟨x,hx,rx⟩:=r1.get h1;obtain⟨y,hy,ry⟩:=r2.get h2;refine⟨⟨xs,ys,x,y,g1,g2,hx,hy⟩,fun v H2 ⟨T,hT,ev,hh⟩=>?_⟩;have e2:=hh xs ys x y g1 g2 hx hy;subst e2;obtain⟨FZ,F4⟩:=rel.newF (u:=.tup [x,y]) hT;refine⟨_,?_,FZ,F4⟩;rw[Rep];exact⟨T,[x,y],ev,aM,.cons (Rep.mono (gg.trans F4.gg) rx) (.one (Rep.mono (gg.trans F4.gg) ry))⟩
 ·rw[Q3,TC]at e;rw[r1.length,r2.length];exact e
theorem pO(k1 k2:Bool){J0:List Expr}{kt:Nat}{pt:Pos}{e1 e2:Expr}{fs:FOs}{p pos:Pos}(hg:Gl X "zip")(hm:X.mg "zip" = none)(ha:JX X [e1,e2] fs)(he:starEach [e1,e2] X.env=(false,eval e1 X.env)::starEach [e2] X.env:=by rfl)(Hy:(backTo pos (starEach [e2] X.env)).any (·.1)=false:=by rfl):
  QI X (.Tuple J0 kt pt) (.Call (.Name "zip" p) [e1,e2] [] pos) (qU k1 k2 fs):=
 jD (Bl k1 k2 hg hm ha he Hy) fun σ H R F7=>by
  obtain⟨G,env,fp,ds,env',rel,e,k⟩:=F7;obtain⟨⟨o,FY⟩,e1,e⟩:=ah e;dsimp only at e;split at e
  ·rename_i d1 d2;obtain⟨a,ea,e⟩:=ah e;obtain⟨b,eb,e⟩:=ah e;cases e;refine⟨G,env,fp,_,_,rel,e1,fun vs H1 G1 Gg Gb F0 Hv=>?_⟩;obtain⟨y,ys,ev,v1,z,zs,ev2,v2,e3⟩:=Hv;have e3:zs=[]:=e3;subst e3;obtain⟨p1,xs1,ep1,q1,r1⟩:=pN ea v1;obtain⟨p2,M1,ep2,q2,r2⟩:=pN eb v2;subst ep1;subst ep2;subst ev2;exact⟨p1,p2,xs1,M1,ev,lM F0.gh q1,lM F0.gh q2,k _ H1 G1 Gg Gb F0 (vZ q1 q2 r1 r2)⟩
  ·cases e
end
def fBody(np nn:Nat)(g:FS):List D->Res R:=fun ds=>if ds.length=np then(g (ds.map (fun d=>some (O.f,d))++List.replicate nn none)).bind fun o=>match o with
 | .rt r=>.ok r
 | .nx _=>.ok (.f,.non)
 |_=>.bad
 else .bad
theorem fe{K:W.Frag}{G H:Hp}(n:Nat):∀{ds:List D}{vs:List V},Reps K G ds vs->RepE K G H (ds.map (fun d=>some (O.f,d))++List.replicate n none) (vs.map some++List.replicate n none) []
 |[],vs,r=>by
  rw[Reps]at r;subst r;show RepE K G H (List.replicate n none) (List.replicate n none) [];induction n with
  |zero=>exact⟨rfl,rfl⟩
  |succ n ih=>exact⟨none,_,rfl,ih⟩
 |d::ds,vs,r=>by
  rw[Reps]at r;obtain⟨y,ys,e,r1,r2⟩:=r;subst e;exact⟨some y,_,rfl,y,[],[],rfl,rfl,df.mpr ⟨r1,rfl⟩,fe n r2⟩
theorem d5{P:Program}{w:World}{K:W.Frag}{mg:Str->Option Value}{base:Heap}{x:Str}{st:Stmt}{N ps:List Str}{k:Nat}{g:FS}(Df:Def K mg x st)(sc:FnScope N ps (defScope st))
  (hb:∀(kV doc pm:Value) (an:Option Addr) (Gp ct:Value) (us:List Value),us.length=ps.length->bindArgs (PySem.W.fnOf x x (dQ st) (cv st) (defScope st) .none kV doc pm an Gp ct) ⟨us,[]⟩=pure (ps.zip us))
  (body:∀(f:Addr) (Gp:Value) (A:Around) (outer:List PySem.Env) (s:Shared) (H:Hp) (E:XK),Room k (A.deeper (envOfC x (defScope st) s.heap.objs.size f Gp))->JY (md:=.plain) (u0 JU P w K mg base N x (defScope st) f Gp A outer s H E).nox (cv st) g):
  Ct P w K mg base x (k+1) (spF K (fBody ps.length (N.length-ps.length) g)):=by
 obtain⟨f,fd,F,m⟩:=Df;refine⟨f,fd,ps,F.ok sc (fun vs H Q E h=>?_) (fun Gp A outer s H vs Q E hr h=>?_),m,F.kp,F.binds hb⟩
 ·obtain⟨G,ds,r,_,rs,e,_⟩:=h;unfold fBody at e;split at e
  ·rename_i hl;rw[rs.length,hl]
  ·cases e
 ·obtain⟨G,ds,r,gh,rs,e,q⟩:=h;unfold fBody at e;split at e
  ·rename_i hl;refine⟨_,body f Gp A outer s H E hr,G,ds.map (fun d=>some (O.f,d))++List.replicate (N.length-ps.length) none,[],⟨?_,SM,(fun _ h=>nomatch h),gh⟩,?_⟩
   ·have:=fe (K:=K) (G:=G) (H:=H) (N.length-ps.length) rs;unfold L2.ja;rw[rs.length,hl];exact this
   ·obtain⟨o,eo,e⟩:=ah e;rw[eo];cases o with
    |rt r'=>
     cases e;exact fun v H' G' F2 st rel=>q v H' G' F2 st rel
    |nx env'=>
     cases e;exact fun σ' H' G' F2 st rel=>q .non H' G' [] (st.trans (Step.cut fun _ h=>nomatch h)) (rel.nilF.push lK)
    |bk env'=>cases e
    |ct env'=>cases e
  ·cases e
def dv(ix:List (Option Nat))(env:PV.Env):PV.Env:=ix.map fun j=>j.bind fun j=>match env[j]? with
 |some (some r)=>some (O.f,r.2)
 |_=>none
def eW:FT:=fun env=>.ok (true,env)
def cO(a:FG)(c:FT)(f:FX):List D->PV.Env->Res (List D)
 |[],_=>.ok []
 |d::ds,env=>(a d env).bind fun e=>(c e).bind fun p=>if p.1 then(f p.2).bind fun q=>(cO a c f ds q.2).bind fun rs=>.ok (q.1.2::rs) else cO a c f ds p.2
def dj(fi:FI)(ix:List (Option Nat))(a:FG)(c:FT)(f:FX):FX:=fun env=>(fi env).bind fun p=>(cO a c f p.1 (dv ix p.2)).bind fun ds=>if ds.length<=sizeLine then .ok ((.l .f,.lst ds),if flatDs ds then p.2 else p.2.map frz) else .bad
theorem jr:∀ds,ds.all (aE .f)=flatDs ds
 |[]=>rfl
 |d::ds=>by rw[Te,flatDs,jr ds,aE]
theorem fg{K:W.Frag}{G1 H:Hp}{es:PV.Env}{σ:L2.St}(ht:∀(i:Nat) (r:R) (v:V),es[i]?=some (some r)->σ[i]?=some (some v)->Rep K G1 r.2 v)(hv:∀(i:Nat) (r:R),es[i]?=some (some r)->∃v,σ[i]?=some (some v)):
  ∀ix:List (Option Nat),RepE K G1 H (dv ix es) (kH ix σ) []
 |[]=>⟨rfl,rfl⟩
 |none::ix=>⟨none,_,rfl,fg ht hv ix⟩
 |some j::ix=>by
  show RepE K G1 H ((match es[j]? with|some (some r)=>some (O.f,r.2)|_=>none)::dv ix es) ((σ[j]?).bind id::kH ix σ) [];cases e:es[j]? with
  |none=>exact⟨_,_,rfl,fg ht hv ix⟩
  |some r=>
   cases r with
   |none=>exact⟨_,_,rfl,fg ht hv ix⟩
   |some r=>
    obtain⟨v,ev⟩:=hv j r e;refine⟨_,_,rfl,v,[],[],?_,rfl,df.mpr ⟨ht j r v e ev,rfl⟩,fg ht hv ix⟩;rw[ev];rfl
section
variable{md:Mode}{X:Cx}{scope:Scope}{N:List Str}{tg iter elt:Expr}{ifs:List Expr}{pos:Pos}{fi:FI}{a:FG}{c:FT}{f:FX}
def OG(X:Cx)(ifs:List Expr)(c:FT):Prop:=MY X ifs (tQT X.K c)
theorem bX:OG X [] eW:=fun pr s σ H Q I F7=>by
 obtain⟨G,env,fp,b,env',rel,e,k⟩:=F7;cases e;exact yx pr s σ H Q I (k H G fp .refl rel)
theorem yV{t:Expr}(h:QT X t c):OG X [t] c:=yy h
end
section
variable{X:Cx}
inductive rCatS(K:W.Frag)(x:V)(y:V)(H:Hp)(Q:VK):Prop
 |mk:∀l b xs zs,x=.ref l->y=.ref b->SqL K H l xs->SqL K H b zs->xs.length+zs.length<=sizeLine->(∀p,H p=none->Q (.ref p) (upd H p (.lst (xs++zs))))->rCatS K x y H Q
theorem yW:GH X (binaryOp .Add) (rCatS X.K):=by
 intro pr s σ H x y v u Q I rx ry h;obtain⟨l,b,xs,zs,rfl,rfl,hH,hB,hz,q⟩:=h;cases rx;cases ry;obtain⟨F1,r1,p1,_⟩:=I.list hH;obtain⟨Jl,r2,p2,_⟩:=I.list hB;have l1:=r1.length;have l2:=r2.length;obtain⟨⟨cls,dd,data,sl⟩,ho,hc,n,hd⟩:=id p1.isList;obtain⟨⟨KW,JI,data2,JJ⟩,Hz,IV,n2,hd2⟩:=id p2.isList;simp only at hc hd IV hd2;subst hc hd IV hd2;have e:F1.toArray++Jl.toArray=(F1++Jl).toArray:=by simp
 refine U1 ⟨_,ho,rfl⟩ ⟨_,Hz,rfl⟩ noFill_list_add seq_list_add PySem.F.slot_list_add PySem.F.entry_list_add (PySem.F.args_list_add_2 _ _) (list_addW l b F1.toArray Jl.toArray n n2 dd JI sl JJ (by rw[Q4,Q4];lia)) ⟨ho,Hz,?_⟩;rw[e];exact⟨.ref _,_,I.lnew (t':=s.toks) (r1.append r2) (by rw[RC];lia),rfl,q _ I.fresh⟩
end
noncomputable def addD:D->D->Res R
 | .int i,.int j=>.ok (.f,.int (i+j))
 | .str a,.str b=>if a.length+b.length<=sizeLine then .ok (.f,.str (a++b)) else .bad
 | .lst a,.lst b=>if a.length+b.length<=sizeLine then .ok (.l .f,.lst (a++b)) else .bad
 | .tup a,.tup b=>if a≠[]/\a.length+b.length<=sizeLine then .ok (.f,.tup (a++b)) else .bad
 |_,_=>.bad
section
variable{X:Cx}
theorem lN{K:W.Frag}{G H:Hp}{fp:List Addr}{es:PV.Env}{vs:L2.St}{ds:List D}{xs:List V}{p:Addr}(rel:Rel K G H es vs fp)(hp:H p=none)(r:Reps K G ds xs):
  ∃G',Rel K G' (upd H p (.tup xs)) (some (.f,.tup ds)::es) (some (.ref p)::vs) fp/\Step G H fp G' (upd H p (.tup xs)) fp:=by
 obtain⟨FZ,F4⟩:=rel.newF (u:=.tup xs) hp;refine⟨_,FZ.push ?_,F4⟩;rw[Rep];exact⟨p,xs,rfl,aM,r.mono F4.gg⟩
theorem Bw:GH X (binaryOp .Add) (rG X.K addD):=by
 rintro pr s σ H x y v u Q I rx ry ⟨G,fp,es,vs,a,b,r,⟨rel,k⟩,va,vb,e⟩;unfold addD at e;split at e
 ·rename_i i j;cases e;cases bC va;cases bC vb;exact AZ pr s σ H _ _ v u Q I rx ry ⟨i,j,rfl,rfl,k _ H G fp .refl (rel.push (bF _))⟩
 ·rename_i i j;split at e
  ·rename_i hl;cases e;obtain⟨e1,h1⟩:=eU va;obtain⟨e2,h2⟩:=eU vb;subst e1;subst e2;refine qC pr s σ H _ _ v u Q I rx ry ⟨_,_,rfl,rfl,by rw[kq,kq];exact hl,?_⟩;rw[DD];exact k _ H G fp .refl (rel.push (gH (by rw[RC];exact hl)))
  ·cases e
 ·rename_i i j;split at e
  ·rename_i hl;cases e;obtain⟨p,xs,e1,h1,r1⟩:=va;obtain⟨p2,M1,e2,h2,r2⟩:=vb;subst e1;subst e2;refine yW pr s σ H _ _ v u Q I rx ry ⟨p,p2,xs,M1,rfl,rfl,h1,h2,by rw[r1.length,r2.length];exact hl,fun q hq=>?_⟩;obtain⟨FZ,F4⟩:=rel.newL hq (r1.app r2);exact k _ _ G _ F4 FZ
  ·cases e
 ·rename_i i j;split at e
  ·rename_i hl;cases e;obtain⟨p,xs,e1,h1,r1⟩:=gq va;obtain⟨p2,M1,e2,h2,r2⟩:=gq vb;subst e1;subst e2;have hx:xs≠[]:=fun z=>hl.1 (RT (by rw[<-r1.length,z];rfl))
   refine yo pr s σ H _ _ v u Q I rx ry ⟨p,p2,xs,M1,rfl,rfl,bE rel.gh h1,bE rel.gh h2,hx,by rw[r1.length,r2.length];exact hl.2,fun z=>?_,fun z q hq=>?_⟩
   ·have:j=[]:=RT (by rw[<-r2.length,z];rfl);subst this;rw[Ru]at k;exact k _ H G fp .refl (rel.push va)
   ·obtain⟨G',FZ,F4⟩:=lN rel hq (r1.app r2);exact k _ _ G' _ F4 FZ
  ·cases e
 ·cases e
def mU:D->D->Res R
 | .int i,.int j=>.ok (.f,.int (i-j))
 |_,_=>.bad
theorem hJ:GH X (binaryOp .Sub) (rG X.K mU):=by
 rintro pr s σ H x y v u Q I rx ry ⟨G,fp,es,vs,a,b,r,⟨rel,k⟩,va,vb,e⟩;unfold mU at e;split at e
 ·rename_i i j;cases e;cases bC va;cases bC vb;exact A3 pr s σ H _ _ v u Q I rx ry ⟨i,j,rfl,rfl,k _ H G fp .refl (rel.push (bF _))⟩
 ·cases e
def dg(i:Int):Bool:=decide (-(2 ^ 64)<i/\i<2 ^ 64)
def DQ:D->D->Res R
 | .int i,.int j=>if dg i||dg j then .ok (.f,.int (i*j)) else .bad
 |_,_=>.bad
theorem Bx:GH X (binaryOp .Mult) (rG X.K DQ):=by
 rintro pr s σ H x y v u Q I rx ry ⟨G,fp,es,vs,a,b,r,⟨rel,k⟩,va,vb,e⟩;unfold DQ at e;split at e
 ·rename_i i j;split at e
  ·rename_i hc;cases e;cases bC va;cases bC vb;have hc:CMul i j:=by
    rw[U3]at hc;exact hc.imp TM TM
   exact A4 pr s σ H _ _ v u Q I rx ry ⟨i,j,rfl,rfl,hc,k _ H G fp .refl (rel.push (bF _))⟩
  ·cases e
 ·cases e
def e7:D->D->Res R
 | .int i,.int j=>if 0<j/\j<1073741824 then .ok (.f,.int (i / j)) else .bad
 |_,_=>.bad
theorem dw:GH X (binaryOp .FloorDiv) (rG X.K e7):=by
 rintro pr s σ H x y v u Q I rx ry ⟨G,fp,es,vs,a,b,r,⟨rel,k⟩,va,vb,e⟩;unfold e7 at e;split at e
 ·rename_i i j;split at e
  ·rename_i hc;cases e;cases bC va;cases bC vb;exact ye pr s σ H _ _ v u Q I rx ry ⟨i,j,rfl,rfl,hc,k _ H G fp .refl (rel.push (bF _))⟩
  ·cases e
 ·cases e
def fY:D->D->Res R
 | .int i,.int j=>if 0<j then .ok (.f,.int (i%j)) else .bad
 |_,_=>.bad
theorem cn:GH X (binaryOp .Mod) (rG X.K fY):=by
 rintro pr s σ H x y v u Q I rx ry ⟨G,fp,es,vs,a,b,r,⟨rel,k⟩,va,vb,e⟩;unfold fY at e;split at e
 ·rename_i i j;split at e
  ·rename_i hc;cases e;cases bC va;cases bC vb;exact A5 pr s σ H _ _ v u Q I rx ry ⟨i,j,rfl,rfl,hc,k _ H G fp .refl (rel.push (bF _))⟩
  ·cases e
 ·cases e
def Av:D->D->Res R
 | .int i,.int j=>if 0<=j/\j<=1000000/\i.natAbs<2 ^ 64 then .ok (.f,.int (i ^ j.toNat)) else .bad
 |_,_=>.bad
theorem By:GH X (binaryOp .Pow) (rG X.K Av):=by
 rintro pr s σ H x y v u Q I rx ry ⟨G,fp,es,vs,a,b,r,⟨rel,k⟩,va,vb,e⟩;unfold Av at e;split at e
 ·rename_i i j;split at e
  ·rename_i hc;cases e;cases bC va;cases bC vb;exact A6 pr s σ H _ _ v u Q I rx ry ⟨i,j,rfl,rfl,hc,k _ H G fp .refl (rel.push (bF _))⟩
  ·cases e
 ·cases e
def MZ:D->D->Res R
 | .int i,.int j=>.ok (.f,.bl (decide (i<j)))
 | .str a,.str b=>.ok (.f,.bl (decide (a<b)))
 |_,_=>.bad
theorem DR:GH X (compareOp .Lt) (rG X.K MZ):=by
 rintro pr s σ H x y v u Q I rx ry ⟨G,fp,es,vs,a,b,r,⟨rel,k⟩,va,vb,e⟩;unfold MZ at e;split at e
 ·rename_i i j;cases e;cases bC va;cases bC vb;exact Dt pr s σ H _ _ v u Q I rx ry ⟨i,j,rfl,rfl,k _ H G fp .refl (rel.push (bW _))⟩
 ·rename_i i j;cases e;obtain⟨e1,h1⟩:=eU va;obtain⟨e2,h2⟩:=eU vb;subst e1;subst e2;refine rS pr s σ H _ _ v u Q I rx ry ⟨_,_,rfl,rfl,?_⟩;rw[cX,cX];exact k _ H G fp .refl (rel.push (bW _))
 ·cases e
def leD:D->D->Res R
 | .int i,.int j=>.ok (.f,.bl (decide (i<=j)))
 | .str a,.str b=>.ok (.f,.bl (!decide (b<a)))
 |_,_=>.bad
def NA:D->D->Res R
 | .int i,.int j=>.ok (.f,.bl (decide (j<i)))
 |_,_=>.bad
theorem Bz:GH X (compareOp .Gt) (rG X.K NA):=by
 rintro pr s σ H x y v u Q I rx ry ⟨G,fp,es,vs,a,b,r,⟨rel,k⟩,va,vb,e⟩;unfold NA at e;split at e
 ·rename_i i j;cases e;cases bC va;cases bC vb;exact Du pr s σ H _ _ v u Q I rx ry ⟨i,j,rfl,rfl,k _ H G fp .refl (rel.push (bW _))⟩
 ·cases e
def Pq:D->D->Res R
 | .int i,.int j=>.ok (.f,.bl (decide (j<=i)))
 |_,_=>.bad
theorem DS:GH X (compareOp .GtE) (rG X.K Pq):=by
 rintro pr s σ H x y v u Q I rx ry ⟨G,fp,es,vs,a,b,r,⟨rel,k⟩,va,vb,e⟩;unfold Pq at e;split at e
 ·rename_i i j;cases e;cases bC va;cases bC vb;exact Dv pr s σ H _ _ v u Q I rx ry ⟨i,j,rfl,rfl,k _ H G fp .refl (rel.push (bW _))⟩
 ·cases e
end
abbrev FDs:=PV.Env->Res (List D×PV.Env)
inductive tDs(K:W.Frag)(f:FDs)(σ:L2.St)(H:Hp)(Q:List V->Hp->Prop):Prop
 |mk:∀G env fp ds env',Rel K G H env σ fp->f env=.ok (ds,env')->(∀vs H' G' F2,Step G H fp G' H' F2->Rel K G' H' env' σ F2->Reps K G' ds vs->Q vs H')->tDs K f σ H Q
def NB(X:Cx)(es:List Expr)(f:FDs):Prop:=PA X es (tDs X.K f)
def bp:FDs:=fun env=>.ok ([],env)
def az(f:FX)(g:FDs):FDs:=fun env=>(f env).bind fun p=>(g p.2).bind fun q=>.ok (p.1.2::q.1,q.2)
section
variable{X:Cx}
theorem aO:NB X [] bp:=pI iQ fun σ H Q F7=>by
 obtain⟨G,env,fp,o,env',rel,e,k⟩:=F7;cases e;exact k [] H G fp .refl rel .nil
theorem aq{e:Expr}{es:List Expr}{f:FX}{g:FDs}(h:QE X e f)(hs:NB X es g)(Kb:starEach (e::es) X.env=(false,eval e X.env)::starEach es X.env:=by rfl):NB X (e::es) (az f g):=
 pI (cH h hs Kb) fun σ H Q F7=>by
  obtain⟨G,env,fp,o,env',rel,e,k⟩:=F7;obtain⟨⟨r,FY⟩,e1,e⟩:=ah e;obtain⟨⟨ds,F5⟩,e2,e⟩:=ah e;cases e;refine⟨G,env,fp,r,FY,rel,e1,fun v H1 G1 Gg Gb F0=>?_⟩;obtain⟨G2,b,rv,FZ,F4⟩:=F0.freeze;exact⟨G2,FY,b,ds,F5,FZ,e2,fun vs H3 G3 Ha Gn Gj rs=>k _ H3 G3 Ha (Gb.trans (F4.trans Gn)) Gj (.cons (Rep.mono Gn.gg rv) rs)⟩
def gK(fs:FDs):FX:=fun env=>(fs env).bind fun p=>if p.1.length<=1000 then .ok ((.f,.tup p.1),p.2) else .bad
def ox(fs:FDs):FX:=fun env=>(fs env).bind fun p=>if p.1.length<=1000 then .ok ((.l .f,.lst p.1),p.2) else .bad
variable{es:List Expr}{fs:FDs}{pos:Pos}
theorem bY{x1}(h:NB X es fs):QE X (.Tuple es x1 pos) (gK fs):=aY (rV h) fun σ H Q F7=>by
 obtain⟨G,env,fp,r,env',rel,e,k⟩:=F7;obtain⟨⟨ds,FY⟩,e1,e⟩:=ah e;dsimp only at e;split at e
 ·rename_i hl;cases e;refine⟨G,env,fp,ds,env',rel,e1,fun vs H1 G1 Gg Gb F0 rs=>⟨by rw[rs.length,line_eq];lia,fun p hp=>?_⟩⟩;obtain⟨G2,FZ,F4⟩:=lN F0 hp rs;exact k _ _ G2 _ (Gb.trans F4) FZ
 ·cases e
theorem dF(h:NB X es fs):QE X (.List es pos) (ox fs):=aY (xi h) fun σ H Q F7=>by
 obtain⟨G,env,fp,r,env',rel,e,k⟩:=F7;obtain⟨⟨ds,FY⟩,e1,e⟩:=ah e;dsimp only at e;split at e
 ·rename_i hl;cases e;refine⟨G,env,fp,ds,env',rel,e1,fun vs H1 G1 Gg Gb F0 rs=>⟨by rw[rs.length,line_eq];lia,fun p hp=>?_⟩⟩;obtain⟨FZ,F4⟩:=F0.newL hp rs;exact k _ _ G1 _ (Gb.trans F4) FZ
 ·cases e
noncomputable def Gk:D->D->Res R
 | .lst ds,.int i=>match Ht ds i with
  |some d=>.ok (.f,d)
  |none=>.bad
 | .tup ds,.int i=>match Ht ds i with
  |some d=>.ok (.f,d)
  |none=>.bad
 | .str l,.int i=>match Ht l i with
  |some c=>.ok (.f,.str [c])
  |none=>.bad
 |_,_=>.bad
theorem jt{K:W.Frag}{G:Hp}{ds:List D}{xs:List V}{i:Int}{d:D}(r:Reps K G ds xs)(e:Ht ds i=some d):∃v,Ht xs i=some v/\Rep K G d v:=by
 unfold Ht at e ⊢;rw[r.length];cases hn:ixN ds.length i with
 |none=>rw[hn]at e;cases e
 |some j=>
  rw[hn]at e;exact r.get e
theorem DT:Nl X (rG X.K Gk):=by
 rintro value slice pr s σ H x y v u Q I rx ry ⟨G,fp,es,vs,a,b,r,⟨rel,k⟩,va,vb,e⟩ hs;unfold Gk at e;split at e
 ·rename_i ds i;split at e
  ·rename_i d hd;cases e;obtain⟨p,xs,ev,sq,rs⟩:=va;subst ev;cases bC vb;obtain⟨w',hw,JS⟩:=jt rs hd;exact lg value slice pr s σ H _ _ v u Q I rx ry ⟨p,xs,i,w',rfl,rfl,sq,hw,k _ H G fp .refl (rel.push JS)⟩ hs
  ·cases e
 ·rename_i ds i;split at e
  ·rename_i d hd;cases e;obtain⟨p,xs,ev,sq,rs⟩:=gq va;subst ev;cases bC vb;obtain⟨w',hw,JS⟩:=jt rs hd;exact sf value slice pr s σ H _ _ v u Q I rx ry ⟨p,xs,i,w',rfl,rfl,bE rel.gh sq,hw,k _ H G fp .refl (rel.push JS)⟩ hs
  ·cases e
 ·rename_i l i;split at e
  ·rename_i c hc;cases e;obtain⟨ev,hl⟩:=eU va;subst ev;cases bC vb;refine Ba value slice pr s σ H _ _ v u Q I rx ry ⟨_,i,c,rfl,rfl,by rw[kq];exact hl,by rw[cX];exact hc,?_⟩ hs;exact k _ H G fp .refl (rel.push (gH (l:=[c]) (by rw[line_eq];simp)))
  ·cases e
 ·cases e
variable{a b:Expr}{fa fb:FO}
theorem aZ(ha:QO X a fa)(hb:QO X b fb)(hs:sd b:=by exact fun _ _=>rfl):QE X (.Subscript a b pos) (aB Gk fa fb):=aY (qF DT ha hb hs) fun _ _ _=>pK
abbrev FP:=PV.Env->Res (Option Int×PV.Env)
inductive tQP(K:W.Frag)(f:FP)(σ:L2.St)(H:Hp)(Q:Option Int->Hp->Prop):Prop
 |mk:∀G env fp i env',Rel K G H env σ fp->f env=.ok (i,env')->(∀H' G' F2,Step G H fp G' H' F2->Rel K G' H' env' σ F2->Q i H')->tQP K f σ H Q
def QP(X:Cx)(e:Option Expr)(f:FP):Prop:=PO X e (tQP X.K f)
def sU:FP:=fun env=>.ok (none,env)
def ky(f:FX):FP:=fun env=>(f env).bind fun p=>match p.1.2 with
 | .int i=>.ok (some i,p.2)
 |_=>.bad
theorem xC{X:Cx}{e:Option Expr}{t t':TO}(h:PO X e t)(k:∀σ H Q,t' σ H Q->t σ H Q):PO X e t':=fun pr s σ H Q I w=>h pr s σ H Q I (k σ H Q w)
theorem oJ:QP X none sU:=xC ym fun σ H Q F7=>by
 obtain⟨G,env,fp,i,env',rel,e,k⟩:=F7;cases e;exact k H G fp .refl rel
theorem ft{e:Expr}{f:FX}(h:QE X e f):QP X (some e) (ky f):=xC (yn h) fun σ H Q F7=>by
 obtain⟨G,env,fp,i,env',rel,e,k⟩:=F7;obtain⟨⟨⟨o,d⟩,FY⟩,e1,e⟩:=ah e;dsimp only at e;split at e
 ·rename_i j;cases e;refine⟨G,env,fp,_,_,rel,e1,fun v H1 G1 Gg Gb F0=>?_⟩;have hv:=F0.top;obtain⟨b,FZ,F4⟩:=F0.drop;exact⟨j,bo hv,k H1 G1 b (Gb.trans F4) FZ⟩
 ·cases e
def iC{α:Type}(xs:List α)(lo hi:Option Int):List α:=(xs.drop (HT.sIx xs.length 0 lo)).take (HT.sIx xs.length xs.length hi-HT.sIx xs.length 0 lo)
noncomputable def NC(k:D)(lo hi:Option Int):Res R:=match k with
 | .lst ds=>.ok (.l .f,.lst (iC ds lo hi))
 | .tup ds=>if ¬ (HT.sIx ds.length 0 lo=0/\HT.sIx ds.length ds.length hi=ds.length) then .ok (.f,.tup (iC ds lo hi)) else .bad
 | .str l=>.ok (.f,.str (iC l lo hi))
 |_=>.bad
def eSl(fa:FO)(lo hi:FP):FX:=fun env=>(fa env).bind fun p=>(lo p.2).bind fun q=>(hi q.2).bind fun t=>(Hi t.2 p.1).bind fun d=>(NC d q.1 t.1).bind fun r=>.ok (r,t.2)
theorem pP{K:W.Frag}{G:Hp}{ds:List D}{xs:List V}{lo hi:Option Int}(r:Reps K G ds xs):Reps K G (iC ds lo hi) (xj xs lo hi):=by
 unfold iC xj;rw[r.length];exact(r.drop _).take _
theorem yX{α:Type}(xs:List α)(lo hi:Option Int):(iC xs lo hi).length<=xs.length:=by
 unfold iC;rw[RX,Tn];lia
inductive rSl(K:W.Frag)(x:V)(lo:Option Int)(hi:Option Int)(H:Hp)(Q:VK):Prop
 |mk:∀G fp es vs d r,Goes K H G fp es vs r Q->Vw K G H d x->NC d lo hi=.ok r->rSl K x lo hi H Q
theorem BA:LZ X (rSl X.K):=by
 rintro pr s σ H x v vl vu lo hi sl Q I rx hs pl pu ⟨G,fp,es,vs,d,r,⟨rel,k⟩,vd,e⟩;unfold NC at e;split at e
 ·rename_i ds;cases e;obtain⟨p,xs,ev,sq,rs⟩:=vd;subst ev;refine yp pr s σ H _ v vl vu lo hi sl Q I rx hs pl pu ⟨p,xs,rfl,sq,fun q hq=>?_⟩;obtain⟨FZ,F4⟩:=rel.newL hq (pP (lo:=lo) (hi:=hi) rs);exact k _ _ G _ F4 FZ
 ·rename_i ds;split at e
  ·rename_i hw;cases e;obtain⟨p,xs,ev,sq,rs⟩:=gq vd;subst ev;refine A9 pr s σ H _ v vl vu lo hi sl Q I rx hs pl pu ⟨p,xs,rfl,bE rel.gh sq,by rw[rs.length];exact hw,fun q hq=>?_⟩;obtain⟨G2,FZ,F4⟩:=lN rel hq (pP (lo:=lo) (hi:=hi) rs);exact k _ _ G2 _ F4 FZ
  ·cases e
 ·rename_i l;cases e;obtain⟨ev,hl⟩:=eU vd;subst ev;exact Bf pr s σ H _ v vl vu lo hi sl Q I rx hs pl pu ⟨l,rfl,hl,k _ H G fp .refl (rel.push (gH (l:=Be l lo hi) (RB (yX l lo hi) hl)))⟩
 ·cases e
def sV(env:PV.Env)(i:Nat):Bool:=match env[i]? with
 |some (some (_,.lst _))=>true
 |_=>false
theorem wa{K:W.Frag}{G H:Hp}{es:PV.Env}{σ:L2.St}{fp:List Addr}{i:Nat}(rel:Rel K G H es σ fp)(h:sV es i=true):∃v,σ[i]?=some (some v)/\Ox K "list" v H:=by
 unfold sV at h;split at h
 ·rename_i o ds hr;obtain⟨v,ev,rv⟩:=rel.view hr;obtain⟨p,xs,e,sq,_⟩:=bg rv;subst e;exact⟨_,ev,.inl ⟨rfl,xs,sq⟩⟩
 ·cases h
def sW(i:Nat)(f:FX):FX:=fun env=>if sV env i then(f env).bind fun p=>match p.2[i]? with
 |some (some (.l .f,.lst ds))=>if ds.length<sizeLine then .ok ((.f,.non),p.2.set i (some (.l .f,.lst (ds++[p.1.2])))) else .bad
 |_=>.bad
 else .bad
theorem c5{i:Nat}{o e:Expr}{f:FX}{apos Gd:Pos}(ho:PE X o (pe i))(he:QE X e f)
  (GD:attributeBase o "append" X.env (eval o X.env)=eval o X.env:=by rfl)
  (Ig:((backTo Gd (starEach [e] X.env)).all (fun x=>!x.1)&&(backToKw Gd (keywordEach [] X.env)).all (fun x=>x.1.isSome)&&decide ([e].length+([]:List Keyword).length+(if([]:List Keyword).isEmpty then 0 else 1)<30))=true:=by rfl)
  (GF:(apos.endLine==Gd.line)=true:=by rfl) (hs:starEach [e] X.env=(false,eval e X.env)::starEach [] X.env:=by rfl) (GO:(backTo Gd (starEach [] X.env)).any (·.1)=false:=by rfl):
  QE X (.Call (.Attribute o "append" apos) [e] [] Gd) (sW i f):=by
 refine aY (yq SY PySem.F.slot_list_append PySem.F.type_list_append mH ho (aq he aO hs) GD Ig GF hs GO) fun σ H Q Gf=>?_
 obtain⟨G,env,fp,r,env',rel,e,k⟩:=Gf;unfold sW at e;split at e
 ·rename_i KR;obtain⟨v,ev,ty⟩:=wa rel KR;obtain⟨⟨r1,FY⟩,e1,e⟩:=ah e;dsimp only at e;split at e
  ·rename_i ds JR;split at e
   ·rename_i hl;cases e;refine⟨v,ev,ty,G,env,fp,[r1.2],FY,rel,by show(f env).bind _=_;rw[e1];rfl,fun vs H1 G1 Gg Gb F0 rs=>?_⟩;rw[Reps]at rs;obtain⟨y,ys,eys,ry,rn⟩:=rs;rw[Reps]at rn;subst rn;obtain⟨p,xs,ep,hp,ND,cg⟩:=F0.chg (ds':=ds++[r1.2]) JR;rw[ev]at ep;cases ep;obtain⟨fq,FZ,F4⟩:=cg (xs++[y]) (ND.app (.one ry));exact⟨p,xs,y,rfl,eys,hp,by rw[ND.length];exact hl,k _ _ G1 fq (Gb.trans F4) (FZ.push lK)⟩
   ·cases e
  ·cases e
 ·cases e
def DV:List D->Res R
 |[.lst ds]=>.ok (.f,.int ds.length)
 |[.tup ds]=>.ok (.f,.int ds.length)
 |[.str l]=>.ok (.f,.int l.length)
 |_=>.bad
theorem mV{K:W.Frag}{G H:Hp}{d:D}{xs:List V}(h:LO K G H [d] xs):∃v,xs=[v]/\Vw K G H d v:=by
 obtain⟨y,ys,e,v1,e2⟩:=h;have e2:ys=[]:=e2;subst e2;exact⟨y,e,v1⟩
theorem Fl{K:W.Frag}{G H:Hp}{d d':D}{xs:List V}(h:LO K G H [d,d'] xs):∃v w,xs=[v,w]/\Vw K G H d v/\Vw K G H d' w:=by
 obtain⟨y,ys,e,v1,h2⟩:=h;obtain⟨z,e2,v2⟩:=mV h2;subst e2;exact⟨y,z,e,v1,v2⟩
theorem BB:di X (.builtin "len") (rC X.K DV):=by
 rintro pr s σ H xs us Q I rx ⟨G,fp,es,vs,ds,r,⟨rel,k⟩,vd,e⟩;unfold DV at e;split at e
 ·rename_i ds;cases e;obtain⟨v,ev,p,ys,ep,sq,rs⟩:=mV vd;subst ev;subst ep;refine iR pr s σ H _ us Q I rx ⟨p,ys,rfl,.inl sq,?_⟩;rw[rs.length];exact k _ H G fp .refl (rel.push (bF _))
 ·rename_i ds;cases e;obtain⟨v,ev,vt⟩:=mV vd;obtain⟨p,ys,ep,sq,rs⟩:=gq vt;subst ev;subst ep;refine iR pr s σ H _ us Q I rx ⟨p,ys,rfl,.inr (bE rel.gh sq),?_⟩;rw[rs.length];exact k _ H G fp .refl (rel.push (bF _))
 ·rename_i l;cases e;obtain⟨v,ev,vt⟩:=mV vd;obtain⟨ep,hl⟩:=eU vt;subst ev;subst ep;refine mF pr s σ H _ us Q I rx ⟨S l,rfl,by rw[kq];exact hl,?_⟩;rw[kq];exact k _ H G fp .refl (rel.push (bF _))
 ·cases e
def qV:List D->Res R
 |[.lst ds]=>.ok (.l .f,.lst ds)
 |[.tup ds]=>.ok (.l .f,.lst ds)
 |_=>.bad
theorem oK:di X (.type "list") (rC X.K qV):=by
 rintro pr s σ H xs us Q I rx ⟨G,fp,es,vs,ds,r,⟨rel,k⟩,vd,e⟩;unfold qV at e;split at e
 ·rename_i ds;cases e;obtain⟨v,ev,p,ys,ep,sq,rs⟩:=mV vd;subst ev;subst ep;refine iS pr s σ H _ us Q I rx ⟨p,ys,rfl,.inl sq,fun q hq=>?_⟩;obtain⟨FZ,F4⟩:=rel.newL hq rs;exact k _ _ G _ F4 FZ
 ·rename_i ds;cases e;obtain⟨v,ev,vt⟩:=mV vd;obtain⟨p,ys,ep,sq,rs⟩:=gq vt;subst ev;subst ep;refine iS pr s σ H _ us Q I rx ⟨p,ys,rfl,.inr (bE rel.gh sq),fun q hq=>?_⟩;obtain⟨FZ,F4⟩:=rel.newL hq rs;exact k _ _ G _ F4 FZ
 ·cases e
def dH:List D->Res R
 |[.lst ds]=>.ok (.f,.tup ds)
 |[.tup ds]=>.ok (.f,.tup ds)
 |_=>.bad
theorem dk:di X (.type "tuple") (rC X.K dH):=by
 rintro pr s σ H xs us Q I rx ⟨G,fp,es,vs,ds,r,⟨rel,k⟩,vd,e⟩;unfold dH at e;split at e
 ·rename_i ds;cases e;obtain⟨v,ev,p,ys,ep,sq,rs⟩:=mV vd;subst ev;subst ep;refine gX pr s σ H _ us Q I rx ⟨p,ys,rfl,.inl ⟨sq,fun q hq=>?_⟩⟩;obtain⟨G2,FZ,F4⟩:=lN rel hq rs;exact k _ _ G2 _ F4 FZ
 ·rename_i ds;cases e;obtain⟨v,ev,vt⟩:=mV vd;obtain⟨p,ys,ep,sq,rs⟩:=gq vt;subst ev;subst ep;exact gX pr s σ H _ us Q I rx ⟨p,ys,rfl,.inr ⟨bE rel.gh sq,k _ H G fp .refl (rel.push vt)⟩⟩
 ·cases e
def mW:List D->Option (List Bool)
 |[]=>some []
 | .bl b::ds=>(mW ds).map (b:: ·)
 |_=>none
def dh:List D->Option (List Int)
 |[]=>some []
 | .int b::ds=>(dh ds).map (b:: ·)
 |_=>none
theorem kP{K:W.Frag}{G:Hp}:∀{ds:List D}{bs:List Bool}{xs:List V},mW ds=some bs->Reps K G ds xs->xs=bs.map V.bl
 |[],_,_,e,r=>by
  cases e;rw[Reps]at r;exact r
 | .bl b::ds,_,_,e,r=>by
  rw[mW,RH]at e;obtain⟨bs,e1,e2⟩:=e;subst e2;rw[Reps]at r;obtain⟨y,ys,e3,r1,r2⟩:=r;rw[e3,cG r1,kP e1 r2];rfl
 | .non::_,_,_,e,_ | .int _::_,_,_,e,_ | .str _::_,_,_,e,_ | .tup _::_,_,_,e,_ | .lst _::_,_,_,e,_ | .dct _ _ _::_,_,_,e,_=>by simp[mW]at e
theorem gL{K:W.Frag}{G:Hp}:∀{ds:List D}{bs:List Int}{xs:List V},dh ds=some bs->Reps K G ds xs->xs=bs.map V.int
 |[],_,_,e,r=>by
  cases e;rw[Reps]at r;exact r
 | .int b::ds,_,_,e,r=>by
  rw[dh,RH]at e;obtain⟨bs,e1,e2⟩:=e;subst e2;rw[Reps]at r;obtain⟨y,ys,e3,r1,r2⟩:=r;rw[e3,bo r1,gL e1 r2];rfl
 | .non::_,_,_,e,_ | .bl _::_,_,_,e,_ | .str _::_,_,_,e,_ | .tup _::_,_,_,e,_ | .lst _::_,_,_,e,_ | .dct _ _ _::_,_,_,e,_=>by simp[dh]at e
theorem qW(ns:List Int):dh (ns.map D.int)=some ns:=by
 induction ns with
 |nil=>rfl
 |cons n ns ih=>rw[Rl,dh,ih];rfl
theorem sX(ns:List Bool):mW (ns.map D.bl)=some ns:=by
 induction ns with
 |nil=>rfl
 |cons n ns ih=>rw[Rl,mW,ih];rfl
def mX:D->Option (List D)
 | .lst ds=>some ds
 | .tup ds=>some ds
 |_=>none
theorem sY{K:W.Frag}{G H:Hp}{d:D}{ds:List D}{v:V}(gh:Same G H)(e:mX d=some ds)(h:Vw K G H d v):∃p xs,v=.ref p/\(SqL K H p xs\/SqT K H p xs)/\Reps K G ds xs:=by
 cases d with
 |lst es=>
  cases e;obtain⟨p,xs,ev,sq,rs⟩:=h;exact⟨p,xs,ev,.inl sq,rs⟩
 |tup es=>
  cases e;obtain⟨p,xs,ev,sq,rs⟩:=a8 h;exact⟨p,xs,ev,.inr (bE gh sq),rs⟩
 |_=>cases e
def BC:List D->Res R
 |[d]=>match(mX d).bind mW with
  |some bs=>.ok (.f,.bl (bs.all id))
  |none=>.bad
 |_=>.bad
theorem wb(bs:List Bool):(bs.map V.bl).all DE=true:=by
 rw[Su,RD];intro b _;rfl
theorem yY(bs:List Bool):(bs.map V.bl).all Bi=bs.all id:=by
 rw[Su];rfl
theorem BD(hc:X.calm=true):di X (.builtin "all") (rC X.K BC):=by
 rintro pr s σ H xs us Q I rx ⟨G,fp,es,vs,ds,r,⟨rel,k⟩,vd,e⟩;unfold BC at e;split at e
 ·rename_i d;split at e
  ·rename_i bs hb;cases e;obtain⟨l,hl,hb⟩:=Sb.mp hb;obtain⟨v,ev,vt⟩:=mV vd;obtain⟨p,ys,ep,sq,rs⟩:=sY rel.gh hl vt;have:=kP hb rs;subst this;subst ev;subst ep;refine vK hc pr s σ H _ us Q I rx ⟨p,_,rfl,sq,wb bs,?_⟩;rw[yY];exact k _ H G fp .refl (rel.push (bW _))
  ·cases e
 ·cases e
def maxD:List D->Res R
 |[d]=>match(mX d).bind dh with
  |some (n::ns)=>.ok (.f,.int (qI (n::ns)))
  |_=>.bad
 |[.int i,.int j]=>.ok (.f,.int (if i<j then j else i))
 |_=>.bad
theorem mY{K:W.Frag}{G H:Hp}{d:D}{ns:List Int}{v:V}(gh:Same G H)(hb:(mX d).bind dh=some ns)(vt:Vw K G H d v):∃p,v=.ref p/\(SqL K H p (ns.map V.int)\/SqT K H p (ns.map V.int)):=by
 obtain⟨l,hl,hb⟩:=Sb.mp hb;obtain⟨p,ys,ep,sq,rs⟩:=sY gh hl vt;have:=gL hb rs;subst this;exact⟨p,ep,sq⟩
end
mutual
noncomputable def F3:D->D->Bool
 | .non,.non=>true
 | .bl a,.bl b=>a==b
 | .bl a,.int j=>(if a then 1 else 0)==j
 | .int i,.bl b=>i==(if b then 1 else 0)
 | .int i,.int j=>i==j
 | .str a,.str b=>a==b
 | .tup a,.tup b=>iW a b
 | .lst a,.lst b=>iW a b
 |_,_=>false
noncomputable def iW:List D->List D->Bool
 |[],[]=>true
 |a::as,b::bs=>F3 a b&&iW as bs
 |_,_=>false
end
mutual
noncomputable def plainD:Nat->D->Bool
 |n+1,.tup ds=>plainDs n ds
 |n+1,.lst ds=>plainDs n ds
 | 0,.tup _=>false
 | 0,.lst _=>false
 |_,.dct _ _ _=>false
 |_,_=>true
noncomputable def plainDs:Nat->List D->Bool
 |_,[]=>true
 |n,d::ds=>plainD n d&&plainDs n ds
end
theorem plainDs_mem:∀{n:Nat}{ds:List D},plainDs n ds=true->∀{i:Nat}{d:D},ds[i]?=some d->plainD n d=true
 |_,[],_,_,_,e=>by simp at e
 |n,a::ds,h,0,d,e=>by
  rw[plainDs,Rh]at h;simp at e;rw[<-e];exact h.1
 |n,a::ds,h,i+1,d,e=>by
  rw[plainDs,Rh]at h;exact plainDs_mem h.2 (i:=i) (by simpa using e)
theorem hU:∀{a b:List D},a.length≠b.length->iW a b=false
 |[],[],h=>absurd rfl h
 |[],_::_,_=>by simp only[iW]
 |_::_,[],_=>by simp only[iW]
 |x::xs,y::ys,h=>by
  rw[iW,hU (fun e=>h (by simp[e])),Us]
theorem d6:∀{a b:List D},a.length=b.length->(List.range a.length).all (fun j=>F3 (a.getD j .non) (b.getD j .non))=iW a b
 |[],[],_=>rfl
 |[],_::_,h=>by simp at h
 |_::_,[],h=>by simp at h
 |x::xs,y::ys,h=>by
  rw[iW,<-d6 (a:=xs) (b:=ys) (by simpa using h),Rk,UW,Te,Su];rfl
section
variable{X:Cx}{pr:List (Addr×Obj)}{σ:L2.St}{H:Hp}{s:Shared}
theorem jE(I:Inv X pr σ H s){p:Addr}{xs ys:List V}(h:SqL X.K H p xs)(h':SqT X.K H p ys):False:=by
 obtain⟨us,_,p1,_⟩:=I.list h;obtain⟨ws,_,p2,_⟩:=I.tuple h';exact SeqAt.ne_of_list_tuple p1.isList (show s.heap.IsTuple p ws.toArray from p2) rfl
mutual
theorem jF(I:Inv X pr σ H s):∀(d e:D) (x:V) (n:Nat),plainD n d=true->Rep X.K H d x->Rep X.K H e x->d=e
 | .non,e,x,n,_,r,q=>by
  cases bU r;cases e with
  |non=>rfl
  |bl b=>cases cG q
  |int i=>cases bo q
  |str l=>cases(a7 q).1
  |tup l=>obtain⟨p,xs,ev,_⟩:=a8 q;cases ev
  |lst l=>obtain⟨p,xs,ev,_⟩:=bg q;cases ev
  |dct tk ks vs=>rw[Rep]at q;obtain⟨p,xs,o,ev,_⟩:=q;cases ev
 | .bl b,e,x,n,_,r,q=>by
  cases cG r;cases e with
  |non=>cases bU q
  |bl b=>cases cG q;rfl
  |int i=>cases bo q
  |str l=>cases(a7 q).1
  |tup l=>obtain⟨p,xs,ev,_⟩:=a8 q;cases ev
  |lst l=>obtain⟨p,xs,ev,_⟩:=bg q;cases ev
  |dct tk ks vs=>rw[Rep]at q;obtain⟨p,xs,o,ev,_⟩:=q;cases ev
 | .int i,e,x,n,_,r,q=>by
  cases bo r;cases e with
  |non=>cases bU q
  |bl b=>cases cG q
  |int i=>cases bo q;rfl
  |str l=>cases(a7 q).1
  |tup l=>obtain⟨p,xs,ev,_⟩:=a8 q;cases ev
  |lst l=>obtain⟨p,xs,ev,_⟩:=bg q;cases ev
  |dct tk ks vs=>rw[Rep]at q;obtain⟨p,xs,o,ev,_⟩:=q;cases ev
 | .str l,e,x,n,_,r,q=>by
  have hr:=(a7 r).1;subst hr;cases e with
  |non=>cases bU q
  |bl b=>cases cG q
  |int i=>cases bo q
  |str l'=>
   have hq:=(a7 q).1;injection hq with hq;rw[S_inj hq]
  |tup l=>obtain⟨p,xs,ev,_⟩:=a8 q;cases ev
  |lst l=>obtain⟨p,xs,ev,_⟩:=bg q;cases ev
  |dct tk ks vs=>rw[Rep]at q;obtain⟨p,xs,o,ev,_⟩:=q;cases ev
 | .tup l,e,x,n,h,r,q=>by
  obtain⟨p,xs,ev,sq,rs⟩:=a8 r;subst ev;cases e with
  |non=>cases bU q
  |bl b=>cases cG q
  |int i=>cases bo q
  |str l=>cases(a7 q).1
  |tup l'=>
   obtain⟨p',Hq,HV,Hw,H0⟩:=a8 q;cases HV;have:=I.tuple_inj sq Hw;subst this;cases n with
   |zero=>simp only[plainD]at h;cases h
   |succ n=>
    simp only[plainD]at h;rw[lO I l l' xs n h rs H0]
  |lst l'=>
   obtain⟨p',Hq,HV,Hw,H0⟩:=bg q;cases HV;exact(jE I Hw sq).elim
  |dct tk ks vs=>
   exfalso;rw[Rep]at q;obtain⟨p',Hq,o,HV,rd,dd,_⟩:=q;cases HV;obtain⟨F1,_,ip,_⟩:=I.tuple sq;obtain⟨ob,ho,hc,_⟩:=ip;have NF:=rd.ok I.hok;cases tk with
   |true=>
    obtain⟨kvs,eo,_⟩:=dd;subst eo;obtain⟨_,_,_,_,o2,_,_,Hz,ex,_⟩:=NF;rw[ho]at Hz;cases Hz;rw[ex.1]at hc;exact absurd hc (by decide)
   |false=>
    obtain⟨kvs,eo,_⟩:=dd;subst eo;obtain⟨_,_,_,_,o2,_,_,Hz,ex,_⟩:=NF;rw[ho]at Hz;cases Hz;rw[ex.1]at hc;exact absurd hc (by decide)
 | .lst l,e,x,n,h,r,q=>by
  obtain⟨p,xs,ev,sq,rs⟩:=bg r;subst ev;cases e with
  |non=>cases bU q
  |bl b=>cases cG q
  |int i=>cases bo q
  |str l=>cases(a7 q).1
  |tup l'=>
   obtain⟨p',Hq,HV,Hw,H0⟩:=a8 q;cases HV;exact(jE I sq Hw).elim
  |lst l'=>
   obtain⟨p',Hq,HV,Hw,H0⟩:=bg q;cases HV;have:=I.list_inj sq Hw;subst this;cases n with
   |zero=>simp only[plainD]at h;cases h
   |succ n=>
    simp only[plainD]at h;rw[lO I l l' xs n h rs H0]
  |dct tk ks vs=>
   exfalso;rw[Rep]at q;obtain⟨p',Hq,o,HV,rd,dd,_⟩:=q;cases HV;obtain⟨F1,_,ip,_⟩:=I.list sq;obtain⟨ob,_,ho,hc,_⟩:=ip;have NF:=rd.ok I.hok;cases tk with
   |true=>
    obtain⟨kvs,eo,_⟩:=dd;subst eo;obtain⟨_,_,_,_,o2,_,_,Hz,ex,_⟩:=NF;rw[ho]at Hz;cases Hz;rw[ex.1]at hc;exact absurd hc (by decide)
   |false=>
    obtain⟨kvs,eo,_⟩:=dd;subst eo;obtain⟨_,_,_,_,o2,_,_,Hz,ex,_⟩:=NF;rw[ho]at Hz;cases Hz;rw[ex.1]at hc;exact absurd hc (by decide)
 | .dct _ _ _,_,_,n,h,_,_=>by cases n <;> (simp only[plainD]at h;cases h)
theorem lO(I:Inv X pr σ H s):∀(ds es:List D) (xs:List V) (n:Nat),plainDs n ds=true->Reps X.K H ds xs->Reps X.K H es xs->ds=es
 |[],es,xs,n,_,r,q=>by
  rw[Reps]at r;subst r;cases es with
  |nil=>rfl
  |cons e es=>
   rw[Reps]at q;obtain⟨y,ys,ev,_⟩:=q;cases ev
 |d::ds,es,xs,n,h,r,q=>by
  rw[Reps]at r;obtain⟨y,ys,ev,r1,r2⟩:=r;subst ev;rw[plainDs,Rh]at h;cases es with
  |nil=>
   rw[Reps]at q;cases q
  |cons e es=>
   rw[Reps]at q;obtain⟨y',ys',ev,q1,q2⟩:=q;cases ev;rw[jF I d e y n h.1 r1 q1,lO I ds es ys n h.2 r2 q2]
end
mutual
theorem ju:∀(d:D) (n:Nat),plainD n d=true->F3 d d=true
 | .non,_,_=>by simp only[F3]
 | .bl _,_,_=>by simp only[F3,Sm]
 | .int _,_,_=>by simp only[F3,Sm]
 | .str _,_,_=>by simp only[F3,Sm]
 | .tup ds,0,h=>by simp only[plainD]at h;cases h
 | .tup ds,n+1,h=>by simp only[plainD]at h;simp only[F3];exact jG ds n h
 | .lst ds,0,h=>by simp only[plainD]at h;cases h
 | .lst ds,n+1,h=>by simp only[plainD]at h;simp only[F3];exact jG ds n h
 | .dct _ _ _,n,h=>by cases n <;> (simp only[plainD]at h;cases h)
theorem jG:∀(ds:List D) (n:Nat),plainDs n ds=true->iW ds ds=true
 |[],_,_=>by simp only[iW]
 |d::ds,n,h=>by
  rw[plainDs,Rh]at h;rw[iW,ju d n h.1,jG ds n h.2];rfl
end
open PySem.SeqAt
theorem bz{n:Nat}{tk:Bool}{ks vs:List D}(h:plainD n (.dct tk ks vs)=true):False:=by cases n <;> (simp only[plainD]at h;cases h)
mutual
theorem yZ(I:Inv X pr σ H s):∀(d e:D) (x y:V) (v u:Value) (A:Around) (n:Nat),plainD n d=true->plainD n e=true->A.units+n<cLine->Rep X.K H d x->Rep X.K H e y->RelV x v->RelV y u->EqAt A s v u (F3 d e)
 | .non,e,x,y,v,u,A,n,h,h',hu,r,q,rx,ry=>by
  cases bU r;cases rx;cases e with
  |non=>cases bU q;cases ry;simp only[F3];exact .same _
  |bl b=>cases cG q;cases ry;simp only[F3];exact .none_bool _
  |int i=>cases bo q;obtain⟨t,rfl⟩:=ry;simp only[F3];exact .none_int _ _
  |str l=>cases(a7 q).1;obtain⟨t,rfl⟩:=ry;simp only[F3];exact .none_str _ _
  |tup l=>obtain⟨p,xs,rfl,sq,_⟩:=a8 q;cases ry;obtain⟨F1,_,ip,_⟩:=I.tuple sq;simp only[F3];exact .none_tuple (show s.heap.IsTuple p F1.toArray from ip) (by lia)
  |lst l=>obtain⟨p,xs,rfl,sq,_⟩:=bg q;cases ry;obtain⟨F1,_,ip,_⟩:=I.list sq;simp only[F3];exact .none_list ip.isList (by lia)
  |dct tk ks vs=>exact(bz h').elim
 | .bl b,e,x,y,v,u,A,n,h,h',hu,r,q,rx,ry=>by
  cases cG r;cases rx;cases e with
  |non=>cases bU q;cases ry;simp only[F3];exact .bool_none _
  |bl b=>cases cG q;cases ry;simp only[F3];exact .bool_bool _ _
  |int i=>cases bo q;obtain⟨t,rfl⟩:=ry;simp only[F3];exact .bool_int _ _ _
  |str l=>cases(a7 q).1;obtain⟨t,rfl⟩:=ry;simp only[F3];exact .bool_str _ _ _
  |tup l=>obtain⟨p,xs,rfl,sq,_⟩:=a8 q;cases ry;obtain⟨F1,_,ip,_⟩:=I.tuple sq;simp only[F3];exact .bool_tuple _ (show s.heap.IsTuple p F1.toArray from ip) (by lia)
  |lst l=>obtain⟨p,xs,rfl,sq,_⟩:=bg q;cases ry;obtain⟨F1,_,ip,_⟩:=I.list sq;simp only[F3];exact .bool_list _ ip.isList (by lia)
  |dct tk ks vs=>exact(bz h').elim
 | .int b,e,x,y,v,u,A,n,h,h',hu,r,q,rx,ry=>by
  cases bo r;obtain⟨t0,rfl⟩:=rx;cases e with
  |non=>cases bU q;cases ry;simp only[F3];exact .int_none _ _
  |bl b=>cases cG q;cases ry;simp only[F3];exact .int_bool _ _ _
  |int i=>cases bo q;obtain⟨t,rfl⟩:=ry;simp only[F3];exact .int_int _ _ _ _
  |str l=>cases(a7 q).1;obtain⟨t,rfl⟩:=ry;simp only[F3];exact .int_str _ _ _ _
  |tup l=>obtain⟨p,xs,rfl,sq,_⟩:=a8 q;cases ry;obtain⟨F1,_,ip,_⟩:=I.tuple sq;simp only[F3];exact .int_tuple _ _ (show s.heap.IsTuple p F1.toArray from ip) (by lia)
  |lst l=>obtain⟨p,xs,rfl,sq,_⟩:=bg q;cases ry;obtain⟨F1,_,ip,_⟩:=I.list sq;simp only[F3];exact .int_list _ _ ip.isList (by lia)
  |dct tk ks vs=>exact(bz h').elim
 | .str b,e,x,y,v,u,A,n,h,h',hu,r,q,rx,ry=>by
  have hr:=(a7 r).1;subst hr;obtain⟨t0,rfl⟩:=rx;cases e with
  |non=>cases bU q;cases ry;simp only[F3];exact .str_none _ _
  |bl b=>cases cG q;cases ry;simp only[F3];exact .str_bool _ _ _
  |int i=>cases bo q;obtain⟨t,rfl⟩:=ry;simp only[F3];exact .str_int _ _ _ _
  |str l=>
   have hq:=(a7 q).1;subst hq;obtain⟨t,rfl⟩:=ry;have e1:(b==l)=(S b==S l):=by
    rw[RG,RO,RO];exact⟨fun z=>by rw[z],S_inj⟩
   simp only[F3,e1];exact .str_str _ _ _ _
  |tup l=>obtain⟨p,xs,rfl,sq,_⟩:=a8 q;cases ry;obtain⟨F1,_,ip,_⟩:=I.tuple sq;simp only[F3];exact .str_tuple _ _ (show s.heap.IsTuple p F1.toArray from ip) (by lia)
  |lst l=>obtain⟨p,xs,rfl,sq,_⟩:=bg q;cases ry;obtain⟨F1,_,ip,_⟩:=I.list sq;simp only[F3];exact .str_list _ _ ip.isList (by lia)
  |dct tk ks vs=>exact(bz h').elim
 | .tup l,e,x,y,v,u,A,n,h,h',hu,r,q,rx,ry=>by
  have rr:=r;obtain⟨p,xs,ev,sq,rs⟩:=a8 r;subst ev;cases rx;obtain⟨F1,vl,ip,_⟩:=I.tuple sq;have ip:s.heap.IsTuple p F1.toArray:=ip;cases e with
  |non=>cases bU q;cases ry;simp only[F3];exact .tuple_none ip (by lia)
  |bl b=>cases cG q;cases ry;simp only[F3];exact .tuple_bool _ ip (by lia)
  |int i=>cases bo q;obtain⟨t,rfl⟩:=ry;simp only[F3];exact .tuple_int _ _ ip (by lia)
  |str l=>cases(a7 q).1;obtain⟨t,rfl⟩:=ry;simp only[F3];exact .tuple_str _ _ ip (by lia)
  |tup l'=>
   obtain⟨p',Hq,HV,Hw,H0⟩:=a8 q;subst HV;cases ry;by_cases hp:p=p'
   ·subst hp;have hz:=jF I _ _ _ n h rr q;rw[<-hz,ju _ n h];exact .same _
   ·obtain⟨its',Kn,HG,_⟩:=I.tuple Hw;have HG:s.heap.IsTuple p' its'.toArray:=HG;cases n with
    |zero=>simp only[plainD]at h;cases h
    |succ n=>
     simp only[plainD]at h h';have l1:=vl.length;have l2:=Kn.length;have l3:=rs.length;have l4:=H0.length;have key:=RcAt.tuples (A:=A) (e:=fun j=>F3 (l.getD j .non) (l'.getD j .non)) ip HG (by lia) fun j h1 h2=>by
      simp only[Q4]at h1 h2;have g1:l[j]?=some (l[j]'(by lia)):=List.getElem?_eq_getElem _;have g2:l'[j]?=some (l'[j]'(by lia)):=List.getElem?_eq_getElem _;obtain⟨w1,Jq,Jr⟩:=rs.get g1;obtain⟨w2,Ko,Kp⟩:=H0.get g2;obtain⟨u1,Ih,Js⟩:=vl.get Jq;obtain⟨u2,IX,Kq⟩:=Kn.get Ko;have q1:F1.toArray[j]=u1:=by rw[List.getElem?_eq_getElem h1]at Ih;simpa using Ih
      have q2:its'.toArray[j]=u2:=by rw[List.getElem?_eq_getElem h2]at IX;simpa using IX
      rw[q1,q2,List.getD_eq_getElem?_getD,List.getD_eq_getElem?_getD,g1,g2];exact m5 I l j _ g1 _ w1 w2 u1 u2 A.in1 n (plainDs_mem h g1) (plainDs_mem h' g2) (by show A.units+1+n<cLine;lia) Jr Kp Js Kq
     simp only[F3];have fin:((List.range (min F1.toArray.size its'.toArray.size)).all (fun j=>F3 (l.getD j .non) (l'.getD j .non))&&F1.toArray.size==its'.toArray.size)=iW l l':=by
      simp only[Q4];by_cases hl:l.length=l'.length
      ·rw[<-d6 hl,show min F1.length its'.length=l.length by lia,show(F1.length==its'.length)=true by rw[RO];lia,S1]
      ·rw[hU hl,show(F1.length==its'.length)=false by rw[R3];lia,Us]
     rw[<-fin];exact .of_refs hp key
  |lst l'=>obtain⟨p',Hq,HV,Hw,_⟩:=bg q;subst HV;cases ry;obtain⟨its',_,HG,_⟩:=I.list Hw;simp only[F3];exact .tuple_list ip HG.isList (by lia)
  |dct tk ks vs=>exact(bz h').elim
 | .lst l,e,x,y,v,u,A,n,h,h',hu,r,q,rx,ry=>by
  have rr:=r;obtain⟨p,xs,ev,sq,rs⟩:=bg r;subst ev;cases rx;obtain⟨F1,vl,ip,_⟩:=I.list sq;have ip:=ip.isList;cases e with
  |non=>cases bU q;cases ry;simp only[F3];exact .list_none ip (by lia)
  |bl b=>cases cG q;cases ry;simp only[F3];exact .list_bool _ ip (by lia)
  |int i=>cases bo q;obtain⟨t,rfl⟩:=ry;simp only[F3];exact .list_int _ _ ip (by lia)
  |str l=>cases(a7 q).1;obtain⟨t,rfl⟩:=ry;simp only[F3];exact .list_str _ _ ip (by lia)
  |lst l'=>
   obtain⟨p',Hq,HV,Hw,H0⟩:=bg q;subst HV;cases ry;by_cases hp:p=p'
   ·subst hp;have hz:=jF I _ _ _ n h rr q;rw[<-hz,ju _ n h];exact .same _
   ·obtain⟨its',Kn,HG,_⟩:=I.list Hw;have HG:=HG.isList;cases n with
    |zero=>simp only[plainD]at h;cases h
    |succ n=>
     simp only[plainD]at h h';have l1:=vl.length;have l2:=Kn.length;have l3:=rs.length;have l4:=H0.length;simp only[F3];by_cases hl:l.length=l'.length
     ·have key:=RcAt.lists (A:=A) (e:=fun j=>F3 (l.getD j .non) (l'.getD j .non)) ip HG (by simp only[Q4];lia) (by lia) fun j h1 h2=>by
       simp only[Q4]at h1 h2;have g1:l[j]?=some (l[j]'(by lia)):=List.getElem?_eq_getElem _;have g2:l'[j]?=some (l'[j]'(by lia)):=List.getElem?_eq_getElem _;obtain⟨w1,Jq,Jr⟩:=rs.get g1;obtain⟨w2,Ko,Kp⟩:=H0.get g2;obtain⟨u1,Ih,Js⟩:=vl.get Jq;obtain⟨u2,IX,Kq⟩:=Kn.get Ko;have q1:F1.toArray[j]=u1:=by rw[List.getElem?_eq_getElem h1]at Ih;simpa using Ih
       have q2:its'.toArray[j]=u2:=by rw[List.getElem?_eq_getElem h2]at IX;simpa using IX
       rw[q1,q2,List.getD_eq_getElem?_getD,List.getD_eq_getElem?_getD,g1,g2];exact m5 I l j _ g1 _ w1 w2 u1 u2 A.in1 n (plainDs_mem h g1) (plainDs_mem h' g2) (by show A.units+1+n<cLine;lia) Jr Kp Js Kq
      rw[<-d6 hl,show l.length=F1.toArray.size by simp only[Q4];lia];exact .of_refs hp key
     ·rw[hU hl];exact .of_refs hp (RcAt.lists_lengths ip HG (by simp only[Q4,W5];lia) (by lia))
  |tup l'=>obtain⟨p',Hq,HV,Hw,_⟩:=a8 q;subst HV;cases ry;obtain⟨its',_,HG,_⟩:=I.tuple Hw;simp only[F3];exact .list_tuple ip (show s.heap.IsTuple p' its'.toArray from HG) (by lia)
  |dct tk ks vs=>exact(bz h').elim
 | .dct _ _ _,_,_,_,_,_,_,n,h,_,_,_,_,_,_=>(bz h).elim
theorem m5(I:Inv X pr σ H s):∀(ds:List D) (j:Nat) (d:D),ds[j]?=some d->∀(e:D) (x y:V) (v u:Value) (A:Around) (n:Nat),plainD n d=true->plainD n e=true->A.units+n<cLine->Rep X.K H d x->Rep X.K H e y->RelV x v->RelV y u->EqAt A s v u (F3 d e)
 |[],_,_,hj=>by simp at hj
 |d'::ds,0,d,hj=>by
  simp at hj;subst hj;exact yZ I d'
 |d'::ds,j+1,d,hj=>m5 I ds j d (by simpa using hj)
end
end
section
variable{X:Cx}
def Ji(a b:D):Res R:=if plainD 40 a&&plainD 40 b then .ok (.f,.bl (F3 a b)) else .bad
def Jj(a b:D):Res R:=if plainD 40 a&&plainD 40 b then .ok (.f,.bl (!F3 a b)) else .bad
open PySem.SeqAt in
theorem BE{pr:List (Addr×Obj)}{σ:L2.St}{H:Hp}{s:Shared}(I:Inv X pr σ H s){d e:D}{x y:V}{v u:Value}{A:Around}(h:plainD 40 d=true)(h':plainD 40 e=true)(hu:A.units+64<cLine)(r:Rep X.K H d x)(q:Rep X.K H e y)(rx:RelV x v)(ry:RelV y u):
  RcAt A s v u (F3 d e)/\RcNeAt A s v u (!F3 d e):=by
 cases d with
 |non=>
  cases bU r;cases rx;cases e with
  |non=>cases bU q;cases ry;simp only[F3];exact⟨.none_none,.none_none⟩
  |bl b=>cases cG q;cases ry;simp only[F3];exact⟨.none_bool _,.none_bool _⟩
  |int i=>cases bo q;obtain⟨t,rfl⟩:=ry;simp only[F3];exact⟨.none_int _ _,.none_int _ _⟩
  |str l=>cases(a7 q).1;obtain⟨t,rfl⟩:=ry;simp only[F3];exact⟨.none_str _ _,.none_str _ _⟩
  |tup l=>obtain⟨p,xs,rfl,sq,_⟩:=a8 q;cases ry;obtain⟨F1,_,ip,_⟩:=I.tuple sq;simp only[F3];exact⟨.none_tuple (show s.heap.IsTuple p F1.toArray from ip) (by lia),.none_tuple (show s.heap.IsTuple p F1.toArray from ip) (by lia)⟩
  |lst l=>obtain⟨p,xs,rfl,sq,_⟩:=bg q;cases ry;obtain⟨F1,_,ip,_⟩:=I.list sq;simp only[F3];exact⟨.none_list ip.isList (by lia),.none_list ip.isList (by lia)⟩
  |dct tk ks vs=>exact(bz h').elim
 |bl b=>
  cases cG r;cases rx;cases e with
  |non=>cases bU q;cases ry;simp only[F3];exact⟨.bool_none _,.bool_none _⟩
  |bl b=>cases cG q;cases ry;simp only[F3];exact⟨.bool_bool _ _,.bool_bool _ _⟩
  |int i=>cases bo q;obtain⟨t,rfl⟩:=ry;simp only[F3];exact⟨.bool_int _ _ _,.bool_int _ _ _⟩
  |str l=>cases(a7 q).1;obtain⟨t,rfl⟩:=ry;simp only[F3];exact⟨.bool_str _ _ _,.bool_str _ _ _⟩
  |tup l=>obtain⟨p,xs,rfl,sq,_⟩:=a8 q;cases ry;obtain⟨F1,_,ip,_⟩:=I.tuple sq;simp only[F3];exact⟨.bool_tuple _ (show s.heap.IsTuple p F1.toArray from ip) (by lia),.bool_tuple _ (show s.heap.IsTuple p F1.toArray from ip) (by lia)⟩
  |lst l=>obtain⟨p,xs,rfl,sq,_⟩:=bg q;cases ry;obtain⟨F1,_,ip,_⟩:=I.list sq;simp only[F3];exact⟨.bool_list _ ip.isList (by lia),.bool_list _ ip.isList (by lia)⟩
  |dct tk ks vs=>exact(bz h').elim
 |int b=>
  cases bo r;obtain⟨t0,rfl⟩:=rx;cases e with
  |non=>cases bU q;cases ry;simp only[F3];exact⟨.int_none _ _,.int_none _ _⟩
  |bl b=>cases cG q;cases ry;simp only[F3];exact⟨.int_bool _ _ _,.int_bool _ _ _⟩
  |int i=>cases bo q;obtain⟨t,rfl⟩:=ry;simp only[F3];exact⟨.int_int _ _ _ _,.int_int _ _ _ _⟩
  |str l=>cases(a7 q).1;obtain⟨t,rfl⟩:=ry;simp only[F3];exact⟨.int_str _ _ _ _,.int_str _ _ _ _⟩
  |tup l=>obtain⟨p,xs,rfl,sq,_⟩:=a8 q;cases ry;obtain⟨F1,_,ip,_⟩:=I.tuple sq;simp only[F3];exact⟨.int_tuple _ _ (show s.heap.IsTuple p F1.toArray from ip) (by lia),.int_tuple _ _ (show s.heap.IsTuple p F1.toArray from ip) (by lia)⟩
  |lst l=>obtain⟨p,xs,rfl,sq,_⟩:=bg q;cases ry;obtain⟨F1,_,ip,_⟩:=I.list sq;simp only[F3];exact⟨.int_list _ _ ip.isList (by lia),.int_list _ _ ip.isList (by lia)⟩
  |dct tk ks vs=>exact(bz h').elim
 |str b=>
  have hr:=(a7 r).1;subst hr;obtain⟨t0,rfl⟩:=rx;cases e with
  |non=>cases bU q;cases ry;simp only[F3];exact⟨.str_none _ _,.str_none _ _⟩
  |bl b=>cases cG q;cases ry;simp only[F3];exact⟨.str_bool _ _ _,.str_bool _ _ _⟩
  |int i=>cases bo q;obtain⟨t,rfl⟩:=ry;simp only[F3];exact⟨.str_int _ _ _ _,.str_int _ _ _ _⟩
  |str l=>
   have hq:=(a7 q).1;subst hq;obtain⟨t,rfl⟩:=ry;have e1:(b==l)=(S b==S l):=by
    rw[RG,RO,RO];exact⟨fun z=>by rw[z],S_inj⟩
   simp only[F3,e1];exact⟨.str_str _ _ _ _,.str_str _ _ _ _⟩
  |tup l=>obtain⟨p,xs,rfl,sq,_⟩:=a8 q;cases ry;obtain⟨F1,_,ip,_⟩:=I.tuple sq;simp only[F3];exact⟨.str_tuple _ _ (show s.heap.IsTuple p F1.toArray from ip) (by lia),.str_tuple _ _ (show s.heap.IsTuple p F1.toArray from ip) (by lia)⟩
  |lst l=>obtain⟨p,xs,rfl,sq,_⟩:=bg q;cases ry;obtain⟨F1,_,ip,_⟩:=I.list sq;simp only[F3];exact⟨.str_list _ _ ip.isList (by lia),.str_list _ _ ip.isList (by lia)⟩
  |dct tk ks vs=>exact(bz h').elim
 |tup l=>
  obtain⟨p,xs,ev,sq,rs⟩:=a8 r;subst ev;cases rx;obtain⟨F1,vl,ip,_⟩:=I.tuple sq;have ip:s.heap.IsTuple p F1.toArray:=ip;cases e with
  |non=>cases bU q;cases ry;simp only[F3];exact⟨.tuple_none ip (by lia),.tuple_none ip (by lia)⟩
  |bl b=>cases cG q;cases ry;simp only[F3];exact⟨.tuple_bool _ ip (by lia),.tuple_bool _ ip (by lia)⟩
  |int i=>cases bo q;obtain⟨t,rfl⟩:=ry;simp only[F3];exact⟨.tuple_int _ _ ip (by lia),.tuple_int _ _ ip (by lia)⟩
  |str l=>cases(a7 q).1;obtain⟨t,rfl⟩:=ry;simp only[F3];exact⟨.tuple_str _ _ ip (by lia),.tuple_str _ _ ip (by lia)⟩
  |tup l'=>
   obtain⟨p',Hq,HV,Hw,H0⟩:=a8 q;subst HV;cases ry;obtain⟨its',Kn,HG,_⟩:=I.tuple Hw;have HG:s.heap.IsTuple p' its'.toArray:=HG;simp only[plainD]at h h';have l1:=vl.length;have l2:=Kn.length;have l3:=rs.length;have l4:=H0.length;have el:∀j (h1:j<F1.toArray.size) (h2:j<its'.toArray.size),EqAt A.in1 s F1.toArray[j] its'.toArray[j] ((fun j=>F3 (l.getD j .non) (l'.getD j .non)) j):=fun j h1 h2=>by
    simp only[Q4]at h1 h2;have g1:l[j]?=some (l[j]'(by lia)):=List.getElem?_eq_getElem _;have g2:l'[j]?=some (l'[j]'(by lia)):=List.getElem?_eq_getElem _;obtain⟨w1,Jq,Jr⟩:=rs.get g1;obtain⟨w2,Ko,Kp⟩:=H0.get g2;obtain⟨u1,Ih,Js⟩:=vl.get Jq;obtain⟨u2,IX,Kq⟩:=Kn.get Ko;have q1:F1.toArray[j]=u1:=by rw[List.getElem?_eq_getElem h1]at Ih;simpa using Ih
    have q2:its'.toArray[j]=u2:=by rw[List.getElem?_eq_getElem h2]at IX;simpa using IX
    dsimp only;rw[q1,q2,List.getD_eq_getElem?_getD,List.getD_eq_getElem?_getD,g1,g2];exact m5 I l j _ g1 _ w1 w2 u1 u2 A.in1 39 (plainDs_mem h g1) (plainDs_mem h' g2) (by show A.units+1+39<cLine;lia) Jr Kp Js Kq
   simp only[F3];have fin:((List.range (min F1.toArray.size its'.toArray.size)).all (fun j=>F3 (l.getD j .non) (l'.getD j .non))&&F1.toArray.size==its'.toArray.size)=iW l l':=by
    simp only[Q4];by_cases hl:l.length=l'.length
    ·rw[<-d6 hl,show min F1.length its'.length=l.length by lia,show(F1.length==its'.length)=true by rw[RO];lia,S1]
    ·rw[hU hl,show(F1.length==its'.length)=false by rw[R3];lia,Us]
   rw[<-fin];exact⟨.tuples ip HG (by lia) el,.tuples ip HG (by lia) el⟩
  |lst l'=>obtain⟨p',Hq,HV,Hw,_⟩:=bg q;subst HV;cases ry;obtain⟨its',_,HG,_⟩:=I.list Hw;simp only[F3];exact⟨.tuple_list ip HG.isList (by lia),.tuple_list ip HG.isList (by lia)⟩
  |dct tk ks vs=>exact(bz h').elim
 |lst l=>
  obtain⟨p,xs,ev,sq,rs⟩:=bg r;subst ev;cases rx;obtain⟨F1,vl,ip,_⟩:=I.list sq;have ip:=ip.isList;cases e with
  |non=>cases bU q;cases ry;simp only[F3];exact⟨.list_none ip (by lia),.list_none ip (by lia)⟩
  |bl b=>cases cG q;cases ry;simp only[F3];exact⟨.list_bool _ ip (by lia),.list_bool _ ip (by lia)⟩
  |int i=>cases bo q;obtain⟨t,rfl⟩:=ry;simp only[F3];exact⟨.list_int _ _ ip (by lia),.list_int _ _ ip (by lia)⟩
  |str l=>cases(a7 q).1;obtain⟨t,rfl⟩:=ry;simp only[F3];exact⟨.list_str _ _ ip (by lia),.list_str _ _ ip (by lia)⟩
  |lst l'=>
   obtain⟨p',Hq,HV,Hw,H0⟩:=bg q;subst HV;cases ry;obtain⟨its',Kn,HG,_⟩:=I.list Hw;have HG:=HG.isList;simp only[plainD]at h h';have l1:=vl.length;have l2:=Kn.length;have l3:=rs.length;have l4:=H0.length;simp only[F3];by_cases hl:l.length=l'.length
   ·have el:∀j (h1:j<F1.toArray.size) (h2:j<its'.toArray.size),EqAt A.in1 s F1.toArray[j] its'.toArray[j] ((fun j=>F3 (l.getD j .non) (l'.getD j .non)) j):=fun j h1 h2=>by
     simp only[Q4]at h1 h2;have g1:l[j]?=some (l[j]'(by lia)):=List.getElem?_eq_getElem _;have g2:l'[j]?=some (l'[j]'(by lia)):=List.getElem?_eq_getElem _;obtain⟨w1,Jq,Jr⟩:=rs.get g1;obtain⟨w2,Ko,Kp⟩:=H0.get g2;obtain⟨u1,Ih,Js⟩:=vl.get Jq;obtain⟨u2,IX,Kq⟩:=Kn.get Ko;have q1:F1.toArray[j]=u1:=by rw[List.getElem?_eq_getElem h1]at Ih;simpa using Ih
     have q2:its'.toArray[j]=u2:=by rw[List.getElem?_eq_getElem h2]at IX;simpa using IX
     dsimp only;rw[q1,q2,List.getD_eq_getElem?_getD,List.getD_eq_getElem?_getD,g1,g2];exact m5 I l j _ g1 _ w1 w2 u1 u2 A.in1 39 (plainDs_mem h g1) (plainDs_mem h' g2) (by show A.units+1+39<cLine;lia) Jr Kp Js Kq
    rw[<-d6 hl,show l.length=F1.toArray.size by simp only[Q4];lia];exact⟨.lists ip HG (by simp only[Q4];lia) (by lia) el,.lists ip HG (by simp only[Q4];lia) (by lia) el⟩
   ·rw[hU hl];exact⟨.lists_lengths ip HG (by simp only[Q4,W5];lia) (by lia),.lists_lengths ip HG (by simp only[Q4,W5];lia) (by lia)⟩
  |tup l'=>obtain⟨p',Hq,HV,Hw,_⟩:=a8 q;subst HV;cases ry;obtain⟨its',_,HG,_⟩:=I.tuple Hw;simp only[F3];exact⟨.list_tuple ip (show s.heap.IsTuple p' its'.toArray from HG) (by lia),.list_tuple ip (show s.heap.IsTuple p' its'.toArray from HG) (by lia)⟩
  |dct tk ks vs=>exact(bz h').elim
 |dct tk ks vs=>exact(bz h).elim
theorem m6(hu:X.A.units+64<cLine):GH X (compareOp .Eq) (rGA X.K Ji):=by
 rintro pr s σ H x y v u Q I rx ry ⟨G,fp,es,vs,a,b,r,⟨rel,k⟩,va,vb,e⟩;unfold Ji at e;split at e
 ·rename_i hp;cases e;rw[Rh]at hp;exact(BE I hp.1 hp.2 hu va vb rx ry).1 _ _ _ _ ⟨.bl _,H,I,rfl,k _ H G fp .refl (rel.push (bW _))⟩
 ·cases e
theorem qX(hu:X.A.units+64<cLine):GH X (compareOp .NotEq) (rGA X.K Jj):=by
 rintro pr s σ H x y v u Q I rx ry ⟨G,fp,es,vs,a,b,r,⟨rel,k⟩,va,vb,e⟩;unfold Jj at e;split at e
 ·rename_i hp;cases e;rw[Rh]at hp;exact(BE I hp.1 hp.2 hu va vb rx ry).2 _ _ _ _ ⟨.bl _,H,I,rfl,k _ H G fp .refl (rel.push (bW _))⟩
 ·cases e
def u3(a:D)(ds:List D):Bool:=ds.any fun d=>F3 d a
noncomputable def Kr(a b:D):Res R:=match b with
 | .lst ds=>if plainD 40 a&&plainDs 40 ds then .ok (.f,.bl (u3 a ds)) else .bad
 | .tup ds=>if plainD 40 a&&plainDs 40 ds then .ok (.f,.bl (u3 a ds)) else .bad
 | .str l=>match a with
  | .str [c]=>.ok (.f,.bl (decide (c∈l)))
  |_=>.bad
 |_=>.bad
def Aw(a b:D):Res R:=(Kr a b).bind fun r=>match r.2 with
 | .bl k=>.ok (.f,.bl (!k))
 |_=>.bad
open PySem.SeqAt in
theorem pQ{pr:List (Addr×Obj)}{σ:L2.St}{H:Hp}{s:Shared}(I:Inv X pr σ H s){a:D}{x:V}{v:Value}{A:Around}(h:plainD 40 a=true)(hu:A.units+64<cLine)(r:Rep X.K H a x)(rx:RelV x v):
  ∀(ds:List D) (xs:List V) (us:List Value),plainDs 40 ds=true->Reps X.K H ds xs->Vals xs us->∃e:Value->Bool,us.any e=u3 a ds/\∀u∈us,EqAt A s u v (e u):=by
 classical
 intro ds xs us hp rs vl;refine⟨fun u=>decide (∃(j:Nat) (d:D),ds[j]?=some d/\us[j]?=some u/\F3 d a=true),?_,fun u Pr=>?_⟩
 ·rw[RG,Sq];unfold u3;rw[Sq];constructor
  ·rintro⟨u,_,hd⟩;obtain⟨j,d,h1,_,h2⟩:=TM hd;exact⟨d,Rz h1,h2⟩
  ·rintro⟨d,hd,h2⟩;obtain⟨j,hj⟩:=Si.mp hd;obtain⟨w1,Jq,Jr⟩:=rs.get hj;obtain⟨u1,Ih,Js⟩:=vl.get Jq;exact⟨u1,Rz Ih,RJ ⟨j,d,hj,Ih,h2⟩⟩
 ·obtain⟨j,hj⟩:=Si.mp Pr;have l1:=vl.length;have l2:=rs.length;have hjl:=(List.getElem?_eq_some_iff.mp hj).1;have g1:ds[j]?=some (ds[j]'(by lia)):=List.getElem?_eq_getElem _;obtain⟨w1,Jq,Jr⟩:=rs.get g1;obtain⟨u1,Ih,Js⟩:=vl.get Jq;rw[hj]at Ih;cases Ih;have z:=yZ I _ _ w1 x u v A 40 (plainDs_mem hp g1) h (by lia) Jr r Js rx;have e:decide (∃(j:Nat) (d:D),ds[j]?=some d/\us[j]?=some u/\F3 d a=true)=F3 (ds[j]'(by lia)) a:=by
   rw[RG,Ro];constructor
   ·rintro⟨j2,d2,k1,k2,k3⟩;obtain⟨w2,Ko,Kp⟩:=rs.get k1;obtain⟨u2,IX,Kq⟩:=vl.get Ko;rw[k2]at IX;cases IX;have:=Js.inj Kq;subst this;rw[jF I _ _ _ 40 (plainDs_mem hp g1) Jr Kp];exact k3
   ·intro k3;exact⟨j,_,g1,hj,k3⟩
  show EqAt A s u v (decide (∃(j:Nat) (d:D),ds[j]?=some d/\us[j]?=some u/\F3 d a=true));rw[e];exact z
theorem m7(l:List Nat)(c:Nat):(!(Builtin.Str.occurrences (S l) (S [c]) 0 (S l).length 1).isEmpty)=decide (c∈l):=by
 have h:=PySem.StrLaws.found_one (S l) c;rw[cX]at h;exact h
theorem lP{e:Value->Bool}(us:List Value):us.toArray.any e=us.any e:=by simp
theorem DW(hu:X.A.units+65<cLine):GH X (compareOp .In) (rGA X.K Kr):=by
 rintro pr s σ H x y v u Q I rx ry ⟨G,fp,es,vs,a,b,r,⟨rel,k⟩,va,vb,e⟩;unfold Kr at e;split at e
 ·rename_i ds;split at e
  ·rename_i hp;cases e;rw[Rh]at hp;obtain⟨p,xs,ev,sq,rs⟩:=bg vb;subst ev;cases ry;obtain⟨F1,vl,ip,_⟩:=I.list sq;obtain⟨ef,e1,e2⟩:=pQ (A:=X.A.in1) I hp.1 (by show X.A.units+1+64<cLine;lia) va rx ds xs F1 hp.2 rs vl;refine SeqAt.in_listAt ef ip.isList (fun z hz=>e2 z (by simpa using hz)) ?_;rw[lP,e1];exact⟨.bl _,H,I,rfl,k _ H G fp .refl (rel.push (bW _))⟩
  ·cases e
 ·rename_i ds;split at e
  ·rename_i hp;cases e;rw[Rh]at hp;obtain⟨p,xs,ev,sq,rs⟩:=a8 vb;subst ev;cases ry;obtain⟨F1,vl,ip,_⟩:=I.tuple sq;obtain⟨ef,e1,e2⟩:=pQ (A:=X.A.in1) I hp.1 (by show X.A.units+1+64<cLine;lia) va rx ds xs F1 hp.2 rs vl;refine SeqAt.in_tupleAt ef (show s.heap.IsTuple p F1.toArray from ip) (fun z hz=>e2 z (by simpa using hz)) ?_;rw[lP,e1];exact⟨.bl _,H,I,rfl,k _ H G fp .refl (rel.push (bW _))⟩
  ·cases e
 ·rename_i l;split at e
  ·rename_i c;cases e;obtain⟨e1,h1⟩:=a7 va;obtain⟨e2,h2⟩:=a7 vb;subst e1;subst e2;refine rT pr s σ H _ _ v u Q I rx ry ⟨_,_,rfl,rfl,?_⟩;rw[m7];exact k _ H G fp .refl (rel.push (bW _))
  ·cases e
 ·cases e
theorem BF(hu:X.A.units+65<cLine):GH X (compareOp .NotIn) (rGA X.K Aw):=by
 rintro pr s σ H x y v u Q I rx ry ⟨G,fp,es,vs,a,b,r,⟨rel,k⟩,va,vb,e⟩;unfold Aw at e;obtain⟨r0,e0,e⟩:=ah e;unfold Kr at e0;split at e0
 ·rename_i ds;split at e0
  ·rename_i hp;cases e0;cases e;rw[Rh]at hp;obtain⟨p,xs,ev,sq,rs⟩:=bg vb;subst ev;cases ry;obtain⟨F1,vl,ip,_⟩:=I.list sq;obtain⟨ef,e1,e2⟩:=pQ (A:=X.A.in1) I hp.1 (by show X.A.units+1+64<cLine;lia) va rx ds xs F1 hp.2 rs vl;refine SeqAt.notIn_listAt ef ip.isList (fun z hz=>e2 z (by simpa using hz)) ?_;rw[lP,e1];exact⟨.bl _,H,I,rfl,k _ H G fp .refl (rel.push (bW _))⟩
  ·cases e0
 ·rename_i ds;split at e0
  ·rename_i hp;cases e0;cases e;rw[Rh]at hp;obtain⟨p,xs,ev,sq,rs⟩:=a8 vb;subst ev;cases ry;obtain⟨F1,vl,ip,_⟩:=I.tuple sq;obtain⟨ef,e1,e2⟩:=pQ (A:=X.A.in1) I hp.1 (by show X.A.units+1+64<cLine;lia) va rx ds xs F1 hp.2 rs vl;refine SeqAt.notIn_tupleAt ef (show s.heap.IsTuple p F1.toArray from ip) (fun z hz=>e2 z (by simpa using hz)) ?_;rw[lP,e1];exact⟨.bl _,H,I,rfl,k _ H G fp .refl (rel.push (bW _))⟩
  ·cases e0
 ·rename_i l;split at e0
  ·rename_i c;cases e0;cases e;obtain⟨e1,h1⟩:=a7 va;obtain⟨e2,h2⟩:=a7 vb;subst e1;subst e2;refine my pr s σ H _ _ v u Q I rx ry ⟨_,_,rfl,rfl,?_⟩;rw[m7];exact k _ H G fp .refl (rel.push (bW _))
  ·cases e0
 ·cases e0
def Mh(a b:D):Res R:=match b with
 | .bl k=>.ok (.f,.bl (match a with | .bl j=>j==k|_=>false))
 | .non=>.ok (.f,.bl (match a with | .non=>true|_=>false))
 |_=>.bad
def isnO(a b:D):Res R:=(Mh a b).bind fun r=>match r.2 with
 | .bl k=>.ok (.f,.bl (!k))
 |_=>.bad
theorem pR{K:W.Frag}{H:Hp}{a b:D}{x y:V}{v u:Value}{r:R}(va:Rep K H a x)(vb:Rep K H b y)(rx:RelV x v)(ry:RelV y u)(e:Mh a b=.ok r):plainIs v u=true/\r=(.f,.bl (v==u)):=by
 unfold Mh at e;split at e
 ·rename_i k;cases e;cases cG vb;cases ry;cases a with
  |non=>cases bU va;cases rx;exact⟨rfl,rfl⟩
  |bl j=>cases cG va;cases rx;refine⟨rfl,?_⟩;cases j <;> cases k <;> rfl
  |int i=>cases bo va;obtain⟨t,rfl⟩:=rx;exact⟨rfl,rfl⟩
  |str l=>cases(a7 va).1;obtain⟨t,rfl⟩:=rx;exact⟨rfl,rfl⟩
  |tup l=>obtain⟨p,xs,rfl,_⟩:=a8 va;cases rx;exact⟨rfl,rfl⟩
  |lst l=>obtain⟨p,xs,rfl,_⟩:=bg va;cases rx;exact⟨rfl,rfl⟩
  |dct tk ks vs=>rw[Rep]at va;obtain⟨p,xs,o,rfl,_⟩:=va;cases rx;exact⟨rfl,rfl⟩
 ·cases e;cases bU vb;cases ry;cases a with
  |non=>cases bU va;cases rx;exact⟨rfl,rfl⟩
  |bl j=>cases cG va;cases rx;exact⟨rfl,rfl⟩
  |int i=>cases bo va;obtain⟨t,rfl⟩:=rx;exact⟨rfl,rfl⟩
  |str l=>cases(a7 va).1;obtain⟨t,rfl⟩:=rx;exact⟨rfl,rfl⟩
  |tup l=>obtain⟨p,xs,rfl,_⟩:=a8 va;cases rx;exact⟨rfl,rfl⟩
  |lst l=>obtain⟨p,xs,rfl,_⟩:=bg va;cases rx;exact⟨rfl,rfl⟩
  |dct tk ks vs=>rw[Rep]at va;obtain⟨p,xs,o,rfl,_⟩:=va;cases rx;exact⟨rfl,rfl⟩
 ·cases e
theorem DX:GH X (compareOp .Is) (rGA X.K Mh):=by
 rintro pr s σ H x y v u Q I rx ry ⟨G,fp,es,vs,a,b,r,⟨rel,k⟩,va,vb,e⟩;obtain⟨h1,h2⟩:=pR va vb rx ry e;subst h2;exact wpAny_is_plain h1 ⟨.bl _,H,I,rfl,k _ H G fp .refl (rel.push (bW _))⟩
theorem kQ:GH X (compareOp .IsNot) (rGA X.K isnO):=by
 rintro pr s σ H x y v u Q I rx ry ⟨G,fp,es,vs,a,b,r,⟨rel,k⟩,va,vb,e⟩;obtain⟨r0,e0,e⟩:=ah e;obtain⟨h1,h2⟩:=pR va vb rx ry e0;subst h2;cases e;exact wpAny_isNot_plain h1 ⟨.bl _,H,I,rfl,k _ H G fp .refl (rel.push (bW _))⟩
end
section
variable{X:Cx}
theorem sZ(hc:X.calm=true):di X (.builtin "max") (rC X.K maxD):=by
 rintro pr s σ H xs us Q I rx ⟨G,fp,es,vs,ds,r,⟨rel,k⟩,vd,e⟩;unfold maxD at e;split at e
 ·rename_i d;split at e
  ·rename_i n ns hb;cases e;obtain⟨v,ev,vt⟩:=mV vd;obtain⟨p,ep,sq⟩:=mY rel.gh hb vt;subst ev;subst ep;exact sv hc pr s σ H _ us Q I rx ⟨p,n::ns,rfl,sq,by simp,k _ H G fp .refl (rel.push (bF _))⟩
  ·cases e
 ·rename_i i j;cases e;obtain⟨v,w',ev,v1,v2⟩:=Fl vd;subst ev;cases bC v1;cases bC v2;obtain⟨u,u',rfl,⟨t,rfl⟩,t',rfl⟩:=yg rx;refine max_two_ints (I.ok.hd hc) fun h' tk kk=>?_
  have I2:Inv X pr σ H {s with heap:=h',toks:=tk}:=I.kept kk;refine⟨.int (if i<j then j else i),H,I2,?_,k _ H G fp .refl (rel.push (bF _))⟩;by_cases KQ:i<j
  ·rw[Rb KQ,Rb (show j>i from KQ)];exact⟨_,rfl⟩
  ·rw[Rg KQ,Rg (show ¬ j>i from KQ)];exact⟨_,rfl⟩
 ·cases e
def y0(f g:FX):FX:=fun env=>(f env).bind fun p=>(g p.2).bind fun q=>match(mX p.1.2).bind dh,q.1.2 with
 |some ns,.int d=>.ok ((.f,.int (NX.maxD ns d)),q.2)
 |_,_=>.bad
theorem y3{e k:Expr}{f g:FX}{p pos JQ:Pos}(hc:X.calm=true)(hg:Gl X "max")(hm:X.mg "max" = none)(he:QE X e f)(hk:QE X k g)(hs:starEach [e] X.env=[(false,eval e X.env)]:=by rfl):
  QE X (.Call (.Name "max" p) [e] [⟨some "default",k,JQ⟩] pos) (y0 f g):=aY (yB hc hg hm he hk hs) fun σ H Q F7=>by
 obtain⟨G,env,fp,r,env',rel,e,k⟩:=F7;obtain⟨⟨r1,FY⟩,e1,e⟩:=ah e;obtain⟨⟨r2,F5⟩,e2,e⟩:=ah e;dsimp only at e;split at e
 ·rename_i ns d MW hd;cases e;refine⟨G,env,fp,r1,FY,rel,e1,fun v H1 G1 Gg Gb F0=>?_⟩;obtain⟨G2,b,rv,FZ,F4⟩:=F0.freeze;refine⟨G2,FY,b,r2,_,FZ,e2,fun w' H3 G3 Ha Gn Gj=>?_⟩;have hw:=Gj.top;obtain⟨b3,Gw,GZ⟩:=Gj.drop;rw[hd]at hw;obtain⟨p',ep,sq⟩:=mY Gw.gh MW (Vw.of Gw.gh (Rep.mono Gn.gg rv));subst ep;exact⟨p',ns,d,rfl,by rw[bo hw],sq,k _ H3 G3 b3 (Gb.trans (F4.trans (Gn.trans GZ))) (Gw.push (bF _))⟩
 ·cases e
def FQ:List D->Res R
 |[.bl b]=>.ok (.f,.int (if b then 1 else 0))
 |[.int i]=>.ok (.f,.int i)
 |_=>.bad
def oM:D->String
 | .non=>"NoneType"
 | .bl _=>"bool"
 | .int _=>"int"
 | .str _=>"str"
 | .tup _=>"tuple"
 | .lst _=>"list"
 | .dct _ _ _=>"dict"
def ve(T:String)(d:D):Bool:=oM d==T||(oM d == "bool" && T == "int")
def Mi(T:String)(f:FO):FX:=fun env=>(f env).bind fun p=>(qR p.2 p.1).bind fun d=>.ok ((.f,.bl (ve T d)),p.2)
theorem BG(K:W.Frag)(d:D){T:String}(hT:T = "int"\/T = "bool"\/T = "str"\/T = "list"\/T = "tuple"\/T = "dict"):PySem.W.kitOne K (.type (oM d)) (.type T)=some (ve T d):=by
 rcases hT with rfl|rfl|rfl|rfl|rfl|rfl <;> cases d <;> (unfold PySem.W.kitOne PySem.W.kitCls PySem.W.subIn;kernel_rfl)
theorem wc:di X (.builtin "isinstance") (fun xs H Q=>∃d x T,xs=[x,.ty T]/\Rep X.K H d x/\(T = "int"\/T = "bool"\/T = "str"\/T = "list"\/T = "tuple"\/T = "dict")/\Q (.bl (ve T d)) H):=by
 intro pr s σ H xs us Q I r h;obtain⟨d,x,T,rfl,rd,hT,q⟩:=h;obtain⟨u,w',rfl,r1,r2⟩:=yg r;cases(show w'=Value.type T from r2);have e:=BG X.K d hT;have fin:∀tk,EP X pr σ Q (.bool (ve T d)) {s with toks:=tk}:=fun tk=>⟨.bl (ve T d),H,I.tok tk,rfl,q⟩
 cases d with
 |non=>cases bU rd;cases(show u=Value.none from r1);exact SA PySem.W.kitx_none I.kIn True.intro e (fun z=>nomatch z) fin
 |bl y=>cases cG rd;cases(show u=Value.bool y from r1);exact SA PySem.W.kitx_bool I.kIn True.intro e (fun z=>nomatch z) fin
 |int i=>cases bo rd;obtain⟨t,z⟩:=(show ∃t,u=Value.int i t from r1);cases z;exact SA PySem.W.kitx_int I.kIn True.intro e (fun z=>nomatch z) fin
 |str l=>
  have hr:=(a7 rd).1;subst hr;obtain⟨t,z⟩:=(show ∃t,u=Value.str (S l) t from r1)
  cases z;exact SA PySem.W.kitx_str I.kIn True.intro e (fun z=>nomatch z) fin
 |lst l=>
  obtain⟨p,xs,ev,sq,_⟩:=bg rd;subst ev;cases(show u=Value.ref p from r1);obtain⟨F1,_,ip,_⟩:=I.list sq;obtain⟨o,ho,hc,_⟩:=ip.isList;exact SA PySem.W.kitx_list I.kIn ⟨o,ho,hc⟩ e (fun z=>nomatch z) fin
 |tup l=>
  obtain⟨p,xs,ev,sq,_⟩:=a8 rd;subst ev;cases(show u=Value.ref p from r1);obtain⟨F1,_,ip,_⟩:=I.tuple sq;obtain⟨o,ho,hc,_⟩:=ip;exact SA PySem.W.kitx_tuple I.kIn ⟨o,ho,hc⟩ e (fun z=>nomatch z) fin
 |dct tk ks vs=>
  rw[Rep]at rd;obtain⟨p,xs,o,ev,hr,dd,_⟩:=rd;subst ev;cases(show u=Value.ref p from r1);have ok:=hr.ok I.hok;cases tk with
  |true=>
   obtain⟨kvs,eo,_⟩:=dd;subst eo;obtain⟨_,_,_,_,o2,_,_,Hz,ex,_⟩:=ok;exact SA PySem.W.kitx_dict I.kIn ⟨o2,Hz,ex.1⟩ e (fun z=>nomatch z) fin
  |false=>
   obtain⟨kvs,eo,_⟩:=dd;subst eo;obtain⟨_,_,_,_,o2,_,_,Hz,ex,_⟩:=ok;exact SA PySem.W.kitx_dict I.kIn ⟨o2,Hz,ex.1⟩ e (fun z=>nomatch z) fin
theorem tf{T:String}{x:Str}{e:Expr}{f:FO}{p q pos:Pos}(hT:T = "int"\/T = "bool"\/T = "str"\/T = "list"\/T = "tuple"\/T = "dict")(he:QO X e f)(hg:Gl X "isinstance")(hm:X.mg "isinstance" = none)(hg2:Gl X x)(hm2:X.mg x=none)(hv2:bootBuiltins x=some (.type T))(hn:x≠"__name__":=by decide)(HR:(x==("__debug__" : Str))=false:=by decide)
  (hs:starEach [e,.Name x q] X.env=(false,eval e X.env)::starEach [.Name x q] X.env:=by rfl) (hs2:starEach [.Name x q] X.env=(false,eval (.Name x q) X.env)::starEach [] X.env:=by rfl) (Hy:(backTo pos (starEach [.Name x q] X.env)).any (·.1)=false:=by rfl):
  QE X (.Call (.Name "isinstance" p) [e,.Name x q] [] pos) (Mi T f):=
 aY (ph wc hg hm ll (cH he (cH (x5 (v:=.ty T) hg2 hm2 hv2 rfl hn HR) iQ hs2) hs) (by decide) (by decide) hs Hy) fun σ H Q F7=>by
  obtain⟨G,env,fp,r,env',rel,e,k⟩:=F7;obtain⟨⟨o,FY⟩,e1,e⟩:=ah e;obtain⟨d,e2,e⟩:=ah e;cases e;exact⟨G,env,fp,o,_,rel,e1,fun v H1 G1 Gg Gb F0 Hv=>⟨d,v,T,rfl,F0.vwA Hv e2,hT,k _ H1 G1 Gg Gb (F0.push (bW _))⟩⟩
def Hj{α:Type}(f g:PV.Env->Res α):PV.Env->Res α:=fun env=>match f env with
 | .ok a=>.ok a
 |_=>g env
theorem xD{α:Type}{f g:PV.Env->Res α}{env:PV.Env}{a:α}(h:Hj f g env=.ok a):f env=.ok a\/g env=.ok a:=by
 unfold Hj at h;split at h
 ·rename_i b hb;cases h;exact .inl hb
 ·exact .inr h
theorem tj{tg e:Expr}{f g:FI}(h:QI X tg e f)(h2:QI X tg e g):QI X tg e (Hj f g):=fun pr s σ H R I F7=>by
 obtain⟨G,env,fp,ds,env',rel,ee,k⟩:=F7;rcases xD ee with z|z
 ·exact h pr s σ H R I ⟨G,env,fp,ds,env',rel,z,k⟩
 ·exact h2 pr s σ H R I ⟨G,env,fp,ds,env',rel,z,k⟩
end
section
variable{α:Type}
def ins(lt:α->α->Bool)(x:α):List α->List α
 |[]=>[x]
 |y::ys=>if lt y x then y::ins lt x ys else x::y::ys
def bD(lt:α->α->Bool)(l:List α):List α:=l.foldr (ins lt) []
structure Ord(lt:α->α->Bool):Prop where
 irr:∀a,lt a a=false
 trans:∀a b c,lt a b=true->lt b c=true->lt a c=true
 tot:∀a b,lt a b=false->lt b a=false->a=b
theorem lQ(lt:α->α->Bool)(x:α):∀l,(ins lt x l).Perm (x::l)
 |[]=>.refl _
 |y::ys=>by
  unfold ins;split
  ·exact(List.Perm.cons y (lQ lt x ys)).trans (List.Perm.swap x y ys)
  ·exact .refl _
theorem dm(lt:α->α->Bool):∀l,(bD lt l).Perm l
 |[]=>.refl _
 |x::l=>(lQ lt x _).trans (List.Perm.cons x (dm lt l))
theorem kR{lt:α->α->Bool}(o:Ord lt)(x:α):∀l:List α,l.Pairwise (fun a b=>lt b a=false)->(ins lt x l).Pairwise (fun a b=>lt b a=false)
 |[],_=>by simp[ins]
 |y::ys,h=>by
  rw[S7]at h;unfold ins;split
  ·rename_i hy;rw[S7];refine⟨fun z hz=>?_,kR o x ys h.2⟩;rcases Ri.mp ((lQ lt x ys).mem_iff.mp hz) with rfl|hz
   ·cases e:lt z y with
    |false=>rfl
    |true=>
     have:=o.trans y z y hy e;rw[o.irr]at this;cases this
   ·exact h.1 z hz
  ·rename_i hy;have hy:lt y x=false:=by simpa using hy
   rw[S7,S7];refine⟨fun z hz=>?_,h⟩;rcases Ri.mp hz with rfl|KS
   ·exact hy
   ·cases e:lt z x with
    |false=>rfl
    |true=>
     exfalso;cases e2:lt x y with
     |true=>
      have:=o.trans z x y e e2;rw[h.1 z KS]at this;cases this
     |false=>
      have hxy:=o.tot x y e2 hy;rw[hxy,h.1 z KS]at e;cases e
theorem dI{lt:α->α->Bool}(o:Ord lt):∀l:List α,(bD lt l).Pairwise (fun a b=>lt b a=false)
 |[]=>.nil
 |x::l=>kR o x _ (dI o l)
theorem m9{lt:α->α->Bool}(o:Ord lt):∀{a b:List α},a.Perm b->a.Pairwise (fun a b=>lt b a=false)->b.Pairwise (fun a b=>lt b a=false)->a=b
 |[],_,p,_,_=>p.nil_eq
 |x::xs,[],p,_,_=>absurd p.length_eq (by simp)
 |x::xs,y::ys,p,ha,hb=>by
  rw[S7]at ha hb;have hx:x∈y::ys:=p.mem_iff.mp Q2;have hy:y∈x::xs:=p.mem_iff.mpr Q2;have e:x=y:=by
   rcases Ri.mp hx with e|hx
   ·exact e
   ·rcases Ri.mp hy with e|hy
    ·exact e.symm
    ·exact o.tot x y (hb.1 x hx) (ha.1 y hy)
  subst e;rw[m9 o p.cons_inv ha.2 hb.2]
theorem hV{lt:α->α->Bool}(o:Ord lt){l ms:List α}(p:ms.Perm l)(h:ms.Pairwise (fun a b=>lt b a=false)):ms=bD lt l:=m9 o (p.trans (dm lt l).symm) h (dI o l)
end
def ltI(a b:Int):Bool:=decide (a<b)
def J2(a b:List Nat):Bool:=decide (a<b)
theorem y4:Ord ltI:=⟨fun a=>by simp[ltI],fun a b c=>by simp only[ltI,Ro];lia,fun a b=>by simp only[ltI,RZ];lia⟩
theorem oN:Ord J2:=by
 refine⟨fun a=>?_,fun a b c h1 h2=>?_,fun a b h1 h2=>?_⟩
 ·unfold J2;rw[RZ];exact List.lt_irrefl a
 ·unfold J2 at *;rw[Ro] at *;exact List.lt_trans h1 h2
 ·unfold J2 at *;rw[RZ] at *;exact List.le_antisymm (UG.mp h2) (UG.mp h1)
theorem tm:Ord c9:=⟨gF,fV,fW⟩
def eX:List D->Option (List (List Nat))
 |[]=>some []
 | .str b::ds=>(eX ds).map (b:: ·)
 |_=>none
def jH:D->Option Key
 | .int i=>some (.inl i)
 | .str l=>some (.inr (S l))
 |_=>none
def eE:List D->Option (List Key)
 |[]=>some []
 |d::ds=>(jH d).bind fun k=>(eE ds).map (k:: ·)
def eF:D->Option (List Key)
 | .tup ds=>eE ds
 |_=>none
def iX:List D->Option (List (List Key))
 |[]=>some []
 |d::ds=>(eF d).bind fun k=>(iX ds).map (k:: ·)
def kT(k:List Key):D:=.tup (k.map kD)
section
variable{K:W.Frag}{G:Hp}
theorem gM:∀{ds:List D}{bs:List (List Nat)}{xs:List V},eX ds=some bs->Reps K G ds xs->xs=bs.map (fun l=>V.str (S l))/\∀l∈bs,l.length<=sizeLine
 |[],_,_,e,r=>by
  cases e;rw[Reps]at r;exact⟨r,fun _ h=>nomatch h⟩
 |d::ds,_,_,e,r=>by
  cases d with
  |str b=>
   rw[eX,RH]at e;obtain⟨bs,e1,e2⟩:=e;subst e2;rw[Reps]at r;obtain⟨y,ys,e3,r1,r2⟩:=r;obtain⟨h1,h2⟩:=gM e1 r2;obtain⟨h3,h4⟩:=a7 r1;subst h3;refine⟨by rw[e3,h1];rfl,fun l hl=>?_⟩;rcases Ri.mp hl with rfl|hl
   ·exact h4
   ·exact h2 l hl
  |_=>simp[eX]at e
theorem fZ{d:D}{k:Key}{v:V}(e:jH d=some k)(r:Rep K G d v):v=kV k/\d=kD k:=by
 cases d with
 |int i=>
  cases e;exact⟨bo r,rfl⟩
 |str l=>
  cases e;refine⟨(a7 r).1,?_⟩;show D.str l=D.str (S l).cps.toList;rw[cX]
 |_=>cases e
theorem iY:∀{ds:List D}{ks:List Key}{xs:List V},eE ds=some ks->Reps K G ds xs->xs=ks.map kV/\ds=ks.map kD
 |[],_,_,e,r=>by
  cases e;rw[Reps]at r;exact⟨r,rfl⟩
 |d::ds,_,_,e,r=>by
  rw[eE,Sb]at e;obtain⟨k,e1,e⟩:=e;rw[RH]at e;obtain⟨ks,e2,e3⟩:=e;subst e3;rw[Reps]at r;obtain⟨y,ys,e4,r1,r2⟩:=r;obtain⟨h1,h2⟩:=fZ e1 r1;obtain⟨h3,h4⟩:=iY e2 r2;rw[e4,h1,h2,h3,h4];exact⟨rfl,rfl⟩
theorem cw{d:D}{ks:List Key}{v:V}(e:eF d=some ks)(r:Rep K G d v):∃p,v=.ref p/\G p=some (.tup (ks.map kV))/\d=kT ks:=by
 cases d with
 |tup ds=>
  obtain⟨p,xs,ev,g,rs⟩:=sQ r;obtain⟨h1,h2⟩:=iY e rs;subst h1;exact⟨p,ev,g,by rw[h2];rfl⟩
 |_=>cases e
theorem jI:∀{ds:List D}{Ii:List (List Key)}{xs:List V},iX ds=some Ii->Reps K G ds xs->∃al:List (Addr×List Key),xs=al.map (fun a=>V.ref a.1)/\Ii=al.map (·.2)/\ds=al.map (fun a=>kT a.2)/\∀a∈al,G a.1=some (.tup (a.2.map kV))/\Rep K G (kT a.2) (.ref a.1)
 |[],_,_,e,r=>by
  cases e;rw[Reps]at r;exact⟨[],r,rfl,rfl,fun _ h=>nomatch h⟩
 |d::ds,_,_,e,r=>by
  rw[iX,Sb]at e;obtain⟨k,e1,e⟩:=e;rw[RH]at e;obtain⟨ks,e2,e3⟩:=e;subst e3;rw[Reps]at r;obtain⟨y,ys,e4,r1,r2⟩:=r;obtain⟨p,h1,h2,h5⟩:=cw e1 r1;obtain⟨al,h3,h4,h6,h7⟩:=jI e2 r2;subst h1;refine⟨(p,k)::al,by rw[e4,h3];rfl,by rw[h4];rfl,by rw[h5,h6];rfl,fun a ha=>?_⟩;rcases Ri.mp ha with rfl|ha
  ·exact⟨h2,by rw[<-h5];exact r1⟩
  ·exact h7 a ha
theorem eG{α:Type}{f:α->D}{g:α->V}:∀{l:List α},(∀a∈l,Rep K G (f a) (g a))->Reps K G (l.map f) (l.map g)
 |[],_=>Reps.nil
 |a::l,h=>.cons (h a Q2) (eG fun b hb=>h b (Q7 _ hb))
end
def sameKinds(k:List Key)(Ii:List (List Key)):Bool:=!k.isEmpty&&Ii.all fun j=>kinds j==kinds k
noncomputable def jJ(ds:List D):Option (List D):=match dh ds with
 |some ns=>some ((bD ltI ns).map D.int)
 |none=>match eX ds with
  |some ls=>some ((bD J2 ls).map D.str)
  |none=>match iX ds with
   |some (k::Ii)=>if sameKinds k Ii then some ((bD c9 (k::Ii)).map kT) else none
   |_=>none
noncomputable def eI:List D->Res R
 |[.lst ds]=>if ds.length<64 then match jJ ds with
  |some l=>.ok (.l .f,.lst l)
  |none=>.bad
  else .bad
 |[.dct true ks _]=>if ks.length<64 then match ks,iX ks with
  |[],_=>.ok (.l .f,.lst [])
  |_,some (k::Ii)=>if sameKinds k Ii then .ok (.l .f,.lst ((bD c9 (k::Ii)).map kT)) else .bad
  |_,_=>.bad
  else .bad
 |_=>.bad
theorem hW{k:List Key}{Ii:List (List Key)}(h:sameKinds k Ii=true):∃top t,∀j∈k::Ii,kinds j=top::t:=by
 unfold sameKinds at h;rw[Rh,RD]at h;cases k with
 |nil=>simp at h
 |cons a k=>
  refine⟨a.isLeft,kinds k,fun j hj=>?_⟩;rcases Ri.mp hj with rfl|hj
  ·rfl
  ·exact RO.mp (h.2 j hj)
def iZ(H G:Hp):Hp:=fun p=>match H p with
 |some (HO.tup xs)=>some (HO.tup xs)
 |_=>G p
theorem qY{H G:Hp}{p:Addr}{xs:List V}(e:H p=some (.tup xs)):iZ H G p=some (.tup xs):=by
 unfold iZ;rw[e]
theorem jK{H G:Hp}{p:Addr}{u:HO}(e:iZ H G p=some u):G p=some u\/(isT u=true/\H p=some u):=by
 unfold iZ at e;split at e
 ·rename_i xs hx;cases e;exact .inr ⟨rfl,hx⟩
 ·exact .inl e
theorem tq{H G:Hp}(gh:Same G H):Same G (iZ H G):=fun p u e=>by
 unfold iZ;rw[gh p u e];cases u with
 |tup xs=>rfl
 |_=>exact e
theorem Rel.addT{K:W.Frag}{G H:Hp}{es:PV.Env}{vs:L2.St}{fp:List Addr}(q:Rel K G H es vs fp):∃G',Rel K G' H es vs fp/\Step G H fp G' H fp/\∀p xs,H p=some (.tup xs)->G' p=some (.tup xs):=by
 have gg:=tq q.gh;refine⟨iZ H G,⟨q.rep.step gg fun _ _=>rfl,q.nd,fun p hp=>?_,fun p u e=>?_⟩,⟨gg,fun _ _ e _=>e,fun _ h=>.inl h,fun p u e=>(jK e).imp_right fun z=>.inr (.inr z),fun _ u e=>⟨u,e⟩⟩,fun p xs e=>qY e⟩
 ·cases e:iZ H G p with
  |none=>rfl
  |some u=>
   exfalso;rcases jK e with z|⟨t,z⟩
   ·rw[q.gn p hp]at z;cases z
   ·obtain⟨u2,h2,hm⟩:=q.rep.mut p hp;rw[z]at h2;cases h2;cases u with
    |tup _=>cases hm
    |frz _ _=>cases hm
    |_=>cases t
 ·rcases jK e with z|z
  ·exact q.gh p u z
  ·exact z.2
theorem tu{K:W.Frag}{G:Hp}{k:Key}(h:qQ k):Rep K G (kD k) (kV k):=by
 cases k with
 |inl i=>exact bF i
 |inr x=>
  have:=gH (K:=K) (G:=G) (l:=x.cps.toList) h;rw[mJ]at this;exact this
theorem BH(k:Key):jH (kD k)=some k:=by
 cases k with
 |inl i=>rfl
 |inr x=>
  show some (Sum.inr (S x.cps.toList))=_;rw[mJ]
theorem jL:∀ks:List Key,eE (ks.map kD)=some ks
 |[]=>rfl
 |k::ks=>by
  rw[Rl,eE,BH,jL ks];rfl
theorem iK:∀Ii:List (List Key),iX (Ii.map kT)=some Ii
 |[]=>rfl
 |k::Ii=>by
  rw[Rl,iX];show(eE (k.map kD)).bind _=_;rw[jL,iK Ii];rfl
section
variable{X:Cx}
theorem Qo{α:Type}{lt:α->α->Bool}{p:α->α->Prop}(h:∀a b,p a b->lt b a=false){l:List α}(q:l.Pairwise p):l.Pairwise (fun a b=>lt b a=false):=q.imp (h _ _)
theorem jM(hc:X.calm=true):di X (.builtin "sorted") (rC X.K eI):=by
 rintro pr s σ H xs us Q I rx ⟨G,fp,es,vs,ds,r,⟨rel,k⟩,vd,e⟩;unfold eI at e;split at e
 ·rename_i ds;split at e
  ·rename_i JW;split at e
   ·rename_i l hl;cases e;obtain⟨v,ev,p,ys,ep,sq,rs⟩:=mV vd;subst ev;subst ep;unfold jJ at hl;split at hl
    ·rename_i ns MW;cases hl;have hy:=gL MW rs;subst hy;have hlen:ns.length<64:=by have:=rs.length;rw[Q3]at this;lia
     refine jb hc pr s σ H _ us Q I rx ⟨p,ns,rfl,sq,hlen,fun q ms hq pm sm=>?_⟩;have em:=hV y4 pm (Qo (fun a b h=>by unfold ltI;rw[RZ];lia) sm);subst em;obtain⟨FZ,F4⟩:=rel.newL hq (eG (K:=X.K) (G:=G) (f:=D.int) (g:=V.int) fun a _=>bF a);exact k _ _ G _ F4 FZ
    ·split at hl
     ·rename_i ls OH;cases hl;obtain⟨hy,hz⟩:=gM OH rs;subst hy;have hlen:ls.length<64:=by have:=rs.length;rw[Q3]at this;lia
      refine jc hc pr s σ H _ us Q I rx ⟨p,ls,rfl,sq,hlen,fun q ms hq pm sm=>?_⟩;have em:=hV oN pm (Qo (fun a b h=>by unfold J2;rw[RZ];exact h) sm);obtain⟨FZ,F4⟩:=rel.newL hq (eG (K:=X.K) (G:=G) (f:=D.str) (g:=fun l=>V.str (S l)) (l:=ms) fun a ha=>gH (hz a (pm.mem_iff.mp ha)));rw[<-em]at k;exact k _ _ G _ F4 FZ
     ·split at hl
      ·rename_i kk Ii hk;split at hl
       ·rename_i hsk;cases hl;obtain⟨al,h1,h2,h3,h4⟩:=jI hk rs;obtain⟨top,t,Ij⟩:=hW hsk;subst h1;have hlen:al.length<64:=by have:=rs.length;rw[Q3]at this;lia
        refine jd hc pr s σ H _ us Q I rx ⟨p,al,top,t,rfl,sq,fun a ha=>⟨SqT.of (rel.gh _ _ (h4 a ha).1),Ij a.2 (by rw[h2];exact RW.mpr ⟨a,ha,rfl⟩)⟩,hlen,fun q ms hq pm sm=>?_⟩;have em:ms.map (·.2)=bD c9 (kk::Ii):=by
         rw[h2];refine hV tm (pm.map _) ?_;rw[TR];exact sm
        obtain⟨FZ,F4⟩:=rel.newL hq (eG (K:=X.K) (G:=G) (f:=fun a:Addr×List Key=>kT a.2) (g:=fun a=>V.ref a.1) (l:=ms) fun a ha=>(h4 a (pm.mem_iff.mp ha)).2);have ek:ms.map (fun a=>kT a.2)=(bD c9 (kk::Ii)).map kT:=by rw[<-em,Rq];rfl
        rw[ek]at FZ;exact k _ _ G _ F4 FZ
       ·cases hl
      ·cases hl
   ·cases e
  ·cases e
 ·rename_i ks vv;split at e
  ·rename_i JW;obtain⟨v,ev,vt⟩:=mV vd;obtain⟨p,ys,o,ep,rd,dd,rs⟩:=vt;subst ev;subst ep;obtain⟨kvs,eo,ek,ex,Jt⟩:=dd;subst eo;have ek:ks=(kvs.map (·.1)).map kT:=by rw[ek,Rq];rfl
   have hlen:kvs.length<64:=by rw[ek,Q3,Q3]at JW;exact JW
   have go:∀(top:Bool) (t:List Bool),(∀kv∈kvs,kinds kv.1=top::t)->r=(.l .f,.lst ((bD c9 (kvs.map (·.1))).map kT))->wpAny (model X.prog X.w) X.A (call (.builtin "sorted") us) (EP X pr σ Q) X.xe s:=fun top t Ij er=>by
    subst er;refine ku hc pr s σ H _ us Q I rx ⟨p,kvs,top,t,rfl,rd,Ij,hlen,fun q ms hq hm pm sm=>?_⟩;have em:ms.map (·.2)=bD c9 (kvs.map (·.1)):=by
     refine hV tm pm ?_;rw[TR];exact sm
    obtain⟨G2,FZ,F4,ht⟩:=rel.addT;have HJ:∀a∈ms,Rep X.K G2 (kT a.2) (.ref a.1):=fun a ha=>by
     unfold kT;rw[Rep];refine⟨a.1,_,rfl,ht _ _ (hm a ha),?_⟩;refine eG (f:=kD) (g:=kV) fun key HD=>tu ?_
     have:a.2∈kvs.map (·.1):=pm.mem_iff.mp (RW.mpr ⟨a,ha,rfl⟩);obtain⟨kv,HZ,e2⟩:=RW.mp this;exact Jt kv HZ key (by rw[e2];exact HD)
    obtain⟨Gj,Gn⟩:=FZ.newL hq (eG (K:=X.K) (G:=G2) (f:=fun a:Addr×List Key=>kT a.2) (g:=fun a=>V.ref a.1) (l:=ms) HJ);have ek:ms.map (fun a=>kT a.2)=(bD c9 (kvs.map (·.1))).map kT:=by rw[<-em,Rq];rfl
    rw[ek]at Gj;exact k _ _ G2 _ (F4.trans Gn) Gj
   rw[ek,iK]at e;split at e
   ·rename_i hnil;cases e;have:kvs=[]:=by
     cases kvs with
     |nil=>rfl
     |cons a b=>cases hnil
    subst this;exact go true [] (fun _ h=>nomatch h) rfl
   ·rename_i kk Ii heq Iu;split at e
    ·rename_i hsk;cases e;obtain⟨top,t,Ij⟩:=hW hsk;have heq:kvs.map (·.1)=kk::Ii:=by
      injection heq
     refine go top t (fun kv HZ=>Ij kv.1 ?_) (by rw[heq]);rw[<-heq];exact RW.mpr ⟨kv,HZ,rfl⟩
    ·cases e
   ·cases e
  ·cases e
 ·cases e
def Ju(a b:D):Res R:=match eF a,eF b with
 |some ks,some js=>if kinds ks==kinds js then .ok (.f,.bl (c9 ks js)) else .bad
 |_,_=>MZ a b
def NG(a b:D):Res R:=match eF a,eF b with
 |some ks,some js=>if kinds ks==kinds js then .ok (.f,.bl (!c9 ks js)) else .bad
 |_,_=>match a,b with
  | .str a,.str b=>.ok (.f,.bl (!decide (a<b)))
  |a,b=>Pq a b
theorem pS(hu:X.A.units<cLine):GH X (compareOp .Lt) (rG X.K Ju):=by
 rintro pr s σ H x y v u Q I rx ry ⟨G,fp,es,vs,a,b,r,⟨rel,k⟩,va,vb,e⟩;unfold Ju at e;split at e
 ·rename_i ks js h1 h2;split at e
  ·rename_i hk;cases e;have ra:Rep X.K G a x:=by cases a <;> first|exact va|cases h1
   have rb:Rep X.K G b y:=by cases b <;> first|exact vb|cases h2
   obtain⟨p,e1,g1,_⟩:=cw h1 ra;obtain⟨p2,e2,g2,_⟩:=cw h2 rb;subst e1;subst e2;exact Bp hu pr s σ H _ _ v u Q I rx ry ⟨p,p2,ks,js,rfl,rfl,SqT.of (rel.gh _ _ g1),SqT.of (rel.gh _ _ g2),RO.mp hk,k _ H G fp .refl (rel.push (bW _))⟩
  ·cases e
 ·exact DR pr s σ H x y v u Q I rx ry ⟨G,fp,es,vs,a,b,r,⟨rel,k⟩,va,vb,e⟩
theorem BI(hu:X.A.units<cLine):GH X (compareOp .GtE) (rG X.K NG):=by
 rintro pr s σ H x y v u Q I rx ry ⟨G,fp,es,vs,a,b,r,⟨rel,k⟩,va,vb,e⟩;unfold NG at e;split at e
 ·rename_i ks js h1 h2;split at e
  ·rename_i hk;cases e;have ra:Rep X.K G a x:=by cases a <;> first|exact va|cases h1
   have rb:Rep X.K G b y:=by cases b <;> first|exact vb|cases h2
   obtain⟨p,e1,g1,_⟩:=cw h1 ra;obtain⟨p2,e2,g2,_⟩:=cw h2 rb;subst e1;subst e2;exact Bq hu pr s σ H _ _ v u Q I rx ry ⟨p,p2,ks,js,rfl,rfl,SqT.of (rel.gh _ _ g1),SqT.of (rel.gh _ _ g2),RO.mp hk,k _ H G fp .refl (rel.push (bW _))⟩
  ·cases e
 ·split at e
  ·rename_i l l';cases e;obtain⟨e1,h1⟩:=eU va;obtain⟨e2,h2⟩:=eU vb;subst e1;subst e2;obtain⟨t,rfl⟩:=rx;obtain⟨t',rfl⟩:=ry;refine PySem.P.ge_str ?_;rw[cX,cX];exact⟨.bl _,H,I,rfl,k _ H G fp .refl (rel.push (bW _))⟩
  ·exact DS pr s σ H x y v u Q I rx ry ⟨G,fp,es,vs,_,_,r,⟨rel,k⟩,va,vb,e⟩
end
def eNewD(tk:Bool):FX:=fun env=>.ok ((.d,.dct tk [] []),env)
section
variable{md:Mode}{X:Cx}
def oO(ks vs:List D)(k v:D):List D×List D:=if ks.any (F3 k) then(ks,(ks.zip vs).map fun p=>if F3 k p.1 then v else p.2) else(ks++[k],vs++[v])
def dR(tk:Bool)(k:D):Bool:=if tk then(eF k).isSome else(jH k).isSome
noncomputable def FR(i:Nat)(fk fv:FX):FS:=fun env=>(fv env).bind fun p=>(fk p.2).bind fun q=>match p.2[i]?,q.2[i]? with
 |some (some _),some (some (.d,.dct tk ks vs))=>if dR tk q.1.2&&decide (ks.length<sizeLine) then .ok (.nx (q.2.set i (some (.d,.dct tk (oO ks vs q.1.2 p.1.2).1 (oO ks vs q.1.2 p.1.2).2)))) else .bad
 |_,_=>.bad
theorem tw(a b:Key):F3 (kD a) (kD b)=decide (a=b):=by
 cases a with
 |inl i=>
  cases b with
  |inl j=>simp only[kD,F3];rw[RG];simp
  |inr y=>simp only[kD,F3];simp
 |inr x=>
  cases b with
  |inl j=>simp only[kD,F3];simp
  |inr y=>
   simp only[kD,F3];rw[RG];simp only[RO,Ro,Sum.inr.injEq];exact⟨fun h=>by rw[<-mJ x,<-mJ y,h],fun h=>by rw[h]⟩
theorem tF:∀a b:List Key,iW (a.map kD) (b.map kD)=decide (a=b)
 |[],[]=>by simp[iW]
 |[],_::_=>by simp[iW]
 |_::_,[]=>by simp[iW]
 |a::r,b::t=>by
  rw[Rl,Rl,iW,tw,tF r t,RG];simp
theorem xE(a b:List Key):F3 (kT a) (kT b)=decide (a=b):=by
 unfold kT;rw[F3];exact tF a b
theorem ng{κ:Type}[DecidableEq κ]{K:W.Frag}{G:Hp}(f:κ->D)(hf:∀a b,F3 (f a) (f b)=decide (a=b)){kvs:List (κ×V)}{vs:List D}{k:κ}{v:D}{y:V}(r:Reps K G vs (kvs.map (·.2)))(ry:Rep K G v y):
  (je kvs k y).map (fun kv=>f kv.1)=(oO (kvs.map fun kv=>f kv.1) vs (f k) v).1/\Reps K G (oO (kvs.map fun kv=>f kv.1) vs (f k) v).2 ((je kvs k y).map (·.2)):=by
 have e:(kvs.map fun kv=>f kv.1).any (F3 (f k))=kvs.any fun kv=>decide (kv.1=k):=by
  rw[Tv];congr 1
  funext kv
  show F3 (f k) (f kv.1)=_;rw[hf,RG];simp only[Ro];exact⟨fun z=>z.symm,fun z=>z.symm⟩
 unfold oO je;rw[e];split
 ·refine⟨?_,?_⟩
  ·rw[Rq];refine R5 fun kv _=>?_
   show f (if kv.1=k then(kv.1,y) else kv).1=f kv.1;split <;> rfl
  ·rename_i hany;clear e hany;induction kvs generalizing vs with
   |nil=>
    have:vs=[]:=RT (by rw[<-r.length];rfl);subst this;exact Reps.nil
   |cons kv kvs ih=>
    cases vs with
    |nil=>have:=r.length;simp at this
    |cons d vs=>
     rw[Rl,Reps.cons_iff]at r;rw[Rl,Sl,Rl,Rl,Rl];refine .cons ?_ (ih r.2);show Rep K G (if F3 (f k) (f kv.1)=true then v else d) (if kv.1=k then(kv.1,y) else kv).2;rw[hf];by_cases hk:kv.1=k
     ·rw[Rb (by simp[hk]),Rb hk];exact ry
     ·rw[Rg (by simp;exact fun z=>hk z.symm),Rg hk];exact r.1
 ·refine⟨?_,?_⟩
  ·rw[Rw];rfl
  ·rw[Rw];exact r.app (.one ry)
theorem Rel.chgD{K:W.Frag}{G H:Hp}{es:PV.Env}{vs:L2.St}{fp:List Addr}{i:Nat}{tk:Bool}{ks ws:List D}(q:Rel K G H es vs fp)(e:es[i]?=some (some (.d,.dct tk ks ws))):∃p xs u,vs[i]?=some (some (.ref p))/\H p=some u/\DictO u tk ks xs/\Reps K G ws xs/\
  ∀u' Hu Hq Km,DictO u' tk Hu Hq->Reps K G Km Hq->∃fq,Rel K G (upd H p u') (es.set i (some (.d,.dct tk Hu Km))) vs fq/\Step G H fp G (upd H p u') fq:=by
 obtain⟨v,fq,ev,g,st,HI⟩:=q.out e;obtain⟨y,ys,e0,v',a,b,e1,e2,r1,r2⟩:=g.rep;cases e0;cases e1;rw[RepO]at r1;obtain⟨p,xs,u,e3,hp,dd,e4,rs⟩:=r1;subst e3;subst e4;subst e2;have nd:=Rx.mp (show(p::b).Nodup from g.nd);refine⟨p,xs,u,ev,hp,dd,rs,fun u' Hu Hq Km K3 H0=>?_⟩;have g2:Rel K G (upd H p u') (some (.d,.dct tk Hu Km)::es.set i none) (some (.ref p)::vs) (p::b):=by
  refine⟨⟨some (.ref p),vs,rfl,.ref p,[p],b,rfl,rfl,?_,r2.step (.refl _) fun z hz=>av fun e=>nd.1 (e▸hz)⟩,g.nd,g.gn,fun z o ez=>?_⟩
  ·rw[RepO];exact⟨p,Hq,u',rfl,aM,K3,rfl,H0⟩
  ·have:z≠p:=fun w=>by
    subst w;rw[g.gn z Q2]at ez;cases ez
   rw[av this];exact g.gh z o ez
 have Me:Step G H (p::b) G (upd H p u') (p::b):=by
  refine⟨.refl _,fun z o ez nz=>?_,fun z hz=>.inl hz,fun z o ez=>.inl ez,fun z o ez=>?_⟩
  ·have:z≠p:=fun w=>nz (by rw[w];exact Q2)
   rw[av this];exact ez
  ·by_cases w:z=p
   ·subst w;exact⟨_,aM⟩
   ·exact⟨o,by rw[av w];exact ez⟩
 obtain⟨fz,g3,Gn⟩:=g2.back (i:=i) (by rw[RN];exact(List.getElem?_eq_some_iff.mp e).1) ev;rw[Sj]at g3;exact⟨fz,g3,st.trans (Me.trans Gn)⟩
theorem tG{K:W.Frag}{G:Hp}{d:D}{k:Key}{v:V}(e:jH d=some k)(r:Rep K G d v):qQ k:=by
 cases d with
 |int i=>cases e;trivial
 |str l=>
  cases e;show(S l).cps.toList.length<=sizeLine;rw[cX];exact(a7 r).2
 |_=>cases e
theorem tH{K:W.Frag}{G:Hp}:∀{ds:List D}{ks:List Key}{xs:List V},eE ds=some ks->Reps K G ds xs->∀k∈ks,qQ k
 |[],_,_,e,_=>by
  cases e;exact fun _ h=>nomatch h
 |d::ds,_,_,e,r=>by
  rw[eE,Sb]at e;obtain⟨k,e1,e⟩:=e;rw[RH]at e;obtain⟨ks,e2,e3⟩:=e;subst e3;rw[Reps]at r;obtain⟨y,ys,e4,r1,r2⟩:=r;intro z hz;rcases Ri.mp hz with rfl|hz
  ·exact tG e1 r1
  ·exact tH e2 r2 z hz
theorem pT{κ:Type}[DecidableEq κ]{P:κ->Prop}{kvs:List (κ×V)}{k:κ}{y:V}(h:∀kv∈kvs,P kv.1)(hk:P k):∀kv∈je kvs k y,P kv.1:=by
 intro kv HZ;unfold je at HZ;split at HZ
 ·obtain⟨z,hz,e⟩:=RW.mp HZ;rw[<-e];split
  ·exact h z hz
  ·exact h z hz
 ·rcases RA.mp HZ with HZ|HZ
  ·exact h kv HZ
  ·rw[Ry]at HZ;rw[HZ];exact hk
end
end PV
namespace NX
open PySem PySem.Spec PyProof.Rows L2
section
variable{prog:Program}{w:World}{A:Around}{E:Value->Shared->Prop}{s:Shared}{d:Addr}{es:Array DictEntry}{ep:Nat}
theorem lR(nm:(d==sysModules)=false):MeetsIn prog w (Builtin.«dict.__len__» ⟨[.ref d],[]⟩) (fun _ R s=>RawD s.heap d es ep/\R (.ok (.ret (.int es.size s.toks))) {s with toks:=s.toks+1}):=
 .of_wp fun A R s F7=>by
  obtain⟨⟨o,g,_,dat⟩,h⟩:=F7;show wpAny _ _ (dictSize d >>= fun _=>_) _ _ s;unfold dictSize;refine Q1 (Q1 (TQ g dat (Q6 ?_)));show wpAny _ _ (Builtin.Dict.pendingCount d >>= fun _=>_) _ _ s;refine Q1 (wpAny_pendingCount_other nm (wpAny_ret_mkInt ?_));rw[Nat.add_zero];exact h
theorem y6{Q:Value->Shared->Prop}(nm:(d==sysModules)=false)(x:RawD s.heap d es ep)(hf:(es.size:Int)<2 ^ 63)(h:Q (.int es.size (s.toks+1)) {s with toks:=s.toks+1+1}):wpAny (model prog w) A (call (.builtin "len") [.ref d]) Q E s:=by
 have ty:=jq x;refine Tg kind_len plain_len entry_len (args_len1 _) ?_;unfold Builtin.«len»;refine Q1 (m:=oneArg "len" _) (Q6 (Q1 (m:=callSpecial? (.ref d) (Str.ofString "__len__")) (wpAny_callSpecial?_slot (name:=Str.ofString "__len__") ty F.slot_dict_len
  (call_meetsIn F.slot_dict_len ty F.entry_dict_len (F.args_dict_len_1 _) (lR (es:=es) (ep:=ep) nm) ⟨x,?_⟩))))
 show wpAny _ _ _ _ _ {s with toks:=s.toks+1};refine Q1 (SJ (Q6 (Q1 (Tp ?_))));show wpAny _ _ (if((es.size:Nat):Int)<0 then _ else _) _ _ _;rw[Rg (Int.not_lt.mpr (Int.natCast_nonneg _))];show wpAny _ _ (if((es.size:Nat):Int)>=2 ^ 63 then _ else _) _ _ _;rw[Rg (Int.not_le.mpr hf)];exact Q1 (wpAny_mkInt (Q6 ⟨_,rfl,h⟩))
end
end NX
namespace PV
open PySem PySem.Spec PyProof.Rows L2 NX
section
variable{X:Cx}
def jN:List D->Res R
 |[.dct _ ks _]=>.ok (.f,.int ks.length)
 |ds=>DV ds
theorem BJ{pr:List (Addr×Obj)}{σ:L2.St}{H:Hp}{s:Shared}(I:Inv X pr σ H s){p:Addr}{o:HO}{tk:Bool}{ks:List D}{xs:List V}(rd:Rd H p o)(dd:DictO o tk ks xs):(p==sysModules)=false/\∃es ep,RawD s.heap p es ep/\es.size=ks.length/\ks.length<=sizeLine:=by
 have ok:=rd.ok I.hok;cases tk with
 |true=>
  obtain⟨kvs,eo,ek,_⟩:=dd;subst eo;obtain⟨z,nm,ws,r,o2,es,ep,h1,h2,h3,h4,_⟩:=ok;refine⟨nm,es,ep,⟨o2,h1,h2,h3⟩,?_,by rw[ek,Q3];exact z⟩;have:=R7 List.length h4;rw[Q3,R4,<-T7 r]at this;rw[ek,Q3];exact this
 |false=>
  obtain⟨kvs,eo,ek,_⟩:=dd;subst eo;obtain⟨z,nm,ws,r,o2,es,ep,h1,h2,h3,h4,h5,_⟩:=ok;refine⟨nm,es,ep,⟨o2,h1,h2,h3⟩,?_,by rw[ek,Q3];exact z⟩;have l1:=h5.length;have l2:kvs.length=ws.length:=T7 r;rw[ek,Q3];rw[R4]at l1;lia
theorem dS:di X (.builtin "len") (rC X.K jN):=by
 rintro pr s σ H xs us Q I rx ⟨G,fp,es,vs,ds,r,⟨rel,k⟩,vd,e⟩;unfold jN at e;split at e
 ·rename_i tk ks ws;cases e;obtain⟨v,ev,p,ys,o,ep,rd,dd,_⟩:=mV vd;subst ev;subst ep;obtain⟨u,rfl,ru⟩:=e8 rx;cases ru;obtain⟨nm,en,ep,raw,h1,h2⟩:=BJ I rd dd;refine y6 nm raw (by rw[h1];rw[R0]at h2;lia) ?_;refine⟨.int ks.length,H,I.tok _,⟨_,by rw[h1]⟩,k _ H G fp .refl (rel.push (bF _))⟩
 ·exact BB pr s σ H xs us Q I rx ⟨G,fp,es,vs,_,r,⟨rel,k⟩,vd,e⟩
def DY(g:List Nat->List D->Res R)(fa:FO)(fs:FOs):FX:=fun env=>(fa env).bind fun p=>match Hi p.2 p.1 with
 | .ok (.str l)=>(fs p.2).bind fun q=>(ou q.2 q.1).bind fun ds=>(g l ds).bind fun r=>.ok (r,q.2)
 |_=>.bad
inductive rMtS(K:W.Frag)(g:List Nat->List D->Res R)(x:V)(xs:List V)(H:Hp)(Q:VK):Prop
 |mk:∀G fp es vs l ds r,Goes K H G fp es vs r Q->x=.str (S l)->l.length<=sizeLine->LO K G H ds xs->g l ds=.ok r->rMtS K g x xs H Q
theorem BK{g:List Nat->List D->Res R}{id:String}{name:Str}{o e:Expr}{es:List Expr}{fa:FO}{fs:FOs}{apos Gd:Pos}(slot:Slot "str" name id)(JT:typeOf (.builtin id)=pure (.type "method_descriptor"))(hm:KZ X id (rMtS X.K g))(ho:QO X o fa)(ha:JX X (e::es) fs)
  (GD:attributeBase o name X.env (eval o X.env)=eval o X.env:=by rfl)
  (Ig:((backTo Gd (starEach (e::es) X.env)).all (fun x=>!x.1)&&(backToKw Gd (keywordEach [] X.env)).all (fun x=>x.1.isSome)&&decide ((e::es).length+([]:List Keyword).length+(if([]:List Keyword).isEmpty then 0 else 1)<30))=true:=by rfl)
  (GF:(apos.endLine==Gd.line)=true:=by rfl) (hs:starEach (e::es) X.env=(false,eval e X.env)::starEach es X.env:=by rfl) (GO:(backTo Gd (starEach es X.env)).any (·.1)=false:=by rfl):
  QE X (.Call (.Attribute o name apos) (e::es) [] Gd) (DY g fa fs):=by
 refine aY (yq PySem.F.plainAttrs_str slot JT hm ho ha GD Ig GF hs GO) fun σ H Q Gf=>?_
 obtain⟨G,env,fp,r,env',rel,e,k⟩:=Gf;obtain⟨⟨oa,FY⟩,e1,e⟩:=ah e;dsimp only at e;split at e
 ·rename_i l hl;obtain⟨⟨os,F5⟩,e2,e⟩:=ah e;obtain⟨ds,e3,e⟩:=ah e;obtain⟨r',e4,e⟩:=ah e;cases e;refine⟨G,env,fp,oa,FY,rel,e1,fun v H1 G1 Gg Gb F0 Hv=>?_⟩;obtain⟨ev,hz⟩:=eU (F0.vw Hv hl);subst ev;exact⟨rfl,G1,FY,Gg,os,F5,F0,e2,fun vs H2 G2 Gv F4 FZ JZ=>⟨G2,Gv,F5,σ,l,ds,r,⟨FZ,fun v H' G' F2 st Gq=>k v H' G' F2 (Gb.trans (F4.trans st)) Gq⟩,rfl,hz,FZ.vws JZ e3,e4⟩⟩
 ·cases e
end
theorem fnok_of{P:Program}{w:World}{K:W.Frag}{mg:Str->Option Value}{base:Heap}{x:Str}{st:Stmt}{N ps:List Str}{k:Nat}{g:FS}{f:Addr}{fd:FuncData}(F:Fun K x x st f fd)(sc:FnScope N ps (defScope st))
  (body:∀(Gp:Value) (A:Around) (outer:List PySem.Env) (s:Shared) (H:Hp) (E:XK),Room k (A.deeper (envOfC x (defScope st) s.heap.objs.size f Gp))->JY (md:=.plain) (u0 JU P w K mg base N x (defScope st) f Gp A outer s H E).nox (cv st) g):
  FnOk P w K mg base JU (k+1) f fd ps (spF K (fBody ps.length (N.length-ps.length) g)):=by
 refine F.ok sc (fun vs H Q E h=>?_) (fun Gp A outer s H vs Q E hr h=>?_)
 ·obtain⟨G,ds,r,_,rs,e,_⟩:=h;unfold fBody at e;split at e
  ·rename_i hl;rw[rs.length,hl]
  ·cases e
 ·obtain⟨G,ds,r,gh,rs,e,q⟩:=h;unfold fBody at e;split at e
  ·rename_i hl;refine⟨_,body Gp A outer s H E hr,G,ds.map (fun d=>some (O.f,d))++List.replicate (N.length-ps.length) none,[],⟨?_,SM,(fun _ h=>nomatch h),gh⟩,?_⟩
   ·have:=fe (K:=K) (G:=G) (H:=H) (N.length-ps.length) rs;unfold L2.ja;rw[rs.length,hl];exact this
   ·obtain⟨o,eo,e⟩:=ah e;rw[eo];cases o with
    |rt r'=>
     cases e;exact fun v H' G' F2 st rel=>q v H' G' F2 st rel
    |nx env'=>
     cases e;exact fun σ' H' G' F2 st rel=>q .non H' G' [] (st.trans (Step.cut fun _ h=>nomatch h)) (rel.nilF.push lK)
    |bk env'=>cases e
    |ct env'=>cases e
  ·cases e
def we(K:W.Frag):Sp:=fun vs H Q _=>∃(a:Addr) (ns:List Int),vs=[.ref a]/\SqL K H a (ns.map V.int)/\ns.length<=63/\∀H',Q (.bl true) H'
theorem BL{K:W.Frag}{F:List D->Res R}(h:∀ns:List Int,ns.length<=63->∃o,F [.lst (ns.map D.int)]=.ok (o,.bl true)):∀vs H Q E,we K vs H Q E->spF K F vs H Q E:=by
 rintro vs H Q E ⟨a,ns,rfl,sq,hl,q⟩;obtain⟨o,e⟩:=h ns hl;refine⟨H,_,_,.refl _,?_,e,fun v H' G' F2 st rel=>?_⟩
 ·refine .one ?_;rw[Rep];exact⟨a,_,rfl,sq,eG fun n _=>bF n⟩
 ·rw[cG rel.top];exact q H'
theorem _root_.L2.Room.u65{k:Nat}{A:Around}(r:Room k A):A.units+65<cLine:=by have:=r.un;lia
def BM(f:FX)(a:FG):FS:=fun env=>(f env).bind fun p=>(a p.1.2 p.2).bind fun e=>.ok (.nx e)
theorem xF{X:Cx}{tg e:Expr}{f:FX}{a:FG}{pos:Pos}(he:QE X e f)(hg:QG X tg a)(hs:swapsWithSole [tg] e pos.line X.env=pure false:=by rfl)(hw:swappedStores [tg] e X.env=pure none:=by rfl)
  (h1:(assignEach [tg] X.env).map (·.2)=[assign tg X.env]:=by rfl):QS (md:=md) X (.Assign [tg] e pos) (BM f a):=dZ (AV he hg hs hw h1) fun Dd σ H F7=>by
 obtain⟨G,env,fp,rel,k⟩:=F7;unfold BM at k;match q:f env,k with
 | .ok (r,FY),k=>
  have k:OutOk X.K G H fp Dd ((a r.2 FY).bind fun e=>.ok (.nx e)):=k;match q2:a r.2 FY,k with
  | .ok F5,k=>
   refine⟨G,env,fp,r,FY,rel,q,fun v H1 G1 Gg Gb F0=>?_⟩;obtain⟨G2,b,rv,FZ,F4⟩:=F0.freeze;exact⟨G2,FY,b,r.2,F5,FZ,rv,q2,fun σ' G' F2 st Gq=>k σ' H1 G' F2 (Gb.trans (F4.trans st)) Gq⟩
theorem walk{l:PySem.W.OpenLaw}{q:Program}{loose:List Str}{XP:(Str->Option Value)->Heap->Prop}{YP:World->Heap->Prop}{d:DefRec}{K:Params->W.Frag}{k:Nat}{x:Str}(hn:l.most=some 63)(Nm:d.params.defaults=[])(hr:Room k PySem.callerA)
  (hY:∀(w:World) (h:Heap),YP w h->(K w.params).In h)
  (F:∀(w:World) (mg:Str->Option Value) (fa:Addr) (h:Heap),(K w.params).In h->h.Ns mainGlobals mg->mg d.name=some (.ref fa)->
   ∃fd:FuncData,(∀(s:Shared) (u:Value),BindsTo s fd ⟨[u],[]⟩ [(x,u)])/\∀base:Heap,(K w.params).In base->base.Ns mainGlobals mg->FnOk l.prog w (K w.params) mg base JU k fa fd [x] (we (K w.params))):
  PySem.W.WalkO q loose XP YP l.row.toRowW d [] (fun f vs=>PySem.call f vs):=
 L2.yt (n:=63) (k:=k) (x:=x) (CX:=fun _=>JU) (sp:=fun w=>we (K w.params)) hn (by decide) Nm hr hY F (fun _ _ a ns hl _ hS=>⟨a,ns,rfl,hS,hl,fun _=>rfl⟩) fun _ _ _ _ _ z=>z
theorem tI:bootBuiltins "max" = some (.builtin "max"):=by decide +kernel
theorem BN:bootBuiltins "all" = some (.builtin "all"):=by decide +kernel
theorem jO:bootBuiltins "sorted" = some (.builtin "sorted"):=by decide +kernel
theorem cj{K:W.Frag}{h:Heap}{mg:Str->Option Value}{x:Str}{st:Stmt}{f:Addr}{oc:Value}{od an:Option Addr}{KO:Array (Option Value)}{kV doc pm Gp ct:Value}(X:K.In h)(G:h.Ns mainGlobals mg)
  (a:PySem.W.nsIn K mainGlobals x=some (some (.ref f))) (l:K.lookup f=some ⟨oc,od,.func (PySem.W.fnOf x x (dQ st) (cv st) (defScope st) .none kV doc pm an Gp ct),KO⟩)
  (c:PySem.W.codeIn K Gp x=true) (k:PySem.W.keepIn K (.ref f)=true):Def K mg x st:=⟨f,_,xn l c k,PySem.W.mg_of X G a⟩
inductive tQL(K:W.Frag)(f:FI)(σ:L2.St)(H:Hp)(R:It->Hp->Prop):Prop
 |mk:∀G env fp ds env',Rel K G H env σ fp->f env=.ok (ds,env')->(∀J H' G' F2,Step G H fp G' H' F2->Rel K G' H' env' σ F2->(∀G2,Same G' G2->(∀(i:Nat) (r:PV.R) (v:V),env'[i]?=some (some r)->σ[i]?=some (some v)->Rep K G2 r.2 v)->Walk K G2 J ds)->R J H')->tQL K f σ H R
def Mj(X:Cx)(tg e:Expr)(f:FI):Prop:=PI X tg e (tQL X.K f)
theorem Walk.mono{K:W.Frag}{G G2:Hp}{J:It}{ds:List D}(w:Walk K G J ds)(gg:Same G G2):Walk K G2 J ds:=fun G' H' es vs fp g rel=>w G' H' es vs fp (gg.trans g) rel
theorem xG{K:W.Frag}{fi:FI}{ix:List (Option Nat)}{a:FG}{c:FT}{f:FX}{σ:L2.St}{H:Hp}{Q:VK}(h:tQ K (dj fi ix a c f) σ H Q):yw (tQL K fi) ix (tQG K a) (tQT K c) (tQ K f) σ H Q:=by
 obtain⟨G,env,fp,r,env',rel,e,k⟩:=h;obtain⟨⟨ds,FY⟩,e1,e⟩:=ah e;obtain⟨rs,e2,e⟩:=ah e;refine⟨G,env,fp,ds,FY,rel,e1,fun J H1 G1 Gg Gb F0 wk D hD=>?_⟩;dsimp only at e e2;split at e
 ·rename_i hz;have er:r=(.l .f,.lst rs):=by cases e;rfl
  have ee:env'=if flatDs rs then FY else FY.map frz:=by cases e;rfl
  subst er;obtain⟨G2,K7,Mf,HJ,hrE,HK⟩:=F0.lend;have wk2:=wk G2 K7 HJ;have FZ:Rel K G2 H1 (dv ix FY) (kH ix σ) []:=⟨fg HJ (fun i r er=>let⟨v,ev,_⟩:=F0.view er;⟨v,ev⟩) ix,SM,(fun _ h=>nomatch h),Mf⟩
  obtain⟨Gj,Gn⟩:=FZ.newL (ds:=[]) (xs:=[]) hD .nil;refine⟨fun i m σ1 H2=>m=ds.length-i/\i<=ds.length/\∃G' es F2 acc dq,Step G2 H1 [] G' H2 F2/\Rel K G' H2 (some (.l .f,.lst acc)::es) (some (.ref D)::σ1) F2/\cO a c f (ds.drop i) es=.ok dq/\acc++dq=rs,
   ⟨_,rfl,RM _,G2,dv ix FY,_,[],rs,Gn,Gj,e2,rfl⟩,?_⟩
  rintro i m σ1 H2 ⟨rfl,hi,G3,es,Ha,acc,dq,GZ,Gw,e4,Ks⟩;obtain⟨w1,w2⟩:=wk2 G3 H2 _ _ _ GZ.gg Gw i;by_cases Gy:i<ds.length
  ·have hd:ds[i]?=some ds[i]:=List.getElem?_eq_getElem Gy;obtain⟨go,yl⟩:=w1 _ hd;rw[Ti Gy]at e4;unfold cO at e4;obtain⟨Qp,h1,e4⟩:=ah e4;obtain⟨⟨b,NH⟩,h2,e4⟩:=ah e4;dsimp only at e4;refine .inr ⟨go,fun x H3 y=>?_⟩;obtain⟨G4,rx,Hx,Ic⟩:=yl x H3 y;obtain⟨fa,fb,OI,ra,Mk,bk⟩:=Hx.frame;refine⟨G4,es,fb,ds[i],Qp,Mk,rx,h1,fun σ2 G5 NI NJ Kt=>?_⟩;refine⟨G5,Qp,NI,b,NH,Kt,h2,fun H6 G6 M3 st7 NK=>?_⟩;have NL:=NJ.trans st7;cases b with
   |false=>
    refine iteF ⟨ds.length-(i+1),by lia,rfl,Gy,?_⟩;obtain⟨Jv,Kc⟩:=bk G6 H6 NH σ2 M3 NL NK;rw[<-OI]at Kc;exact⟨G6,NH,_,acc,dq,GZ.trans (Ic.trans Kc),Jv,e4,Ks⟩
   |true=>
    have e4:((f NH).bind fun q=>(cO a c f (ds.drop (i+1)) q.2).bind fun rs=>.ok (q.1.2::rs))=.ok dq:=e4;obtain⟨⟨r,Pt⟩,h3,e4⟩:=ah e4;obtain⟨NM,h4,e4⟩:=ah e4;cases e4;refine C4 ⟨G6,NH,M3,r,Pt,NK,h3,fun v H7 G7 fp7 st8 rel8=>?_⟩;obtain⟨G8,fp8,rv,rel9,st9⟩:=rel8.freeze;obtain⟨Jv,Kc⟩:=bk G8 H7 Pt σ2 fp8 (NL.trans (st8.trans st9)) rel9;rw[<-OI]at Kc;obtain⟨p,xs,ep,hp,ND,cg⟩:=Jv.chg (i:=0) (ds:=acc) (ds':=acc++[r.2]) rfl;have ep:some (some (V.ref D))=some (some (V.ref p)):=ep;cases ep;obtain⟨fq,rely,sty⟩:=cg (xs++[v]) (ND.app (.one rv));refine⟨xs,hp,?_,ds.length-(i+1),by lia,rfl,Gy,G8,Pt,fq,acc++[r.2],NM,GZ.trans (Ic.trans (Kc.trans sty)),rely,h4,?_⟩
    ·rw[ND.length];have:=R7 List.length Ks;rw[RC,Rk]at this;lia
    ·rw[<-Ks,RK];rfl
  ·have ei:i=ds.length:=by lia
   subst ei;rw[UN]at e4;cases e4;rw[Ru]at Ks;subst Ks;refine .inl ⟨w2 rfl,?_⟩;obtain⟨fa,relo,sto⟩:=Gw.only;obtain⟨k1,k2⟩:=HK H2 G3 fa _ _ (GZ.trans sto) relo;rw[ee]at k;by_cases hc:flatDs acc=true
   ·rw[Rb hc]at k;obtain⟨G5,NI,Ic,Hx⟩:=k1 (by rw[aE,jr];exact hc);exact k _ H2 G5 NI (Gb.trans Ic) Hx
   ·rw[Rg hc]at k;obtain⟨G5,NI,Ic,Hx⟩:=k2;exact k _ H2 G5 NI (Gb.trans Ic) Hx
 ·cases e
section
variable{md:Mode}{X:Cx}{scope:Scope}{N:List Str}{tg iter elt:Expr}{ifs:List Expr}{pos:Pos}{fi:FI}{a:FG}{c:FT}{f:FX}
variable{l e:Expr}{g fj:FI}
theorem bQ(h:QI X tg e fi):Mj X tg e fi:=jD h fun σ H R ⟨G,env,fp,ds,env',rel,e,k⟩=>⟨G,env,fp,ds,env',rel,e,fun J H' G' F2 st Gq wk=>k J H' G' F2 st Gq fun _ gg _=>wk.mono gg⟩
theorem dJ(h:Mj X tg e fi)(h2:Mj X tg e fj):Mj X tg e (Hj fi fj):=fun pr s σ H R I F7=>by
 obtain⟨G,env,fp,ds,env',rel,ee,k⟩:=F7;rcases xD ee with z|z
 ·exact h pr s σ H R I ⟨G,env,fp,ds,env',rel,z,k⟩
 ·exact h2 pr s σ H R I ⟨G,env,fp,ds,env',rel,z,k⟩
def iL(i:Nat):FI:=fun env=>match env[i]? with
 |some (some (_,.lst ds))=>.ok (ds,env)
 |_=>.bad
theorem gN{i:Nat}(h:PE X l (pe i)):Mj X tg l (iL i):=jD (rO h) fun σ H R F7=>by
 obtain⟨G,env,fp,ds,env',rel,e,k⟩:=F7;unfold iL at e;split at e
 ·rename_i o ds hr;cases e;obtain⟨v,ev,rv⟩:=rel.view hr;obtain⟨p,xs,Qq,sq,rs⟩:=bg rv;refine⟨v,ev,p,Qq,⟨xs,sq⟩,k _ H G fp .refl rel fun G2 gg HJ=>?_⟩;obtain⟨p',Hq,NO,Hw,H0⟩:=bg (HJ i _ v hr ev);rw[Qq]at NO;cases NO;exact mT Hw H0
 ·cases e
theorem bJ(ix:List (Option Nat))(N:List Str)(hc:X.calm=true)(hi:Mj X tg iter fi)(hg:∀C s H fp pn,QG (bO X scope N C s H fp pn) tg a)(ht:∀C s H fp pn,OG (bO X scope N C s H fp pn) ifs c)(he:∀C s H fp pn,QE (bO X scope N C s H fp pn) elt f)
  (hf:gY scope X.env=true:=by rfl) (hk:scope.kind=.function:=by rfl) (GN:∀y∈scope.names,y.2≠.cell:=by decide +kernel) (HC:∀y∈scope.names,y.2=.local->scope.names.lookup y.1=some .local:=by decide +kernel) (HB:xp X scope N ix=true:=by rfl)
  (hs:∀x,foldedSetIterable iter X.env x=pure x:=by intro _;rfl):QE X (.ListComp elt [⟨tg,iter,ifs,0⟩] scope pos) (dj fi ix a c f):=
 aY (yz (g:=tQG X.K a) (tc:=tQT X.K c) (te:=tQ X.K f) ix N hc hi hg ht he hf hk GN HC HB hs) fun _ _ _=>xG
theorem lS{i:Nat}{y:Str}{py Ir:Pos}(ix:List (Option Nat))(N:List Str)(hN:X.N.Nodup)(Pb:X.N[i]?=some y)(hy:Loc X.env.scope y)(hc:X.calm=true)(hi:Mj X tg iter fi)(hg:∀C s H fp pn,QG (bO X scope N C s H fp pn) tg a)(ht:∀C s H fp pn,OG (bO X scope N C s H fp pn) ifs c)
  (he:∀C s H fp pn,QE (bO X scope N C s H fp pn) elt f) (Pc:swapsWith (.ListComp elt [⟨tg,iter,ifs,0⟩] scope pos) (some (.Name y py)) Ir.line X.env=pure true:=by rfl)
  (hf:gY scope X.env=true:=by rfl) (hk:scope.kind=.function:=by rfl) (GN:∀y∈scope.names,y.2≠.cell:=by decide +kernel) (HC:∀y∈scope.names,y.2=.local->scope.names.lookup y.1=some .local:=by decide +kernel) (HB:xp X scope N ix=true:=by rfl)
  (hs:∀x,foldedSetIterable iter X.env x=pure x:=by intro _;rfl) (KU:X.fn y=true\/X.env.scope.names.lookup y=some .local:=by first|exact .inl rfl|exact .inr rfl):
  QS (md:=md) X (.Assign [.Name y py] (.ListComp elt [⟨tg,iter,ifs,0⟩] scope pos) Ir) (ck i (dj fi ix a c f)):=
 dZ (yA (i:=i) (g:=tQG X.K a) (tc:=tQT X.K c) (te:=tQ X.K f) ix N hN Pb hy hc hi hg ht he Pc hf hk GN HC HB hs KU) fun D σ H ⟨G,env,fp,rel,k⟩=>xG (sS rel k)
end
section
variable{X:Cx}{a:Expr}{pos:Pos}{fa:FO}
def FU(fa:FO):FX:=fun env=>(fa env).bind fun p=>(Hi p.2 p.1).bind fun d=>match d with
 | .int i=>.ok ((.f,.int (-i)),p.2)
 |_=>.bad
theorem tJ{i:Int}(h:i.natAbs<2 ^ 1000):Builtin.Int.intBits i<=2 ^ 20:=by
 unfold Builtin.Int.intBits;split
 ·exact RM _
 ·rename_i h0;have h1:i.natAbs≠0:=by
   intro e;rw[Int.natAbs_eq_zero]at e;exact h0 (by rw[e];rfl)
  have:=(Nat.log2_lt h1).mpr h;have e:(2:Nat) ^ 20=1048576:=by decide
  lia
theorem y7:GH X (binaryOp .Mult) (rI (fun i j=>i.natAbs<2 ^ 1000/\j.natAbs<2 ^ 1000) fun i j=>.int (i*j)):=Nh fun _ _ _ _ _ _ _ hc q=>mul_int q (.of_bits (tJ hc.1) (tJ hc.2))
theorem nh{α:Type}:∀(ls:List (Array α)) (acc:Array α),(ls.foldl (·++·) acc).toList=acc.toList++(ls.map Array.toList).flatten
 |[],acc=>by simp
 |a::ls,acc=>by
  rw[Ta,nh ls,Array.toList_append,Rl,Sw,RK]
theorem DZ(l:List Nat)(n:Nat):(⟨(List.replicate n (S l).cps).foldl (·++·) #[]⟩:Str)=S (List.replicate n l).flatten:=by
 have h:((List.replicate n (S l).cps).foldl (·++·) #[]).toList=(List.replicate n l).flatten:=by
  rw[nh,List.map_replicate];simp only[cX,Tc]
 show Str.mk _=Str.mk _;rw[<-h]
theorem y8(a b:Int):DQ (.int a) (.int b)=if dg a||dg b then .ok (.f,.int (a*b)) else .bad:=rfl
noncomputable def y9:D->D->Res R
 | .int i,.int j=>if dg i||dg j then .ok (.f,.int (i*j)) else if i.natAbs<2 ^ 1000/\j.natAbs<2 ^ 1000 then .ok (.f,.int (i*j)) else .bad
 | .str l,.int k=>if 2<=k/\k<=1000/\1<=l.length/\l.length<=1000 then .ok (.f,.str (List.replicate k.toNat l).flatten) else .bad
 |_,_=>.bad
theorem za:GH X (binaryOp .Mult) (rG X.K y9):=by
 rintro pr s σ H x y v u Q I rx ry ⟨G,fp,es,vs,a,b,r,⟨rel,k⟩,va,vb,e⟩;unfold y9 at e;split at e
 ·rename_i i j;split at e
  ·rename_i hc;exact Bx pr s σ H x y v u Q I rx ry ⟨G,fp,es,vs,.int i,.int j,r,⟨rel,k⟩,va,vb,by rw[y8,Rb hc];exact e⟩
  ·split at e
   ·rename_i hc;cases e;cases bC va;cases bC vb;exact y7 pr s σ H _ _ v u Q I rx ry ⟨i,j,rfl,rfl,hc,k _ H G fp .refl (rel.push (bF _))⟩
   ·cases e
 ·rename_i l j;split at e
  ·rename_i hc;cases e;obtain⟨ev,hl⟩:=eU va;subst ev;cases bC vb;obtain⟨t,rfl⟩:=rx;obtain⟨t',rfl⟩:=ry;have hlen:(S l).length=l.length:=kq l;have hz:(List.replicate j.toNat l).flatten.length<=1000000:=by
    rw[lj];exact Nat.mul_le_mul (by lia:j.toNat<=1000) hc.2.2.2
   have KS:(List.replicate j.toNat l).flatten.length<=sizeLine:=RB hz (by decide);refine PySem.P.mul_str ?_ ?_ ?_ ?_
   ·rw[RF (by lia),RF (by lia)];rfl
   ·intro _ _;rw[hlen];have h1:1000<=(2 ^ 63-1) / j:=(Int.le_ediv_iff_mul_le (by lia)).mpr (by lia);lia
   ·intro _ _;unfold Builtin.Str.tooLong;rw[RZ,hlen,V1,<-lj];lia
   ·rw[Rg (by lia),Rg (by rw[hlen,U3,RO,RO];lia),DZ];refine⟨?_,?_⟩
    ·rw[kq];exact KS
    ·exact⟨.str (S (List.replicate j.toNat l).flatten),H,I.tok _,⟨_,rfl⟩,k _ H G fp .refl (rel.push (gH KS))⟩
  ·cases e
 ·cases e
end
end PV
namespace HT
open PySem PySem.Spec PyProof.Rows L2
variable{prog:Program}{w:World}{A:Around}{E:Value->Shared->Prop}{s:Shared}
theorem hZ{t sl:Addr}{items:Array Value}{vl vu:Value}{lo hi:Option Int}{Q:Value->Shared->Prop}(ht:IsTup s.heap t items)(hs:s.heap.IsSliceOf sl vl vu .none)(pl:IsPart vl lo)(pu:IsPart vu hi)
  (hw:sIx items.size 0 lo=0/\sIx items.size items.size hi=items.size) (h:Q (.ref t) s):wpAny (model prog w) A (getItem (.ref t) (.ref sl)) Q E s:=by
 obtain⟨os,KY,Ov,JR⟩:=id hs;have O6:s.TypeIs (.ref sl) "slice":=⟨os,KY,Ov⟩
 unfold getItem;try with_reducible refine SJ ?_
 first|refine Q1 (Q6 ?_)|skip
 refine Q1 (wpAny_sequenceKey ht.typeIs (by decide) ?_);refine Q1 (wpAny_callSpecial?_slot (name:=Str.ofString "__getitem__") ht.typeIs Sg
  (RY Sg ht.typeIs entry_tuple_getitem ?_ (args_tuple_getitem _ _)))
 show wpAny _ _ (Builtin.Tuple.tupleItemsOf (.ref t) >>= _) _ _ s;refine Q1 (tupleItemsOf_ ht ?_);refine Q1 (Tu O6 ?_);rw[Rb (by decide)];refine Q1 (eS hs pl pu ?_);have hyes:(((sIx items.size 0 lo:Nat):Int)==0&&(1:Int)==1&&(sIx items.size items.size hi-sIx items.size 0 lo)==items.size)=true:=by
  rw[hw.1,hw.2];simp
 show wpAny _ _ (if(((sIx items.size 0 lo:Nat):Int)==0&&(1:Int)==1&&(sIx items.size items.size hi-sIx items.size 0 lo)==items.size)=true then _ else _) _ _ s;rw[Rb hyes];refine Q1 (m:=Builtin.Tuple.tupleIsExact _) ?_;unfold Builtin.Tuple.tupleIsExact;refine Q1 (Tu ht.typeIs (Q6 ?_));rw[Rb (by decide)];exact Q1 (Vg (Q6 ⟨_,rfl,Q6 h⟩))
end HT
namespace PV
open PySem PySem.Spec PyProof.Rows L2 NX
section
variable{X:Cx}{pos:Pos}{fa:FO}
theorem zb:LZ X (fun x lo hi H Q=>∃a xs,x=.ref a/\SqT X.K H a xs/\(HT.sIx xs.length 0 lo=0/\HT.sIx xs.length xs.length hi=xs.length)/\Q x H):=by
 intro pr s σ H x v vl vu lo hi sl Q I rx hs pl pu h;obtain⟨a,xs,rfl,hx,hw,q⟩:=h;cases rx;obtain⟨F1,r,ht,hz⟩:=I.tuple hx;have hlen:F1.toArray.size=xs.length:=by rw[Q4];exact r.length.symm
 refine⟨"tuple",_,PyProof.Rows.slot_tuple_getitem.lookup,ht.typeIs,?_⟩;exact HT.hZ ht hs pl pu (by rw[hlen];exact hw) ⟨.ref a,H,I,rfl,q⟩
def NP(k:D)(lo hi:Option Int):Res R:=match k with
 | .tup ds=>if HT.sIx ds.length 0 lo=0/\HT.sIx ds.length ds.length hi=ds.length then .ok (.f,.tup ds) else NC k lo hi
 |_=>NC k lo hi
def Ax(fa:FO)(lo hi:FP):FX:=fun env=>(fa env).bind fun p=>(lo p.2).bind fun q=>(hi q.2).bind fun t=>(Hi t.2 p.1).bind fun d=>(NP d q.1 t.1).bind fun r=>.ok (r,t.2)
inductive rSlW(K:W.Frag)(x:V)(lo:Option Int)(hi:Option Int)(H:Hp)(Q:VK):Prop
 |mk:∀G fp es vs d r,Goes K H G fp es vs r Q->Vw K G H d x->NP d lo hi=.ok r->rSlW K x lo hi H Q
theorem BO:LZ X (rSlW X.K):=by
 rintro pr s σ H x v vl vu lo hi sl Q I rx hs pl pu ⟨G,fp,es,vs,d,r,⟨rel,k⟩,vd,e⟩;unfold NP at e;split at e
 ·rename_i ds;split at e
  ·rename_i hw;cases e;obtain⟨p,xs,ev,sq,rs⟩:=gq vd;subst ev;refine zb pr s σ H _ v vl vu lo hi sl Q I rx hs pl pu ⟨p,xs,rfl,bE rel.gh sq,by rw[rs.length];exact hw,?_⟩;exact k _ H G fp .refl (rel.push vd)
  ·exact BA pr s σ H x v vl vu lo hi sl Q I rx hs pl pu ⟨G,fp,es,vs,_,r,⟨rel,k⟩,vd,e⟩
 ·exact BA pr s σ H x v vl vu lo hi sl Q I rx hs pl pu ⟨G,fp,es,vs,_,r,⟨rel,k⟩,vd,e⟩
theorem pU{e:Expr}{lo hi:Option Expr}{p2:Pos}{fl fh:FP}(he:QO X e fa)(hl:QP X lo fl)(hh:QP X hi fh):QE X (.Subscript e (.Slice lo hi none p2) pos) (Ax fa fl fh):=
 aY (vB BO he hl hh) fun σ H Q F7=>by
  obtain⟨G,env,fp,r,env',rel,e,k⟩:=F7;obtain⟨⟨o,FY⟩,e1,e⟩:=ah e;obtain⟨⟨i,F5⟩,e2,e⟩:=ah e;obtain⟨⟨j,GC⟩,e3,e⟩:=ah e;obtain⟨d,e4,e⟩:=ah e;obtain⟨r',e5,e⟩:=ah e;cases e;exact⟨G,env,fp,o,FY,rel,e1,fun v H1 G1 Gg Gb F0 Hv=>⟨G1,FY,Gg,i,F5,F0,e2,fun H2 G2 Gv F4 FZ=>⟨G2,F5,Gv,j,GC,FZ,e3,fun H3 G3 Ha Gn Gj=>
   ⟨G3,Ha,GC,σ,d,r,⟨Gj,fun v H' G' F2 st Gq=>k v H' G' F2 (Gb.trans (F4.trans (Gn.trans st))) Gq⟩,Gj.vw ((Hv.mono F4.gg).mono Gn.gg) e4,e5⟩⟩⟩⟩
end
end PV
namespace L2
open PySem PySem.Spec PyProof.Rows
section
variable{X:Cx}{tg:Expr}
def tM(i j c:Int):Prop:=(-1048576<=i/\i<=1048576)/\(-1048576<=j/\j<=1048576)/\(c = -1\/1<=c)/\c<=1048576
instance (i j c:Int):Decidable (tM i j c):=by unfold tM;infer_instance
end
end L2
namespace PV
open PySem PySem.Spec PyProof.Rows L2 NX
section
variable{X:Cx}{tg:Expr}
def FV:List D->Res R
 |[d]=>match(mX d).bind dh with
  |some (n::ns)=>.ok (.f,.int (DF (n::ns)))
  |_=>.bad
 |[.int i,.int j]=>.ok (.f,.int (if j<i then j else i))
 |_=>.bad
def FW:List D->Res R
 |[.int i]=>.ok (.f,.int (if i<0 then -i else i))
 |_=>.bad
noncomputable def D1(fs:FOs):FI:=fun env=>(fs env).bind fun p=>(ou p.2 p.1).bind fun d=>match d with
 |[.int i,.int j,.int c]=>if tM i j c then .ok ((List.range (Builtin.Range.rangeSize i j c).toNat).map fun(k:Nat)=>D.int (i+(k:Int)*c),p.2) else .bad
 |_=>.bad
end
end PV
namespace NX
open PySem PySem.Spec PyProof.Rows L2
section
open PySem.SeqAt
open PySem.AutoSeq1 (wpAny_loadPart')
theorem jP{M:Model}{A:Around}{E:Value->Shared->Prop}{s:Shared}{β:Type}(f:Nat->β->Sem (ForInStep β))(n:Nat)(I:Nat->β->Shared->Prop)(Q:β->Shared->Prop)
  (turn:∀(i:Nat) (b:β) (s:Shared),i<n->I i b s->wpAny M A (f i b) (fun r s'=>match r with | .yield b'=>I (i+1) b' s' | .done b'=>Q b' s') E s)
  (fin:∀(b:β) (s:Shared),I n b s->Q b s) (b:β) (h:I 0 b s):wpAny M A (forIn [0:n] b f) Q E s:=by
 rw[Std.Legacy.Range.forIn_eq_forIn_range'];refine UM f (fun dq b s=>∃i,i<=n/\dq=List.range' i (n-i)/\I i b s) Q ?_ ?_ _ b ?_
 ·rintro x dq b s ⟨i,hi,hr,h⟩;by_cases Pu:i<n
  ·have e:n-i=(n-(i+1))+1:=by lia
   rw[e,List.range'_succ]at hr;injection hr with h1 h2;subst h1;refine Ge (turn x b s Pu h) fun r s' Qr=>?_
   cases r with
   |yield b'=>exact⟨x+1,by lia,h2,Qr⟩
   |done b'=>exact Qr
  ·have e:n-i=0:=by lia
   rw[e]at hr;cases hr
 ·rintro b s ⟨i,hi,hr,h⟩;by_cases Pu:i<n
  ·have e:n-i=(n-(i+1))+1:=by lia
   rw[e,List.range'_succ]at hr;cases hr
  ·have e:i=n:=by lia
   subst e;exact fin b s h
 ·refine⟨0,RM _,?_,h⟩;simp[Std.Legacy.Range.size]
theorem jg(l:Addr)(items:Array Value)(n:Nat)(dd:Option Addr)(sl:Array (Option Value))(ns:List Str)(c:Str)(t:Tok)(hi:Vals (ns.map V.str) items.toList)(i:Nat)(hx:ns[i]?=some c)(h0:∀j,j<i->ns[j]?≠some c):
  Meets (Builtin.«tuple.index» ⟨[.ref l,.str c t],[]⟩)
   (fun _ R s=>s.heap.get? l=some {cls:=.type "tuple",dict:=dd,data:=.seq items n,slots:=sl}/\R (.ok (.ret (.int (i:Int) s.toks))) {s with toks:=s.toks+1}):=
 .of_wp fun prog w A R s h=>by
  obtain⟨hp,g,d,tk,os⟩:=s;obtain⟨hl,h⟩:=h;have z1:items.size=ns.length:=by have:=hi.length;simp at this;lia
  have Pu:i<ns.length:=(List.getElem?_eq_some_iff.mp hx).1;have key:∀(j:Nat),j<ns.length->∃(b:Str) (u:Tok),items[j]?=some (.str b u)/\ns[j]?=some b:=by
   intro j hj;obtain⟨v,hv,hr⟩:=hi.get (i:=j) (x:=V.str ns[j]) (by simp[hj]);obtain⟨u,rfl⟩:=hr;exact⟨ns[j],u,by rw[<-Array.getElem?_toList];exact hv,by simp[hj]⟩
  wp_walk using wpAny_loadPart' hl,jP _ _ (fun j b s'=>b.1=none/\s'=⟨hp,g,d,tk,os⟩/\j<=i) _
  case turn=>
   rintro j ⟨b1,b2⟩ s' hj ⟨hb,rfl,Qs⟩;simp only at hb;subst hb;obtain⟨b,u,e1,e2⟩:=key j (by lia);have he:EqAt A.in1 ⟨hp,g,d,tk,os⟩ (.str b u) (.str c t) (b==c):=EqAt.str_str b u c t;by_cases hbc:b=c
   ·have hji2:j=i:=by
     rcases Nat.lt_or_ge j i with Gy|hge
     ·exact absurd (by rw[e2,hbc]) (h0 j Gy)
     ·lia
    subst hji2 hbc;rw[e1];refine Q1 (he prog w _ _ ?_);rw[show(b==b)=true from Sm b]
    wp_walk
    exact⟨_,rfl,h⟩
   ·rw[e1];refine Q1 (he prog w _ _ ?_);rw[show(b==c)=false from R3.mpr hbc]
    wp_walk
    refine⟨rfl,rfl,?_⟩;rcases Nat.lt_or_ge j i with Gy|hge
    ·exact Gy
    ·have:j=i:=by lia
     subst this;rw[e2]at hx;cases hx;exact absurd rfl hbc
  case fin=>
   rintro⟨b1,b2⟩ s' ⟨hb,rfl,Qs⟩;rw[Nat.min_self]at Qs;lia
  case h=>exact⟨rfl,rfl,RM _⟩
end
end NX
namespace L2
open PySem PySem.Spec PyProof.Rows
section
variable{X:Cx}{o e:Expr}{es:List Expr}{to:TE}{t:TA}{name:Str}{apos Gd:Pos}{id:String}{r:V->List V->Hp->VK->Prop}
def Fm(K:W.Frag)(r:V->List V->Hp->VK->Prop)(to:TE)(t:TA):TE:=fun σ H Q=>to σ H fun x H1=>(∃p ys,x=.ref p/\SqT K H1 p ys)/\t σ H1 fun xs H2=>r x xs H2 Q
theorem BP(slot:Slot "tuple" name id)(JT:typeOf (.builtin id)=pure (.type "method_descriptor"))(hm:KZ X id r)(ho:PE X o to)(ha:PA X (e::es) t)
  (GD:attributeBase o name X.env (eval o X.env)=eval o X.env:=by rfl)
  (Ig:((backTo Gd (starEach (e::es) X.env)).all (fun x=>!x.1)&&(backToKw Gd (keywordEach [] X.env)).all (fun x=>x.1.isSome)
   && decide ((e::es).length+([]:List Keyword).length+(if([]:List Keyword).isEmpty then 0 else 1)<30))=true:=by rfl)
  (GF:(apos.endLine==Gd.line)=true:=by rfl) (hs:starEach (e::es) X.env=(false,eval e X.env)::starEach es X.env:=by rfl) (GO:(backTo Gd (starEach es X.env)).any (·.1)=false:=by rfl):
  PE X (.Call (.Attribute o name apos) (e::es) [] Gd) (Fm X.K r to t):=by
 intro pr s σ H Q I h;refine wpAny_Call_method_late GD Ig GF rfl (Ge (ho pr s σ H _ I h) fun v s1 Gf=>?_);obtain⟨x,H1,I1,r1,⟨p,ys,ex,sq⟩,q1⟩:=Gf;subst ex;cases r1;obtain⟨F1,_,⟨ob,ho,hc,⟨n,hd⟩,hn⟩,_⟩:=I1.tupleN sq;refine⟨"tuple",id,PySem.F.plainAttrs_tuple,slot,JT,⟨ob,ho,hc⟩,fun a e2=>?_,?_⟩
 ·cases e2;exact⟨ob,ho,hn⟩
 have hA:=ha Gd pr s1 σ H1 _ I1 q1;rw[hs]at hA ⊢;refine TK (by show(false||(backTo Gd (starEach es X.env)).any (·.1))=false;rw[GO] <;> rfl) (Calls.evalArgs_plain ?_);exact Ge hA fun us s2 ⟨vs,H2,I2,r2,q2⟩=>hm pr s2 σ H2 (.ref p) vs _ us Q I2 rfl r2 q2
end
end L2
namespace PV
open PySem PySem.Spec PyProof.Rows L2 NX
section
variable{X:Cx}
noncomputable def BQ(g:List D->List D->Res R)(fa:FO)(fs:FOs):FX:=fun env=>(fa env).bind fun p=>(Hi p.2 p.1).bind fun a=>match a with
 | .tup _=>(fs p.2).bind fun q=>(Hi q.2 p.1).bind fun a2=>match a2 with
  | .tup l=>(ou q.2 q.1).bind fun ds=>(g l ds).bind fun r=>.ok (r,q.2)
  |_=>.bad
 |_=>.bad
inductive rMtT(K:W.Frag)(g:List D->List D->Res R)(x:V)(xs:List V)(H:Hp)(Q:VK):Prop
 |mk:∀G fp es vs l ds r,Goes K H G fp es vs r Q->Vw K G H (.tup l) x->LO K G H ds xs->g l ds=.ok r->rMtT K g x xs H Q
theorem tN{g:List D->List D->Res R}{id:String}{name:Str}{o e:Expr}{es:List Expr}{fa:FO}{fs:FOs}{apos Gd:Pos}(slot:Slot "tuple" name id)(JT:typeOf (.builtin id)=pure (.type "method_descriptor"))(hm:KZ X id (rMtT X.K g))(ho:QO X o fa)(ha:JX X (e::es) fs)
  (GD:attributeBase o name X.env (eval o X.env)=eval o X.env:=by rfl)
  (Ig:((backTo Gd (starEach (e::es) X.env)).all (fun x=>!x.1)&&(backToKw Gd (keywordEach [] X.env)).all (fun x=>x.1.isSome)&&decide ((e::es).length+([]:List Keyword).length+(if([]:List Keyword).isEmpty then 0 else 1)<30))=true:=by rfl)
  (GF:(apos.endLine==Gd.line)=true:=by rfl) (hs:starEach (e::es) X.env=(false,eval e X.env)::starEach es X.env:=by rfl) (GO:(backTo Gd (starEach es X.env)).any (·.1)=false:=by rfl):
  QE X (.Call (.Attribute o name apos) (e::es) [] Gd) (BQ g fa fs):=by
 refine aY (BP slot JT hm ho ha GD Ig GF hs GO) fun σ H Q Gf=>?_
 obtain⟨G,env,fp,r,env',rel,e,k⟩:=Gf;obtain⟨⟨oa,FY⟩,e1,e⟩:=ah e;obtain⟨da,K6,e⟩:=ah e;dsimp only at e;split at e
 ·obtain⟨⟨os,F5⟩,e2,e⟩:=ah e;obtain⟨d2,hd2,e⟩:=ah e;dsimp only at e;split at e
  ·obtain⟨ds,e3,e⟩:=ah e;obtain⟨r',e4,e⟩:=ah e;cases e;refine⟨G,env,fp,oa,FY,rel,e1,fun v H1 G1 Gg Gb F0 Hv=>?_⟩;obtain⟨p,xs,ev,sq,_⟩:=a8 (Vw.rep F0.gh (F0.vw Hv K6));exact⟨⟨p,xs,ev,sq⟩,G1,FY,Gg,os,_,F0,e2,fun vs H2 G2 Gv F4 FZ JZ=>⟨G2,Gv,_,σ,_,ds,r,⟨FZ,fun v H' G' F2 st Gq=>k v H' G' F2 (Gb.trans (F4.trans st)) Gq⟩,FZ.vw (Hv.mono F4.gg) hd2,FZ.vws JZ e3,e4⟩⟩
  ·cases e
 ·cases e
def ni(l:List D):List D->Res R
 |[.str c]=>match eX l with
  |some bs=>if c∈bs then .ok (.f,.int (bs.idxOf c:Nat)) else .bad
  |none=>.bad
 |_=>.bad
theorem BR{a b:List Nat}(h:S a=S b):a=b:=by
 have:=R7 (fun s:Str=>s.cps.toList) h;simpa only[cX] using this
theorem pV:∀(bs:List (List Nat)) (c:List Nat) (j:Nat),bs[j]?=some c->bs.idxOf c<=j
 |[],c,j,h=>by simp at h
 |b::bs,c,0,h=>by
  simp at h;subst h;simp[List.idxOf_cons]
 |b::bs,c,j+1,h=>by
  rw[List.getElem?_cons_succ]at h;have:=pV bs c j h;rw[List.idxOf_cons];cases b==c with
  |true=>exact RM _
  |false=>exact Nat.succ_le_succ this
theorem gO:KZ X "tuple.index" (rMtT X.K ni):=by
 rintro pr s σ H x xs v us Q I rx rv ⟨G,fp,es,vs,l,ds,r,⟨rel,k⟩,vx,vd,e⟩;unfold ni at e;split at e
 ·rename_i c;split at e
  ·rename_i bs hb;split at e
   ·rename_i hc;cases e;obtain⟨p,ys,ev,sq,rs⟩:=a8 (Vw.rep rel.gh vx);obtain⟨hy,_⟩:=gM hb rs;subst ev;cases rx;obtain⟨w',ew,vc⟩:=mV vd;obtain⟨ev,_⟩:=eU vc;subst ew;subst ev;obtain⟨u,rfl,t',rfl⟩:=e8 rv;obtain⟨F1,vl,⟨ob,h1,h2,⟨n,h3⟩,h4⟩,_⟩:=I.tupleN sq;subst hy;obtain⟨cls,dict,data,slots⟩:=ob;dsimp only at h2 h3 h4;subst h2 h3 h4;have Gy:=Sd hc;refine PySem.call_meets SR ⟨_,h1,rfl⟩ PySem.F.entry_tuple_index (PySem.F.args_tuple_index_2 _ _) (jg p F1.toArray n _ _ (bs.map S) (S c) t' (by rw[Rq];exact vl) (bs.idxOf c) ?_ ?_) ⟨h1,⟨.int (bs.idxOf c:Nat),H,I.tok _,⟨_,rfl⟩,k _ H G fp .refl (rel.push (bF _))⟩⟩
    ·rw[List.getElem?_map,List.getElem?_eq_getElem Gy,List.getElem_idxOf Gy];rfl
    ·intro j hj he;rw[List.getElem?_map,List.getElem?_eq_getElem (by lia)]at he;have he:=BR (Rt he);have:=pV bs c j (by rw[List.getElem?_eq_getElem (by lia),he]);lia
   ·cases e
  ·cases e
 ·cases e
def cP(a b:D):Res R:=match a,b with
 | .tup [],.tup l=>.ok (.f,.tup l)
 |a,b=>addD a b
theorem aP:GH X (binaryOp .Add) (rG X.K cP):=by
 rintro pr s σ H x y v u Q I rx ry ⟨G,fp,es,vs,a,b,r,⟨rel,k⟩,va,vb,e⟩;unfold cP at e;split at e
 ·rename_i l;cases e;obtain⟨p,xs,e1,h1,r1⟩:=gq va;obtain⟨p2,M1,e2,h2,r2⟩:=gq vb;subst e1;subst e2;cases rx;cases ry;have hx:xs=[]:=RT (by rw[r1.length];rfl);subst hx;obtain⟨F1,v1,⟨⟨cls,dd,data,sl⟩,ho,hc,n,hd⟩,_⟩:=I.tuple (bE rel.gh h1);obtain⟨Jl,v2,⟨⟨KW,JI,data2,JJ⟩,Hz,IV,n2,hd2⟩,_⟩:=I.tuple (bE rel.gh h2);dsimp only at hc hd IV hd2;subst hc hd IV hd2;cases v1;exact U1 ⟨_,ho,rfl⟩ ⟨_,Hz,rfl⟩ UK Vx TJ Tx (Tt _ _) (tuple_addW0 p p2 _ _ n n2 dd JI sl JJ rfl) ⟨ho,Hz,⟨.ref p2,H,I,rfl,k _ H G fp .refl (rel.push vb)⟩⟩
 ·exact Bw pr s σ H _ _ v u Q I rx ry ⟨G,fp,es,vs,a,b,r,⟨rel,k⟩,va,vb,e⟩
def qZ(fs:FOs):FI:=Hj (qU true true fs) (Hj (qU true false fs) (Hj (qU false true fs) (qU false false fs)))
theorem oP{J0:List Expr}{kt:Nat}{pt:Pos}{e1 e2:Expr}{fs:FOs}{p pos:Pos}(hg:Gl X "zip")(hm:X.mg "zip" = none)(ha:JX X [e1,e2] fs)(he:starEach [e1,e2] X.env=(false,eval e1 X.env)::starEach [e2] X.env:=by rfl)(Hy:(backTo pos (starEach [e2] X.env)).any (·.1)=false:=by rfl):
  QI X (.Tuple J0 kt pt) (.Call (.Name "zip" p) [e1,e2] [] pos) (qZ fs):=tj (pO true true hg hm ha he Hy) (tj (pO true false hg hm ha he Hy) (tj (pO false true hg hm ha he Hy) (pO false false hg hm ha he Hy)))
end
end PV
namespace NX
open PySem PySem.Spec PyProof.Rows L2
section
open PySem.AutoSeq1 (wpAny_loadPart')
theorem nj(l:Addr)(items:Array Value)(n:Nat)(dd:Option Addr)(sl:Array (Option Value))(x:Int)(u:Tok)(h1:¬ (!Builtin.List.listFitsIndex x)=true)(h2:¬ items.size*x.toNat>(2 ^ 63-1) / 8)(h3:¬ Builtin.List.listTooLong (items.size*x.toNat)=true)(h4:(List.foldl (fun x1 x2=>x1++x2) #[] (List.replicate (if items.isEmpty=true then 0 else x.toNat) items)).size<=sizeLine):
  Meets (Builtin.«list.__mul__» ⟨[.ref l,.int x u],[]⟩)
   (fun _ R s=>s.heap.get? l=some {cls:=.type "list",dict:=dd,data:=.seq items n,slots:=sl}/\R (.ok (.ret (.ref s.heap.objs.size))) {s with heap:=s.heap.push {cls:=.type "list",data:=.seq (List.foldl (fun x1 x2=>x1++x2) #[] (List.replicate (if items.isEmpty=true then 0 else x.toNat) items))}}):=
 .of_wp fun prog w A R s h=>by
  obtain⟨hp,g,d,tk,os⟩:=s;obtain⟨hl,h⟩:=h
  wp_walk using wpAny_loadPart' hl
  rw[Rg (by lia)]
  wp_walk
  exact⟨_,rfl,h⟩
theorem nq(a:Int)(t:Tok)(l:Addr)(T:String)(items:Array Value)(n:Nat)(dd:Option Addr)(sl:Array (Option Value)):
  Meets (Builtin.«int.__rmul__» ⟨[.int a t,.ref l],[]⟩)
   (fun _ R s=>s.heap.get? l=some {cls:=.type "list",dict:=dd,data:=.seq items n,slots:=sl}/\R (.ok (.ret .notImplemented)) s):=
 .of_wp fun prog w A R s h=>by
  obtain⟨hp,g,d,tk,os⟩:=s;obtain⟨hl,h⟩:=h
  wp_walk using wpAny_loadPart' hl
  exact⟨_,rfl,h⟩
end
end NX
namespace PV
open PySem PySem.Spec PyProof.Rows L2 NX
section
variable{md:Mode}{X:Cx}
inductive rRepS(K:W.Frag)(x:V)(y:V)(H:Hp)(Q:VK):Prop
 |mk:∀l k xs,x=.ref l->y=.int k->SqL K H l xs->-(2 ^ 62)<=k->k<2 ^ 62->xs.length*k.toNat<=sizeLine->(∀p,H p=none->Q (.ref p) (upd H p (.lst (List.replicate k.toNat xs).flatten)))->rRepS K x y H Q
theorem zc:GH X (binaryOp .Mult) (rRepS X.K):=by
 intro pr s σ H x y v u Q I rx ry h;obtain⟨l,k,xs,rfl,rfl,hH,h1,h2,hz,q⟩:=h;cases rx;obtain⟨t,rfl⟩:=ry;obtain⟨F1,r,p1,_⟩:=I.list hH;have hl:=r.length;obtain⟨⟨cls,dd,data,sl⟩,ho,hc,n,hd⟩:=id p1.isList;simp only at hc hd;subst hc hd;have hlen:F1.toArray.size*k.toNat<=sizeLine:=by rw[Q4,<-hl];exact hz
 have hcap:¬ F1.toArray.size*k.toNat>(2 ^ 63-1) / 8:=by
  have:(sizeLine:Nat)<=(2 ^ 63-1) / 8:=by decide
  lia
 have Jt:¬ (!Builtin.List.listFitsIndex k)=true:=by
  rw[fitsIndex_both (by lia) (by lia)];exact Rc
 have NQ:¬ Builtin.List.listTooLong (F1.toArray.size*k.toNat)=true:=by
  rw[vE hlen];exact Rc
 have NR:List.foldl (fun x1 x2=>x1++x2) #[] (List.replicate (if F1.toArray.isEmpty=true then 0 else k.toNat) F1.toArray)=(List.replicate k.toNat F1).flatten.toArray:=by
  have f0:∀m:Nat,List.foldl (fun x1 x2=>x1++x2) #[] (List.replicate m F1.toArray)=(List.replicate m F1).flatten.toArray:=fun m=>by
   have:=mG F1 m [];rw[Tc]at this;exact this
  rw[f0];cases F1 with
  |nil=>simp
  |cons a r'=>rw[Rg (by simp)]
 have hsz:(List.foldl (fun x1 x2=>x1++x2) #[] (List.replicate (if F1.toArray.isEmpty=true then 0 else k.toNat) F1.toArray)).size<=sizeLine:=by
  rw[NR,Q4,lj,V1];rw[Q4]at hlen;exact hlen
 refine wpAny_binaryOp_repeat_ref (T:="list") (U:="int") (by decide) ⟨_,ho,rfl⟩ (fun s'=>Ve s' k t) noFill_list_mul F.fills_int_mul F.slot_int_rmul repeat_list F.slot_int_index.lookup
  (Vf F.slot_int_rmul (Ve s k t) F.entry_int_rmul (F.args_int_rmul_2 _ _) (nq k t l "" F1.toArray n dd sl)
   ⟨ho,rfl,⟨_,ho,rfl⟩,Vf F.slot_list_mul ⟨_,ho,rfl⟩ F.entry_list_mul (F.args_list_mul_2 _ _) (nj l F1.toArray n dd sl k t Jt hcap NQ hsz) ⟨ho,?_⟩⟩)
 rw[NR];exact⟨.ref _,_,I.lnew (t':=s.toks) (r.rep k.toNat) (by rw[lj,V1];exact hz),rfl,q _ I.fresh⟩
theorem pW{K:W.Frag}{G:Hp}{ds:List D}{xs:List V}(r:Reps K G ds xs):∀n:Nat,Reps K G (List.replicate n ds).flatten (List.replicate n xs).flatten
 | 0=>.nil
 |n+1=>by
  rw[Sh,Sh,Sw,Sw];exact r.app (pW r n)
def lT(a b:D):Res R:=match a,b with
 | .lst ds,.int k=>if 0<=k/\k<1000000/\ds.length*k.toNat<=sizeLine then .ok (.l .f,.lst (List.replicate k.toNat ds).flatten) else .bad
 |a,b=>y9 a b
theorem fA:GH X (binaryOp .Mult) (rG X.K lT):=by
 rintro pr s σ H x y v u Q I rx ry ⟨G,fp,es,vs,a,b,r,⟨rel,k⟩,va,vb,e⟩;unfold lT at e;split at e
 ·rename_i ds j;split at e
  ·rename_i hj;cases e;obtain⟨p,xs,e1,h1,r1⟩:=va;subst e1;cases bC vb;refine zc pr s σ H _ _ v u Q I rx ry ⟨p,j,xs,rfl,rfl,h1,by lia,by lia,by rw[r1.length];exact hj.2.2,fun q hq=>?_⟩;obtain⟨FZ,F4⟩:=rel.newL hq (pW r1 j.toNat);exact k _ _ G _ F4 FZ
  ·cases e
 ·exact za pr s σ H _ _ v u Q I rx ry ⟨G,fp,es,vs,a,b,r,⟨rel,k⟩,va,vb,e⟩
def D2(td ty tv:TE):TS:=fun Dd σ H=>tv σ H fun v H1=>td σ H1 fun x H2=>ty σ H2 fun y H3=>Bb x y v H3 fun H4=>Dd.nx σ H4
theorem zd{o i value:Expr}{td ty tv:TE}{pos pos':Pos}(ho:PE X o td)(hi:PE X i ty)(hv:PE X value tv)(hs:swapsWith value (some (.Subscript o i pos')) pos.line X.env=pure false):
  PS X (.Assign [.Subscript o i pos'] value pos) (D2 td ty tv):=by
 intro pr s σ H Dd I h;refine wpAny_Assign_Subscript (Ge (hv pr s σ H _ I h) fun r s1 ⟨v,H1,I1,rv,q1⟩=>Ge (ho pr s1 σ H1 _ I1 q1) fun u s2 ⟨x,H2,I2,rx,q2⟩=>Ge (hi pr s2 σ H2 _ I2 q2) fun iv s3 ⟨y,H3,I3,ry,q3⟩=>?_) hs;exact Ge (vC pr s3 σ H3 x y v u iv r _ I3 rx ry rv q3) fun _ s4 ⟨H4,I4,q4⟩=>⟨σ,H4,I4,q4⟩
noncomputable def wg(i:Nat)(fk fv:FX):FS:=fun env=>(fv env).bind fun p=>(fk p.2).bind fun q=>match p.2[i]?,q.2[i]? with
 |some (some _),some (some (.l .f,.lst ds))=>(match q.1.2 with
  | .int k=>(match ixN ds.length k with
   |some j=>.ok (.nx (q.2.set i (some (.l .f,.lst (ds.set j p.1.2)))))
   |none=>.bad)
  |_=>.bad)
 |_,_=>.bad
theorem ze{i:Nat}{o ix value:Expr}{fk fv:FX}{pos pos':Pos}(ho:PE X o (pe i))(hi:QE X ix fk)(hv:QE X value fv)(hs:swapsWith value (some (.Subscript o ix pos')) pos.line X.env=pure false:=by rfl):
  QS (md:=md) X (.Assign [.Subscript o ix pos'] value pos) (wg i fk fv):=dZ (zd ho hi hv hs) fun Dd σ H F7=>by
 obtain⟨G,env,fp,rel,k⟩:=F7;unfold wg at k;match q1:fv env,k with
 | .ok (r1,FY),k=>
  have k:OutOk X.K G H fp Dd ((fk FY).bind fun q=>match FY[i]?,q.2[i]? with
   |some (some _),some (some (.l .f,.lst ds))=>(match q.1.2 with
    | .int k=>(match ixN ds.length k with
     |some j=>.ok (.nx (q.2.set i (some (.l .f,.lst (ds.set j r1.2)))))
     |none=>.bad)
    |_=>.bad)
   |_,_=>.bad):=k
  match q2:fk FY,k with
  | .ok (r2,F5),k=>
   have k:OutOk X.K G H fp Dd (match FY[i]?,F5[i]? with
    |some (some _),some (some (.l .f,.lst ds))=>(match r2.2 with
     | .int k=>(match ixN ds.length k with
      |some j=>.ok (.nx (F5.set i (some (.l .f,.lst (ds.set j r1.2)))))
      |none=>.bad)
     |_=>.bad)
    |_,_=>.bad):=k
   split at k
   ·rename_i rr ds h1 h2;split at k
    ·rename_i kk Jp;split at k
     ·rename_i j hj;refine⟨G,env,fp,r1,FY,rel,q1,fun y H1 G1 Gg Gb F0=>?_⟩;obtain⟨G2,b,ry,FZ,F4⟩:=F0.freeze;obtain⟨v0,M4,_⟩:=FZ.view h1;refine⟨v0,M4,G2,FY,b,r2,F5,FZ,q2,fun z H3 G3 Ha Gn Gj=>?_⟩;obtain⟨G4,b4,rz,Gw,GZ⟩:=Gj.freeze;have OJ:Rep X.K G4 r1.2 y:=Rep.mono (Gn.gg.trans GZ.gg) ry;obtain⟨p,xs,ep,hp,rs,cg⟩:=Gw.chg (ds':=ds.set j r1.2) h2;rw[M4]at ep;cases ep;rw[Jp]at rz;have hz:=bo rz;obtain⟨fq,Hx,Ic⟩:=cg _ (rs.set j OJ);exact⟨p,xs,kk,j,rfl,hz,hp,by rw[rs.length];exact hj,k _ _ G4 fq (Gb.trans (F4.trans (Gn.trans (GZ.trans Ic)))) Hx⟩
     ·exact k.elim
    ·exact k.elim
   ·exact k.elim
end
section
variable{X:Cx}
theorem Rel.own{K:W.Frag}{G H:Hp}{es:PV.Env}{vs:L2.St}{fp:List Addr}{p:Addr}{u:HO}{tk:Bool}{ks ws:List D}{xs:List V}(q:Rel K G H es vs fp)(np:p∉fp)(gp:G p=none)(h:DictO u tk ks xs)(rs:Reps K G ws xs):
  Rel K G (upd H p u) (some (.d,.dct tk ks ws)::es) (some (.ref p)::vs) (p::fp):=by
 refine⟨⟨some (.ref p),vs,rfl,.ref p,[p],fp,rfl,rfl,?_,q.rep.step (.refl _) fun z hz=>av fun e=>np (e▸hz)⟩,Rx.mpr ⟨np,q.nd⟩,fun z hz=>?_,fun b o e=>?_⟩
 ·rw[RepO];exact⟨p,xs,u,rfl,aM,h,rfl,rs⟩
 ·rcases Ri.mp hz with rfl|hz
  ·exact gp
  ·exact q.gn z hz
 ·rw[av fun z=>by subst z;rw[gp]at e;cases e];exact q.gh b o e
theorem Rel.aside{K:W.Frag}{G H:Hp}{es:PV.Env}{vs:L2.St}{fp:List Addr}{p:Addr}{u:HO}(q:Rel K G H es vs fp)(hp:H p=none):Rel K G (upd H p u) es vs fp:=by
 have np:p∉fp:=fun z=>by
  obtain⟨u,e⟩:=q.rep.live p z;rw[hp]at e;cases e
 exact⟨q.rep.step (.refl _) fun z hz=>av fun e=>np (e▸hz),q.nd,q.gn,fun b o e=>by rw[av (aT (q.gh b o e) hp)];exact q.gh b o e⟩
theorem Step.aside{K:W.Frag}{G H G2 H2:Hp}{es:PV.Env}{vs:L2.St}{fp Gv:List Addr}{p:Addr}{u u2:HO}(q:Rel K G H es vs fp)(hp:H p=none)(hu:isT u=false)(st:Step G (upd H p u) fp G2 H2 Gv):
  Step G H fp G2 (upd H2 p u2) (p::Gv)/\p∉Gv/\G2 p=none/\H2 p=some u:=by
 have np:p∉fp:=fun z=>by
  obtain⟨u,e⟩:=q.rep.live p z;rw[hp]at e;cases e
 have ne:∀{b o},H b=some o->b≠p:=fun e=>aT e hp
 refine⟨⟨st.gg,fun b o e nb=>?_,fun b hb=>?_,fun b o e=>?_,fun b o e=>?_⟩,fun z=>?_,?_,st.keep p u aM np⟩
 ·rw[av (ne e)];exact st.keep b o (by rw[av (ne e)];exact e) nb
 ·rcases Ri.mp hb with rfl|hb
  ·exact .inr hp
  ·rcases st.fpn b hb with h|h
   ·exact .inl h
   ·by_cases e:b=p
    ·subst e;exact .inr hp
    ·rw[av e]at h;exact .inr h
 ·rcases st.gnew b o e with h|h|h|⟨h1,h2⟩
  ·exact .inl h
  ·exact .inr (.inl h)
  ·by_cases e:b=p
   ·subst e;exact .inr (.inr (.inl hp))
   ·rw[av e]at h;exact .inr (.inr (.inl h))
  ·by_cases e:b=p
   ·subst e;exact .inr (.inr (.inl hp))
   ·rw[av e]at h2;exact .inr (.inr (.inr ⟨h1,h2⟩))
 ·obtain⟨o',h⟩:=st.there b o (by rw[av (ne e)];exact e);exact⟨o',by rw[av (ne e)];exact h⟩
 ·rcases st.fpn p z with h|h
  ·exact np h
  ·rw[aM]at h;cases h
 ·cases e:G2 p with
  |none=>rfl
  |some o=>
   rcases st.gnew p o e with h|h|h|⟨h1,h2⟩
   ·have:=q.gh p o h;rw[hp]at this;cases this
   ·exact absurd h np
   ·rw[aM]at h;cases h
   ·rw[aM]at h2;cases h2;rw[hu]at h1;cases h1
def tP(fk fv:FX):FX:=fun env=>(fk env).bind fun p=>(fv p.2).bind fun q=>if dR false p.1.2 then .ok ((.d,.dct false [p.1.2] [q.1.2]),q.2) else .bad
theorem wj{k v:Expr}{fk fv:FX}{pos:Pos}(hk:QE X k fk)(hv:QE X v fv):QE X (.Dict [some k] [v] pos) (tP fk fv):=
 aY (yN (vQ hk hv yM) rfl rfl (UO _ _) (show 1<=15 by decide)) fun σ H Q F7 p hp=>by
  obtain⟨G,env,fp,r,env',rel,e,kk⟩:=F7;obtain⟨⟨r1,FY⟩,e1,e⟩:=ah e;obtain⟨⟨r2,F5⟩,e2,e⟩:=ah e;dsimp only at e;split at e
  ·rename_i HD;cases e;refine⟨G,env,fp,r1,FY,rel.aside hp,e1,fun x H1 G1 Gg Gb F0=>?_⟩;obtain⟨G2,b,rx,FZ,F4⟩:=F0.freeze;refine⟨G2,FY,b,r2,_,FZ,e2,fun y H3 G3 Ha Gn Gj=>?_⟩;obtain⟨G4,b4,ry,Gw,GZ⟩:=Gj.freeze;have Qt:Rep X.K G4 r1.2 x:=Rep.mono (Gn.gg.trans GZ.gg) rx;unfold dR at HD;rw[Rg Rc,R6]at HD;obtain⟨kd,Nr⟩:=HD;obtain⟨ex,dx⟩:=fZ Nr Qt;obtain⟨st,np,gp,Nx⟩:=Step.aside (u2:=.dK [(kd,y)]) rel hp rfl (Gb.trans (F4.trans (Gn.trans GZ)));refine⟨Nx,[(kd,y)],by rw[ex];rfl,(show 1<=15 by decide),?_⟩;exact kk _ _ G4 _ st (Gw.own np gp ⟨[(kd,y)],rfl,by rw[dx];rfl,rfl,fun kv HZ=>by rw[Ry.mp HZ];exact tG Nr Qt⟩ (.one ry))
  ·cases e
def getD(ks vs:List D)(k:D):Option D:=((ks.zip vs).find? fun p=>F3 k p.1).map (·.2)
theorem jQ{κ:Type}[DecidableEq κ]{K:W.Frag}{G:Hp}(f:κ->D)(hf:∀a b,F3 (f a) (f b)=decide (a=b)){k:κ}:∀{kvs:List (κ×V)}{vs:List D},Reps K G vs (kvs.map (·.2))->((getD (kvs.map fun kv=>f kv.1) vs (f k)).isSome=(mO kvs k).isSome)/\∀d,getD (kvs.map fun kv=>f kv.1) vs (f k)=some d->∃v,mO kvs k=some v/\Rep K G d v
 |[],vs,r=>⟨rfl,fun d h=>nomatch h⟩
 |kv::kvs,vs,r=>by
  cases vs with
  |nil=>have:=r.length;simp at this
  |cons d0 vs=>
   rw[Rl,Reps.cons_iff]at r;obtain⟨h1,h2⟩:=jQ f hf (k:=k) r.2;unfold getD mO at h1 h2 ⊢;rw[Rl,Sl];have e:F3 (f k) (f kv.1)=decide (kv.1=k):=by
    rw[hf,RG,Ro,Ro];exact⟨fun z=>z.symm,fun z=>z.symm⟩
   by_cases hk:kv.1=k
   ·rw[List.find?_cons_of_pos (by show F3 (f k) (f kv.1)=true;rw[e];exact RJ hk),List.find?_cons_of_pos (by exact RJ hk)];refine⟨rfl,fun d h=>?_⟩;cases h;exact⟨_,rfl,r.1⟩
   ·rw[List.find?_cons_of_neg (by show ¬ F3 (f k) (f kv.1)=true;rw[e];simpa using hk),List.find?_cons_of_neg (by simpa using hk)];exact⟨h1,h2⟩
theorem oQ{K:W.Frag}{G H:Hp}(gh:Same G H){tk:Bool}{ks vs:List D}{xs:List V}{o:HO}{p:Addr}{b:D}{y:V}(rd:Rd H p o)(dd:DictO o tk ks xs)(rs:Reps K G vs xs)(hk:dR tk b=true)(ry:Rep K G b y):
  ∃ov,DGet H p y ov/\(getD ks vs b).isSome=ov.isSome/\∀d,getD ks vs b=some d->∃v,ov=some v/\Rep K G d v:=by
 unfold dR at hk;cases tk with
 |true=>
  rw[Rb rfl,R6]at hk;obtain⟨kk,hk⟩:=hk;obtain⟨pz,ez,gz,dz⟩:=cw hk ry;obtain⟨kvs,eo,ek,ex,_⟩:=dd;subst eo ex ez dz;have ek:ks=kvs.map fun kv=>kT kv.1:=ek
  obtain⟨h1,h2⟩:=jQ (K:=K) (G:=G) kT xE (k:=kk) rs;rw[<-ek]at h1 h2;exact⟨mO kvs kk,.inr ⟨kvs,kk,pz,rd,rfl,gh _ _ gz,rfl⟩,h1,h2⟩
 |false=>
  rw[Rg Rc,R6]at hk;obtain⟨kk,hk⟩:=hk;obtain⟨ez,dz⟩:=fZ hk ry;obtain⟨kvs,eo,ek,ex,_⟩:=dd;subst eo ex ez dz;obtain⟨h1,h2⟩:=jQ (K:=K) (G:=G) kD tw (k:=kk) rs;rw[<-ek]at h1 h2;exact⟨mO kvs kk,.inl ⟨kvs,kk,rd,rfl,rfl⟩,h1,h2⟩
def J3(a b:D):Res R:=match a with
 | .dct tk ks vs=>if dR tk b then(match getD ks vs b with
  |some d=>.ok (.f,d)
  |none=>.bad) else .bad
 |_=>.bad
theorem oR{a b:Expr}{fa fb:FO}{pos:Pos}(hu:X.A.units+1<cLine)(ha:QO X a fa)(hb:QO X b fb)(hs:NoSl b:=by exact fun _ _=>rfl):QE X (.Subscript a b pos) (aB J3 fa fb):=
 aY (yK hu ha hb hs) fun σ H Q h=>by
  obtain⟨G,env,fp,r,env',rel,e,k⟩:=h;obtain⟨⟨oa,e1⟩,ha,e⟩:=ah e;obtain⟨⟨ob,e2⟩,hb,e⟩:=ah e;obtain⟨da,K6,e⟩:=ah e;obtain⟨db,HR,e⟩:=ah e;obtain⟨r',hr,e⟩:=ah e;cases e;refine⟨G,env,fp,oa,e1,rel,ha,fun x H1 G1 Gg Gb F0 Hv=>⟨G1,e1,Gg,ob,e2,F0,hb,fun y H2 G2 Gv F4 FZ JZ=>?_⟩⟩;have va:=FZ.vw (Hv.mono F4.gg) K6;have vb:=FZ.vw JZ HR;unfold J3 at hr;split at hr
  ·rename_i tk ks vs;split at hr
   ·rename_i HD;split at hr
    ·rename_i d hd;cases hr;obtain⟨p,xs,o,ev,rd,dd,rs⟩:=va;subst ev;have vb':Rep X.K G2 db y:=by
      cases db with
      |lst l=>cases tk <;> simp[dR,eF,jH]at HD
      |dct _ _ _=>cases tk <;> simp[dR,eF,jH]at HD
      |_=>exact vb
     obtain⟨ov,g,_,h2⟩:=oQ FZ.gh rd dd rs HD vb';obtain⟨v,ho,rv⟩:=h2 d hd;subst ho;exact⟨p,v,rfl,g,k _ H2 G2 Gv (Gb.trans F4) (FZ.push rv)⟩
    ·cases hr
   ·cases hr
  ·cases hr
def OK(a b:D):Res R:=match b with
 | .dct tk ks vs=>if dR tk a then .ok (.f,.bl (getD ks vs a).isSome) else .bad
 |_=>Kr a b
def zf(a b:D):Res R:=match b with
 | .dct tk ks vs=>if dR tk a then .ok (.f,.bl (!(getD ks vs a).isSome)) else .bad
 |_=>Aw a b
theorem BS(hu:X.A.units+65<cLine):GH X (compareOp .In) (rGA X.K OK):=by
 rintro pr s σ H x y v u Q I rx ry ⟨G,fp,es,vs,a,b,r,⟨rel,k⟩,va,vb,e⟩;unfold OK at e;split at e
 ·rename_i tk ks ws;split at e
  ·rename_i HD;cases e;obtain⟨p,xs,o,ev,rd,dd,rs⟩:=vb;subst ev;cases ry;obtain⟨ov,g,h1,_⟩:=oQ (K:=X.K) (G:=H) (fun _ _ z=>z) rd dd rs HD va;exact Fj (by lia) I g rx fun s' I'=>⟨.bl ov.isSome,H,I',rfl,by rw[<-h1];exact k _ H G fp .refl (rel.push (bW _))⟩
  ·cases e
 ·exact DW hu pr s σ H x y v u Q I rx ry ⟨G,fp,es,vs,a,b,r,⟨rel,k⟩,va,vb,e⟩
theorem tR(hu:X.A.units+65<cLine):GH X (compareOp .NotIn) (rGA X.K zf):=by
 rintro pr s σ H x y v u Q I rx ry ⟨G,fp,es,vs,a,b,r,⟨rel,k⟩,va,vb,e⟩;unfold zf at e;split at e
 ·rename_i tk ks ws;split at e
  ·rename_i HD;cases e;obtain⟨p,xs,o,ev,rd,dd,rs⟩:=vb;subst ev;cases ry;obtain⟨ov,g,h1,_⟩:=oQ (K:=X.K) (G:=H) (fun _ _ z=>z) rd dd rs HD va;exact yI (by lia) I g rx fun s' I'=>⟨.bl (!ov.isSome),H,I',rfl,by rw[<-h1];exact k _ H G fp .refl (rel.push (bW _))⟩
  ·cases e
 ·exact BF hu pr s σ H x y v u Q I rx ry ⟨G,fp,es,vs,a,b,r,⟨rel,k⟩,va,vb,e⟩
end
def isLf:O->Bool
 | .l .f=>true
 | .pin _ (.l .f)=>true
 |_=>false
section
variable{K:W.Frag}{G G' H H':Hp}{es:PV.Env}{vs:L2.St}{fp:List Addr}
theorem RepE.append:∀{es IU:PV.Env}{vs Iw:L2.St}{a b:List Addr},RepE K G H es vs a->RepE K G H IU Iw b->RepE K G H (es++IU) (vs++Iw) (a++b)
 |[],IU,vs,Iw,a,b,r,q=>by
  rw[r.1,r.2];exact q
 |none::es,IU,vs,Iw,a,b,r,q=>by
  obtain⟨y,ys,e,r⟩:=r;subst e;exact⟨y,ys++Iw,rfl,RepE.append r q⟩
 |some x::es,IU,vs,Iw,a,b,r,q=>by
  obtain⟨y,ys,e,v,a1,b1,e1,e2,r1,r2⟩:=r;subst e e2;exact⟨y,ys++Iw,rfl,v,a1,b1++b,e1,RK _ _ _,r1,RepE.append r2 q⟩
theorem RepE.clean{G2 G3:Hp}(h:∀p u,isT u=true->G2 p=some u->G3 p=some u):∀{es:PV.Env}{vs:L2.St}{a:List Addr},(∀r,some r∈es->aE r.1 r.2=true)->RepE K G2 H es vs a->RepE K G3 H es vs a
 |[],_,_,_,r=>r
 |none::es,vs,a,hc,r=>by
  obtain⟨y,ys,e,r⟩:=r;exact⟨y,ys,e,RepE.clean h (fun r hr=>hc r (Q7 _ hr)) r⟩
 |some x::es,vs,a,hc,r=>by
  obtain⟨y,ys,e,v,a1,b1,e1,e2,r1,r2⟩:=r;exact⟨y,ys,e,v,a1,b1,e1,e2,r1.clean h (hc x Q2),RepE.clean h (fun r hr=>hc r (Q7 _ hr)) r2⟩
end
section
variable{X:Cx}
def Fn(i:Nat):FX:=fun env=>match env[i]? with
 |some (some (ow,.lst ds))=>if isLf ow then(match ds.getLast? with
  |some d=>.ok ((.f,d),env.set i (some (ow,.lst ds.dropLast)))
  |none=>.bad) else .bad
 |_=>.bad
theorem Reps.dropLast{K:W.Frag}{G:Hp}:∀{ds:List D}{xs:List V},Reps K G ds xs->Reps K G ds.dropLast xs.dropLast
 |[],xs,r=>by rw[Reps]at r;subst r;exact .nil
 |[d],xs,r=>by
  rw[Reps]at r;obtain⟨y,ys,e,r1,r2⟩:=r;rw[Reps]at r2;subst e r2;exact .nil
 |d::d2::ds,xs,r=>by
  rw[Reps]at r;obtain⟨y,ys,e,r1,r2⟩:=r;subst e;have h:=Reps.dropLast r2;cases ys with
  |nil=>have:=r2.length;simp at this
  |cons z zs=>
   rw[Ua (UO _ _),Ua (UO _ _)];exact .cons r1 h
def jR(i:Nat)(f:FX):FS:=fun env=>(f env).bind fun p=>match p.2[i]? with
 |some (some (.pin q c,d0))=>.ok (.rt (.t [p.1.1,.pin q c],.tup [p.1.2,d0]))
 |_=>.bad
theorem gP{i:Nat}{e:Expr}{f:FX}{pos:Pos}(he:QE X e f):QS (md:=.mut) X (.Return (some e) pos) (jR i f):=dZ (xg he) fun Dd σ H F7=>by
 obtain⟨G,env,fp,rel,k⟩:=F7;unfold jR at k;match q:f env,k with
 | .ok (r,FY),k=>
  have k:OutOk (md:=.mut) X.K G H fp Dd (match FY[i]? with
   |some (some (.pin q c,d0))=>.ok (.rt (.t [r.1,.pin q c],.tup [r.2,d0]))
   |_=>.bad):=k
  split at k
  ·rename_i z c d0 hz;refine⟨G,env,fp,r,FY,rel,q,fun v H1 G1 Gg Gb F0=>?_⟩;obtain⟨y,ys,ey,v',a,b,e1,e2,r1,r2⟩:=F0.rep;cases ey;cases e1;subst e2;obtain⟨v0,a0,b0,M4,ro,_,pm⟩:=r2.take hz;have hv0:v0=.ref z:=by
    have:=ro;rw[RepO]at this;exact this.1
   subst hv0;have sub:∀w∈a++a0,w∈a++b:=fun w hw=>by
    rcases RA.mp hw with hw|hw
    ·exact Q9 _ hw
    ·exact Q5 _ (pm.mem_iff.mpr (Q9 _ hw))
   have nd:=Rv.mp F0.nd;have nd2:=Rv.mp (pm.nodup_iff.mp nd.2.1);refine k v H1 G1 (a++a0) (Gb.trans (Step.cut sub)) ⟨r.1,r.2,z,c,d0,rfl,⟨⟨some v,[some (.ref z)],rfl,v,a,a0,rfl,rfl,r1,some (.ref z),[],rfl,.ref z,a0,[],rfl,(Ru _).symm,ro,rfl,rfl⟩,?_,fun p hp=>F0.gn p (sub p hp),F0.gh⟩⟩;rw[Rv];exact⟨nd.1,nd2.1,fun p hp w hw e=>nd.2.2 p hp w (pm.mem_iff.mpr (Q9 _ hw)) e⟩
  ·exact k.elim
def kS(np nn:Nat)(c:O)(g:FS)(p:Addr):List D->Res R
 |d0::ds=>if ds.length+1=np then(g (some (.pin p c,d0)::(ds.map (fun d=>some (O.f,d))++List.replicate nn none))).bind fun o=>match o with
  | .rt r=>.ok r
  |_=>.bad
  else .bad
 |[]=>.bad
inductive spM(K:W.Frag)(c:O)(F:Addr->List D->Res R)(vs:List V)(H:Hp)(Q:VK)(zz:XK):Prop
 |mk:∀G p Iw d0 ds r J4,Same G H->vs=.ref p::Iw->RepO K G H c d0 (.ref p) J4->J4.Nodup->(∀z∈J4,G z=none)->Reps K G ds Iw->F p (d0::ds)=.ok r->(∀v H' G' F2,Step G H J4 G' H' F2->Ez .mut K G' H' r v F2->Q v H')->spM K c F vs H Q zz
theorem BU{P:Program}{w:World}{K:W.Frag}{mg:Str->Option Value}{base:Heap}{x:Str}{st:Stmt}{N ps:List Str}{k:Nat}{c:O}{g:FS}(Df:Def K mg x st)(sc:FnScope N ps (defScope st))
  (hb:∀(kV doc pm:Value) (an:Option Addr) (Gp ct:Value) (us:List Value),us.length=ps.length->bindArgs (PySem.W.fnOf x x (dQ st) (cv st) (defScope st) .none kV doc pm an Gp ct) ⟨us,[]⟩=pure (ps.zip us))
  (body:∀(f:Addr) (Gp:Value) (A:Around) (outer:List PySem.Env) (s:Shared) (H:Hp) (E:XK),Room k (A.deeper (envOfC x (defScope st) s.heap.objs.size f Gp))->JY (md:=.mut) (u0 JU P w K mg base N x (defScope st) f Gp A outer s H E).nox (cv st) g):
  Ct P w K mg base x (k+1) (spM K c (kS ps.length (N.length-ps.length) c g)):=by
 obtain⟨f,fd,F,m⟩:=Df;refine⟨f,fd,ps,F.ok sc (fun vs H Q E h=>?_) (fun Gp A outer s H vs Q E hr h=>?_),m,F.kp,F.binds hb⟩
 ·obtain⟨G,p,Iw,d0,ds,r,J4,_,ev,_,_,_,rs,e,_⟩:=h;unfold kS at e;split at e
  ·rename_i Pw ds' heq;cases heq;split at e
   ·rename_i hl;rw[ev,Rk,rs.length,hl]
   ·cases e
  ·cases e
 ·obtain⟨G,p,Iw,d0,ds,r,J4,gh,ev,r0,nd,gn,rs,e,q⟩:=h;unfold kS at e;split at e
  ·rename_i Pw ds' heq;cases heq;split at e
   ·rename_i hl;refine⟨_,body f Gp A outer s H E hr,G,some (.pin p c,d0)::(ds.map (fun d=>some (O.f,d))++List.replicate (N.length-ps.length) none),J4,⟨?_,nd,gn,gh⟩,?_⟩
    ·have:=fe (K:=K) (G:=G) (H:=H) (N.length-ps.length) rs;unfold L2.ja;rw[ev,Rk,rs.length,hl];exact⟨some (.ref p),_,rfl,.ref p,J4,[],rfl,(Ru _).symm,by rw[RepO];exact⟨rfl,r0⟩,this⟩
    ·obtain⟨o,eo,e⟩:=ah e;rw[eo];cases o with
     |rt r'=>
      cases e;exact fun v H' G' F2 st rel=>q v H' G' F2 st rel
     |nx env'=>cases e
     |bk env'=>cases e
     |ct env'=>cases e
   ·cases e
  ·cases e
def nr:O->O->Bool
 | .l .f,.l .f=>true
 | .l .f,.pin _ (.l .f)=>true
 | .d,.d=>true
 | .d,.pin _ .d=>true
 |_,_=>false
theorem xH{K:W.Frag}{G H:Hp}{c ow:O}{d:D}{v:V}{a:List Addr}(h:nr c ow=true)(r:RepO K G H ow d v a):(∃p,v=.ref p)/\RepO K G H c d v a/\∀(G' H':Hp) (d':D) (a':List Addr),RepO K G' H' c d' v a'->RepO K G' H' ow d' v a':=by
 have Ml:∀{d:D},RepO K G H (.l .f) d v a->∃p,v=.ref p:=fun{d} r=>by
  cases d with
  |lst ds=>obtain⟨p,_,e,_⟩:=eC.mp r;exact⟨p,e⟩
  |_=>simp only[RepO]at r
 have Mm:∀{d:D},RepO K G H .d d v a->∃p,v=.ref p:=fun{d} r=>by
  cases d with
  |dct tk ks ws=>rw[RepO]at r;obtain⟨p,_,_,e,_⟩:=r;exact⟨p,e⟩
  |_=>simp only[RepO]at r
 unfold nr at h;split at h
 ·exact⟨Ml r,r,fun _ _ _ _ z=>z⟩
 ·rw[RepO]at r;exact⟨⟨_,r.1⟩,r.2,fun _ _ _ _ z=>by rw[RepO];exact⟨r.1,z⟩⟩
 ·exact⟨Mm r,r,fun _ _ _ _ z=>z⟩
 ·rw[RepO]at r;exact⟨⟨_,r.1⟩,r.2,fun _ _ _ _ z=>by rw[RepO];exact⟨r.1,z⟩⟩
 ·cases h
open Classical in
def iM(F:Addr->List D->Res R)(c:O)(d0:D)(ds:List D):Res (R×D):=
 if h:∃x:R×D,∀p,F p (d0::ds)=.ok (.t [x.1.1,.pin p c],.tup [x.1.2,x.2]) then .ok (Classical.choose h) else .bad
theorem pX{F:Addr->List D->Res R}{c:O}{d0:D}{ds:List D}{r:R}{d':D}(h:∀p,F p (d0::ds)=.ok (.t [r.1,.pin p c],.tup [r.2,d'])):iM F c d0 ds=.ok (r,d'):=by
 have h':∃x:R×D,∀p,F p (d0::ds)=.ok (.t [x.1.1,.pin p c],.tup [x.1.2,x.2]):=⟨(r,d'),h⟩
 unfold iM;rw[dif_pos h'];have e:=(Vb h' 0).symm.trans (h 0);generalize Classical.choose h'=x at e;obtain⟨⟨o,d⟩,d2⟩:=x;cases e;rfl
theorem pY{F:Addr->List D->Res R}{c:O}{d0:D}{ds:List D}{x:R×D}(h:iM F c d0 ds=.ok x)(p:Addr):F p (d0::ds)=.ok (.t [x.1.1,.pin p c],.tup [x.1.2,x.2]):=by
 unfold iM at h;split at h
 ·rename_i h';cases h;exact Vb h' p
 ·cases h
end
section
variable{X:Cx}{x:Str}{p pos:Pos}{e:Expr}{es:List Expr}{fs:FOs}
end
section
variable{K:W.Frag}{G G' H H':Hp}
end
section
variable{X:Cx}{md:Mode}
end
end PV
namespace NX
open PySem PySem.Spec PyProof.Rows L2
theorem BV{P:Program}{w:World}{k:Key}{u:Value}(h:(mixKind P w).is k u=true):RelV (kV k) u:=by
 rw[qz]at h;cases k with
 |inl i=>
  have h:Value.isInt i u=true:=h;cases u with
  |int j t=>
   have e:(j==i)=true:=h;rw[RO]at e;exact⟨t,by rw[e]⟩
  |_=>cases h
 |inr x=>
  obtain⟨t,e⟩:=Value.isStrOf_shape h;exact⟨t,e⟩
theorem BW{κ:Type}{kvs:List (κ×V)}{vs:List (κ×Value)}(r:KV kvs vs):∀{i:Nat}{k:κ}{v:V},kvs[i]?=some (k,v)->∃u,vs[i]?=some (k,u)/\RelV v u:=by
 induction r with
 |nil=>intro i k v e;simp at e
 | @cons p q ps qs hq _ ih=>
  intro i k v e;cases i with
  |zero=>
   simp at e;subst e;obtain⟨qk,qv⟩:=q;obtain⟨e1,e2⟩:=hq;cases e1;exact⟨qv,rfl,e2⟩
  |succ i=>exact ih (by simpa using e)
theorem pZ{X:Cx}{pr:List (Addr×Obj)}{σ:L2.St}{H:Hp}{s:Shared}{a:Addr}{o:Obj}{ep:Nat}{es:Array DictEntry}{kvs:List (Key×V)}(I:Inv X pr σ H s)(hd:o.data=.dict es ep)(ha:H a=some (.frz o (.dK kvs))):
  s.heap.get? a=some o/\∃vs,KV kvs vs/\s.heap.DictAt (mixKind X.prog X.w) a vs ep:=by
 obtain⟨ho,z,nm,vs,r,o',IU,LV,g1,ex,dat,dq⟩:=(show ObjOk X.prog X.w H s.heap a (.frz o (.dK kvs)) from I.hok a _ ha)
 have e:=g1.symm.trans ho;cases e;have e2:=dat.symm.trans hd;cases e2;exact⟨ho,vs,r,o,es,ho,ex,hd,dq⟩
theorem wm{X:Cx}{pr:List (Addr×Obj)}{σ:L2.St}{H:Hp}{s:Shared}{a:Addr}{o:Obj}{kvs:List (Key×V)}(I:Inv X pr σ H s)(ha:H a=some (.dK kvs))(ho:s.heap.get? a=some o):Inv X pr σ (upd H a (.frz o (.dK kvs))) s:=by
 have ok:=(show ObjOk X.prog X.w H s.heap a (.dK kvs) from I.hok a _ ha)
 have nt:∀c xs,H c=some (.tup xs)->c≠a:=fun c xs e z=>by rw[z,ha]at e;cases e
 have nf:∀c q u,H c=some (.frz q u)->c≠a:=fun c q u e z=>by rw[z,ha]at e;cases e
 have nb:∀c ps,H c=some (.tbl ps)->c≠a:=fun c ps e z=>by rw[z,ha]at e;cases e
 have no:∀c b,H c=some (.own b)->c≠a:=fun c b e z=>by rw[z,ha]at e;cases e
 have S0:Inv X pr σ (upd H a (.frz o (.dK kvs))) {s with heap:=s.heap,gens:=s.gens,drawn:=s.drawn,toks:=s.toks}:=by
  refine I.step (ch:=[]) (fun c hc=>nomatch hc) (fun c q _ _ _ e _=>e) (fun c q _ _ _ e _=>⟨q.slots,e⟩) (fun c q _ e n=>?_) (fun c q _ e=>⟨q,e⟩)
   (fun c l e=>by rw[av (nt c l e)];exact e) (fun c q u e=>by rw[av (nf c q u e)];exact e) (fun c ps e=>⟨#[],by rw[av (nb c ps e),e];simp⟩) (fun m hm=>hm) (fun c ob e=>?_) I.bare
  ·have:c≠a:=fun z=>by rw[z,ha]at n;cases n
   rw[av this];exact n
  ·by_cases ec:c=a
   ·subst ec;rw[aM]at e;cases e;exact⟨ho,ok.stay (fun _ _ _ q=>q) (fun d q=>by rw[av (no d _ q)];exact q) fun d l q=>by rw[av (nt d l q)];exact q⟩
   ·rw[av ec]at e;exact(I.hok c ob e).stay (fun _ _ _ q=>q) (fun d q=>by rw[av (no d _ q)];exact q) fun d l q=>by rw[av (nt d l q)];exact q
 exact S0
end NX
namespace PV
open PySem PySem.Spec PyProof.Rows L2 NX
def EB(f:FX):FI:=fun env=>(f env).bind fun p=>match p.1 with
 |(.d,.dct false ks vs)=>.ok ((ks.zip vs).map fun z=>D.tup [z.1,z.2],p.2)
 |_=>.bad
section
variable{X:Cx}
def BX(i:Nat):FX:=fun env=>match env[i]? with
 |some (some (ow,.lst _))=>if isLf ow then .ok ((.f,.non),env.set i (some (ow,.lst []))) else .bad
 |_=>.bad
def tS(fa fb:FX):FX:=fun env=>(fa env).bind fun p=>(fb p.2).bind fun q=>.ok ((.t [.f,q.1.1],.tup [p.1.2,q.1.2]),q.2)
theorem oS{a b:Expr}{fa fb:FX}{x1}{pos:Pos}(ha:QE X a fa)(hb:QE X b fb)(h1:starEach [a,b] X.env=(false,eval a X.env)::starEach [b] X.env:=by rfl)(h2:starEach [b] X.env=(false,eval b X.env)::starEach [] X.env:=by rfl):
  QE X (.Tuple [a,b] x1 pos) (tS fa fb):=
 aY (rV (cH ha (cH hb iQ h2) h1)) fun σ H Q F7=>by
  obtain⟨G,env,fp,r,env',rel,e,k⟩:=F7;obtain⟨⟨r1,FY⟩,e1,e⟩:=ah e;obtain⟨⟨⟨o2,d2⟩,F5⟩,e2,e⟩:=ah e;cases e;refine⟨G,env,fp,r1,FY,rel,e1,fun v H1 G1 Gg Gb F0=>?_⟩;obtain⟨G2,b,rv,FZ,F4⟩:=F0.freeze;refine⟨G2,FY,b,(o2,d2),F5,FZ,e2,fun v2 H3 G3 Ha Gn Gj=>⟨by rw[line_eq];exact(by decide:2<=16777216),fun p hp=>?_⟩⟩;obtain⟨Gw,GZ⟩:=Gj.newF (u:=.tup [v,v2]) hp;refine k _ _ _ Ha (Gb.trans (F4.trans (Gn.trans GZ))) ?_;obtain⟨y,ys,ey,v',a',b',K9,ef,q1,q2⟩:=Gw.rep;cases ey;cases K9;subst ef;refine⟨⟨some (.ref p),σ,rfl,.ref p,a',b',rfl,rfl,?_,q2⟩,Gw.nd,Gw.gn,Gw.gh⟩;show RepO X.K _ _ (.t [.f,o2]) (.tup [r1.2,d2]) (.ref p) a';rw[RepO];refine⟨p,[v,v2],rfl,aM,?_⟩;rw[RepT];refine⟨v,[v2],[],a',rfl,rfl,df.mpr ⟨Rep.mono (Gn.gg.trans GZ.gg) rv,rfl⟩,?_⟩;rw[RepT];refine⟨v2,[],a',[],rfl,by rw[Ru],q1,?_⟩;rw[RepT];exact⟨rfl,rfl⟩
def p3(i:Nat):FX:=fun env=>match env[i]? with
 |some (some (.t [.f,.l .f],.tup [a,.lst _]))=>.ok ((.f,.non),env.set i (some (.t [.f,.l .f],.tup [a,.lst []])))
 |_=>.bad
theorem wo{i:Nat}{o:Expr}{j Ir ipos apos Gd}(ho:PE X o (pe i))(GD:attributeBase (.Subscript o (.Constant (.int 1) j ipos) Ir) "clear" X.env (eval (.Subscript o (.Constant (.int 1) j ipos) Ir) X.env)=eval (.Subscript o (.Constant (.int 1) j ipos) Ir) X.env:=by rfl)(GF:(apos.endLine==Gd.line)=true:=by rfl):
  QE X (.Call (.Attribute (.Subscript o (.Constant (.int 1) j ipos) Ir) "clear" apos) [] [] Gd) (p3 i):=by
 refine aY (xm SY UH UI pk (qF sf ho kB (by exact fun _ _=>rfl)) GD GF) fun σ H Q Gf=>?_
 obtain⟨G,env,fp,r,env',rel,e,k⟩:=Gf;unfold p3 at e;split at e
 ·rename_i d1 ds JR;cases e;obtain⟨v,fq,ev,g,st,HI⟩:=rel.out JR;obtain⟨y,ys,e0,v',a,b,e1,e2,r1,r2⟩:=g.rep;cases e0;cases e1;have r1:RepO X.K G H (.t [.f,.l .f]) (.tup [d1,.lst ds]) v a:=r1;rw[RepO]at r1;obtain⟨p,xs,ep,gp,rt⟩:=r1;rw[RepT]at rt;obtain⟨y1,t1,a1,b1,Px,Py,q1,rt⟩:=rt;rw[RepT]at rt;obtain⟨y2,t2,a2,b2,Pz,PB,q2,rt⟩:=rt;rw[RepT]at rt;obtain⟨et,eb⟩:=rt;obtain⟨rep1,ea⟩:=df.mp q1;obtain⟨l,zs,el,hl,PD,rz⟩:=eC.mp q2;subst ep ea et eb Pz Px el PD PB Py e2;have nd:=Rx.mp (show(l::b).Nodup from g.nd);have g2:Rel X.K G (upd H l (.lst [])) (some (.t [.f,.l .f],.tup [d1,.lst []])::env.set i none) (some (.ref p)::σ) (l::b):=by
   refine⟨⟨some (.ref p),σ,rfl,.ref p,[l],b,rfl,rfl,?_,r2.step (.refl _) fun z hz=>av fun e=>nd.1 (e▸hz)⟩,g.nd,g.gn,fun z o ez=>?_⟩
   ·show RepO X.K G _ (.t [.f,.l .f]) (.tup [d1,.lst []]) (.ref p) [l];rw[RepO];refine⟨p,[y1,.ref l],rfl,gp,?_⟩;rw[RepT];refine⟨y1,[.ref l],[],[l],rfl,rfl,df.mpr ⟨rep1,rfl⟩,?_⟩;rw[RepT];refine⟨.ref l,[],[l],[],rfl,rfl,eC.mpr ⟨l,[],rfl,aM,rfl,.nil⟩,?_⟩;rw[RepT];exact⟨rfl,rfl⟩
   ·have:z≠l:=fun w=>by
     subst w;rw[g.gn z Q2]at ez;cases ez
    rw[av this];exact g.gh z o ez
  have Me:Step G H (l::b) G (upd H l (.lst [])) (l::b):=by
   refine⟨.refl _,fun z o ez nz=>?_,fun z hz=>.inl hz,fun z o ez=>.inl ez,fun z o ez=>?_⟩
   ·have:z≠l:=fun w=>nz (by rw[w];exact Q2)
    rw[av this];exact ez
   ·by_cases w:z=l
    ·subst w;exact⟨_,aM⟩
    ·exact⟨o,by rw[av w];exact ez⟩
  obtain⟨fz,g3,Gn⟩:=g2.back (i:=i) (by rw[RN];exact(List.getElem?_eq_some_iff.mp JR).1) ev;rw[Sj]at g3;refine⟨.ref p,ev,p,[y1,.ref l],1,.ref l,rfl,rfl,SqT.of (rel.gh _ _ gp),rfl,.inl ⟨rfl,zs,SqL.of hl⟩,l,zs,rfl,rfl,hl,k _ _ G fz (st.trans (Me.trans Gn)) (g3.push (by rw[Rep]))⟩
 ·cases e
def tU:List D->Res R
 |[.dct false ks _]=>.ok (.l .f,.lst ks)
 |ds=>qV ds
theorem tV:∀{xs:List V}{us:List Value},xs.length=us.length->(∀(i:Nat) (a:V) (b:Value),xs[i]?=some a->us[i]?=some b->RelV a b)->Vals xs us
 |[],[],_,_=>.nil
 |x::xs,u::us,hl,h=>.cons (h 0 x u rfl rfl) (tV (by simpa using hl) fun i a b ha hb=>h (i+1) a b (by simpa using ha) (by simpa using hb))
 |[],_::_,hl,_=>by simp at hl
 |_::_,[],hl,_=>by simp at hl
theorem nu(hc:X.calm=true):di X (.type "list") (fun vs H Q=>∃p kvs,vs=[.ref p]/\Rd H p (.dK kvs)/\∀l,H l=none->Q (.ref l) (upd H l (.lst (kvs.map fun kv=>kV kv.1)))):=by
 intro pr s σ H xs us Q I r h;obtain⟨p,kvs,rfl,hp,q⟩:=h;obtain⟨u,rfl,rx⟩:=e8 r;cases rx;obtain⟨z,nm,vs,rr,hD⟩:=qO I.hok hp;obtain⟨ep,J5⟩:=hD.dictAt;have hl:=rr.length;refine PySem.W.kdl_call (PySem.W.kdl_dict (knd:=mixKind X.prog X.w) (kvs:=vs) (ep:=ep) nm) (I.ok.hd hc) J5 (by rw[<-hl];exact z) fun h' tk NS c' hk hS Jn=>?_
 refine⟨.ref s.heap.objs.size,_,I.laid (o:=.lst (kvs.map fun kv=>kV kv.1)) (t':=tk) hk (Q8 _) ⟨by rw[Q3];exact z,NS.toList,c',?_,by rw[Array.toArray_toList];exact hS⟩,rfl,q _ (I.hok.fresh (Q8 _))⟩;refine tV (by rw[Q3,hl];exact(Jn.1.symm.trans (R4 (xs:=NS)).symm)) fun i a b ha hb=>?_
 rw[Array.getElem?_toList]at hb;obtain⟨k,x,e1,e2⟩:=Jn.2 i b hb;rw[List.getElem?_map]at ha;cases HZ:kvs[i]? with
 |none=>rw[HZ]at ha;cases ha
 |some kv=>
  rw[HZ]at ha;obtain⟨k',v'⟩:=kv;obtain⟨u,hu,_⟩:=BW rr HZ;rw[e1]at hu;cases hu;cases ha;exact BV e2
theorem wq(hc:X.calm=true):di X (.type "list") (rC X.K tU):=by
 rintro pr s σ H xs us Q I rx ⟨G,fp,es,vs,ds,r,⟨rel,k⟩,vd,e⟩;unfold tU at e;split at e
 ·rename_i ks ws;cases e;obtain⟨v,ev,vt⟩:=mV vd;have rp:=vt.rep rel.gh;rw[Rep]at rp;obtain⟨p,ys,o,ep,rd,dd,rs⟩:=rp;obtain⟨kvs,eo,ek,ex,hf⟩:=(show ∃kvs:List (Key×V),o=.dK kvs/\ks=kvs.map (fun kv=>kD kv.1)/\ys=kvs.map (·.2)/\∀kv∈kvs,qQ kv.1 from dd)
  subst ev ep eo;refine nu hc pr s σ H _ us Q I rx ⟨p,kvs,rfl,rd,fun q hq=>?_⟩;have rk:Reps X.K G ks (kvs.map fun kv=>kV kv.1):=by
   rw[ek];refine Reps.ofAll (by rw[Q3,Q3]) fun i d v hd hv=>?_
   rw[List.getElem?_map]at hd hv;cases HZ:kvs[i]? with
   |none=>rw[HZ]at hd;cases hd
   |some kv=>
    rw[HZ]at hd hv;cases hd;cases hv;exact tu (hf _ (Rz HZ))
  obtain⟨FZ,F4⟩:=rel.newL hq rk;exact k _ _ G _ F4 FZ
 ·exact oK pr s σ H xs us Q I rx ⟨G,fp,es,vs,ds,r,⟨rel,k⟩,vd,e⟩
end
end PV
namespace NX
open PySem PySem.Spec PyProof.Rows L2
section
variable{prog:Program}{w:World}{A:Around}{E:Value->Shared->Prop}{s:Shared}
end
section
variable{prog:Program}{w:World}{A:Around}{E:Value->Shared->Prop}{s:Shared}
end
section
variable{X:Cx}{e:Expr}{ta:TA}{p p2 pos pos2:Pos}
end
end NX
namespace PV
open PySem PySem.Spec PyProof.Rows L2 NX
section
variable{X:Cx}{e:Expr}{fs:FOs}{p p2 pos pos2:Pos}
end
end PV
namespace NX
open PySem PySem.Spec PyProof.Rows L2
section
open PySem.AutoSeq1 (wpAny_loadPart')
end
end NX
namespace PV
open PySem PySem.Spec PyProof.Rows L2 NX
section
variable{X:Cx}
end
section
variable{md:Mode}{X:Cx}{scope:Scope}{N:List Str}{tg iter elt:Expr}{ifs:List Expr}{pos:Pos}{fi:FI}{a:FG}{c:FT}{f:FX}{j k0:Nat}
end
section
variable{X:Cx}{x:Str}{p pos:Pos}{e:Expr}{es:List Expr}{f0:FX}{fs:FOs}
end
def joinL(sep:List Nat):List (List Nat)->List Nat
 |[]=>[]
 |[x]=>x
 |x::y::r=>x++sep++joinL sep (y::r)
def tW(sep:List Nat):List D->Res R
 |[.lst ds]=>match eX ds with
  |some ys=>if(ys.map List.length).sum+ys.length*sep.length<=16777216 then .ok (.f,.str (joinL sep ys)) else .bad
  |none=>.bad
 |_=>.bad
theorem tX(sep:List Nat):∀ys:List (List Nat),Str.join (S sep) (ys.map S)=S (joinL sep ys)
 |[]=>rfl
 |[x]=>rfl
 |x::y::r=>by
  have ih:=tX sep (y::r);show S x++S sep++Str.join (S sep) ((y::r).map S)=S (x++sep++joinL sep (y::r));rw[ih];apply Str.ext';simp[Str.cps_append]
theorem BY(sep:List Nat):∀ys:List (List Nat),Txt.join (S sep) (ys.map S)=S (joinL sep ys)
 |ys=>by
  show Builtin.Str.glued (S sep) (ys.map S)=_;rw[StrLaws.glued_eq_join];exact tX sep ys
theorem nv(sep:List Nat):∀ys:List (List Nat),(joinL sep ys).length<=(ys.map List.length).sum+ys.length*sep.length
 |[]=>RM _
 |[x]=>by
  show x.length<=_;rw[Rl,VE];lia
 |x::y::r=>by
  have ih:=nv sep (y::r);show(x++sep++joinL sep (y::r)).length<=_;rw[RC,RC,Rl,VE,Rk,Nat.add_mul];lia
theorem ny{K:W.Frag}{G:Hp}:∀{ds:List D}{ys:List (List Nat)}{xs:List V}{us:List Value},eX ds=some ys->Reps K G ds xs->Vals xs us->StrsAre us (ys.map S)
 |[],ys,xs,us,e,r,v=>by
  cases e;rw[Reps]at r;subst r;cases v;exact .nil
 | .str b::ds,ys,xs,us,e,r,v=>by
  rw[Reps]at r;obtain⟨y,zs,ex,r1,r2⟩:=r;subst ex;cases v with
  |cons h t=>
   rw[eX,RH]at e;obtain⟨ws,hw,rfl⟩:=e;rw[Rep]at r1;obtain⟨r1,_⟩:=r1;subst r1;obtain⟨tk,rfl⟩:=h;exact .cons _ tk (ny hw r2 t)
 | .non::_,_,_,_,e,_,_ | .bl _::_,_,_,_,e,_,_ | .int _::_,_,_,_,e,_,_ | .tup _::_,_,_,_,e,_,_ | .lst _::_,_,_,_,e,_,_ | .dct _ _ _::_,_,_,_,e,_,_=>by cases e
section
variable{X:Cx}
theorem zg:KZ X "str.join" (rMtS X.K tW):=by
 rintro pr s σ H x xs v us Q I rx rv ⟨G,fp,es,vs,l,ds,r,⟨rel,k⟩,ex,hz,vd,e⟩;unfold tW at e;split at e
 ·rename_i ds;split at e
  ·rename_i ys Pa;split at e
   ·rename_i hb;cases e;subst ex;obtain⟨w',ew,p,zs,ep,sq,rs⟩:=mV vd;subst ew ep;obtain⟨t,rfl⟩:=rx;obtain⟨u,rfl,ru⟩:=e8 rv;cases ru;obtain⟨F1,r',pl,KS⟩:=I.list sq;refine join_list pl.isList (ys:=ys.map S) (ny Pa rs r') ?_ fun t' kk=>?_
    ·rw[Rq,Q3];have e1:((fun x:Str=>x.length)∘S)=List.length:=by funext z;exact kq z
     rw[e1,kq];exact hb
    ·rw[BY];refine⟨.str (S (joinL l ys)),H,I.tok _,⟨_,rfl⟩,k _ H G fp .refl (rel.push ?_)⟩;rw[Rep];have:=nv l ys;exact⟨rfl,by rw[line_eq];lia⟩
   ·cases e
  ·cases e
 ·cases e
end
end PV
namespace NX
open PySem PySem.Spec PyProof.Rows L2
section
variable{prog:Program}{w:World}{A:Around}{R:Result->Shared->Prop}{it:Addr}{fp wr:List Addr}{n:Nat}{Pv:Nat->Value->Prop}{Sx:Nat->Heap->Prop}{kw:List (Str×Value)}
end
section
variable{X:Cx}{e k:Expr}{te tk:TE}{p pos JQ:Pos}
end
end NX
namespace PV
open PySem PySem.Spec PyProof.Rows L2 NX
section
variable{X:Cx}
end
section
variable{X:Cx}
noncomputable def Ay(g:List D->List D->Res R)(fa:FO)(fs:FOs):FX:=fun env=>(fa env).bind fun p=>(Hi p.2 p.1).bind fun a=>match a with
 | .lst _=>(fs p.2).bind fun q=>(Hi q.2 p.1).bind fun a2=>match a2 with
  | .lst l=>(ou q.2 q.1).bind fun ds=>(g l ds).bind fun r=>.ok (r,q.2)
  |_=>.bad
 |_=>.bad
inductive rMtL(K:W.Frag)(g:List D->List D->Res R)(x:V)(xs:List V)(H:Hp)(Q:VK):Prop
 |mk:∀G fp es vs l ds r,Goes K H G fp es vs r Q->Vw K G H (.lst l) x->LO K G H ds xs->g l ds=.ok r->rMtL K g x xs H Q
theorem xI{g:List D->List D->Res R}{id:String}{name:Str}{o e:Expr}{es:List Expr}{fa:FO}{fs:FOs}{apos Gd:Pos}(slot:Slot "list" name id)(JT:typeOf (.builtin id)=pure (.type "method_descriptor"))(hm:KZ X id (rMtL X.K g))(ho:QO X o fa)(ha:JX X (e::es) fs)
  (GD:attributeBase o name X.env (eval o X.env)=eval o X.env:=by rfl)
  (Ig:((backTo Gd (starEach (e::es) X.env)).all (fun x=>!x.1)&&(backToKw Gd (keywordEach [] X.env)).all (fun x=>x.1.isSome)&&decide ((e::es).length+([]:List Keyword).length+(if([]:List Keyword).isEmpty then 0 else 1)<30))=true:=by rfl)
  (GF:(apos.endLine==Gd.line)=true:=by rfl) (hs:starEach (e::es) X.env=(false,eval e X.env)::starEach es X.env:=by rfl) (GO:(backTo Gd (starEach es X.env)).any (·.1)=false:=by rfl):
  QE X (.Call (.Attribute o name apos) (e::es) [] Gd) (Ay g fa fs):=by
 refine aY (yq SY slot JT hm ho ha GD Ig GF hs GO) fun σ H Q Gf=>?_
 obtain⟨G,env,fp,r,env',rel,e,k⟩:=Gf;obtain⟨⟨oa,FY⟩,e1,e⟩:=ah e;obtain⟨da,K6,e⟩:=ah e;dsimp only at e;split at e
 ·obtain⟨⟨os,F5⟩,e2,e⟩:=ah e;obtain⟨d2,hd2,e⟩:=ah e;dsimp only at e;split at e
  ·obtain⟨ds,e3,e⟩:=ah e;obtain⟨r',e4,e⟩:=ah e;cases e;refine⟨G,env,fp,oa,FY,rel,e1,fun v H1 G1 Gg Gb F0 Hv=>?_⟩;obtain⟨p,xs,ev,sq,_⟩:=F0.vw Hv K6;subst ev;exact⟨.inl ⟨rfl,xs,sq⟩,G1,FY,Gg,os,_,F0,e2,fun vs H2 G2 Gv F4 FZ JZ=>⟨G2,Gv,_,σ,_,ds,r,⟨FZ,fun v H' G' F2 st Gq=>k v H' G' F2 (Gb.trans (F4.trans st)) Gq⟩,FZ.vw (Hv.mono F4.gg) hd2,FZ.vws JZ e3,e4⟩⟩
  ·cases e
 ·cases e
open PySem.SeqAt in
theorem zh{pr:List (Addr×Obj)}{σ:L2.St}{H:Hp}{s:Shared}(I:Inv X pr σ H s){a:D}{x:V}{v:Value}{A:Around}(h:plainD 40 a=true)(hu:A.units+64<cLine)(r:Rep X.K H a x)(rx:RelV x v):
  ∀(ds:List D) (xs:List V) (us:List Value),plainDs 40 ds=true->Reps X.K H ds xs->Vals xs us->∃e:Value->Bool,(∀(j:Nat) (d:D) (u:Value),ds[j]?=some d->us[j]?=some u->e u=F3 d a)/\∀u∈us,EqAt A s u v (e u):=by
 classical
 intro ds xs us hp rs vl;have key:∀(j:Nat) (d:D) (u:Value),ds[j]?=some d->us[j]?=some u->decide (∃(j:Nat) (d:D),ds[j]?=some d/\us[j]?=some u/\F3 d a=true)=F3 d a:=by
  intro j d u hd hj;obtain⟨w1,Jq,Jr⟩:=rs.get hd;obtain⟨u1,Ih,Js⟩:=vl.get Jq;rw[hj]at Ih;cases Ih;rw[RG,Ro];constructor
  ·rintro⟨j2,d2,k1,k2,k3⟩;obtain⟨w2,Ko,Kp⟩:=rs.get k1;obtain⟨u2,IX,Kq⟩:=vl.get Ko;rw[k2]at IX;cases IX;have:=Js.inj Kq;subst this;rw[jF I _ _ _ 40 (plainDs_mem hp hd) Jr Kp];exact k3
  ·intro k3;exact⟨j,_,hd,hj,k3⟩
 refine⟨fun u=>decide (∃(j:Nat) (d:D),ds[j]?=some d/\us[j]?=some u/\F3 d a=true),key,fun u Pr=>?_⟩;obtain⟨j,hj⟩:=Si.mp Pr;have l1:=vl.length;have l2:=rs.length;have hjl:=(List.getElem?_eq_some_iff.mp hj).1;have g1:ds[j]?=some (ds[j]'(by lia)):=List.getElem?_eq_getElem _;obtain⟨w1,Jq,Jr⟩:=rs.get g1;obtain⟨u1,Ih,Js⟩:=vl.get Jq;rw[hj]at Ih;cases Ih;have z:=yZ I _ _ w1 x u v A 40 (plainDs_mem hp g1) h (by lia) Jr r Js rx;show EqAt A s u v (decide (∃(j:Nat) (d:D),ds[j]?=some d/\us[j]?=some u/\F3 d a=true));rw[key j _ u g1 hj];exact z
def jS(l:List D):List D->Res R
 |[a]=>if plainD 40 a&&plainDs 40 l&&l.any (fun d=>F3 d a) then .ok (.f,.int (l.findIdx (fun d=>F3 d a):Nat)) else .bad
 |_=>.bad
theorem jT(hu:X.A.units+65<cLine):KZ X "list.index" (rMtL X.K jS):=by
 rintro pr s σ H x xs v us Q I rx rv ⟨G,fp,es,vs,l,ds,r,⟨rel,k⟩,vx,vd,e⟩;unfold jS at e;split at e
 ·rename_i a;split at e
  ·rename_i hp;rw[Rh,Rh]at hp;cases e;obtain⟨p,ys,ev,sq,rs⟩:=vx;subst ev;cases rx;obtain⟨w',ew,va⟩:=mV vd;subst ew;obtain⟨u,rfl,ru⟩:=e8 rv;obtain⟨F1,vl,pl,hz⟩:=I.list sq;obtain⟨⟨cls,dd,data,sl⟩,ho,hc,n,hd⟩:=id pl.isList;simp only at hc hd;subst hc hd;obtain⟨ef,Qu,he2⟩:=zh (A:=X.A.in1) I hp.1.1 (by first|lia|(simp only[Around.in1_units];lia)) (va.rep rel.gh) ru l ys F1 hp.1.2 (Reps.mono rel.gh rs) vl;have Gy:l.findIdx (fun d=>F3 d a)<l.length:=List.findIdx_lt_length.mpr (by rw[<-Sq];exact hp.2);have l1:=vl.length;have l2:=rs.length;have hlt2:l.findIdx (fun d=>F3 d a)<F1.toArray.size:=by rw[Q4];lia
   have hb:(l.findIdx (fun d=>F3 d a):Int)<2 ^ 63-1:=by
    rw[R0]at hz;lia
   refine PySem.call_meets TF ⟨_,ho,rfl⟩ PySem.F.entry_list_index (PySem.F.args_list_index_2 _ _) (PySem.SeqAt.list_indexAt p F1.toArray n _ _ u ef (l.findIdx fun d=>F3 d a) hlt2 hb ?_ ?_) ⟨ho,fun y hy=>?_,⟨.int (l.findIdx (fun d=>F3 d a):Nat),H,I.tok _,⟨_,rfl⟩,k _ H G fp .refl (rel.push (bF _))⟩⟩
   ·rw[Qu _ _ _ (List.getElem?_eq_getElem Gy) (by rw[Vk];exact List.getElem?_eq_getElem _)];exact T6 (w:=Gy)
   ·intro m hm hlt3;rw[Qu m (l[m]'(by lia)) _ (List.getElem?_eq_getElem _) (by rw[Vk];exact List.getElem?_eq_getElem _)];exact List.not_of_lt_findIdx hlt3
   ·exact he2 y (by simpa using hy)
  ·cases e
 ·cases e
end
section
variable{K:W.Frag}{G G' H H':Hp}{es:PV.Env}{vs:L2.St}{fp:List Addr}
theorem Rel.lendM2(q:Rel K G H es vs fp)(a:List Addr)(ha:∀z∈a,z∉fp)(hga:∀z∈a,G z=none):∃G1,Same G G1/\Same G1 H/\(∀z∈a,G1 z=none)/\(∀(i:Nat) (r:R) (v:V),es[i]?=some (some r)->vs[i]?=some (some v)->Rep K G1 r.2 v)/\
  ∀(H2 G2:Hp) (Gv:List Addr) (rs:PV.Env) (ws:L2.St),Step G1 H a G2 H2 Gv->Rel K G2 H2 rs ws Gv->((∀r,some r∈rs->aE r.1 r.2=true)->∃G3 Ha,Step G H (a++fp) G3 H2 Ha/\Rel K G3 H2 (rs++es) (ws++vs) Ha)/\∃G3 Ha,Step G H (a++fp) G3 H2 Ha/\Rel K G3 H2 (rs++es.map PV.frz) (ws++vs) Ha:=by
 have hg:Same G (fun p=>if p∈fp then H p else G p):=fun p u e=>by
  show(if p∈fp then H p else G p)=some u;by_cases hp:p∈fp
  ·rw[Rb hp];exact q.gh p u e
  ·rw[Rg hp];exact e
 have hh:Same (fun p=>if p∈fp then H p else G p) H:=fun p u e=>by
  have e:(if p∈fp then H p else G p)=some u:=e;by_cases hp:p∈fp
  ·rw[Rb hp]at e;exact e
  ·rw[Rg hp]at e;exact q.gh p u e
 have hk:∀p∈fp,∀u,H p=some u->(fun p=>if p∈fp then H p else G p) p=some u:=fun p hp u e=>by
  show(if p∈fp then H p else G p)=some u;rw[Rb hp];exact e
 refine⟨fun p=>if p∈fp then H p else G p,hg,hh,fun z hz=>?_,fun i r v e ev=>q.rep.rep hg hk e ev,fun H2 G2 Gv rs ws st k=>⟨fun cl=>?_,?_⟩⟩
 ·show(if z∈fp then H z else G z)=none;rw[Rg (ha z hz)];exact hga z hz
 ·have kept:∀p∈fp,H2 p=H p:=fun p hp=>by
   obtain⟨u,hu⟩:=q.rep.live p hp;rw[hu];exact st.keep p u hu fun z=>ha p z hp
  have apart:∀p∈Gv,p∉fp:=fun p hp hf=>by
   rcases st.fpn p hp with z|z
   ·exact ha p z hf
   ·obtain⟨u,hu⟩:=q.rep.live p hf;rw[z]at hu;cases hu
  have g3:Same G (fun p=>if p∈fp then none else G2 p):=fun p u e=>by
   show(if p∈fp then none else G2 p)=some u;rw[Rg (fun z=>by rw[q.gn p z]at e;cases e)];exact st.gg p u (hg p u e)
  refine⟨fun p=>if p∈fp then none else G2 p,Gv++fp,⟨g3,fun p u e n=>?_,fun p hp=>?_,fun p u e=>?_,st.there⟩,⟨RepE.append (RepE.clean (fun p u t e=>?_) cl k.rep) (q.rep.step g3 kept),?_,fun p hp=>?_,fun p u e=>?_⟩⟩
  ·exact st.keep p u e fun z=>n (Q9 _ z)
  ·rcases RA.mp hp with hp|hp
   ·exact(st.fpn p hp).imp_left (Q9 _)
   ·exact .inl (Q5 _ hp)
  ·have e:(if p∈fp then none else G2 p)=some u:=e;by_cases hp:p∈fp
   ·rw[Rb hp]at e;cases e
   ·rw[Rg hp]at e;rcases st.gnew p u e with z|z|z
    ·have z:(if p∈fp then H p else G p)=some u:=z;rw[Rg hp]at z;exact .inl z
    ·exact .inr (.inl (Q9 _ z))
    ·exact .inr (.inr z)
  ·show(if p∈fp then none else G2 p)=some u;by_cases hp:p∈fp
   ·exfalso;obtain⟨u',hu,hm⟩:=q.rep.mut p hp;have:=st.gg p u' (hk p hp u' hu);rw[e]at this;cases this;cases u with
    |lst _=>cases t
    |dK _=>cases t
    |dT _=>cases t
    |_=>cases hm
   ·rw[Rg hp];exact e
  ·rw[Rv];exact⟨k.nd,q.nd,fun p hp z hz e=>apart p hp (e▸hz)⟩
  ·show(if p∈fp then none else G2 p)=none;by_cases hf:p∈fp
   ·rw[Rb hf]
   ·rw[Rg hf];rcases RA.mp hp with hp|hp
    ·exact k.gn p hp
    ·exact absurd hp hf
  ·have e:(if p∈fp then none else G2 p)=some u:=e;by_cases hp:p∈fp
   ·rw[Rb hp]at e;cases e
   ·rw[Rg hp]at e;exact k.gh p u e
 ·have Qv:=hg.trans st.gg;have rf:RepE K G2 H2 (es.map PV.frz) vs []:=q.rep.frz Qv fun p hp u e=>st.gg p u (hk p hp u e)
  have ra:=RepE.append k.rep rf;rw[Ru]at ra;refine⟨G2,Gv,⟨Qv,fun p u e n=>st.keep p u e fun z=>n (Q9 _ z),fun p hp=>(st.fpn p hp).imp_left (Q9 _),fun p u e=>?_,st.there⟩,⟨ra,k.nd,k.gn,k.gh⟩⟩;rcases st.gnew p u e with z|z|z
  ·have z:(if p∈fp then H p else G p)=some u:=z;by_cases hp:p∈fp
   ·exact .inr (.inl (Q5 _ hp))
   ·rw[Rg hp]at z;exact .inl z
  ·exact .inr (.inl (Q9 _ z))
  ·exact .inr (.inr z)
end
noncomputable def eFunW(c:O)(F:Addr->List D->Res R)(i:Nat)(fs:FOs):FX:=fun env=>(fs env).bind fun p=>match p.1 with
 | .var j::os=>if j=i then(match p.2[i]? with
  |some (some (ow,d0))=>if nr c ow then(g6 (p.2.set i none) os).bind fun ds=>(iM F c d0 ds).bind fun x=>if aE x.1.1 x.1.2&&aE c x.2 then .ok (x.1,(p.2.set i none).set i (some (ow,x.2))) else .ok (x.1,((p.2.set i none).map frz).set i (some (ow,x.2))) else .bad
  |_=>.bad) else .bad
 |_=>.bad
section
variable{X:Cx}{x:Str}{p pos:Pos}{e:Expr}{es:List Expr}{f0:FX}{fs:FOs}
theorem zi{F:Addr->List D->Res R}{c:O}{i k:Nat}(C:Ct X.prog X.w X.K X.mg X.base x k (spM X.K c F))(hr:Room k X.A)(hg:Gl X x)(ha:JX X (e::es) fs)(HR:(x==("__debug__" : Str))=false:=by decide)
  (he:starEach (e::es) X.env=(false,eval e X.env)::starEach es X.env:=by rfl) (Hy:(backTo pos (starEach es X.env)).any (·.1)=false:=by rfl):QE X (.Call (.Name x p) (e::es) [] pos) (eFunW c F i fs):=
 aY (vI C hr hg ha HR he Hy) fun σ H Q F7=>by
  obtain⟨G,env,fp,r,env',rel,e,k⟩:=F7;obtain⟨⟨os,e1⟩,ha,e⟩:=ah e;dsimp only at e;split at e
  ·rename_i j Qf;split at e
   ·rename_i hj;subst hj;split at e
    ·rename_i ow d0 hi;split at e
     ·rename_i how;obtain⟨ds,hd,e⟩:=ah e;obtain⟨z,hz,e⟩:=ah e;refine⟨G,env,fp,_,e1,rel,ha,fun vs H1 G1 Gg Gb F0 Hv=>?_⟩;show spM X.K c F (vs++[]) H1 Q _;rw[Ru];obtain⟨y,ys,ey,k1,k2⟩:=Hv;obtain⟨v0,a,b,ev,r0,r2,pm⟩:=F0.rep.take hi;have k1:σ[j]?=some (some y):=k1;rw[k1]at ev;cases ev;obtain⟨⟨q,hq⟩,rc,back⟩:=xH how r0;subst hq;have nd:=Rv.mp (pm.nodup_iff.mp F0.nd);have Mn:Rel X.K G1 H1 (e1.set j none) σ b:=⟨r2,nd.2.1,fun w hw=>F0.gn w (pm.mem_iff.mpr (Q5 _ hw)),F0.gh⟩
      obtain⟨G2,K7,Mf,PF,HJ,HK⟩:=Mn.lendM2 a (fun w hw hb=>nd.2.2 w hw w hb rfl) (fun w hw=>F0.gn w (pm.mem_iff.mpr (Q9 _ hw)));refine⟨G2,q,ys,d0,ds,_,a,Mf,ey,rc.step K7 (fun _ _=>rfl),nd.1,PF,g7 K7 HJ k2 hd,pY hz q,fun v H' G' F2 st rt=>?_⟩;obtain⟨o',d',p',c',Pw,er,rl⟩:=rt;cases er;have fin:∀(ee:PV.Env),ee.length=e1.length->(∃G3 Ha,Step G1 H1 (a++b) G3 H' Ha/\Rel X.K G3 H' (some z.1::some (.pin q c,z.2)::ee) (some v::some (.ref q)::σ) Ha)->(z.1,ee.set j (some (ow,z.2)))=(r,env')->Q v H':=by
       rintro ee PH ⟨G3,Ha,Gn,Gj⟩ PJ;cases PJ;obtain⟨a1,b1,ef,ro,GK,comb⟩:=Rel.frame Gj;have Mo:Rel X.K G3 H' (some (ow,z.2)::ee) (some (.ref q)::σ) b1:=by
        obtain⟨y2,ys2,K9,v2,a2,b2,PL,PM,NT,PN⟩:=GK.rep;cases K9;cases PL;rw[RepO]at NT;exact⟨⟨_,_,rfl,_,a2,b2,rfl,PM,back _ _ _ _ NT.2,PN⟩,GK.nd,GK.gn,GK.gh⟩
       obtain⟨fq,Mp,PQ⟩:=Mo.back (i:=j) (by rw[PH];exact(List.getElem?_eq_some_iff.mp hi).1) k1;obtain⟨Mq,NU⟩:=comb G3 H' _ _ fq PQ Mp;rw[<-ef]at NU;exact k v H' G3 _ (Gb.trans ((Gn.perm (fun w=>pm.mem_iff.symm) (fun w hw=>hw)).trans NU)) Mq
      obtain⟨b1,b2⟩:=HK H' G' F2 _ _ st rl;split at e
      ·rename_i IF;rw[Rh]at IF;have e:=Res.ok.inj e;refine fin (e1.set j none) (by rw[RN]) (b1 fun w hw=>?_) e;rcases Ri.mp hw with hw|hw
       ·cases hw;exact IF.1
       ·rw[Ry]at hw;cases hw;simp only[aE];exact IF.2
      ·have e:=Res.ok.inj e;exact fin ((e1.set j none).map frz) (by rw[Q3,RN]) b2 e
     ·cases e
    ·cases e
   ·cases e
  ·cases e
end
def SlR3(X:Cx)(r:V->Option Int->Option Int->Option Int->Hp->VK->Prop):Prop:=
 ∀(pr:List (Addr×Obj)) (s:Shared) (σ:L2.St) (H:Hp) (x:V) (v vl vu vt:Value) (lo hi st:Option Int) (sl:Addr) (Q:VK),Inv X pr σ H s->RelV x v->s.heap.IsSliceOf sl vl vu vt->IsPart vl lo->IsPart vu hi->IsPart vt st->r x lo hi st H Q->
  ∃T id,typeLookup (.type T) "__getitem__" = pure (some (.builtin id))/\s.TypeIs v T/\wpAny (model X.prog X.w) X.A (getItem v (.ref sl)) (EP X pr σ Q) X.xe s
def Fo(r:V->Option Int->Option Int->Option Int->Hp->VK->Prop)(te:TE)(tl th ts:TO):TE:=fun σ H Q=>te σ H fun x H1=>tl σ H1 fun l H2=>th σ H2 fun u H3=>ts σ H3 fun t H4=>r x l u t H4 Q
theorem tY{X:Cx}{e:Expr}{te:TE}{lo hi:Option Expr}{se:Expr}{tl th ts:TO}{pos p2:Pos}{r:V->Option Int->Option Int->Option Int->Hp->VK->Prop}(hr:SlR3 X r)(he:PE X e te)(hl:PO X lo tl)(hu:PO X hi th)(hs:PO X (some se) ts):PE X (.Subscript e (.Slice lo hi (some se) p2) pos) (Fo r te tl th ts):=by
 intro pr s σ H Q I h;refine Subscript_ (Ge (he pr s σ H _ I h) fun v s1 Gf=>?_);obtain⟨x,H1,I1,r1,q1⟩:=Gf;refine wpAny_Slice (Ge (hl pr s1 σ H1 _ I1 q1) fun vl s2 ⟨l,H2,I2,pl,q2⟩=>Ge (hu pr s2 σ H2 _ I2 q2) fun vu s3 ⟨u,H3,I3,pu,q3⟩=>Ge (hs pr s3 σ H3 _ I3 q3) fun vt s4 Gf=>?_);obtain⟨t,H4,I4,pt,q4⟩:=Gf;have I5:Inv X pr σ H4 {s4 with heap:=s4.heap.push {cls:=.type "slice",data:=.fields #[vl,vu,vt]}}:=I4.kept (t':=s4.toks) fun b ob q=>Heap.get?_push_of_some _ q
 obtain⟨T,id,hT,ht,hg⟩:=hr pr {s4 with heap:=s4.heap.push {cls:=.type "slice",data:=.fields #[vl,vu,vt]}} σ H4 x v vl vu vt l u t s4.heap.objs.size Q I5 r1 (Heap.IsSliceOf.new ..) pl pu pt q4;show wpAny (model X.prog X.w) X.A (subscriptTail e (.Slice lo hi (some se) p2) v (.ref s4.heap.objs.size)) (EP X pr σ Q) X.xe {s4 with heap:=s4.heap.push {cls:=.type "slice",data:=.fields #[vl,vu,vt]}};exact tail_any (ops:=[v,.ref s4.heap.objs.size]) ht hT hg (by with_unfolding_all rfl)
def fB{α:Type}(xs:List α)(lo hi:Option Int)(c:Int):List α:=
 (sliceRange (sliceBounds lo hi (some c) xs.length).1 (sliceBounds lo hi (some c) xs.length).2.1 (sliceBounds lo hi (some c) xs.length).2.2).filterMap (fun i=>xs[i]?)
theorem nE{K:W.Frag}{G:Hp}{ds:List D}{xs:List V}(r:Reps K G ds xs):∀ix:List Nat,Reps K G (ix.filterMap fun i=>ds[i]?) (ix.filterMap fun i=>xs[i]?)
 |[]=>.nil
 |i::ix=>by
  have ih:=nE r ix;cases e:ds[i]? with
  |none=>
   have e2:xs[i]?=none:=by
    rw[List.getElem?_eq_none_iff]at e ⊢;rw[r.length];exact e
   rw[SS e,SS e2];exact ih
  |some d=>
   obtain⟨v,e2,rv⟩:=r.get e;rw[SU e,SU e2];exact .cons rv ih
theorem vals_pick{xs:List V}{us:List Value}(r:Vals xs us):∀ix:List Nat,Vals (ix.filterMap fun i=>xs[i]?) (ix.filterMap fun i=>us[i]?)
 |[]=>.nil
 |i::ix=>by
  have ih:=vals_pick r ix;cases e:xs[i]? with
  |none=>
   rw[SS e,SS (r.none_of e)];exact ih
  |some d=>
   obtain⟨v,e2,rv⟩:=r.get e;rw[SU e,SU e2];exact .cons rv ih
theorem p4(F1:List Value)(lo hi:Option Int)(c:Int):slicePick F1.toArray lo hi (some c)=(fB F1 lo hi c).toArray:=by
 unfold slicePick fB;simp only[Q4,List.getElem?_toArray]
theorem zj(F1:List Value)(lo hi:Option Int)(c:Int):(fB F1 lo hi c).length<=F1.length:=by
 have:=slicePick_size_le F1.toArray lo hi (some c);rw[p4]at this;simpa using this
def BZ(k:D)(lo hi st:Option Int):Res R:=match k,st with
 | .lst ds,some c=>if c≠0 then .ok (.l .f,.lst (fB ds lo hi c)) else .bad
 |_,_=>.bad
def D3(fa:FO)(lo hi st:FP):FX:=fun env=>(fa env).bind fun p=>(lo p.2).bind fun q=>(hi q.2).bind fun t=>(st t.2).bind fun u=>(Hi u.2 p.1).bind fun d=>(BZ d q.1 t.1 u.1).bind fun r=>.ok (r,u.2)
section
variable{X:Cx}{pos:Pos}{fa:FO}
inductive rSl3(K:W.Frag)(x:V)(lo:Option Int)(hi:Option Int)(st:Option Int)(H:Hp)(Q:VK):Prop
 |mk:∀G fp es vs d r,Goes K H G fp es vs r Q->Vw K G H d x->BZ d lo hi st=.ok r->rSl3 K x lo hi st H Q
theorem B0:SlR3 X (rSl3 X.K):=by
 rintro pr s σ H x v vl vu vt lo hi st sl Q I rx hs pl pu pt ⟨G,fp,es,vs,d,r,⟨rel,k⟩,vd,e⟩;unfold BZ at e;split at e
 ·rename_i ds c;split at e
  ·rename_i hc;cases e;obtain⟨p,xs,ev,sq,rs⟩:=vd;subst ev;cases rx;obtain⟨F1,r,ht,hz⟩:=I.list sq;have hlen:=r.length;refine⟨"list",_,slot_list_getitem.lookup,ht.isList.typeIs,?_⟩;refine Uu ht.isList hs pl pu pt (fun h=>hc (Rt h)) ?_ (by rw[Q4];lia);rw[p4];have r2:Vals (fB xs lo hi c) (fB F1 lo hi c):=by
    unfold fB;rw[hlen];exact vals_pick r _
   have rs2:Reps X.K G (fB ds lo hi c) (fB xs lo hi c):=by
    unfold fB;rw[rs.length];exact nE rs _
   have KS:(fB xs lo hi c).length<=sizeLine:=by
    rw[r2.length];have:=zj F1 lo hi c;lia
   have hq:=I.hok.fresh (Q8 s.heap.objs.size);obtain⟨FZ,F4⟩:=rel.newL hq rs2;refine⟨.ref s.heap.objs.size,_,I.laid (t':=s.toks) (o:=.lst (fB xs lo hi c)) (fun b ob q=>Heap.get?_push_of_some _ q) (Q8 _) ?_,rfl,k _ _ G _ F4 FZ⟩;exact⟨KS,_,0,r2,Heap.get?_push_size _ rfl⟩
  ·cases e
 ·cases e
theorem B1{e:Expr}{lo hi:Option Expr}{se:Expr}{p2:Pos}{fl fh fs:FP}(he:QO X e fa)(hl:QP X lo fl)(hh:QP X hi fh)(hs:QP X (some se) fs):QE X (.Subscript e (.Slice lo hi (some se) p2) pos) (D3 fa fl fh fs):=
 aY (tY B0 he hl hh hs) fun σ H Q F7=>by
  obtain⟨G,env,fp,r,env',rel,e,k⟩:=F7;obtain⟨⟨o,FY⟩,e1,e⟩:=ah e;obtain⟨⟨i,F5⟩,e2,e⟩:=ah e;obtain⟨⟨j,GC⟩,e3,e⟩:=ah e;obtain⟨⟨t,NV⟩,e4,e⟩:=ah e;obtain⟨d,e5,e⟩:=ah e;obtain⟨r',e6,e⟩:=ah e;cases e;exact⟨G,env,fp,o,FY,rel,e1,fun v H1 G1 Gg Gb F0 Hv=>⟨G1,FY,Gg,i,F5,F0,e2,fun H2 G2 Gv F4 FZ=>⟨G2,F5,Gv,j,GC,FZ,e3,fun H3 G3 Ha Gn Gj=>⟨G3,GC,Ha,t,NV,Gj,e4,fun H4 G4 Mg GZ Gw=>
   ⟨G4,Mg,NV,σ,d,r,⟨Gw,fun v H' G' F2 st Gq=>k v H' G' F2 (Gb.trans (F4.trans (Gn.trans (GZ.trans st)))) Gq⟩,Gw.vw (((Hv.mono F4.gg).mono Gn.gg).mono GZ.gg) e5,e6⟩⟩⟩⟩⟩
end
section
variable{X:Cx}
def zk(fa fb fc:FX):FX:=fun env=>(fa env).bind fun p=>(fb p.2).bind fun q=>(fc q.2).bind fun t=>.ok ((.t [.f,q.1.1,t.1.1],.tup [p.1.2,q.1.2,t.1.2]),t.2)
theorem zl{a b c:Expr}{fa fb fc:FX}{x1}{pos:Pos}(ha:QE X a fa)(hb:QE X b fb)(hc:QE X c fc)(h1:starEach [a,b,c] X.env=(false,eval a X.env)::starEach [b,c] X.env:=by rfl)(h2:starEach [b,c] X.env=(false,eval b X.env)::starEach [c] X.env:=by rfl)(h3:starEach [c] X.env=(false,eval c X.env)::starEach [] X.env:=by rfl):
  QE X (.Tuple [a,b,c] x1 pos) (zk fa fb fc):=
 aY (rV (cH ha (cH hb (cH hc iQ h3) h2) h1)) fun σ H Q F7=>by
  obtain⟨G,env,fp,r,env',rel,e,k⟩:=F7;obtain⟨⟨r1,FY⟩,e1,e⟩:=ah e;obtain⟨⟨⟨o2,d2⟩,F5⟩,e2,e⟩:=ah e;obtain⟨⟨⟨o3,d3⟩,GC⟩,e3,e⟩:=ah e;cases e;refine⟨G,env,fp,r1,FY,rel,e1,fun v H1 G1 Gg Gb F0=>?_⟩;obtain⟨G2,b,rv,FZ,F4⟩:=F0.freeze;refine⟨G2,FY,b,(o2,d2),F5,FZ,e2,fun v2 H3 G3 Ha Gn Gj=>?_⟩;obtain⟨a3,b3,ef3,ro3,NW,bk3⟩:=Gj.frame;refine⟨G3,F5,b3,(o3,d3),GC,NW,e3,fun v3 H4 G4 Mg GZ Gw=>⟨by rw[line_eq];exact(by decide:3<=16777216),fun p hp=>?_⟩⟩;obtain⟨Jv,Kc⟩:=bk3 G4 H4 _ _ Mg GZ Gw;rw[<-ef3]at Kc;obtain⟨Hx,Ic⟩:=Jv.newF (u:=.tup [v,v2,v3]) hp;refine k _ _ _ _ (Gb.trans (F4.trans (Gn.trans (Kc.trans Ic)))) ?_;obtain⟨y,ys,ey,v',a',b',K9,ef,q1,q2⟩:=Hx.rep;cases ey;cases K9;obtain⟨y,ys,ey,v'',NY,b'',K9,ef',q3,q4⟩:=q2;cases ey;cases K9;subst ef';refine⟨⟨some (.ref p),σ,rfl,.ref p,a'++NY,b'',rfl,by rw[ef,RK],?_,q4⟩,Hx.nd,Hx.gn,Hx.gh⟩;show RepO X.K _ _ (.t [.f,o2,o3]) (.tup [r1.2,d2,d3]) (.ref p) (a'++NY);rw[RepO];refine⟨p,[v,v2,v3],rfl,aM,?_⟩;rw[RepT];refine⟨v,[v2,v3],[],a'++NY,rfl,rfl,df.mpr ⟨Rep.mono (Gn.gg.trans (Kc.gg.trans Ic.gg)) rv,rfl⟩,?_⟩;rw[RepT];refine⟨v2,[v3],a',NY,rfl,rfl,q1,?_⟩;rw[RepT];refine⟨v3,[],NY,[],rfl,by rw[Ru],q3,?_⟩;rw[RepT];exact⟨rfl,rfl⟩
end
section
variable{X:Cx}{scope:Scope}{N:List Str}{tg iter elt:Expr}{ifs:List Expr}{pos:Pos}{fi:FI}{a:FG}{c:FT}{f:FX}
end
end PV
namespace L2
open PySem PySem.Spec PyProof.Rows NX
section
variable{X:Cx}{tg:Expr}
end
end L2
namespace PV
open PySem PySem.Spec PyProof.Rows L2 NX
section
variable{X:Cx}{tg:Expr}
end
abbrev FB:=PV.Env->Bool
section
variable{X:Cx}{st:Stmt}{Pp:List Stmt}{g:FS}{x:FB}{Ww:Hp->Prop}{c:FT}{pos np Gd:Pos}{e:Expr}{es:List Expr}{fs:FOs}{C:Addr}{y:Str}
end
abbrev FXE:=PV.Env->Option PV.Env
section
variable{md:Mode}{X:Cx}{x:Str}{p pos:Pos}{e a b:Expr}{es:List Expr}{C:Addr}{F:List D->Bool}{fs:FOs}{k:Nat}{xe:FXE}{dq:List Stmt}
end
noncomputable def fBodyJ(j np nn:Nat)(c:O)(g:FS)(p:Addr):List D->Res R
 |d0::ds=>if ds.length+1=np/\j<=ds.length then(g ((ds.take j).map (fun d=>some (O.f,d))++some (.pin p c,d0)::((ds.drop j).map (fun d=>some (O.f,d))++List.replicate nn none))).bind fun o=>match o with
  | .rt r=>.ok r
  |_=>.bad
  else .bad
 |[]=>.bad
inductive spJ(j:Nat)(K:W.Frag)(c:O)(F:Addr->List D->Res R)(vs:List V)(H:Hp)(Q:VK)(zz:XK):Prop
 |mk:∀va v vb,vs=va++v::vb->va.length=j->spM K c F (v::(va++vb)) H Q zz->spJ j K c F vs H Q zz
theorem p5{K:W.Frag}{G H:Hp}{es:PV.Env}{us:L2.St}{fp:List Addr}(h:RepE K G H es us fp):∀{ds:List D}{vs:List V},Reps K G ds vs->RepE K G H (ds.map (fun d=>some (O.f,d))++es) (vs.map some++us) fp
 |[],vs,r=>by
  rw[Reps]at r;subst r;exact h
 |d::ds,vs,r=>by
  rw[Reps]at r;obtain⟨y,ys,e,r1,r2⟩:=r;subst e;exact⟨some y,_,rfl,y,[],fp,rfl,rfl,df.mpr ⟨r1,rfl⟩,p5 h r2⟩
theorem kU{K:W.Frag}{G:Hp}:∀{j:Nat}{ds:List D}{va vb:List V},va.length=j->Reps K G ds (va++vb)->Reps K G (ds.take j) va/\Reps K G (ds.drop j) vb
 | 0,ds,[],vb,_,r=>⟨by rw[Vn];exact .nil,r⟩
 |j+1,[],v::va,vb,_,r=>by
  rw[Reps]at r;cases r
 |j+1,d::ds,v::va,vb,hl,r=>by
  rw[SH,Reps]at r;obtain⟨y,ys,e,r1,r2⟩:=r;cases e;obtain⟨q1,q2⟩:=kU (Nat.succ.inj hl) r2;exact⟨.cons r1 q1,q2⟩
theorem B2{P:Program}{w:World}{K:W.Frag}{mg:Str->Option Value}{base:Heap}{x:Str}{st:Stmt}{N ps:List Str}{j k:Nat}{c:O}{g:FS}(Df:Def K mg x st)(sc:FnScope N ps (defScope st))
  (hb:∀(kV doc pm:Value) (an:Option Addr) (Gp ct:Value) (us:List Value),us.length=ps.length->bindArgs (PySem.W.fnOf x x (dQ st) (cv st) (defScope st) .none kV doc pm an Gp ct) ⟨us,[]⟩=pure (ps.zip us))
  (body:∀(f:Addr) (Gp:Value) (A:Around) (outer:List PySem.Env) (s:Shared) (H:Hp) (E:XK),Room k (A.deeper (envOfC x (defScope st) s.heap.objs.size f Gp))->JY (md:=.mut) (u0 JU P w K mg base N x (defScope st) f Gp A outer s H E).nox (cv st) g):
  Ct P w K mg base x (k+1) (spJ j K c (fBodyJ j ps.length (N.length-ps.length) c g)):=by
 obtain⟨f,fd,F,m⟩:=Df;refine⟨f,fd,ps,F.ok sc (fun vs H Q E h=>?_) (fun Gp A outer s H vs Q E hr h=>?_),m,F.kp,F.binds hb⟩
 ·obtain⟨va,v,vb,OL,OM,G,p,Iw,d0,ds,r,J4,_,ev,_,_,_,rs,e,_⟩:=h;cases ev;unfold fBodyJ at e;dsimp only at e;split at e
  ·rename_i hl;have:=rs.length;rw[RC]at this;rw[OL,RC,Rk];lia
  ·cases e
 ·obtain⟨va,v,vb,OL,OM,G,p,Iw,d0,ds,r,J4,gh,ev,r0,nd,gn,rs,e,q⟩:=h;cases ev;unfold fBodyJ at e;dsimp only at e;split at e
  ·rename_i hl;have hlen:=rs.length;rw[RC]at hlen;obtain⟨ra,rb⟩:=kU OM rs;refine⟨_,body f Gp A outer s H E hr,G,(ds.take j).map (fun d=>some (O.f,d))++some (.pin p c,d0)::((ds.drop j).map (fun d=>some (O.f,d))++List.replicate (N.length-ps.length) none),J4,⟨?_,nd,gn,gh⟩,?_⟩
   ·have z:=fe (K:=K) (G:=G) (H:=H) (N.length-ps.length) rb;have z2:RepE K G H (some (.pin p c,d0)::((ds.drop j).map (fun d=>some (O.f,d))++List.replicate (N.length-ps.length) none)) (some (.ref p)::(vb.map some++List.replicate (N.length-ps.length) none)) J4:=
     ⟨some (.ref p),_,rfl,.ref p,J4,[],rfl,(Ru _).symm,by rw[RepO];exact⟨rfl,r0⟩,z⟩
    have z3:=p5 z2 ra;unfold L2.ja;have e1:vs.length=ps.length:=by rw[OL,RC,Rk];lia
    rw[e1,OL,Rw,Rl,RK,SH];exact z3
   ·obtain⟨o,eo,e⟩:=ah e;rw[eo];cases o with
    |rt r'=>
     cases e;exact fun v H' G' F2 st rel=>q v H' G' F2 st rel
    |nx env'=>cases e
    |bk env'=>cases e
    |ct env'=>cases e
  ·cases e
noncomputable def tZ(j:Nat)(c:O)(F:Addr->List D->Res R)(i:Nat)(fs:FOs):FX:=fun env=>(fs env).bind fun p=>match p.1[j]? with
 |some (.var j')=>if j'=i then(match p.2[i]? with
  |some (some (ow,d0))=>if nr c ow then(g6 (p.2.set i none) (p.1.eraseIdx j)).bind fun ds=>(iM F c d0 ds).bind fun x=>if aE x.1.1 x.1.2&&aE c x.2 then .ok (x.1,(p.2.set i none).set i (some (ow,x.2))) else .ok (x.1,((p.2.set i none).map frz).set i (some (ow,x.2))) else .bad
  |_=>.bad) else .bad
 |_=>.bad
theorem kW{K:W.Frag}{G:Hp}{σ:L2.St}:∀{j:Nat}{os:List Opd}{vs:List V}{o:Opd},kK K G σ os vs->os[j]?=some o->∃va y vb,vs=va++y::vb/\va.length=j/\OpdOk K G σ o y/\kK K G σ (os.eraseIdx j) (va++vb)
 | 0,o'::os,_,o,⟨y,ys,e,k1,k2⟩,h=>by
  cases h;exact⟨[],y,ys,e,rfl,k1,k2⟩
 |j+1,o'::os,_,o,⟨y,ys,e,k1,k2⟩,h=>by
  obtain⟨va,z,vb,e2,hl,q1,q2⟩:=kW (j:=j) k2 (by simpa using h);exact⟨y::va,z,vb,by rw[e,e2];rfl,by rw[Rk,hl],q1,y,va++vb,rfl,k1,q2⟩
section
variable{X:Cx}{x:Str}{p pos:Pos}{e:Expr}{es:List Expr}{fs:FOs}
theorem zm{F:Addr->List D->Res R}{c:O}{i j0 k:Nat}(C:Ct X.prog X.w X.K X.mg X.base x k (spJ j0 X.K c F))(hr:Room k X.A)(hg:Gl X x)(ha:JX X (e::es) fs)(HR:(x==("__debug__" : Str))=false:=by decide)
  (he:starEach (e::es) X.env=(false,eval e X.env)::starEach es X.env:=by rfl) (Hy:(backTo pos (starEach es X.env)).any (·.1)=false:=by rfl):QE X (.Call (.Name x p) (e::es) [] pos) (tZ j0 c F i fs):=
 aY (vI C hr hg ha HR he Hy) fun σ H Q F7=>by
  obtain⟨G,env,fp,r,env',rel,e,k⟩:=F7;obtain⟨⟨os,e1⟩,ha,e⟩:=ah e;dsimp only at e;split at e
  ·rename_i j KY;split at e
   ·rename_i hj;subst hj;split at e
    ·rename_i ow d0 hi;split at e
     ·rename_i how;obtain⟨ds,hd,e⟩:=ah e;obtain⟨z,hz,e⟩:=ah e;refine⟨G,env,fp,_,e1,rel,ha,fun vs H1 G1 Gg Gb F0 Hv=>?_⟩;show spJ j0 X.K c F (vs++[]) H1 Q _;rw[Ru];obtain⟨va,y,vb,ey,OM,k1,k2⟩:=kW Hv KY;refine⟨va,y,vb,ey,OM,?_⟩;obtain⟨v0,a,b,ev,r0,r2,pm⟩:=F0.rep.take hi;have k1:σ[j]?=some (some y):=k1;rw[k1]at ev;cases ev;obtain⟨⟨q,hq⟩,rc,back⟩:=xH how r0;subst hq;have nd:=Rv.mp (pm.nodup_iff.mp F0.nd);have Mn:Rel X.K G1 H1 (e1.set j none) σ b:=⟨r2,nd.2.1,fun w hw=>F0.gn w (pm.mem_iff.mpr (Q5 _ hw)),F0.gh⟩
      obtain⟨G2,K7,Mf,PF,HJ,HK⟩:=Mn.lendM2 a (fun w hw hb=>nd.2.2 w hw w hb rfl) (fun w hw=>F0.gn w (pm.mem_iff.mpr (Q9 _ hw)));refine⟨G2,q,va++vb,d0,ds,_,a,Mf,rfl,rc.step K7 (fun _ _=>rfl),nd.1,PF,g7 K7 HJ k2 hd,pY hz q,fun v H' G' F2 st rt=>?_⟩;obtain⟨o',d',p',c',Pw,er,rl⟩:=rt;cases er;have fin:∀(ee:PV.Env),ee.length=e1.length->(∃G3 Ha,Step G1 H1 (a++b) G3 H' Ha/\Rel X.K G3 H' (some z.1::some (.pin q c,z.2)::ee) (some v::some (.ref q)::σ) Ha)->(z.1,ee.set j (some (ow,z.2)))=(r,env')->Q v H':=by
       rintro ee PH ⟨G3,Ha,Gn,Gj⟩ PJ;cases PJ;obtain⟨a1,b1,ef,ro,GK,comb⟩:=Rel.frame Gj;have Mo:Rel X.K G3 H' (some (ow,z.2)::ee) (some (.ref q)::σ) b1:=by
        obtain⟨y2,ys2,K9,v2,a2,b2,PL,PM,NT,PN⟩:=GK.rep;cases K9;cases PL;rw[RepO]at NT;exact⟨⟨_,_,rfl,_,a2,b2,rfl,PM,back _ _ _ _ NT.2,PN⟩,GK.nd,GK.gn,GK.gh⟩
       obtain⟨fq,Mp,PQ⟩:=Mo.back (i:=j) (by rw[PH];exact(List.getElem?_eq_some_iff.mp hi).1) k1;obtain⟨Mq,NU⟩:=comb G3 H' _ _ fq PQ Mp;rw[<-ef]at NU;exact k v H' G3 _ (Gb.trans ((Gn.perm (fun w=>pm.mem_iff.symm) (fun w hw=>hw)).trans NU)) Mq
      obtain⟨b1,b2⟩:=HK H' G' F2 _ _ st rl;split at e
      ·rename_i IF;rw[Rh]at IF;have e:=Res.ok.inj e;refine fin (e1.set j none) (by rw[RN]) (b1 fun w hw=>?_) e;rcases Ri.mp hw with hw|hw
       ·cases hw;exact IF.1
       ·rw[Ry]at hw;cases hw;simp only[aE];exact IF.2
      ·have e:=Res.ok.inj e;exact fin ((e1.set j none).map frz) (by rw[Q3,RN]) b2 e
     ·cases e
    ·cases e
   ·cases e
  ·cases e
end
section
variable{X:Cx}{x:Str}{p pos:Pos}{e:Expr}{es:List Expr}{f0:FX}{fs:FOs}
end
end PV
namespace NX
open PySem PySem.Spec PyProof.Rows L2
noncomputable def NZ(o:Obj)(n:Nat)(a:Addr):It:=
 ⟨fun i H=>∃kvs k v,H a=some (.frz o (.dK kvs))/\kvs.length=n/\kvs[i]?=some (k,v),
  fun i H x H'=>H'=H/\∀kvs k v,H a=some (.frz o (.dK kvs))->kvs[i]?=some (k,v)->x=kV k,
  fun i H=>∃kvs,H a=some (.frz o (.dK kvs))/\kvs.length=n/\kvs.length<=i⟩
theorem ub{P:Program}{w:World}{K:W.Frag}{tg:Expr}(o:Obj)(es:Array DictEntry)(ep n:Nat)(a it:Addr)(hd:o.data=.dict es ep):
  Turn P w K tg (NZ o n a) [it] it (fun i h=>h.IsKeyIter it a i n ep) where
 mem:=by simp
 obj:=fun i h st b hb=>by
  have e:b=it:=by simpa using hb
  subst e;obtain⟨o,e,c,d⟩:=st;exact⟨o,e,fun v z=>by rw[d]at z;cases z⟩
 keep:=fun i h h' st k=>by
  obtain⟨o,e,c,d⟩:=st;exact⟨o,k it (by simp) o e,c,d⟩
 item:=by
  intro X hP hw hK hc i pr s σ H E I hf st hg;subst hP hw hK;obtain⟨kvs,k,v,ha,hn,hx⟩:=hg;obtain⟨ho,vs,r,hm⟩:=pZ I hd ha;have hl:vs.length=n:=by rw[<-hn];exact r.length.symm
  subst hl;obtain⟨u,hu,ru⟩:=BW r hx;obtain⟨f0,f1,f2,f3,f4,f5⟩:=hf it (by simp);refine wpAny_pyNext_dict_item st hm hu fun key h' HD HI sb=>?_
  have I1:Inv X pr σ H {s with heap:=h'}:=I.turned (t':=s.toks) (fun b o hb e=>(sb.2 b hb).trans e) f0 f1 f3 f4 f5;obtain⟨o',e,c,d⟩:=id HI;exact⟨key,rfl,rM (s:={s with heap:=h'}) e c d (by decide) ⟨kV k,H,I1,BV HD,⟨rfl,fun kvs' k' v' h1 h2=>by
   rw[ha]at h1;cases h1;rw[hx]at h2;cases h2;rfl⟩,HI,fun b hb=>(hf b hb).1⟩⟩
 done:=by
  intro X hP hw hK hc i pr s σ H E I hf st hg;subst hP hw hK;obtain⟨kvs,ha,hn,hi⟩:=hg;obtain⟨ho,vs,r,hm⟩:=pZ I hd ha;have hl:vs.length=n:=by rw[<-hn];exact r.length.symm
  subst hl;obtain⟨f0,f1,f2,f3,f4,f5⟩:=hf it (by simp);exact wpAny_pyNext_dict_end (I.ok.hd hc) st hm (List.getElem?_eq_none (by lia)) fun h' eb=>⟨rfl,I.turned (t':=s.toks) (fun b o hb e=>eb b o hb e) f0 f1 f3 f4 f5⟩
 self:=fun _ _ _ _ _ st h=>wpAny_pyIter_keyiter st h
def Fp(td:TE):TI:=fun σ H R=>td σ H fun v H1=>∃a o kvs,v=.ref a/\H1 a=some (.frz o (.dK kvs))/\R (NZ o kvs.length a) H1
theorem zo{X:Cx}{l tg:Expr}{td:TE}(hl:PE X l td):PI X tg l (Fp td):=by
 intro pr s σ H R I h;refine Ge (hl pr s σ H _ I h) fun v s1 Gf=>?_
 obtain⟨x,H1,I1,r1,a,o,kvs,ex,ha,q⟩:=Gf;subst ex;cases r1;obtain⟨ho,z,nm,vs,r,o',IU,LV,g1,ex,dat,dq⟩:=(show ObjOk X.prog X.w H1 s1.heap a (.frz o (.dK kvs)) from I1.hok a _ ha)
 have e:=g1.symm.trans ho;cases e;have J5:s1.heap.DictAt (mixKind X.prog X.w) a vs LV:=⟨_,IU,g1,ex,dat,dq⟩
 refine wpAny_pyIter_dict nm J5 ?_;refine⟨s1.heap.objs.size,[s1.heap.objs.size],_,NZ _ kvs.length a,H1,rfl,I1.kept (t':=s1.toks) fun b o e=>Heap.get?_push_of_some _ e,ub _ IU LV kvs.length a _ dat,⟨_,Heap.get?_push_size _ rfl,rfl,?_⟩,fun b hb=>?_,q⟩
 ·rw[r.length];rfl
 ·have e:b=s1.heap.objs.size:=by simpa using hb
  subst e;exact I1.fpOk (Q8 _) (I1.hok.fresh (Q8 _))
theorem f6{X:Cx}{pr:List (Addr×Obj)}{σ:L2.St}{H:Hp}{s:Shared}{a:Addr}{o:Obj}{kvs:List (Key×V)}(I:Inv X pr σ H s)(ha:H a=some (.frz o (.dK kvs)))(h0:∀q u,X.H₀ a≠some (.frz q u)):Inv X pr σ (upd H a (.dK kvs)) s:=by
 have ok:=(show ObjOk X.prog X.w H s.heap a (.frz o (.dK kvs)) from I.hok a _ ha)
 have nn:∀c,H c=none->c≠a:=fun c e z=>by rw[z,ha]at e;cases e
 have nt:∀c xs,H c=some (.tup xs)->c≠a:=fun c xs e z=>by rw[z,ha]at e;cases e
 have nb:∀c ps,H c=some (.tbl ps)->c≠a:=fun c ps e z=>by rw[z,ha]at e;cases e
 have no:∀c b,H c=some (.own b)->c≠a:=fun c b e z=>by rw[z,ha]at e;cases e
 have nf:∀c,H c=none->upd H a (.dK kvs) c=none:=fun c e=>by rw[av (nn c e)];exact e
 refine⟨I.ok,I.os,I.bare,⟨I.base.keep,I.base.slot,fun b q e n x=>nf b (I.base.free b q e n x),I.base.there,fun b xs e=>?_,fun b q u e=>?_,fun b ps e=>?_⟩,I.loc,I.cell,nf _ I.free,fun x c e=>nf _ (I.freeC x c e),fun p hp=>?_,fun c ob e=>?_,I.len⟩
 ·have h:=I.base.tups b xs e;rw[av (nt b xs h)];exact h
 ·have:b≠a:=fun z=>h0 q u (z▸e)
  rw[av this];exact I.base.frzs b q u e
 ·obtain⟨m,h⟩:=I.base.tbls b ps e;exact⟨m,by rw[av (nb b _ h)];exact h⟩
 ·obtain⟨h1,h2,h3⟩:=I.pin p hp;exact⟨h1,nf _ h2,h3⟩
 ·by_cases ec:c=a
  ·subst ec;rw[aM]at e;cases e;exact(show ObjOk X.prog X.w H s.heap c (.dK kvs) from ok.2).stay (fun _ _ _ q=>q) (fun d q=>by rw[av (no d _ q)];exact q) fun d l q=>by rw[av (nt d l q)];exact q
  ·rw[av ec]at e;exact(I.hok c ob e).stay (fun _ _ _ q=>q) (fun d q=>by rw[av (no d _ q)];exact q) fun d l q=>by rw[av (nt d l q)];exact q
noncomputable def N1(a:Addr)(o:Obj)(kvs:List (Key×V))(D:Ends):Ends:=
 ⟨fun σ H=>H a=some (.frz o (.dK kvs))/\D.nx σ (upd H a (.dK kvs)),fun v H=>H a=some (.frz o (.dK kvs))/\D.rt v (upd H a (.dK kvs)),fun σ H=>H a=some (.frz o (.dK kvs))/\D.bk σ (upd H a (.dK kvs)),fun σ H=>H a=some (.frz o (.dK kvs))/\D.ct σ (upd H a (.dK kvs))⟩
def D4(t:TS):TS:=fun D σ H=>∃a kvs,H a=some (.dK kvs)/\∀o,t (N1 a o kvs D) σ (upd H a (.frz o (.dK kvs)))
theorem zp{X:Cx}{st:Stmt}{t:TS}(h:PS X st t):PS X st (D4 t):=by
 rintro pr s σ H D I ⟨a,kvs,ha,k⟩;obtain⟨z,nm,vs,r,o,es,ep,g1,dq⟩:=(show ObjOk X.prog X.w H s.heap a (.dK kvs) from I.hok a _ ha)
 have h0:∀q u,X.H₀ a≠some (.frz q u):=fun q u e=>by
  have:=I.base.frzs a q u e;rw[ha]at this;cases this
 refine Ge (h pr s σ _ _ (wm I ha g1) (k o)) fun f s' sp=>?_
 cases f with
 |next=>obtain⟨σ',H',I',e,q⟩:=sp;exact⟨σ',_,f6 I' e h0,q⟩
 |brk=>obtain⟨σ',H',I',e,q⟩:=sp;exact⟨σ',_,f6 I' e h0,q⟩
 |cont=>obtain⟨σ',H',I',e,q⟩:=sp;exact⟨σ',_,f6 I' e h0,q⟩
 |ret u=>obtain⟨v,σ',H',I',rv,e,q⟩:=sp;exact⟨v,σ',_,f6 I' e h0,rv,q⟩
end NX
namespace PV
open PySem PySem.Spec PyProof.Rows L2 NX
section
variable{K:W.Frag}{G H:Hp}{es:PV.Env}{vs:L2.St}{fp:List Addr}
theorem Rel.asD{i:Nat}{p:Addr}{d:D}(q:Rel K G H es vs fp)(e:es[i]?=some (some (.pin p .d,d))):vs[i]?=some (some (.ref p))/\∃fq,Rel K G H (es.set i (some (.d,d))) vs fq/\Step G H fp G H fq:=by
 obtain⟨v,fq,ev,g,st,HI⟩:=q.out e;obtain⟨y,ys,e0,v',a,b,e1,e2,r1,r2⟩:=g.rep;cases e0;cases e1;rw[RepO]at r1;obtain⟨ep,r1⟩:=r1;subst ep;have g2:Rel K G H (some (.d,d)::es.set i none) (some (.ref p)::vs) fq:=⟨⟨_,_,rfl,_,a,b,rfl,e2,r1,r2⟩,g.nd,g.gn,g.gh⟩
 obtain⟨fz,g3,Gn⟩:=g2.back (i:=i) (by rw[RN];exact(List.getElem?_eq_some_iff.mp e).1) ev;rw[Sj]at g3;exact⟨ev,fz,g3,st.trans Gn⟩
theorem Rel.asP{i:Nat}{p:Addr}{d:D}(q:Rel K G H es vs fp)(e:es[i]?=some (some (.d,d)))(hv:vs[i]?=some (some (.ref p))):∃fq,Rel K G H (es.set i (some (.pin p .d,d))) vs fq/\Step G H fp G H fq:=by
 obtain⟨v,fq,ev,g,st,HI⟩:=q.out e;rw[hv]at ev;cases ev;obtain⟨y,ys,e0,v',a,b,e1,e2,r1,r2⟩:=g.rep;cases e0;cases e1;have g2:Rel K G H (some (.pin p .d,d)::es.set i none) (some (.ref p)::vs) fq:=⟨⟨_,_,rfl,_,a,b,rfl,e2,by rw[RepO];exact⟨rfl,r1⟩,r2⟩,g.nd,g.gn,g.gh⟩
 obtain⟨fz,g3,Gn⟩:=g2.back (i:=i) (by rw[RN];exact(List.getElem?_eq_some_iff.mp e).1) hv;rw[Sj]at g3;exact⟨fz,g3,st.trans Gn⟩
theorem Rel.chgP{i:Nat}{pp:Addr}{tk:Bool}{ks ws:List D}(q:Rel K G H es vs fp)(e:es[i]?=some (some (.pin pp .d,.dct tk ks ws))):∃p xs u,vs[i]?=some (some (.ref p))/\H p=some u/\DictO u tk ks xs/\Reps K G ws xs/\
  ∀u' Hu Hq Km,DictO u' tk Hu Hq->Reps K G Km Hq->∃fq,Rel K G (upd H p u') (es.set i (some (.pin pp .d,.dct tk Hu Km))) vs fq/\Step G H fp G (upd H p u') fq:=by
 have hi:i<es.length:=(List.getElem?_eq_some_iff.mp e).1;obtain⟨hv,fa,qa,sa⟩:=q.asD e;obtain⟨p,xs,u,ev,hp,dd,rs,cg⟩:=qa.chgD (i:=i) (by rw[List.getElem?_set_self hi]);rw[hv]at ev;cases ev;refine⟨pp,xs,u,hv,hp,dd,rs,fun u' Hu Hq Km d' r'=>?_⟩;obtain⟨fb,qb,sb⟩:=cg u' Hu Hq Km d' r';rw[Sj]at qb;obtain⟨fc,qc,sc⟩:=qb.asP (i:=i) (by rw[List.getElem?_set_self hi]) hv;rw[Sj]at qc;exact⟨fc,qc,sa.trans (sb.trans sc)⟩
end
noncomputable def sPutP(i:Nat)(fk fv:FX):FS:=fun env=>(fv env).bind fun p=>(fk p.2).bind fun q=>match p.2[i]?,q.2[i]? with
 |some (some _),some (some (.pin pp .d,.dct tk ks vs))=>if dR tk q.1.2&&decide (ks.length<sizeLine) then .ok (.nx (q.2.set i (some (.pin pp .d,.dct tk (oO ks vs q.1.2 p.1.2).1 (oO ks vs q.1.2 p.1.2).2)))) else .bad
 |_,_=>.bad
section
variable{md:Mode}{X:Cx}
theorem zq{i:Nat}{o ix value:Expr}{fk fv:FX}{pos pos':Pos}(hu:X.A.units+1<cLine)(ho:PE X o (pe i))(hi:QE X ix fk)(hv:QE X value fv)(hs:swapsWith value (some (.Subscript o ix pos')) pos.line X.env=pure false:=by rfl):
  QS (md:=md) X (.Assign [.Subscript o ix pos'] value pos) (sPutP i fk fv):=dZ (yL hu ho hi hv hs) fun Dd σ H F7=>by
 obtain⟨G,env,fp,rel,k⟩:=F7;unfold sPutP at k;match q1:fv env,k with
 | .ok (r1,FY),k=>
  have k:OutOk X.K G H fp Dd ((fk FY).bind fun q=>match FY[i]?,q.2[i]? with
   |some (some _),some (some (.pin pp .d,.dct tk ks vs))=>if dR tk q.1.2&&decide (ks.length<sizeLine) then .ok (.nx (q.2.set i (some (.pin pp .d,.dct tk (oO ks vs q.1.2 r1.2).1 (oO ks vs q.1.2 r1.2).2)))) else .bad
   |_,_=>.bad):=k
  match q2:fk FY,k with
  | .ok (r2,F5),k=>
   have k:OutOk X.K G H fp Dd (match FY[i]?,F5[i]? with
    |some (some _),some (some (.pin pp .d,.dct tk ks vs))=>if dR tk r2.2&&decide (ks.length<sizeLine) then .ok (.nx (F5.set i (some (.pin pp .d,.dct tk (oO ks vs r2.2 r1.2).1 (oO ks vs r2.2 r1.2).2)))) else .bad
    |_,_=>.bad):=k
   split at k
   ·rename_i rr pp tk ks ws h1 h2;split at k
    ·rename_i hc;rw[Rh,Ro]at hc;refine⟨G,env,fp,r1,FY,rel,q1,fun y H1 G1 Gg Gb F0=>?_⟩;obtain⟨G2,b,ry,FZ,F4⟩:=F0.freeze;obtain⟨v0,M4,_⟩:=FZ.view h1;refine⟨v0,M4,G2,FY,b,r2,F5,FZ,q2,fun z H3 G3 Ha Gn Gj=>?_⟩;obtain⟨G4,b4,rz,Gw,GZ⟩:=Gj.freeze;obtain⟨p,xs,u,ep,hp,dd,rs,cg⟩:=Gw.chgP h2;rw[M4]at ep;cases ep;have OJ:Rep X.K G4 r1.2 y:=Rep.mono (Gn.gg.trans GZ.gg) ry;cases tk with
     |true=>
      obtain⟨kvs,eu,ek,ex,Jt⟩:=dd;subst eu;subst ex;have hk:=hc.1;unfold dR at hk;rw[Rb rfl,R6]at hk;obtain⟨kk,hk⟩:=hk;obtain⟨pz,ez,gz,dz⟩:=cw hk rz;subst ez;obtain⟨t1,t2⟩:=ng (K:=X.K) (G:=G4) kT xE (k:=kk) rs OJ;have ek:ks=kvs.map fun kv=>kT kv.1:=ek
      rw[<-ek,<-dz]at t1 t2;have hfk:∀key∈kk,qQ key:=by
       cases hd:r2.2 with
       |tup ds=>
        rw[hd]at hk rz;obtain⟨_,Hq,_,_,H0⟩:=sQ rz;exact tH hk H0
       |_=>rw[hd]at hk;cases hk
      obtain⟨fq,Hx,Ic⟩:=cg (.dT (je kvs kk y)) _ _ _ ⟨je kvs kk y,rfl,t1.symm,rfl,pT (P:=fun ks=>∀k∈ks,qQ k) Jt hfk⟩ t2;have hlen:kvs.length<sizeLine:=by have:=hc.2;rw[ek,Q3]at this;exact this
      exact⟨p,_,rfl,DPut.t hp (Gw.gh _ _ gz) hlen,k _ _ G4 fq (Gb.trans (F4.trans (Gn.trans (GZ.trans Ic)))) Hx⟩
     |false=>
      obtain⟨kvs,eu,ek,ex,Jt⟩:=dd;subst eu;subst ex;have hk:=hc.1;unfold dR at hk;rw[Rg Rc,R6]at hk;obtain⟨kk,hk⟩:=hk;obtain⟨ez,dz⟩:=fZ hk rz;subst ez;obtain⟨t1,t2⟩:=ng (K:=X.K) (G:=G4) kD tw (k:=kk) rs OJ;rw[<-ek,<-dz]at t1 t2;obtain⟨fq,Hx,Ic⟩:=cg (.dK (je kvs kk y)) _ _ _ ⟨je kvs kk y,rfl,t1.symm,rfl,pT (P:=qQ) Jt (tG hk rz)⟩ t2;have hlen:kvs.length<sizeLine:=by have:=hc.2;rw[ek,Q3]at this;exact this
      exact⟨p,_,rfl,DPut.k hp hlen,k _ _ G4 fq (Gb.trans (F4.trans (Gn.trans (GZ.trans Ic)))) Hx⟩
    ·exact k.elim
   ·exact k.elim
end
def cleanE(i:Nat)(env:PV.Env):Bool:=(env.set i none).all fun r=>match r with
 |some r=>aE r.1 r.2
 |none=>true
def wt(i:Nat)(p:Addr)(env:PV.Env):Bool:=match env[i]? with
 |some (some (.pin q .f,_))=>decide (q=p)
 |_=>false
noncomputable def q0(i:Nat)(p:Addr)(d:D):Out->Res Out
 | .nx env=>if wt i p env&&cleanE i env then .ok (.nx (env.set i (some (.pin p .d,d)))) else .bad
 | .rt (.t [o,.pin q .f],.tup [r,_])=>if decide (q=p)&&aE o r then .ok (.rt (.t [o,.pin p .d],.tup [r,d])) else .bad
 |_=>.bad
def zr(i:Nat)(a:FG)(g:FS):FS:=fun env=>match env[i]? with
 |some (some (.pin p .d,.dct false ks vs))=>(dD a g ks (env.set i (some (.pin p .f,.dct false ks vs)))).bind (q0 i p (.dct false ks vs))
 |_=>.bad
def off(G:Hp)(p:Addr):Hp:=fun z=>if z=p then none else G z
theorem nF{K:W.Frag}{G H G' H':Hp}{fp Gg F2:List Addr}{p:Addr}{kvs:List (Key×V)}{o:Obj}{es:PV.Env}{σ:L2.St}{i:Nat}{d':D}{vs:List D}(gp:G p=none)(pf:p∈fp)(f1:∀z∈Gg,z∈fp)
  (st:Step (upd G p (.frz o (.dK kvs))) (upd H p (.frz o (.dK kvs))) Gg G' H' F2) (rel:Rel K G' H' es σ F2) (hi:es[i]?=some (some (.pin p .f,d'))) (cl:cleanE i es=true) (hf:∀kv∈kvs,qQ kv.1) (rs:Reps K G vs (kvs.map (·.2))):
  H' p=some (.frz o (.dK kvs))/\∃G2 fz,Step G H fp G2 (upd H' p (.dK kvs)) fz/\Rel K G2 (upd H' p (.dK kvs)) (es.set i (some (.pin p .d,.dct false (kvs.map fun kv=>kD kv.1) vs))) σ fz:=by
 have PR:G' p=some (.frz o (.dK kvs)):=st.gg p _ aM;refine⟨rel.gh p _ PR,?_⟩;obtain⟨v,fq,ev,g,Gb,_⟩:=rel.out hi;have F4:=st.trans Gb;obtain⟨y,ys,e0,v',a,b,e1,e2,r1,r2⟩:=g.rep;cases e0;cases e1;rw[RepO]at r1;obtain⟨ep,r1⟩:=r1;obtain⟨_,ea⟩:=df.mp r1;subst ea;subst ep;have e2:fq=b:=e2;subst e2;have np:∀z∈fq,z≠p:=fun z hz e=>by
  have:=g.gn z hz;rw[e,PR]at this;cases this
 have PU:(off G' p) p=none:=Rb rfl;have N3:∀z,z≠p->(off G' p) z=G' z:=fun z h=>Rg h
 have gg:Same G (off G' p):=fun z u e=>by
  have hz:z≠p:=fun h=>by rw[h,gp]at e;cases e
  rw[N3 z hz];exact st.gg z u (by rw[av hz];exact e)
 have rc:RepE K (off G' p) H' (es.set i none) σ fq:=by
  refine RepE.clean (fun z u t e=>?_) (fun r hr=>?_) r2
  ·have hz:z≠p:=fun h=>by rw[h,PR]at e;cases e;cases t
   rw[N3 z hz];exact e
  ·have:=RD.mp cl _ hr;exact this
 have FZ:Rel K (off G' p) (upd H' p (.dK kvs)) (some (.pin p .d,.dct false (kvs.map fun kv=>kD kv.1) vs)::es.set i none) (some (.ref p)::σ) (p::fq):=by
  refine⟨⟨some (.ref p),σ,rfl,.ref p,[p],fq,rfl,rfl,?_,rc.step (.refl _) fun z hz=>av (np z hz)⟩,Rx.mpr ⟨fun h=>np p h rfl,g.nd⟩,fun z hz=>?_,fun z u e=>?_⟩
  ·rw[RepO];refine⟨rfl,?_⟩;rw[RepO];exact⟨p,kvs.map (·.2),.dK kvs,rfl,aM,⟨kvs,rfl,rfl,rfl,hf⟩,rfl,Reps.mono gg rs⟩
  ·rcases Ri.mp hz with h|h
   ·rw[h];exact PU
   ·rw[N3 z (np z h)];exact g.gn z h
  ·by_cases hz:z=p
   ·rw[hz,PU]at e;cases e
   ·rw[N3 z hz]at e;rw[av hz];exact rel.gh z u e
 have stp:Step G H fp (off G' p) (upd H' p (.dK kvs)) (p::fq):=by
  refine⟨gg,fun z u e n=>?_,fun z hz=>?_,fun z u e=>?_,fun z u e=>?_⟩
  ·have hz:z≠p:=fun h=>n (h▸pf)
   rw[av hz];exact F4.keep z u (by rw[av hz];exact e) fun h=>n (f1 z h)
  ·rcases Ri.mp hz with h|h
   ·exact .inl (h▸pf)
   ·rcases F4.fpn z h with h2|h2
    ·exact .inl (f1 z h2)
    ·rw[av (np z h)]at h2;exact .inr h2
  ·by_cases hz:z=p
   ·rw[hz,PU]at e;cases e
   ·rw[N3 z hz]at e;rcases F4.gnew z u e with h|h|h|⟨t,h⟩
    ·rw[av hz]at h;exact .inl h
    ·exact .inr (.inl (f1 z h))
    ·rw[av hz]at h;exact .inr (.inr (.inl h))
    ·rw[av hz]at h;exact .inr (.inr (.inr ⟨t,h⟩))
  ·by_cases hz:z=p
   ·exact⟨_,by rw[hz,aM]⟩
   ·obtain⟨u',h⟩:=F4.there z u (by rw[av hz];exact e);exact⟨u',by rw[av hz];exact h⟩
 obtain⟨fz,g3,Gn⟩:=FZ.back (i:=i) (by rw[RN];exact(List.getElem?_eq_some_iff.mp hi).1) ev;rw[Sj]at g3;exact⟨_,fz,stp.trans Gn,g3⟩
theorem wu{K:W.Frag}{G H:Hp}{fp f1 b0:List Addr}{p:Addr}{kvs:List (Key×V)}{o:Obj}{i:Nat}{vs:List D}{D0:Ends}{r:Res Out}(gp:G p=none)(ON:Step G H fp G H (p::b0))(OO:∀z∈f1,z∈p::b0)(hf:∀kv∈kvs,qQ kv.1)(rs:Reps K G vs (kvs.map (·.2)))
  (k:OutOk (md:=.mut) K G H fp D0 (r.bind (q0 i p (.dct false (kvs.map fun kv=>kD kv.1) vs)))):OutOk (md:=.mut) K (upd G p (.frz o (.dK kvs))) (upd H p (.frz o (.dK kvs))) f1 (N1 p o kvs D0) r:=by
 cases r with
 |bad=>exact k
 |exc c=>exact k
 |ok out=>
  have k:OutOk (md:=.mut) K G H fp D0 (q0 i p (.dct false (kvs.map fun kv=>kD kv.1) vs) out):=k;unfold q0 at k;split at k
  ·rename_i e';split at k
   ·rename_i IF;rw[Rh]at IF;obtain⟨h1,h2⟩:=IF;unfold wt at h1;split at h1
    ·rename_i q' d' hq';rw[Ro]at h1;subst h1;intro σ' H' G' F2 st rl;obtain⟨z,G2,fz,F4,PX⟩:=nF (G:=G) (H:=H) (fp:=q'::b0) gp Q2 OO st rl hq' h2 hf rs;exact⟨z,k σ' _ G2 fz (ON.trans F4) PX⟩
    ·cases h1
   ·exact k.elim
  ·rename_i o' q' r d0 _;split at k
   ·rename_i IF;rw[Rh,Ro]at IF;obtain⟨h1,h2⟩:=IF;subst h1;rintro v H' G' F2 st ⟨o2,d2,p2,c2,d02,er,rl⟩;cases er;obtain⟨z,G2,fz,F4,PX⟩:=nF (G:=G) (H:=H) (fp:=q'::b0) (i:=1) gp Q2 OO st rl rfl (by show(List.all [some (o',r),none] _)=true;simp only[Te,List.all_nil,h2,Ss]) hf rs;exact⟨z,k v _ G2 fz (ON.trans F4) ⟨_,_,_,_,_,rfl,PX⟩⟩
   ·exact k.elim
  ·exact k.elim
theorem uc{K:W.Frag}{G:Hp}{a:Addr}{o:Obj}{kvs:List (Key×V)}(h:G a=some (.frz o (.dK kvs)))(hf:∀kv∈kvs,qQ kv.1):Walk K G (NZ o kvs.length a) (kvs.map fun kv=>kD kv.1):=by
 intro G' H' es vs fp gg rel i;have h':H' a=some (.frz o (.dK kvs)):=rel.gh _ _ (gg _ _ h);refine⟨fun d hd=>?_,fun e=>⟨kvs,h',rfl,by rw[Q3]at e;lia⟩⟩;rw[List.getElem?_map]at hd;cases hk:kvs[i]? with
 |none=>rw[hk]at hd;cases hd
 |some kv=>
  rw[hk]at hd;cases hd;refine⟨⟨kvs,kv.1,kv.2,h',rfl,hk⟩,fun y H2 ⟨e,hy⟩=>?_⟩;subst e;have:=hy kvs kv.1 kv.2 h' hk;subst this;exact⟨G',tu (hf _ (Rz hk)),rel,.refl⟩
section
variable{X:Cx}
theorem zt{i:Nat}{tg iter:Expr}{body:List Stmt}{a:FG}{g:FS}{pos:Pos}(hp:PassesOwn (model X.prog X.w) X.A X.env X.xe)(hc:X.calm=true)(hn:PE X iter (pe i))(hg:QG X tg a)(hb:JY (md:=.mut) X body g)(hs:∀x,foldedSetIterable iter X.env x=pure x:=by intro _;rfl):
  QS (md:=.mut) X (.For tg iter body [] pos) (zr i a g):=
 dZ (zp (xh hp hc (zo hn) hg hb hs)) fun D0 σ H F7=>by
  obtain⟨G,env,fp,rel,k⟩:=F7;unfold zr at k;split at k
  ·rename_i p ks vs hi;obtain⟨v,fq,ev,g1,ON,_⟩:=rel.out hi;obtain⟨y,ys,e0,v',a0,b0,e1,e2,r1,r2⟩:=g1.rep;cases e0;cases e1;rw[RepO]at r1;obtain⟨ep,r1⟩:=r1;subst ep;rw[RepO]at r1;obtain⟨p',xs,o0,ev1,hH,dd,ea,rs⟩:=r1;cases ev1;subst ea;subst e2;obtain⟨kvs,eo,ek,ex,hf⟩:=(show ∃kvs:List (Key×V),o0=.dK kvs/\ks=kvs.map (fun kv=>kD kv.1)/\xs=kvs.map (·.2)/\∀kv∈kvs,qQ kv.1 from dd)
   subst eo ex ek;have nd:=Rx.mp (show(p::b0).Nodup from g1.nd);have gp:G p=none:=g1.gn p Q2;have Qw:∀z∈b0,z≠p:=fun z hz e=>nd.1 (e▸hz)
   refine⟨p,kvs,hH,fun o=>?_⟩;have Qx:Same G (upd G p (.frz o (.dK kvs))):=fun z u e=>by rw[av (aT e gp)];exact e
   have relA:Rel X.K (upd G p (.frz o (.dK kvs))) (upd H p (.frz o (.dK kvs))) (some (.pin p .f,.dct false (kvs.map fun kv=>kD kv.1) vs)::env.set i none) (some (.ref p)::σ) b0:=by
    refine⟨⟨_,_,rfl,.ref p,[],b0,rfl,rfl,?_,r2.step Qx fun z hz=>av (Qw z hz)⟩,nd.2,fun z hz=>?_,fun z u e=>?_⟩
    ·rw[RepO];refine⟨rfl,df.mpr ⟨?_,rfl⟩⟩;rw[Rep];exact⟨p,kvs.map (·.2),.dK kvs,rfl,.inr ⟨o,aM⟩,⟨kvs,rfl,rfl,rfl,hf⟩,Reps.mono Qx rs⟩
    ·rw[av (Qw z hz)];exact g1.gn z (Q7 _ hz)
    ·by_cases hz:z=p
     ·subst hz;rw[aM]at e ⊢;exact e
     ·rw[av hz]at e ⊢;exact g1.gh z u e
   obtain⟨f1,F0,Gb⟩:=relA.back (i:=i) (by rw[RN];exact(List.getElem?_eq_some_iff.mp hi).1) ev;rw[Sj]at F0;have OO:∀z∈f1,z∈p::b0:=fun z hz=>by
    rcases Gb.fpn z hz with h|h
    ·exact Q7 _ h
    ·exfalso;obtain⟨u,hu⟩:=F0.rep.live z hz;rw[h]at hu;cases hu
   refine⟨.ref p,ev,p,o,kvs,rfl,aM,?_⟩;have k1:=wu (o:=o) (G:=G) (H:=H) (fp:=fp) gp ON OO hf rs k;have wk:Walk X.K (upd G p (.frz o (.dK kvs))) (NZ o kvs.length p) (kvs.map fun kv=>kD kv.1):=uc aM hf;generalize (kvs.map fun kv=>kD kv.1)=ds at k1 wk F0;refine⟨fun j m σ' H'=>m=ds.length-j/\j<=ds.length/\∃G' env' F2,Same (upd G p (.frz o (.dK kvs))) G'/\Rel X.K G' H' env' σ' F2/\OutOk (md:=.mut) X.K G' H' F2 (N1 p o kvs D0) (dD a g (ds.drop j) env'),⟨_,rfl,RM _,_,_,f1,.refl _,F0,k1⟩,?_⟩;rintro j m σ2 H2 ⟨rfl,hj,G2,F5,Gv,gg,FZ,k2⟩;obtain⟨w1,w2⟩:=wk G2 H2 _ _ _ gg FZ j;by_cases Gy:j<ds.length
   ·have hd:ds[j]?=some ds[j]:=List.getElem?_eq_getElem Gy;obtain⟨go,yl⟩:=w1 _ hd;rw[Ti Gy]at k2;refine .inr ⟨go,fun σ' H'=>∃G' env' F2,Same (upd G p (.frz o (.dK kvs))) G'/\Rel X.K G' H' env' σ' F2/\OutOk (md:=.mut) X.K G' H' F2 (N1 p o kvs D0) (dD a g (ds.drop (j+1)) env'),fun σ' H' z=>⟨ds.length-(j+1),by lia,rfl,Gy,z⟩,fun x H3 y=>?_⟩;obtain⟨G3,rx,Gj,Gn⟩:=yl x H3 y;unfold dD at k2;match q3:a ds[j] F5,k2 with
    | .ok GC,k2=>
     refine⟨G3,F5,Gv,ds[j],GC,Gj,rx,q3,fun σ4 G4 Mg GZ Gw=>⟨G4,GC,Mg,Gw,?_⟩⟩;have k3:OutOk (md:=.mut) X.K G2 H2 Gv (N1 p o kvs D0) ((g GC).bind fun o=>match o with | .nx e=>dD a g (ds.drop (j+1)) e | .ct e=>dD a g (ds.drop (j+1)) e | .bk e=>.ok (.nx e) | .rt r=>.ok (.rt r)):=k2;match q4:g GC,k3 with
     | .ok (.nx e),k3=>exact fun σ' H' G' F2 st rel=>⟨G',e,F2,gg.trans (Gn.gg.trans (GZ.gg.trans st.gg)),rel,OutOk.after (Gn.trans (GZ.trans st)) k3⟩
     | .ok (.ct e),k3=>exact fun σ' H' G' F2 st rel=>⟨G',e,F2,gg.trans (Gn.gg.trans (GZ.gg.trans st.gg)),rel,OutOk.after (Gn.trans (GZ.trans st)) k3⟩
     | .ok (.bk e),k3=>exact fun σ' H' G' F2 st rel=>k3 σ' H' G' F2 (Gn.trans (GZ.trans st)) rel
     | .ok (.rt r),k3=>exact fun v H' G' F2 st rel=>k3 v H' G' F2 (Gn.trans (GZ.trans st)) rel
   ·have e:j=ds.length:=by lia
    subst e;rw[UN]at k2;exact .inl ⟨w2 rfl,k2 σ2 H2 G2 Gv .refl FZ⟩
  ·exact k.elim
end
end PV
namespace NX
open PySem PySem.Spec PyProof.Rows L2
section
variable{X:Cx}
end
end NX
namespace PV
open PySem PySem.Spec PyProof.Rows L2 NX
section
variable{X:Cx}
end
inductive BExp where
 |con (b:Bool)|var (j:Nat)|not (x:BExp)|and (x y:BExp)
section
variable{X:Cx}{a:Addr}{o:Obj}{i:Nat}{e b:Expr}{dq:List Expr}{x y:BExp}{pos p q:Pos}{n:Str}
variable{C:Addr}{vs:Array Value}
end
section
variable{md:Mode}{X:Cx}{x:Str}{pos:Pos}{C:Addr}{xe:FXE}
end
end PV
namespace PV
open PySem PySem.Spec L2 NX
section
variable{X:Cx}
end
end PV
namespace PV
open PySem PySem.Spec PyProof.Rows L2 NX
section
variable{K:W.Frag}{G H:Hp}
theorem AllO.app{P:D->V->List Addr->Prop}{d:D}{v:V}{a:List Addr}(q:P d v a):∀{ds:List D}{xs:List V}{fp:List Addr},AllO P ds xs fp->AllO P (ds++[d]) (xs++[v]) (fp++a)
 |[],xs,fp,r=>by
  obtain⟨e1,e2⟩:=r;subst e1 e2;exact⟨v,[],a,[],rfl,by simp,q,rfl,rfl⟩
 |d'::ds,xs,fp,r=>by
  obtain⟨y,ys,a1,b1,e1,e2,p,r⟩:=r;subst e1 e2;exact⟨y,ys++[v],a1,b1++a,rfl,by rw[RK],p,AllO.app q r⟩
theorem AllO.length{P:D->V->List Addr->Prop}:∀{ds:List D}{xs:List V}{fp:List Addr},AllO P ds xs fp->xs.length=ds.length
 |[],xs,fp,r=>by
  rw[r.1];rfl
 |d'::ds,xs,fp,r=>by
  obtain⟨y,ys,a1,b1,e1,e2,p,r⟩:=r;subst e1;rw[Rk,Rk,r.length]
theorem zu{p:Addr}{u:HO}(gh:Same G H)(gp:G p=none):Same G (upd H p u):=fun z o ez=>by
 have:z≠p:=fun w=>by
  subst w;rw[gp]at ez;cases ez
 rw[av this];exact gh z o ez
theorem wx{p:Addr}{u:HO}{fp:List Addr}(hp:p∈fp):Step G H fp G (upd H p u) fp:=by
 refine⟨.refl _,fun z o ez nz=>?_,fun z hz=>.inl hz,fun z o ez=>.inl ez,fun z o ez=>?_⟩
 ·have:z≠p:=fun w=>nz (w▸hp)
  rw[av this];exact ez
 ·by_cases w:z=p
  ·subst w;exact⟨_,aM⟩
  ·exact⟨o,by rw[av w];exact ez⟩
end
section
variable{md:Mode}{X:Cx}{scope:Scope}{N:List Str}{tg iter elt:Expr}{ifs:List Expr}{pos:Pos}{fi:FI}{a:FG}{c:FT}{f:FX}
end
section
variable{X:Cx}{x:Str}{p pos Ni:Pos}{e1 e2 e3:Expr}{fo:FO}{fb:FX}
end
section
variable{X:Cx}{x:Str}{p pos p1 p2 q1 q2:Pos}{o o':Expr}{j1 j2:_}
noncomputable def ud(F:List D->Res R)(i:Nat)(c1 c2:Int):FX:=fun env=>match env[i]? with
 |some (some (_,.lst ds))=>(match Ht ds c1,Ht ds c2 with
  |some d1,some d2=>(F [d1,d2]).bind fun r=>.ok (r,if aE r.1 r.2 then env else env.map frz)
  |_,_=>.bad)
 |_=>.bad
theorem ue{F:List D->Res R}{k i:Nat}{c1 c2:Int}(C:Ct X.prog X.w X.K X.mg X.base x k (spF X.K F))(hr:Room k X.A)(hg:Gl X x)(ho:PE X o (pe i))(Kf:PE X o' (pe i))(HR:(x==("__debug__" : Str))=false:=by decide)
  (h1:starEach [.Subscript o (.Constant (.int c1) j1 q1) p1,.Subscript o' (.Constant (.int c2) j2 q2) p2] X.env=(false,eval (.Subscript o (.Constant (.int c1) j1 q1) p1) X.env)::starEach [.Subscript o' (.Constant (.int c2) j2 q2) p2] X.env:=by rfl)
  (h2:starEach [.Subscript o' (.Constant (.int c2) j2 q2) p2] X.env=(false,eval (.Subscript o' (.Constant (.int c2) j2 q2) p2) X.env)::starEach [] X.env:=by rfl)
  (Hy:(backTo pos (starEach [.Subscript o' (.Constant (.int c2) j2 q2) p2] X.env)).any (·.1)=false:=by rfl):
  QE X (.Call (.Name x p) [.Subscript o (.Constant (.int c1) j1 q1) p1,.Subscript o' (.Constant (.int c2) j2 q2) p2] [] pos) (ud F i c1 c2):=
 aY (vI C hr hg (cH (qF lg ho kB (by exact fun _ _=>rfl)) (cH (qF lg Kf kB (by exact fun _ _=>rfl)) iQ h2) h1) HR h1 Hy) fun σ H Q F7=>by
  obtain⟨G,env,fp,r,env',rel,e,k⟩:=F7;unfold ud at e;split at e
  ·rename_i oi ds JR;split at e
   ·rename_i d1 d2 e1 e2;obtain⟨r',q4,e⟩:=ah e;obtain⟨v,ev,_⟩:=rel.view JR;obtain⟨G5,g45,Qy,HJ,_,HK⟩:=rel.lend;obtain⟨t,xs,et,sq,rs⟩:=bg (HJ i _ v JR ev);subst et;obtain⟨z1,w1,rz1⟩:=jt rs e1;obtain⟨z2,w2,rz2⟩:=jt rs e2;have Qz:=eB Qy sq;refine⟨.ref t,ev,t,xs,c1,z1,rfl,rfl,Qz,w1,.ref t,ev,t,xs,c2,z2,rfl,rfl,Qz,w2,?_⟩;show spF X.K F ([z1,z2]++[]) _ Q _;rw[Ru];refine⟨G5,[d1,d2],r',Qy,.cons rz1 (.one rz2),q4,fun v H' G' F2 st Gq=>?_⟩;obtain⟨k1,k2⟩:=HK H' G' F2 r' v st Gq;by_cases hc:aE r'.1 r'.2=true
    ·rw[Rb hc]at e;cases e;obtain⟨G6,M3,NJ,Kt⟩:=k1 hc;exact k v H' G6 M3 NJ Kt
    ·rw[Rg hc]at e;cases e;obtain⟨G6,M3,NJ,Kt⟩:=k2;exact k v H' G6 M3 NJ Kt
   ·cases e
  ·cases e
end
section
variable{K:W.Frag}{G H:Hp}
theorem Rel.newO2{c:O}{d1 d2:D}{v1 v2:V}{es:PV.Env}{vs:L2.St}{t:Addr}{fp:List Addr}(q:Rel K G H (some (c,d1)::some (c,d2)::es) (some v1::some v2::vs) fp)(ht:H t=none):
  Rel K G (upd H t (.lst [v1,v2])) (some (.l c,.lst [d1,d2])::es) (some (.ref t)::vs) (t::fp)/\Step G H fp G (upd H t (.lst [v1,v2])) (t::fp):=by
 have gt:G t=none:=by
  cases e:G t with
  |none=>rfl
  |some o=>rw[q.gh t o e]at ht;cases ht
 have nt:t∉fp:=fun z=>by
  obtain⟨u,e⟩:=q.rep.live t z;rw[ht]at e;cases e
 have sh:Same H (upd H t (.lst [v1,v2])):=fun b o e=>by rw[av (aT e ht)];exact e
 obtain⟨y,ys,e,v',a,b,e1,e2,r1,r2⟩:=q.rep;cases e;cases e1;obtain⟨y,ys,e,v',a2,b2,e1,e3,r3,r4⟩:=r2;cases e;cases e1;subst e3;subst e2;have out:∀z∈a++(a2++b2),upd H t (.lst [v1,v2]) z=H z:=fun z hz=>av fun e=>nt (e▸hz)
 refine⟨⟨⟨some (.ref t),vs,rfl,.ref t,t::(a++a2),b2,rfl,by simp,?_,r4.step (.refl _) fun z hz=>out z (by simp[hz])⟩,Rx.mpr ⟨nt,q.nd⟩,fun z hz=>?_,fun b o e=>sh b o (q.gh b o e)⟩,
  ⟨.refl _,fun b o e _=>sh b o e,fun b hb=>?_,fun b o e=>.inl e,fun b o e=>⟨o,sh b o e⟩⟩⟩
 ·show RepO K G _ (.l c) (.lst [d1,d2]) (.ref t) _;rw[RepO];exact⟨t,[v1,v2],a++a2,rfl,aM,rfl,v1,[v2],a,a2,rfl,rfl,RepO.step (.refl _) (fun z hz=>out z (by simp[hz])) r1,v2,[],a2,[],rfl,by simp,RepO.step (.refl _) (fun z hz=>out z (by simp[hz])) r3,rfl,rfl⟩
 ·rcases Ri.mp hz with rfl|hz
  ·exact gt
  ·exact q.gn z hz
 ·rcases Ri.mp hb with rfl|hb
  ·exact .inr ht
  ·exact .inl hb
end
def eLst2(f g:FX):FX:=fun env=>(f env).bind fun p=>(g p.2).bind fun q=>match p.1.1,q.1.1 with
 | .t [.f,.l .f],.t [.f,.l .f]=>.ok ((.l (.t [.f,.l .f]),.lst [p.1.2,q.1.2]),q.2)
 |_,_=>.bad
section
variable{X:Cx}{a b:Expr}{fa fb:FX}{pos:Pos}
theorem zv(ha:QE X a fa)(hb:QE X b fb)(h1:starEach [a,b] X.env=(false,eval a X.env)::starEach [b] X.env:=by rfl)(h2:starEach [b] X.env=(false,eval b X.env)::starEach [] X.env:=by rfl):QE X (.List [a,b] pos) (eLst2 fa fb):=
 aY (xi (cH ha (cH hb iQ h2) h1)) fun σ H Q F7=>by
  obtain⟨G,env,fp,r,env',rel,e,k⟩:=F7;obtain⟨⟨⟨o1,d1⟩,FY⟩,e1,e⟩:=ah e;obtain⟨⟨⟨o2,d2⟩,F5⟩,e2,e⟩:=ah e;dsimp only at e;split at e
  ·cases e;refine⟨G,env,fp,_,FY,rel,e1,fun v H1 G1 Gg Gb F0=>?_⟩;obtain⟨fa,fb,OI,ra,Mk,bk⟩:=F0.frame;refine⟨G1,FY,fb,_,_,Mk,e2,fun v2 H3 G3 Ha Gn Gj=>⟨by rw[line_eq];exact(by decide:2<=16777216),fun t ht=>?_⟩⟩;obtain⟨Jv,Kc⟩:=bk G3 H3 _ _ Ha Gn Gj;rw[<-OI]at Kc;obtain⟨Gw,GZ⟩:=Jv.newO2 ht;exact k _ _ G3 _ (Gb.trans (Kc.trans GZ)) Gw
  ·cases e
end
abbrev tL:O:=.t [.f,.l .f]
section
variable{K:W.Frag}{G H:Hp}
theorem uf{a:D}{l:List D}{v:V}{fp:List Addr}:RepO K G H tL (.tup [a,.lst l]) v fp<->∃t y q zs,v=.ref t/\G t=some (.tup [y,.ref q])/\Rep K G a y/\H q=some (.lst zs)/\fp=[q]/\Reps K G l zs:=by
 unfold tL;rw[RepO];constructor
 ·rintro⟨t,xs,et,gt,rt⟩;rw[RepT]at rt;obtain⟨y1,t1,a1,b1,Px,Py,q1,rt⟩:=rt;rw[RepT]at rt;obtain⟨y2,t2,a2,b2,Pz,PB,q2,rt⟩:=rt;rw[RepT]at rt;obtain⟨ett,eb⟩:=rt;obtain⟨rep1,ea⟩:=df.mp q1;obtain⟨q,zs,el,hl,PD,rz⟩:=eC.mp q2;subst ea ett eb Pz Px el PD PB Py;exact⟨t,y1,q,zs,et,gt,rep1,hl,rfl,rz⟩
 ·rintro⟨t,y,q,zs,et,gt,ra,hq,ef,rz⟩;refine⟨t,[y,.ref q],et,gt,?_⟩;subst ef;rw[RepT];refine⟨y,[.ref q],[],[q],rfl,rfl,df.mpr ⟨ra,rfl⟩,?_⟩;rw[RepT];refine⟨.ref q,[],[q],[],rfl,rfl,eC.mpr ⟨q,zs,rfl,hq,rfl,rz⟩,?_⟩;rw[RepT];exact⟨rfl,rfl⟩
theorem AllO.chgT:∀{ds:List D}{xs:List V}{fp:List Addr}{m:Nat}{a:D}{l:List D},fp.Nodup->AllO (RepO K G H tL) ds xs fp->ds[m]?=some (.tup [a,.lst l])->∃t y q zs,xs[m]?=some (.ref t)/\G t=some (.tup [y,.ref q])/\q∈fp/\H q=some (.lst zs)/\
  AllO (RepO K G (upd H q (.lst [])) tL) (ds.set m (.tup [a,.lst []])) xs fp
 |[],xs,fp,m,a,l,nd,r,e=>by rw[List.getElem?_nil]at e;cases e
 |d::ds,xs,fp,m,a,l,nd,r,e=>by
  obtain⟨y,ys,c,b,e1,e2,p,q⟩:=r;subst e1 e2;obtain⟨n1,n2,n3⟩:=Rv.mp nd;cases m with
  |zero=>
   rw[List.getElem?_cons_zero]at e;cases e;obtain⟨t,y1,u,zs,et,gt,ra,hu,ef,rz⟩:=uf.mp p;subst et ef;refine⟨t,y1,u,zs,rfl,gt,by simp,hu,?_⟩;refine⟨.ref t,ys,[u],b,rfl,rfl,uf.mpr ⟨t,y1,u,[],rfl,gt,ra,aM,rfl,.nil⟩,AllO.imp (fun d v c hc=>RepO.step (.refl _) fun z hz=>av fun e=>?_) q⟩;subst e;exact n3 z (by simp) z (hc z hz) rfl
  |succ m=>
   rw[List.getElem?_cons_succ]at e;obtain⟨t,y1,u,zs,el,gt,mu,hu,k⟩:=AllO.chgT n2 q e;refine⟨t,y1,u,zs,el,gt,Q5 _ mu,hu,y,ys,c,b,rfl,rfl,RepO.step (.refl _) (fun z hz=>av fun e=>?_) p,k⟩;subst e;exact n3 z hz z mu rfl
theorem Rel.clrT{i m:Nat}{ds l:List D}{a:D}{env:PV.Env}{vs:L2.St}{fp:List Addr}(q:Rel K G H env vs fp)(e:env[i]?=some (some (.l tL,.lst ds)))(em:ds[m]?=some (.tup [a,.lst l])):
  ∃p xs t y u zs fq,vs[i]?=some (some (.ref p))/\H p=some (.lst xs)/\xs.length=ds.length/\xs[m]?=some (.ref t)/\G t=some (.tup [y,.ref u])/\H u=some (.lst zs)/\
   Rel K G (upd H u (.lst [])) (env.set i (some (.l tL,.lst (ds.set m (.tup [a,.lst []]))))) vs fq/\Step G H fp G (upd H u (.lst [])) fq:=by
 obtain⟨v,fq,ev,g,st,HI⟩:=q.out e;obtain⟨y,ys,e0,v',c,b,e1,e2,r1,r2⟩:=g.rep;cases e0;cases e1;have r1:RepO K G H (.l tL) (.lst ds) v c:=r1;rw[RepO]at r1;obtain⟨p,xs,fa,ep,hp,ea,al⟩:=r1;subst ep ea e2;have nd0:(p::(fa++b)).Nodup:=g.nd;have nd:=Rx.mp nd0;obtain⟨n1,n2,n3⟩:=Rv.mp nd.2;obtain⟨t,y1,u,zs,el,gt,mu,hu,k⟩:=AllO.chgT n1 al em;have pl:p≠u:=fun z=>nd.1 (by rw[z];exact Q9 _ mu)
 have g2:Rel K G (upd H u (.lst [])) (some (.l tL,.lst (ds.set m (.tup [a,.lst []])))::env.set i none) (some (.ref p)::vs) (p::(fa++b)):=by
  refine⟨⟨some (.ref p),vs,rfl,.ref p,p::fa,b,rfl,rfl,?_,r2.step (.refl _) fun z hz=>av fun e=>?_⟩,g.nd,g.gn,zu g.gh (g.gn u (by simp[mu]))⟩
  ·show RepO K G _ (.l tL) (.lst (ds.set m (.tup [a,.lst []]))) (.ref p) (p::fa);rw[RepO];exact⟨p,xs,fa,rfl,by rw[av pl];exact hp,rfl,k⟩
  ·subst e;exact n3 z mu z hz rfl
 have Me:Step G H (p::(fa++b)) G (upd H u (.lst [])) (p::(fa++b)):=wx (by simp[mu]);obtain⟨fz,g3,Gn⟩:=g2.back (i:=i) (by rw[RN];exact(List.getElem?_eq_some_iff.mp e).1) ev;rw[Sj]at g3;exact⟨p,xs,t,y1,u,zs,fz,ev,hp,al.length,el,gt,hu,g3,st.trans (Me.trans Gn)⟩
end
section
variable{X:Cx}
noncomputable def q5(i:Nat)(c:Int):FX:=fun env=>match env[i]? with
 |some (some (.l (.t [.f,.l .f]),.lst ds))=>(match ixN ds.length c with
  |some m=>(match ds[m]? with
   |some (.tup [a,.lst _])=>.ok ((.f,.non),env.set i (some (.l (.t [.f,.l .f]),.lst (ds.set m (.tup [a,.lst []])))))
   |_=>.bad)
  |none=>.bad)
 |_=>.bad
theorem ug{i:Nat}{c:Int}{o:Expr}{j k s1 i1 s2 i2 apos Gd}(ho:PE X o (pe i))
  (GD:attributeBase (.Subscript (.Subscript o (.Constant (.int c) j i1) s1) (.Constant (.int 1) k i2) s2) "clear" X.env (eval (.Subscript (.Subscript o (.Constant (.int c) j i1) s1) (.Constant (.int 1) k i2) s2) X.env)=eval (.Subscript (.Subscript o (.Constant (.int c) j i1) s1) (.Constant (.int 1) k i2) s2) X.env:=by rfl)
  (GF:(apos.endLine==Gd.line)=true:=by rfl):
  QE X (.Call (.Attribute (.Subscript (.Subscript o (.Constant (.int c) j i1) s1) (.Constant (.int 1) k i2) s2) "clear" apos) [] [] Gd) (q5 i c):=by
 refine aY (xm SY UH UI pk (qF sf (qF lg ho kB (by exact fun _ _=>rfl)) kB (by exact fun _ _=>rfl)) GD GF) fun σ H Q Gf=>?_
 obtain⟨G,env,fp,r,env',rel,e,k⟩:=Gf;unfold q5 at e;split at e
 ·rename_i ds hi;split at e
  ·rename_i m hm;split at e
   ·rename_i a l hes;cases e;obtain⟨p,xs,t,y,u,zs,fq,ev,hp,lx,ex,gt,hu,FZ,F4⟩:=rel.clrT hi hes;refine⟨.ref p,ev,p,xs,c,.ref t,rfl,rfl,SqL.of hp,?_,t,[y,.ref u],1,.ref u,rfl,rfl,SqT.of (rel.gh _ _ gt),rfl,.inl ⟨rfl,zs,SqL.of hu⟩,u,zs,rfl,rfl,hu,k _ _ G fq F4 (FZ.push lK)⟩;unfold Ht;rw[lx,hm];exact ex
   ·cases e
  ·cases e
 ·cases e
end
end PV
namespace LW
open PySem L2 NX PV
abbrev uh(f:FX):FI:=Hj (Bv f) (Hj (gI f) (gJ f))
def jU:FS:=(eV (aB cP (au (aI (.int 1))) (au (y0 (dj (uh (aB Gk (ao 0) (au (aI (.int 1))))) [none,none,none] (kx 3 (aQ (aD 0) (aQ (aD 1) (aQ (aD 2) d4)))) eW (bu maxD (ai (ao 0) (ai (ao 2) aG)))) (aI (.int 0))))))
def bZ:List D->Res R:=fBody 1 0 jU
def nG:FS:=(eV (dj (uh (aB Gk (ao 0) (au (aI (.int 1))))) [none,none,none,some 1,some 2] (kx 3 (aQ (aD 0) (aQ (aD 1) (aQ (aD 2) d4)))) (Au (GJ (cQ Ji (ao 0) (ao 3))) (GJ (cQ Ji (ao 1) (ao 4)))) (aN 2)))
def d7:List D->Res R:=fBody 3 0 nG
def fC:FS:=(eV (bu dH (ai (au (dj (uh (aB Gk (ao 0) (au (aI (.int 1))))) [none] (aD 0) eW (aB Gk (ao 0) (au (aI (.int 0)))))) aG)))
def bG:List D->Res R:=fBody 1 0 fC
noncomputable def p6:FS:=(sSeq (ck 3 (BQ ni (au (aB Gk (ao 0) (au (aI (.int 0))))) (ai (ao 2) aG)))
  (eV (bu BC (ai (au (dj (qZ (ai (au (aN 1)) (ai (au (aB Gk (ao 0) (au (aI (.int 1))))) aG))) [none,none,some 3] (kx 2 (aQ (aD 0) (aQ (aD 1) d4))) eW (aB NG (ao 0) (au (aB Gk (au (aB Gk (ao 1) (au (aI (.int 1))))) (ao 2)))))) aG))))
def f7:List D->Res R:=fBody 3 1 p6
noncomputable def uk:FS:=(sSeq (HQ (xx (GJ (eZ f7 (ai (ao 0) (ai (ao 1) (ai (ao 2) aG))))))
  (eV (aI .non))
  cY)
  (sSeq (ck 3 (BQ ni (au (aB Gk (ao 0) (au (aI (.int 0))))) (ai (ao 2) aG)))
  (eV (bu dH (ai (au (dj (qZ (ai (au (aN 1)) (ai (au (aB Gk (ao 0) (au (aI (.int 1))))) aG))) [none,none,some 3] (kx 2 (aQ (aD 0) (aQ (aD 1) d4))) eW (aB cP (au (aB mU (ao 0) (au (aB Gk (au (aB Gk (ao 1) (au (aI (.int 1))))) (ao 2))))) (au (aB Gk (au (aB Gk (ao 1) (au (aI (.int 2))))) (ao 2)))))) aG)))))
def iN:List D->Res R:=fBody 3 1 uk
noncomputable def dy:FS:=(HQ (Au (GJ (cQ Jj (ao 4) (ao 1))) (GJ (cQ Ji (au (aB Gk (au (aB J3 (ao 0) (ao 4))) (au (aI (.int 0))))) (ao 2))))
  (jR 0 (gK (az (aI (.str [111,110,101])) (az (aB Gk (au (aB J3 (ao 0) (ao 4))) (au (aI (.int 1)))) (az (aN 3) bp)))))
  cY)
def ia:FS:=(zr 0 (aD 4)
  dy)
noncomputable def nH:FS:=(sSeq (HQ (GJ (cQ zf (ao 1) (ao 0)))
  (sPutP 0 (aN 1) (gK (az (aN 2) (az (aN 3) bp))))
  (HQ (GJ (cQ Jj (au (aB Gk (au (aB J3 (ao 0) (ao 1))) (au (aI (.int 0))))) (ao 2)))
  (jR 0 (gK (az (aI (.str [116,119,111])) (az (aB Gk (au (aB J3 (ao 0) (ao 1))) (au (aI (.int 1)))) (az (aN 3) bp)))))
  cY))
  (jR 0 (aI .non)))
def xJ:FS:=(sSeq ia
  nH)
def jV:Addr->List D->Res R:=kS 4 1 (.d) xJ
def b5:FS:=(sSeq (ck 10 (eFunW (.d) jV 2 (ai (ao 2) (ai (ao 9) (ai (ao 7) (ai (au (aB cP (ao 5) (au (gK (az (aN 6) bp))))) aG))))))
  (HQ (GJ (cQ isnO (ao 10) (au (aI .non))))
  (jR 2 (aN 10))
  cY))
def eJ:FS:=(qS (uh (aN 8)) (aD 9)
  b5)
noncomputable def b6:FS:=(sSeq (ck 7 (eZ iN (ai (ao 1) (ai (ao 4) (ai (ao 6) aG)))))
  (sSeq (ck 8 (eZ d7 (ai (ao 0) (ai (ao 3) (ai (ao 6) aG)))))
  (sSeq (HQ (Au (GJ (cQ Mh (ao 7) (au (aI .non)))) (GJ (aB NA (au (bu jN (ai (ao 8) aG))) (au (aI (.int 0))))))
  (jR 2 (gK (az (aI (.str [115,116,117,99,107])) (az (aN 5) (az (aN 6) bp)))))
  cY)
  (sSeq (HQ (Au (GJ (cQ isnO (ao 7) (au (aI .non)))) (GJ (cQ Ji (au (bu jN (ai (ao 8) aG))) (au (aI (.int 0))))))
  (jR 2 (gK (az (aI (.str [102,114,101,101])) (az (aN 5) (az (aN 6) bp)))))
  cY)
  eJ))))
def gQ:FS:=(qS (uh (aB Gk (ao 0) (au (aI (.int 0))))) (aD 6)
  b6)
def i4:FS:=(jR 2 (aI .non))
def nI:FS:=(sSeq (ck 4 (aB Gk (au (aB J3 (ao 2) (ao 3))) (au (aI (.int 0)))))
  (sSeq (ck 5 (aB Gk (au (aB J3 (ao 2) (ao 3))) (au (aI (.int 1)))))
  (sSeq gQ
  i4)))
def c6:Addr->List D->Res R:=fBodyJ 2 4 7 (.d) nI
noncomputable def d8:FS:=(sSeq (ck 4 (tZ 2 (.d) c6 2 (ai (ao 0) (ai (ao 1) (ai (ao 2) (ai (au (aB Gk (au (bu tU (ai (ao 2) aG))) (ao 3))) aG))))))
  (sSeq (HQ (GJ (cQ isnO (ao 4) (au (aI .non))))
  (eV (lI 4))
  cY)
  (ck 3 (aB cP (ao 3) (au (aI (.int 1)))))))
def p7:FS:=(cZ (GJ (aB Ju (ao 3) (au (bu jN (ai (ao 2) aG)))))
  d8 100000)
def nJ:FS:=(eV (tS (aI (.str [115,97,109,101])) (dj (dt (au (eZ bZ (ai (ao 0) aG)))) [none,some 2] (aD 0) eW (aB Gk (au (aB J3 (ao 1) (ao 0))) (au (aI (.int 0)))))))
noncomputable def xK:FS:=(sSeq (HQ (GJ (cQ Jj (au (aB Gk (ao 0) (au (aI (.int 0))))) (au (aB Gk (ao 1) (au (aI (.int 0)))))))
  xA
  cY)
  (sSeq (ck 2 (tP (aI (.int 0)) (gK (az (eZ bG (ai (ao 1) aG)) (az (gK bp) bp)))))
  (sSeq (ck 3 (aI (.int 0)))
  (sSeq p7
  nJ))))
def gv:List D->Res R:=fBody 2 3 xK
def gw:FS:=(sSeq (HQ (GJ (aB Ju (ao 1) (au (bu jN (ai (ao 0) aG)))))
  (eV (aB Gk (ao 0) (ao 1)))
  cY)
  (eV (aI (.int 0))))
def aF:List D->Res R:=fBody 2 0 gw
noncomputable def i5:FS:=(sSeq (ck 2 (aB cP (au (aB fY (ao 0) (au (aI (.int 2147483647))))) (au (aB lT (au (aI (.int 48271))) (au (aB cP (ao 1) (au (aI (.int 1)))))))))
  (sSeq (ck 2 (aB fY (au (aB cP (au (aB lT (ao 2) (ao 2))) (au (aB lT (au (aI (.int 69621))) (ao 1))))) (au (aI (.int 2147483647)))))
  (eV (aB fY (au (aB cP (au (aB cP (au (aB lT (ao 2) (ao 2))) (au (aB lT (au (aI (.int 16807))) (ao 1))))) (au (aI (.int 1))))) (au (aI (.int 2147483647)))))))
def aS:List D->Res R:=fBody 2 1 i5
noncomputable def cJ:FS:=(sSeq (ck 7 (Ax (ao 2) sU (ky (aN 3))))
  (sSeq (wg 7 (aN 4) (aB fY (au (aB cP (au (aB Gk (ao 7) (ao 4))) (ao 6))) (au (aI (.int 26)))))
  (sSeq (HQ (GJ (cQ Ji (au (aB fY (au (aB e7 (ao 0) (au (aI (.int 64))))) (au (aI (.int 4))))) (au (aI (.int 1)))))
  (ck 7 (Ax (ao 2) sU (ky (aB cP (ao 6) (au (aI (.int 1)))))))
  cY)
  (g8 (sW 5 (DY tW (au (aI (.str []))) (ai (au (dj (Hj (iL 7) (Hj (gI (aN 7)) (gJ (aN 7)))) [none,some 1] (aD 0) eW (aB Gk (ao 1) (ao 0)))) aG)))))))
def gx:FS:=(qS (dt (au (aI (.int 5)))) (aD 6)
  cJ)
def fD:FS:=(sSeq (HQ (GJ (cQ OK (au (aI (.str [109,111,118,101,115]))) (ao 5)))
  (ck 5 (dj (Hj (iL 5) (Hj (gI (aN 5)) (gJ (aN 5)))) [none] (aD 0) eW (aB cP (au (aI (.str [115]))) (ao 0))))
  cY)
  (eV (bu eI (ai (ao 5) aG))))
noncomputable def i6:FS:=(sSeq (ck 1 (aI (.str [97,98,99,100,101,102,103,104,105,106,107,108,109,110,111,112,113,114,115,116,117,118,119,120,121,122])))
  (sSeq (ck 2 (dj (dt (au (aI (.int 8)))) [none,some 0] (aD 0) eW (aB fY (au (eZ aS (ai (ao 1) (ai (ao 0) aG)))) (au (aI (.int 26))))))
  (sSeq (ck 3 (aB cP (au (aI (.int 1))) (au (aB fY (ao 0) (au (aI (.int 8)))))))
  (sSeq (ck 4 (aB fY (au (aB e7 (ao 0) (au (aI (.int 8))))) (ao 3)))
  (sSeq (ck 5 (ox bp))
  (sSeq gx
  fD))))))
def cB:List D->Res R:=fBody 1 7 i6
noncomputable def cp:FS:=(sSeq (HQ (GJ (aB Ju (ao 5) (au (aB Gk (au (aB Gk (ao 6) (au (aI (.int 1))))) (ao 3)))))
  (eV (aI .non))
  cY)
  (g8 (sW 4 (aB cP (au (aB mU (ao 5) (au (aB Gk (au (aB Gk (ao 6) (au (aI (.int 1))))) (ao 3))))) (au (aB Gk (au (aB Gk (ao 6) (au (aI (.int 2))))) (ao 3)))))))
def eK:FS:=(qS (qZ (ai (au (aN 1)) (ai (au (aB Gk (ao 0) (au (aI (.int 1))))) aG))) (kx 2 (aQ (aD 5) (aQ (aD 6) d4)))
  cp)
def gy:FS:=(eV (bu dH (ai (ao 4) aG)))
def jW:FS:=(sSeq (ck 3 (BQ ni (au (aB Gk (ao 0) (au (aI (.int 0))))) (ai (ao 2) aG)))
  (sSeq (ck 4 (ox bp))
  (sSeq eK
  gy)))
def cx:List D->Res R:=fBody 3 4 jW
noncomputable def bK:FS:=(sSeq (ck 6 (eZ cx (ai (ao 0) (ai (au (aB Gk (ao 2) (ao 4))) (ai (ao 5) aG)))))
  (HQ (GJ (cQ isnO (ao 6) (au (aI .non))))
  (sSeq (HQ (GJ (cQ zf (ao 6) (ao 2)))
  (sSeq (HQ (GJ (cQ Ji (au (bu jN (ai (ao 2) aG))) (ao 1)))
  (eV (aI .non))
  cY)
  (g8 (sW 2 (aN 6))))
  cY)
  (g8 (sW 3 (gK (az (aN 4) (az (aN 5) (az (Ay jS (ao 2) (ai (ao 6) aG)) bp)))))))
  cY))
def fE:FS:=(qS (uh (aB Gk (ao 0) (au (aI (.int 0))))) (aD 5)
  bK)
def ib:FS:=(ck 4 (aB cP (ao 4) (au (aI (.int 1)))))
def b8:FS:=(sSeq fE
  ib)
def dM:FS:=(cZ (GJ (aB Ju (ao 4) (au (bu jN (ai (ao 2) aG)))))
  b8 100000)
def ic:FS:=(eV (gK (az (bu eI (ai (ao 3) aG)) (az (aN 2) bp))))
noncomputable def kX:FS:=(sSeq (ck 2 (ox (az (bu dH (ai (au (dj (uh (aB Gk (ao 0) (au (aI (.int 1))))) [none,none,none] (kx 3 (aQ (aD 0) (aQ (aD 1) (aQ (aD 2) d4)))) eW (aN 0))) aG)) bp)))
  (sSeq (ck 3 (ox bp))
  (sSeq (ck 4 (aI (.int 0)))
  (sSeq dM
  ic))))
def br:List D->Res R:=fBody 2 5 kX
def dU:FS:=(ck 3 (eZ aS (ai (au (aB cP (ao 4) (ao 3))) (ai (ao 2) aG))))
def ig:FS:=(qS (uh (D3 (ao 0) (ky (aB cP (ao 1) (ao 2))) (ky (aB cP (ao 1) (au (aI (.int 84))))) (ky (aI (.int 6))))) (aD 4)
  dU)
def gA:FS:=(eV (lI 3))
def jX:FS:=(sSeq (ck 3 (aB cP (au (aI (.int 7))) (ao 2)))
  (sSeq ig
  gA))
def cR:List D->Res R:=fBody 3 2 jX
noncomputable def dA:FS:=(sSeq (ck 5 (eZ aS (ai (ao 0) (ai (ao 4) aG))))
  (sSeq (ck 6 (aB mU (au (aB fY (ao 5) (au (aI (.int 5))))) (au (aI (.int 2)))))
  (sSeq (ck 7 (aB e7 (au (aB fY (au (aB e7 (ao 5) (au (aI (.int 8))))) (au (aI (.int 4))))) (au (aI (.int 3)))))
  (sSeq (g8 (sW 2 (aB cP (au (bu maxD (ai (au (aI (.int 0))) (ai (au (aB mU (au (aI (.int 0))) (ao 6))) aG)))) (ao 7))))
  (g8 (sW 3 (aB cP (au (bu maxD (ai (au (aI (.int 0))) (ai (ao 6) aG)))) (ao 7))))))))
def gB:FS:=(qS (dt (ao 1)) (aD 4)
  dA)
def fF:FS:=(eV (zk (aB fY (au (aB e7 (ao 0) (au (aI (.int 16))))) (au (aI (.int 4)))) (lI 2) (lI 3)))
def i7:FS:=(sSeq (ck 2 (ox bp))
  (sSeq (ck 3 (ox bp))
  (sSeq gB
  fF)))
def cC:List D->Res R:=fBody 2 6 i7
noncomputable def ij:FS:=(sSeq (ck 2 (aB cP (au (aI (.int 1))) (au (aB fY (ao 1) (au (aB Av (au (aI (.int 10))) (au (aI (.int 50)))))))))
  (sSeq (BM (aN 0) (kx 3 (aQ (aD 3) (aQ (aD 4) (aQ (aD 5) d4)))))
  (sSeq (ck 4 (bu dH (ai (au (dj (Hj (iL 4) (Hj (gI (aN 4)) (gJ (aN 4)))) [none,some 2] (aD 0) eW (aB lT (ao 1) (ao 0)))) aG)))
  (eV (gK (az (aB cP (au (aB lT (ao 2) (ao 3))) (au (aB fY (au (aB e7 (ao 1) (au (aI (.int 7))))) (ao 2)))) (az (aN 4) (az (bu dH (ai (au (dj (Hj (iL 5) (Hj (gI (aN 5)) (gJ (aN 5)))) [none,some 2] (aD 0) eW (aB lT (ao 1) (ao 0)))) aG)) bp))))))))
def bL:List D->Res R:=fBody 2 4 ij
noncomputable def cq:FS:=(sSeq (ck 5 (eZ cR (ai (ao 0) (ai (ao 1) (ai (ao 4) aG)))))
  (sSeq (ck 6 (eZ cC (ai (ao 5) (ai (ao 2) aG))))
  (sSeq (g8 (sW 3 (eZ bL (ai (ao 6) (ai (au (eZ aF (ai (ao 0) (ai (au (aB cP (ao 1) (ao 4))) aG)))) aG)))))
  (HQ (GJ (aB NA (au (aB fY (au (aB e7 (ao 5) (au (aI (.int 64))))) (au (aI (.int 3))))) (au (aI (.int 0)))))
  (sSeq (ck 7 (gK (az (aB fY (au (aB e7 (ao 5) (au (aI (.int 256))))) (au (aI (.int 4)))) (az (aB Gk (au (aN 6)) (au (aI (.int 2)))) (az (aB Gk (au (aN 6)) (au (aI (.int 1)))) bp)))))
  (g8 (sW 3 (eZ bL (ai (ao 7) (ai (au (eZ aF (ai (ao 0) (ai (au (aB cP (au (aB cP (ao 1) (au (aI (.int 6))))) (ao 4))) aG)))) aG))))))
  cY))))
def fG:FS:=(qS (dt (au (aB cP (au (aI (.int 1))) (au (aB fY (au (aB e7 (au (eZ aF (ai (ao 0) (ai (au (aI (.int 1))) aG)))) (au (aI (.int 4))))) (au (aI (.int 4)))))))) (aD 4)
  cq)
def eY:FS:=(eV (lI 3))
def ik:FS:=(sSeq (ck 3 (ox bp))
  (sSeq fG
  eY))
def b9:List D->Res R:=fBody 3 5 ik
noncomputable def i8:FS:=(sSeq (ck 1 (eZ cB (ai (au (eZ aF (ai (ao 0) (ai (au (aI (.int 0))) aG)))) aG)))
  (sSeq (ck 2 (eZ aF (ai (ao 0) (ai (au (aI (.int 1))) aG))))
  (sSeq (ck 3 (aB cP (au (aI (.int 1))) (au (aB fY (ao 2) (au (aI (.int 3)))))))
  (sSeq (ck 4 (aB fY (au (aB e7 (ao 2) (au (aI (.int 32))))) (au (aB mU (au (aI (.int 6))) (ao 3)))))
  (eV (bu dH (ai (au (Ax (ao 1) (ky (aN 4)) (ky (aB cP (ao 4) (ao 3))))) aG)))))))
def cD:List D->Res R:=fBody 1 4 i8
noncomputable def kY:FS:=(sSeq (ck 2 (eZ cD (ai (ao 0) aG)))
  (sSeq (ck 3 (bu jN (ai (ao 2) aG)))
  (sSeq (ck 4 (eZ b9 (ai (ao 0) (ai (ao 1) (ai (ao 3) aG)))))
  (sSeq (HQ (GJ (cQ isnO (au (eZ br (ai (au (gK (az (aN 2) (az (aN 4) bp)))) (ai (au (aI (.int 8))) aG)))) (au (aI .non))))
  (eV (gK (az (aN 2) (az (aN 4) bp))))
  cY)
  (sSeq (ck 5 (bu dH (ai (au (dj (Hj (iL 2) (Hj (gI (aN 2)) (gJ (aN 2)))) [none] (aD 0) eW (aI (.int 1)))) aG)))
  (sSeq (ck 6 (bu dH (ai (au (dj (Hj (iL 2) (Hj (gI (aN 2)) (gJ (aN 2)))) [none] (aD 0) eW (aI (.int 0)))) aG)))
  (sSeq (HQ (GJ (cQ isnO (au (eZ br (ai (au (gK (az (aN 2) (az (aB cP (ao 4) (au (ox (az (gK (az (aI (.int 2)) (az (aN 5) (az (aN 6) bp)))) bp)))) bp)))) (ai (au (aI (.int 8))) aG)))) (au (aI .non))))
  (eV (gK (az (aN 2) (az (aB cP (ao 4) (au (ox (az (gK (az (aI (.int 2)) (az (aN 5) (az (aN 6) bp)))) bp)))) bp))))
  cY)
  (eV (gK (az (aN 2) (az (aB cP (ao 4) (au (ox (az (gK (az (aI (.int 1)) (az (aN 5) (az (aN 6) bp)))) bp)))) bp)))))))))))
def cS:List D->Res R:=fBody 2 5 kY
def i9:FS:=(eV (DN (Mi "int" (ao 0)) (DO (Mi "bool" (ao 0)))))
def cE:List D->Res R:=fBody 1 0 i9
noncomputable def jY:FS:=(sSeq (HQ (GJ (cQ Ji (ao 0) (au (aI (.int 1)))))
  (eV (ox (az (aI (.int 0)) bp)))
  cY)
  (sSeq (ck 2 (aB fY (ao 1) (au (aB mU (ao 0) (au (aI (.int 1)))))))
  (sSeq (ck 3 (aB cP (au (ox (az (aI (.int 0)) bp))) (au (dj (dt (au (aB mU (ao 0) (au (aI (.int 1)))))) [none,some 2,some 0] (aD 0) eW (aB cP (au (aI (.int 1))) (au (aB fY (au (aB cP (ao 0) (ao 1))) (au (aB mU (ao 2) (au (aI (.int 1))))))))))))
  (sSeq (HQ (GJ (cQ Ji (au (aB fY (au (aB e7 (ao 1) (au (aI (.int 64))))) (au (aI (.int 2))))) (au (aI (.int 1)))))
  (ck 3 (aB cP (au (ox (az (aI (.int 0)) bp))) (au (dj (uh (Ax (ao 3) (ky (aI (.int 1))) sU)) [none,some 0] (aD 0) eW (aB mU (ao 1) (ao 0))))))
  cY)
  (eV (lI 3))))))
def cT:List D->Res R:=fBody 2 2 jY
def cV:FS:=(HQ (xx (GJ (eZ cE (ai (ao 3) aG))))
  (eV (aI (.bl false)))
  cY)
def il:FS:=(qS (uh (aN 2)) (aD 3)
  cV)
def cW:FS:=(sSeq (HQ (xx (GJ (Mi "tuple" (ao 2))))
  (eV (aI (.bl false)))
  cY)
  il)
def iq:FS:=(qS (uh (aB Gk (ao 0) (au (aI (.int 1))))) (aD 2)
  cW)
def gC:FS:=(eV (aI (.bl true)))
noncomputable def jZ:FS:=(sSeq (HQ (M0 (xx (GJ (Mi "tuple" (ao 0)))) (M0 (GJ (cQ Jj (au (bu jN (ai (ao 0) aG))) (au (aI (.int 2))))) (M0 (GJ (cQ Jj (ao 0) (au (gK (az (aI (.str [115,97,109,101])) (az (aN 1) bp)))))) (xx (GJ (Mi "list" (au (aB Gk (ao 0) (au (aI (.int 1)))))))))))
  (eV (aI (.bl false)))
  cY)
  (sSeq iq
  gC))
def cy:List D->Res R:=fBody 2 2 jZ
noncomputable def B3:FS:=(sSeq (ck 1 (eZ cS (ai (ao 0) (ai (au (aI (.int 2))) aG))))
  (sSeq (BM (eZ br (ai (ao 1) (ai (au (aI (.int 8))) aG))) (kx 2 (aQ (aD 2) (aQ (aD 3) d4))))
  (sSeq (ck 4 (eZ cT (ai (au (bu jN (ai (ao 3) aG))) (ai (au (eZ aS (ai (au (eZ aF (ai (ao 0) (ai (au (aI (.int 1))) aG)))) (ai (au (aI (.int 5))) aG)))) aG))))
  (sSeq (ck 5 (gK (az (aB Gk (ao 1) (au (aI (.int 0)))) (az (bu eI (ai (au (dj (Hj (iL 2) (Hj (gI (aN 2)) (gJ (aN 2)))) [none,none,none,some 4] (kx 3 (aQ (aD 0) (aQ (aD 1) (aQ (aD 2) d4)))) eW (gK (az (aB Gk (ao 3) (ao 0)) (az (aN 1) (az (aB Gk (ao 3) (ao 2)) bp)))))) aG)) bp))))
  (sSeq (ck 6 (dj (dt (au (bu jN (ai (ao 3) aG)))) [none,some 3,some 4] (aD 0) eW (aB Gk (ao 1) (au (Ay jS (ao 2) (ai (ao 0) aG))))))
  (sSeq (ck 7 (eLst2 (tS (aB Gk (ao 1) (au (aI (.int 0)))) (bu qV (ai (au (aB Gk (ao 5) (au (aI (.int 1))))) aG))) (tS (aB Gk (ao 1) (au (aI (.int 0)))) (bu qV (ai (au (aB Gk (ao 1) (au (aI (.int 1))))) aG)))))
  (sSeq (ck 8 (ud gv 7 0 1))
  (sSeq (HQ (M0 (xx (GJ (eZ cy (ai (ao 8) (ai (ao 6) aG))))) (GJ (cQ Jj (ao 7) (au (ox (az (aN 5) (az (aN 1) bp)))))))
  (eV (aI (.bl false)))
  cY)
  (sSeq (g8 (p3 8))
  (sSeq (ck 9 (ud gv 7 0 1))
  (sSeq (g8 (q5 7 0))
  (sSeq (g8 (q5 7 1))
  (eV (eZ cy (ai (ao 9) (ai (ao 6) aG))))))))))))))))
def zw:List D->Res R:=fBody 1 9 B3
end LW
namespace LW
open PySem PySem.Spec PyProof.Rows L2 NX PV
theorem B4{α:Type}{Q:List α->Prop}(h:∀a,Q [a]):∀us,us.length=1->Q us
 |[a],_=>h a
theorem wy{α:Type}{Q:List α->Prop}(h:∀a b,Q [a,b]):∀us,us.length=2->Q us
 |[a,b],_=>h a b
theorem Az{α:Type}{Q:List α->Prop}(h:∀a b c,Q [a,b,c]):∀us,us.length=3->Q us
 |[a,b,c],_=>h a b c
theorem EC{α:Type}{Q:List α->Prop}(h:∀a b c d,Q [a,b,c,d]):∀us,us.length=4->Q us
 |[a,b,c,d],_=>h a b c d
theorem fH{X:Cx}{tg e:Expr}{f:FX}(h:QE X e f):QI X tg e (Hj (Bv f) (Hj (gI f) (gJ f))):=tj (yU h) (tj (iU h) (iV h))
def top(i:Nat):Stmt:=PySem.Challenge.pw_netfinder_k25_runs_held.main.body.getD i (.Pass ⟨0,0,0,0⟩)
theorem Fq:Str.ofString "two" = S [116,119,111]:=by decide +kernel
theorem Fs:Str.ofString "one" = S [111,110,101]:=by decide +kernel
theorem Ft:Str.ofString "free" = S [102,114,101,101]:=by decide +kernel
theorem Fv:Str.ofString "stuck" = S [115,116,117,99,107]:=by decide +kernel
theorem ED:Str.ofString "same" = S [115,97,109,101]:=by decide +kernel
theorem Fw:Str.ofString "moves" = S [109,111,118,101,115]:=by decide +kernel
theorem Fx:Str.ofString "s" = S [115]:=by decide +kernel
theorem Fy:Str.ofString "" = S []:=by decide +kernel
theorem Fz:Str.ofString "abcdefghijklmnopqrstuvwxyz" = S [97,98,99,100,101,102,103,104,105,106,107,108,109,110,111,112,113,114,115,116,117,118,119,120,121,122]:=by decide +kernel
section
variable{P:Program}{w:World}{K:W.Frag}{mg:Str->Option Value}{base:Heap}
abbrev gR:Stmt:=top 4
theorem nK:FnScope ["chart"] ["chart"] (defScope gR):=fs
theorem nL(Df:Def K mg "states_of" gR)(HL:mg "max" = none):Ct P w K mg base "states_of" 1 (spF K bZ):=
 d5 Df nK (fun _ _ _ _ _ _=>B4 fun _=>rfl) fun f Gp A outer s H E hr=>
  (ay (a9 (aJ aP (aa aj) (aa (y3 rfl (by rfl) HL (bJ [none,none,none] ["first","move","second"] rfl (bQ (fH (aZ (ae (pv 0)) (aa aj)))) (fun _ _ _ _ _=>(have h:=(show List.Nodup (["first","move","second"]:List Str) from by decide +kernel);(g9 rfl (aV (aH (i:=0) h rfl (lo rfl)) (aV (aH (i:=1) h rfl (lo rfl)) (aV (aH (i:=2) h rfl (lo rfl)) eD)))))) (fun _ _ _ _ _=>bX) (fun _ _ _ _ _=>(bx (sZ rfl) (by rfl) HL tI (af (ae (pv 0)) (af (ae (pv 2)) aw))))) aj)))))
abbrev j3:Stmt:=top 5
theorem rg:FnScope ["chart","state","move"] ["chart","state","move"] (defScope j3):=fs
theorem rh(Df:Def K mg "goes_to" j3):Ct P w K mg base "goes_to" 1 (spF K d7):=
 d5 Df rg (fun _ _ _ _ _ _=>Az fun _ _ _=>rfl) fun f Gp A outer s H E hr=>
  (ay (a9 (bJ [none,none,none,some 1,some 2] ["first","by","second","state","move"] rfl (bQ (fH (aZ (ae (pv 0)) (aa aj)))) (fun _ _ _ _ _=>(have h:=(show List.Nodup (["first","by","second","state","move"]:List Str) from by decide +kernel);(g9 rfl (aV (aH (i:=0) h rfl (lo rfl)) (aV (aH (i:=1) h rfl (lo rfl)) (aV (aH (i:=2) h rfl (lo rfl)) eD)))))) (fun _ _ _ _ _=>(yV (QW.qt (pL (ba (m6 hr.units) (ae (pv 0)) (ae (pv 3)) (bB _)) (lJ (ba (m6 hr.units) (ae (pv 1)) (ae (pv 4)) (bB _))))))) (fun _ _ _ _ _=>(aA (pv 2))))))
abbrev dB:Stmt:=top 7
theorem jh:FnScope ["net"] ["net"] (defScope dB):=fs
theorem ji(Df:Def K mg "first_marking" dB)(F6:mg "tuple" = none):Ct P w K mg base "first_marking" 1 (spF K bG):=
 d5 Df jh (fun _ _ _ _ _ _=>B4 fun _=>rfl) fun f Gp A outer s H E hr=>
  (ay (a9 (bP dk (by rfl) F6 cI (af (aa (bJ [none] ["place"] rfl (bQ (fH (aZ (ae (pv 0)) (aa aj)))) (fun _ _ _ _ _=>(aH (i:=0) (show List.Nodup (["place"]:List Str) from by decide +kernel) rfl (lo rfl))) (fun _ _ _ _ _=>bX) (fun _ _ _ _ _=>(aZ (ae (pv 0)) (aa aj))))) aw))))
abbrev lU:Stmt:=top 8
theorem nM:FnScope ["net","marking","move","at"] ["net","marking","move"] (defScope lU):=fs
theorem um(Df:Def K mg "can_go" lU)(IY:mg "all" = none)(HM:mg "zip" = none):Ct P w K mg base "can_go" 1 (spF K f7):=
 d5 Df nM (fun _ _ _ _ _ _=>Az fun _ _ _=>rfl) fun f Gp A outer s H E hr=>
  (ag (aK (i:=3) nM.nd rfl (lo rfl) (tN SR Tw gO (aa (aZ (ae (pv 0)) (aa aj))) (af (ae (pv 2)) aw)))
  (ay (a9 (bx (BD rfl) (by rfl) IY BN (af (aa (bJ [none,none,some 3] ["beads","place","at"] rfl (bQ (oP (by rfl) HM (af (aa (aA (pv 1))) (af (aa (aZ (ae (pv 0)) (aa aj))) aw)))) (fun _ _ _ _ _=>(have h:=(show List.Nodup (["beads","place","at"]:List Str) from by decide +kernel);(g9 rfl (aV (aH (i:=0) h rfl (lo rfl)) (aV (aH (i:=1) h rfl (lo rfl)) eD))))) (fun _ _ _ _ _=>bX) (fun _ _ _ _ _=>(Br (BI hr.units0) (ae (pv 0)) (aa (aZ (aa (aZ (ae (pv 1)) (aa aj))) (ae (pv 2)))) (bB _))))) aw)))))
abbrev oT:Stmt:=top 9
theorem p8:FnScope ["net","marking","move","at"] ["net","marking","move"] (defScope oT):=fs
theorem wz(Df:Def K mg "moved" oT)(Ku:Ct P w K mg base "can_go" 1 (spF K f7))(F6:mg "tuple" = none)(HM:mg "zip" = none):Ct P w K mg base "moved" 2 (spF K iN):=
 d5 Df p8 (fun _ _ _ _ _ _=>Az fun _ _ _=>rfl) fun f Gp A outer s H E hr=>
  (ag (de (kO (kM (bj Ku hr.m (by rfl) (af (ae (pv 0)) (af (ae (pv 1)) (af (ae (pv 2)) aw))))))
  (ay (a9 eT))
  bc)
  (ag (aK (i:=3) p8.nd rfl (lo rfl) (tN SR Tw gO (aa (aZ (ae (pv 0)) (aa aj))) (af (ae (pv 2)) aw)))
  (ay (a9 (bP dk (by rfl) F6 cI (af (aa (bJ [none,none,some 3] ["beads","place","at"] rfl (bQ (oP (by rfl) HM (af (aa (aA (pv 1))) (af (aa (aZ (ae (pv 0)) (aa aj))) aw)))) (fun _ _ _ _ _=>(have h:=(show List.Nodup (["beads","place","at"]:List Str) from by decide +kernel);(g9 rfl (aV (aH (i:=0) h rfl (lo rfl)) (aV (aH (i:=1) h rfl (lo rfl)) eD))))) (fun _ _ _ _ _=>bX) (fun _ _ _ _ _=>(aJ aP (aa (aJ hJ (ae (pv 0)) (aa (aZ (aa (aZ (ae (pv 1)) (aa aj))) (ae (pv 2)))))) (aa (aZ (aa (aZ (ae (pv 1)) (aa aj))) (ae (pv 2)))))))) aw))))))
abbrev uo:Stmt:=top 11
theorem uq:FnScope ["got","state","marking","way","other"] ["got","state","marking","way"] (defScope uo):=fs
theorem zx(Df:Def K mg "give" uo):Ct P w K mg base "give" 1 (spM K (.d) jV):=
 BU Df uq (fun _ _ _ _ _ _=>EC fun _ _ _ _=>rfl) fun f Gp A outer s H E hr=>
  (ag (zt RU rfl (pv 0) (aH (i:=4) uq.nd rfl (lo rfl))
  (ay (de (QW.qt (pL (ba (qX hr.units) (ae (pv 4)) (ae (pv 1)) (bB _)) (lJ (ba (m6 hr.units) (aa (aZ (aa (oR (hu_of hr) (ae (pv 0)) (ae (pv 4)))) (aa aj))) (ae (pv 2)) (bB _)))))
  (ay (gP (i:=0) (bY (aq (gm Fs (by decide)) (aq (aZ (aa (oR (hu_of hr) (ae (pv 0)) (ae (pv 4)))) (aa aj)) (aq (aA (pv 3)) aO))))))
  bc)))
  (ag (de (ba (tR hr.u65) (ae (pv 1)) (ae (pv 0)) (by with_unfolding_all rfl))
  (ay (zq (hu_of hr) (pv 0) (aA (pv 1)) (bY (aq (aA (pv 2)) (aq (aA (pv 3)) aO)))))
  (ay (de (ba (qX hr.units) (aa (aZ (aa (oR (hu_of hr) (ae (pv 0)) (ae (pv 1)))) (aa aj))) (ae (pv 2)) (bB _))
  (ay (gP (i:=0) (bY (aq (gm Fq (by decide)) (aq (aZ (aa (oR (hu_of hr) (ae (pv 0)) (ae (pv 1)))) (aa aj)) (aq (aA (pv 3)) aO))))))
  bc)))
  (ay (gP (i:=0) eT))))
abbrev j4:Stmt:=top 12
theorem cF:FnScope ["chart","net","got","state","marking","way","move","coming","seconds","second","against"] ["chart","net","got","state"] (defScope j4):=fs
theorem rj(Df:Def K mg "look_at" j4)(Mr:Ct P w K mg base "give" 1 (spM K (.d) jV))(J6:Ct P w K mg base "goes_to" 1 (spF K d7))(La:Ct P w K mg base "moved" 2 (spF K iN))(Gu:mg "len" = none):Ct P w K mg base "look_at" 3 (spJ 2 K (.d) c6):=
 B2 Df cF (fun _ _ _ _ _ _=>EC fun _ _ _ _=>rfl) fun f Gp A outer s H E hr=>
  (ag (aK (i:=4) cF.nd rfl (lo rfl) (aZ (aa (oR (hu_of hr) (ae (pv 2)) (ae (pv 3)))) (aa aj)))
  (ag (aK (i:=5) cF.nd rfl (lo rfl) (aZ (aa (oR (hu_of hr) (ae (pv 2)) (ae (pv 3)))) (aa aj)))
  (ag (gu RU rfl (fH (aZ (ae (pv 0)) (aa aj))) (aH (i:=6) cF.nd rfl (lo rfl))
  (ag (aK (i:=7) cF.nd rfl (lo rfl) (bj La hr.m (by rfl) (af (ae (pv 1)) (af (ae (pv 4)) (af (ae (pv 6)) aw)))))
  (ag (aK (i:=8) cF.nd rfl (lo rfl) (bj J6 hr.m (by rfl) (af (ae (pv 0)) (af (ae (pv 3)) (af (ae (pv 6)) aw)))))
  (ag (de (QW.qt (pL (ba DX (ae (pv 7)) (aa eT) (bB _)) (lJ (kN Bz (aa (bx dS (by rfl) Gu bt_len (af (ae (pv 8)) aw))) (aa aj) (bB _)))))
  (ay (gP (i:=2) (bY (aq (gm Fv (by decide)) (aq (aA (pv 5)) (aq (aA (pv 6)) aO))))))
  bc)
  (ag (de (QW.qt (pL (ba kQ (ae (pv 7)) (aa eT) (bB _)) (lJ (ba (m6 hr.units) (aa (bx dS (by rfl) Gu bt_len (af (ae (pv 8)) aw))) (aa aj) (bB _)))))
  (ay (gP (i:=2) (bY (aq (gm Ft (by decide)) (aq (aA (pv 5)) (aq (aA (pv 6)) aO))))))
  bc)
  (ay (gu RU rfl (fH (aA (pv 8))) (aH (i:=9) cF.nd rfl (lo rfl))
  (ag (aK (i:=10) cF.nd rfl (lo rfl) (zi (i:=2) Mr hr.m (by rfl) (af (ae (pv 2)) (af (ae (pv 9)) (af (ae (pv 7)) (af (aa (aJ aP (ae (pv 5)) (aa (bY (aq (aA (pv 6)) aO))))) aw))))))
  (ay (de (ba kQ (ae (pv 10)) (aa eT) (bB _))
  (ay (gP (i:=2) (aA (pv 10))))
  bc))))))))))
  (ay (gP (i:=2) eT)))))
abbrev ur:Stmt:=top 13
theorem j5:FnScope ["chart","net","got","looked_at","against"] ["chart","net"] (defScope ur):=fs
theorem zy(Df:Def K mg "held" ur)(Ia:Ct P w K mg base "first_marking" 1 (spF K bG))(J7:Ct P w K mg base "look_at" 3 (spJ 2 K (.d) c6))(IZ:Ct P w K mg base "states_of" 1 (spF K bZ))(Gu:mg "len" = none)(GV:mg "list" = none)(Gh:mg "range" = none):Ct P w K mg base "held" 4 (spF K gv):=
 d5 Df j5 (fun _ _ _ _ _ _=>wy fun _ _=>rfl) fun f Gp A outer s H E hr=>
  (ag (de (ba (qX hr.units) (aa (aZ (ae (pv 0)) (aa aj))) (aa (aZ (ae (pv 1)) (aa aj))) (bB _))
  (ay vX)
  bc)
  (ag (aK (i:=2) j5.nd rfl (lo rfl) (wj aj (bY (aq (bj Ia hr.m (by rfl) (af (ae (pv 1)) aw)) (aq (bY aO) aO)))))
  (ag (aK (i:=3) j5.nd rfl (lo rfl) aj)
  (ag (pM 100000 RU (kN (pS hr.units0) (ae (pv 3)) (aa (bx dS (by rfl) Gu bt_len (af (ae (pv 2)) aw))) (bB _))
  (ag (aK (i:=4) j5.nd rfl (lo rfl) (zm (j0:=2) (i:=2) J7 hr.m (by rfl) (af (ae (pv 0)) (af (ae (pv 1)) (af (ae (pv 2)) (af (aa (aZ (aa (bP (wq rfl) (by rfl) GV lq (af (ae (pv 2)) aw))) (ae (pv 3)))) aw))))))
  (ag (de (ba kQ (ae (pv 4)) (aa eT) (bB _))
  (ay (a9 (iI (pv 4))))
  bc)
  (ay (aK (i:=3) j5.nd rfl (lo rfl) (aJ aP (ae (pv 3)) (aa aj)))))))
  (ay (a9 (oS (gm ED (by decide)) (bJ [none,some 2] ["state","got"] rfl (bQ (du (by rfl) Gh (aa (bj IZ hr.m (by rfl) (af (ae (pv 0)) aw))))) (fun _ _ _ _ _=>(aH (i:=0) (show List.Nodup (["state","got"]:List Str) from by decide +kernel) rfl (lo rfl))) (fun _ _ _ _ _=>bX) (fun _ _ _ _ _=>(aZ (aa (oR (hu_of hr) (ae (pv 1)) (ae (pv 0)))) (aa aj)))))))))))
abbrev dW:Stmt:=top 15
theorem j6:FnScope ["_law_script","_law_k"] ["_law_script","_law_k"] (defScope dW):=fs
theorem j7(Df:Def K mg "_law_cell_at" dW)(Gu:mg "len" = none):Ct P w K mg base "_law_cell_at" 1 (spF K aF):=
 d5 Df j6 (fun _ _ _ _ _ _=>wy fun _ _=>rfl) fun f Gp A outer s H E hr=>
  (ag (de (kN (pS hr.units0) (ae (pv 1)) (aa (bx dS (by rfl) Gu bt_len (af (ae (pv 0)) aw))) (bB _))
  (ay (a9 (aZ (ae (pv 0)) (ae (pv 1)))))
  bc)
  (ay (a9 aj)))
abbrev fI:Stmt:=top 16
theorem eL:FnScope ["_law_cell","_law_k","_law_number"] ["_law_cell","_law_k"] (defScope fI):=fs
theorem lV(Df:Def K mg "_law_mixed" fI):Ct P w K mg base "_law_mixed" 1 (spF K aS):=
 d5 Df eL (fun _ _ _ _ _ _=>wy fun _ _=>rfl) fun f Gp A outer s H E hr=>
  (ag (aK (i:=2) eL.nd rfl (lo rfl) (aJ aP (aa (aJ cn (ae (pv 0)) (aa aj))) (aa (aJ fA (aa aj) (aa (aJ aP (ae (pv 1)) (aa aj)))))))
  (ag (aK (i:=2) eL.nd rfl (lo rfl) (aJ cn (aa (aJ aP (aa (aJ fA (ae (pv 2)) (ae (pv 2)))) (aa (aJ fA (aa aj) (ae (pv 1)))))) (aa aj)))
  (ay (a9 (aJ cn (aa (aJ aP (aa (aJ aP (aa (aJ fA (ae (pv 2)) (ae (pv 2)))) (aa (aJ fA (aa aj) (ae (pv 1)))))) (aa aj))) (aa aj))))))
abbrev fJ:Stmt:=top 17
theorem aW:FnScope ["_law_cell","_law_letters","_law_base","_law_width","_law_spot","_law_names_here","_law_k","_law_moved_on"] ["_law_cell"] (defScope fJ):=fs
theorem lW(Df:Def K mg "_law_names" fJ)(Gm:Ct P w K mg base "_law_mixed" 1 (spF K aS))(Gh:mg "range" = none)(Gx:mg "sorted" = none):Ct P w K mg base "_law_names" 2 (spF K cB):=
 d5 Df aW (fun _ _ _ _ _ _=>B4 fun _=>rfl) fun f Gp A outer s H E hr=>
  (ag (aK (i:=1) aW.nd rfl (lo rfl) (gm Fz (by decide)))
  (ag (lS (i:=2) [none,some 0] ["_law_j","_law_cell"] aW.nd rfl (lo rfl) rfl (bQ (du (by rfl) Gh (aa aj))) (fun _ _ _ _ _=>(aH (i:=0) (show List.Nodup (["_law_j","_law_cell"]:List Str) from by decide +kernel) rfl (lo rfl))) (fun _ _ _ _ _=>bX) (fun _ _ _ _ _=>(aJ cn (aa (bj Gm hr.m (by rfl) (af (ae (pv 1)) (af (ae (pv 0)) aw)))) (aa aj))))
  (ag (aK (i:=3) aW.nd rfl (lo rfl) (aJ aP (aa aj) (aa (aJ cn (ae (pv 0)) (aa aj)))))
  (ag (aK (i:=4) aW.nd rfl (lo rfl) (aJ cn (aa (aJ dw (ae (pv 0)) (aa aj))) (ae (pv 3))))
  (ag (aK (i:=5) aW.nd rfl (lo rfl) (dF aO))
  (ag (gu RU rfl (du (by rfl) Gh (aa aj)) (aH (i:=6) aW.nd rfl (lo rfl))
  (ag (aK (i:=7) aW.nd rfl (lo rfl) (pU (ae (pv 2)) oJ (ft (aA (pv 3)))))
  (ag (ze (pv 7) (aA (pv 4)) (aJ cn (aa (aJ aP (aa (aZ (ae (pv 7)) (ae (pv 4)))) (ae (pv 6)))) (aa aj)))
  (ag (de (ba (m6 hr.units) (aa (aJ cn (aa (aJ dw (ae (pv 0)) (aa aj))) (aa aj))) (aa aj) (bB _))
  (ay (aK (i:=7) aW.nd rfl (lo rfl) (pU (ae (pv 2)) oJ (ft (aJ aP (ae (pv 6)) (aa aj))))))
  bc)
  (ay (dr (c5 (pv 5) (BK PySem.F.slot_str_join PySem.F.type_str_join zg (aa (gm Fy (by decide))) (af (aa (bJ [none,some 1] ["_law_j","_law_letters"] rfl (dJ (gN (pv 7)) (dJ (bQ (iU (aA (pv 7)))) (bQ (iV (aA (pv 7)))))) (fun _ _ _ _ _=>(aH (i:=0) (show List.Nodup (["_law_j","_law_letters"]:List Str) from by decide +kernel) rfl (lo rfl))) (fun _ _ _ _ _=>bX) (fun _ _ _ _ _=>(aZ (ae (pv 1)) (ae (pv 0)))))) aw)))))))))
  (ag (de (ba (BS hr.u65) (aa (gm Fw (by decide))) (ae (pv 5)) (by with_unfolding_all rfl))
  (ay (lS (i:=5) [none] ["_law_name"] aW.nd rfl (lo rfl) rfl (dJ (gN (pv 5)) (dJ (bQ (iU (aA (pv 5)))) (bQ (iV (aA (pv 5)))))) (fun _ _ _ _ _=>(aH (i:=0) (show List.Nodup (["_law_name"]:List Str) from by decide +kernel) rfl (lo rfl))) (fun _ _ _ _ _=>bX) (fun _ _ _ _ _=>(aJ aP (aa (gm Fx (by decide))) (ae (pv 0))))))
  bc)
  (ay (a9 (bx (jM rfl) (by rfl) Gx jO (af (ae (pv 5)) aw)))))))))))
abbrev gS:Stmt:=top 18
theorem c7:FnScope ["_law_net_here","_law_marking","_law_move","_law_k","_law_after","_law_beads","_law_place_here"] ["_law_net_here","_law_marking","_law_move"] (defScope gS):=fs
theorem nN(Df:Def K mg "_law_step" gS)(F6:mg "tuple" = none)(HM:mg "zip" = none):Ct P w K mg base "_law_step" 1 (spF K cx):=
 d5 Df c7 (fun _ _ _ _ _ _=>Az fun _ _ _=>rfl) fun f Gp A outer s H E hr=>
  (ag (aK (i:=3) c7.nd rfl (lo rfl) (tN SR Tw gO (aa (aZ (ae (pv 0)) (aa aj))) (af (ae (pv 2)) aw)))
  (ag (aK (i:=4) c7.nd rfl (lo rfl) (dF aO))
  (ag (gu RU rfl (oP (by rfl) HM (af (aa (aA (pv 1))) (af (aa (aZ (ae (pv 0)) (aa aj))) aw))) (g9 rfl (aV (aH (i:=5) c7.nd rfl (lo rfl)) (aV (aH (i:=6) c7.nd rfl (lo rfl)) eD)))
  (ag (de (kN (pS hr.units0) (ae (pv 5)) (aa (aZ (aa (aZ (ae (pv 6)) (aa aj))) (ae (pv 3)))) (bB _))
  (ay (a9 eT))
  bc)
  (ay (dr (c5 (pv 4) (aJ aP (aa (aJ hJ (ae (pv 5)) (aa (aZ (aa (aZ (ae (pv 6)) (aa aj))) (ae (pv 3)))))) (aa (aZ (aa (aZ (ae (pv 6)) (aa aj))) (ae (pv 3))))))))))
  (ay (a9 (bP dk (by rfl) F6 cI (af (ae (pv 4)) aw)))))))
abbrev iO:Stmt:=top 19
theorem cz:FnScope ["_law_net_here","_law_most","_law_markings","_law_arcs","_law_done","_law_move","_law_after"] ["_law_net_here","_law_most"] (defScope iO):=fs
theorem oU(Df:Def K mg "_law_run" iO)(I0:Ct P w K mg base "_law_step" 1 (spF K cx))(Gu:mg "len" = none)(Gx:mg "sorted" = none)(F6:mg "tuple" = none):Ct P w K mg base "_law_run" 2 (spF K br):=
 d5 Df cz (fun _ _ _ _ _ _=>wy fun _ _=>rfl) fun f Gp A outer s H E hr=>
  (ag (aK (i:=2) cz.nd rfl (lo rfl) (dF (aq (bP dk (by rfl) F6 cI (af (aa (bJ [none,none,none] ["_law_beads","_law_takes","_law_gives"] rfl (bQ (fH (aZ (ae (pv 0)) (aa aj)))) (fun _ _ _ _ _=>(have h:=(show List.Nodup (["_law_beads","_law_takes","_law_gives"]:List Str) from by decide +kernel);(g9 rfl (aV (aH (i:=0) h rfl (lo rfl)) (aV (aH (i:=1) h rfl (lo rfl)) (aV (aH (i:=2) h rfl (lo rfl)) eD)))))) (fun _ _ _ _ _=>bX) (fun _ _ _ _ _=>(aA (pv 0))))) aw)) aO)))
  (ag (aK (i:=3) cz.nd rfl (lo rfl) (dF aO))
  (ag (aK (i:=4) cz.nd rfl (lo rfl) aj)
  (ag (pM 100000 RU (kN (pS hr.units0) (ae (pv 4)) (aa (bx dS (by rfl) Gu bt_len (af (ae (pv 2)) aw))) (bB _))
  (ag (gu RU rfl (fH (aZ (ae (pv 0)) (aa aj))) (aH (i:=5) cz.nd rfl (lo rfl))
  (ag (aK (i:=6) cz.nd rfl (lo rfl) (bj I0 hr.m (by rfl) (af (ae (pv 0)) (af (aa (aZ (ae (pv 2)) (ae (pv 4)))) (af (ae (pv 5)) aw)))))
  (ay (de (ba kQ (ae (pv 6)) (aa eT) (bB _))
  (ag (de (ba (tR hr.u65) (ae (pv 6)) (ae (pv 2)) (by with_unfolding_all rfl))
  (ag (de (ba (m6 hr.units) (aa (bx dS (by rfl) Gu bt_len (af (ae (pv 2)) aw))) (ae (pv 1)) (bB _))
  (ay (a9 eT))
  bc)
  (ay (dr (c5 (pv 2) (aA (pv 6))))))
  bc)
  (ay (dr (c5 (pv 3) (bY (aq (aA (pv 4)) (aq (aA (pv 5)) (aq (xI TF UJ (jT hr.u65) (ae (pv 2)) (af (ae (pv 6)) aw)) aO))))))))
  bc))))
  (ay (aK (i:=4) cz.nd rfl (lo rfl) (aJ aP (ae (pv 4)) (aa aj))))))
  (ay (a9 (bY (aq (bx (jM rfl) (by rfl) Gx jO (af (ae (pv 3)) aw)) (aq (aA (pv 2)) aO)))))))))
abbrev gT:Stmt:=top 20
theorem dN:FnScope ["_law_script","_law_first","_law_k","_law_number","_law_cell"] ["_law_script","_law_first","_law_k"] (defScope gT):=fs
theorem nO(Df:Def K mg "_law_fold" gT)(Gm:Ct P w K mg base "_law_mixed" 1 (spF K aS)):Ct P w K mg base "_law_fold" 2 (spF K cR):=
 d5 Df dN (fun _ _ _ _ _ _=>Az fun _ _ _=>rfl) fun f Gp A outer s H E hr=>
  (ag (aK (i:=3) dN.nd rfl (lo rfl) (aJ aP (aa aj) (ae (pv 2))))
  (ag (gu RU rfl (fH (B1 (ae (pv 0)) (ft (aJ aP (ae (pv 1)) (ae (pv 2)))) (ft (aJ aP (ae (pv 1)) (aa aj))) (ft aj))) (aH (i:=4) dN.nd rfl (lo rfl))
  (ay (aK (i:=3) dN.nd rfl (lo rfl) (bj Gm hr.m (by rfl) (af (aa (aJ aP (ae (pv 4)) (ae (pv 3)))) (af (ae (pv 2)) aw))))))
  (ay (a9 (iI (pv 3))))))
abbrev fK:Stmt:=top 21
theorem bM:FnScope ["_law_number","_law_count","_law_takes","_law_gives","_law_j","_law_mixed_here","_law_step_here","_law_loop"] ["_law_number","_law_count"] (defScope fK):=fs
theorem lX(Df:Def K mg "_law_place" fK)(Gm:Ct P w K mg base "_law_mixed" 1 (spF K aS))(HL:mg "max" = none)(Gh:mg "range" = none):Ct P w K mg base "_law_place" 2 (spF K cC):=
 d5 Df bM (fun _ _ _ _ _ _=>wy fun _ _=>rfl) fun f Gp A outer s H E hr=>
  (ag (aK (i:=2) bM.nd rfl (lo rfl) (dF aO))
  (ag (aK (i:=3) bM.nd rfl (lo rfl) (dF aO))
  (ag (gu RU rfl (du (by rfl) Gh (ae (pv 1))) (aH (i:=4) bM.nd rfl (lo rfl))
  (ag (aK (i:=5) bM.nd rfl (lo rfl) (bj Gm hr.m (by rfl) (af (ae (pv 0)) (af (ae (pv 4)) aw))))
  (ag (aK (i:=6) bM.nd rfl (lo rfl) (aJ hJ (aa (aJ cn (ae (pv 5)) (aa aj))) (aa aj)))
  (ag (aK (i:=7) bM.nd rfl (lo rfl) (aJ dw (aa (aJ cn (aa (aJ dw (ae (pv 5)) (aa aj))) (aa aj))) (aa aj)))
  (ag (dr (c5 (pv 2) (aJ aP (aa (bx (sZ rfl) (by rfl) HL tI (af (aa aj) (af (aa (aJ hJ (aa aj) (ae (pv 6)))) aw)))) (ae (pv 7)))))
  (ay (dr (c5 (pv 3) (aJ aP (aa (bx (sZ rfl) (by rfl) HL tI (af (aa aj) (af (ae (pv 6)) aw)))) (ae (pv 7)))))))))))
  (ay (a9 (zl (aJ cn (aa (aJ dw (ae (pv 0)) (aa aj))) (aa aj)) (iI (pv 2)) (iI (pv 3))))))))
abbrev eQ:Stmt:=top 22
theorem bR:FnScope ["_law_place_here","_law_cell","_law_factor","_law_beads","_law_takes","_law_gives"] ["_law_place_here","_law_cell"] (defScope eQ):=fs
theorem kz(Df:Def K mg "_law_scaled" eQ)(F6:mg "tuple" = none):Ct P w K mg base "_law_scaled" 1 (spF K bL):=
 d5 Df bR (fun _ _ _ _ _ _=>wy fun _ _=>rfl) fun f Gp A outer s H E hr=>
  (ag (aK (i:=2) bR.nd rfl (lo rfl) (aJ aP (aa aj) (aa (aJ cn (ae (pv 1)) (aa (aJ By (aa aj) (aa aj)))))))
  (ag (xF (aA (pv 0)) (g9 rfl (aV (aH (i:=3) bR.nd rfl (lo rfl)) (aV (aH (i:=4) bR.nd rfl (lo rfl)) (aV (aH (i:=5) bR.nd rfl (lo rfl)) eD)))))
  (ag (aK (i:=4) bR.nd rfl (lo rfl) (bP dk (by rfl) F6 cI (af (aa (bJ [none,some 2] ["_law_take","_law_factor"] rfl (dJ (gN (pv 4)) (dJ (bQ (iU (aA (pv 4)))) (bQ (iV (aA (pv 4)))))) (fun _ _ _ _ _=>(aH (i:=0) (show List.Nodup (["_law_take","_law_factor"]:List Str) from by decide +kernel) rfl (lo rfl))) (fun _ _ _ _ _=>bX) (fun _ _ _ _ _=>(aJ fA (ae (pv 1)) (ae (pv 0)))))) aw)))
  (ay (a9 (bY (aq (aJ aP (aa (aJ fA (ae (pv 2)) (ae (pv 3)))) (aa (aJ cn (aa (aJ dw (ae (pv 1)) (aa aj))) (ae (pv 2))))) (aq (aA (pv 4)) (aq (bP dk (by rfl) F6 cI (af (aa (bJ [none,some 2] ["_law_give","_law_factor"] rfl (dJ (gN (pv 5)) (dJ (bQ (iU (aA (pv 5)))) (bQ (iV (aA (pv 5)))))) (fun _ _ _ _ _=>(aH (i:=0) (show List.Nodup (["_law_give","_law_factor"]:List Str) from by decide +kernel) rfl (lo rfl))) (fun _ _ _ _ _=>bX) (fun _ _ _ _ _=>(aJ fA (ae (pv 1)) (ae (pv 0)))))) aw)) aO)))))))))
abbrev eR:Stmt:=top 23
theorem bS:FnScope ["_law_script","_law_first","_law_count","_law_places_here","_law_k","_law_number","_law_place_here","_law_mate"] ["_law_script","_law_first","_law_count"] (defScope eR):=fs
theorem kA(Df:Def K mg "_law_places" eR)(Ga:Ct P w K mg base "_law_cell_at" 1 (spF K aF))(Ja:Ct P w K mg base "_law_fold" 2 (spF K cR))(IG:Ct P w K mg base "_law_place" 2 (spF K cC))(HA:Ct P w K mg base "_law_scaled" 1 (spF K bL))(Gh:mg "range" = none):Ct P w K mg base "_law_places" 3 (spF K b9):=
 d5 Df bS (fun _ _ _ _ _ _=>Az fun _ _ _=>rfl) fun f Gp A outer s H E hr=>
  (ag (aK (i:=3) bS.nd rfl (lo rfl) (dF aO))
  (ag (gu RU rfl (du (by rfl) Gh (aa (aJ aP (aa aj) (aa (aJ cn (aa (aJ dw (aa (bj Ga hr.m (by rfl) (af (ae (pv 0)) (af (aa aj) aw)))) (aa aj))) (aa aj)))))) (aH (i:=4) bS.nd rfl (lo rfl))
  (ag (aK (i:=5) bS.nd rfl (lo rfl) (bj Ja hr.m (by rfl) (af (ae (pv 0)) (af (ae (pv 1)) (af (ae (pv 4)) aw)))))
  (ag (aK (i:=6) bS.nd rfl (lo rfl) (bj IG hr.m (by rfl) (af (ae (pv 5)) (af (ae (pv 2)) aw))))
  (ag (dr (c5 (pv 3) (bj HA hr.m (by rfl) (af (ae (pv 6)) (af (aa (bj Ga hr.m (by rfl) (af (ae (pv 0)) (af (aa (aJ aP (ae (pv 1)) (ae (pv 4)))) aw)))) aw)))))
  (ay (de (kN Bz (aa (aJ cn (aa (aJ dw (ae (pv 5)) (aa aj))) (aa aj))) (aa aj) (bB _))
  (ag (aK (i:=7) bS.nd rfl (lo rfl) (bY (aq (aJ cn (aa (aJ dw (ae (pv 5)) (aa aj))) (aa aj)) (aq (aZ (aa (aA (pv 6))) (aa aj)) (aq (aZ (aa (aA (pv 6))) (aa aj)) aO)))))
  (ay (dr (c5 (pv 3) (bj HA hr.m (by rfl) (af (ae (pv 7)) (af (aa (bj Ga hr.m (by rfl) (af (ae (pv 0)) (af (aa (aJ aP (aa (aJ aP (ae (pv 1)) (aa aj))) (ae (pv 4)))) aw)))) aw)))))))
  bc))))))
  (ay (a9 (iI (pv 3))))))
abbrev fL:Stmt:=top 24
theorem cK:FnScope ["_law_script","_law_names_here","_law_cell","_law_count","_law_start"] ["_law_script"] (defScope fL):=fs
theorem lY(Df:Def K mg "_law_moves" fL)(Ga:Ct P w K mg base "_law_cell_at" 1 (spF K aF))(IH:Ct P w K mg base "_law_names" 2 (spF K cB))(F6:mg "tuple" = none):Ct P w K mg base "_law_moves" 3 (spF K cD):=
 d5 Df cK (fun _ _ _ _ _ _=>B4 fun _=>rfl) fun f Gp A outer s H E hr=>
  (ag (aK (i:=1) cK.nd rfl (lo rfl) (bj IH hr.m (by rfl) (af (aa (bj Ga hr.m (by rfl) (af (ae (pv 0)) (af (aa aj) aw)))) aw)))
  (ag (aK (i:=2) cK.nd rfl (lo rfl) (bj Ga hr.m (by rfl) (af (ae (pv 0)) (af (aa aj) aw))))
  (ag (aK (i:=3) cK.nd rfl (lo rfl) (aJ aP (aa aj) (aa (aJ cn (ae (pv 2)) (aa aj)))))
  (ag (aK (i:=4) cK.nd rfl (lo rfl) (aJ cn (aa (aJ dw (ae (pv 2)) (aa aj))) (aa (aJ hJ (aa aj) (ae (pv 3))))))
  (ay (a9 (bP dk (by rfl) F6 cI (af (aa (pU (ae (pv 1)) (ft (aA (pv 4))) (ft (aJ aP (ae (pv 4)) (ae (pv 3)))))) aw))))))))
abbrev iP:Stmt:=top 25
theorem cU:FnScope ["_law_script","_law_first","_law_moves_here","_law_count","_law_places_here","_law_ones","_law_noughts"] ["_law_script","_law_first"] (defScope iP):=fs
theorem oV(Df:Def K mg "_law_net" iP)(II:Ct P w K mg base "_law_moves" 3 (spF K cD))(Iy:Ct P w K mg base "_law_places" 3 (spF K b9))(Hb:Ct P w K mg base "_law_run" 2 (spF K br))(Gu:mg "len" = none)(F6:mg "tuple" = none):Ct P w K mg base "_law_net" 4 (spF K cS):=
 d5 Df cU (fun _ _ _ _ _ _=>wy fun _ _=>rfl) fun f Gp A outer s H E hr=>
  (ag (aK (i:=2) cU.nd rfl (lo rfl) (bj II hr.m (by rfl) (af (ae (pv 0)) aw)))
  (ag (aK (i:=3) cU.nd rfl (lo rfl) (bx dS (by rfl) Gu bt_len (af (ae (pv 2)) aw)))
  (ag (aK (i:=4) cU.nd rfl (lo rfl) (bj Iy hr.m (by rfl) (af (ae (pv 0)) (af (ae (pv 1)) (af (ae (pv 3)) aw)))))
  (ag (de (ba kQ (aa (bj Hb hr.m (by rfl) (af (aa (bY (aq (aA (pv 2)) (aq (aA (pv 4)) aO)))) (af (aa aj) aw)))) (aa eT) (bB _))
  (ay (a9 (bY (aq (aA (pv 2)) (aq (aA (pv 4)) aO)))))
  bc)
  (ag (aK (i:=5) cU.nd rfl (lo rfl) (bP dk (by rfl) F6 cI (af (aa (bJ [none] ["_law_move"] rfl (dJ (gN (pv 2)) (dJ (bQ (iU (aA (pv 2)))) (bQ (iV (aA (pv 2)))))) (fun _ _ _ _ _=>(aH (i:=0) (show List.Nodup (["_law_move"]:List Str) from by decide +kernel) rfl (lo rfl))) (fun _ _ _ _ _=>bX) (fun _ _ _ _ _=>aj))) aw)))
  (ag (aK (i:=6) cU.nd rfl (lo rfl) (bP dk (by rfl) F6 cI (af (aa (bJ [none] ["_law_move"] rfl (dJ (gN (pv 2)) (dJ (bQ (iU (aA (pv 2)))) (bQ (iV (aA (pv 2)))))) (fun _ _ _ _ _=>(aH (i:=0) (show List.Nodup (["_law_move"]:List Str) from by decide +kernel) rfl (lo rfl))) (fun _ _ _ _ _=>bX) (fun _ _ _ _ _=>aj))) aw)))
  (ag (de (ba kQ (aa (bj Hb hr.m (by rfl) (af (aa (bY (aq (aA (pv 2)) (aq (aJ aP (ae (pv 4)) (aa (dF (aq (bY (aq aj (aq (aA (pv 5)) (aq (aA (pv 6)) aO)))) aO)))) aO)))) (af (aa aj) aw)))) (aa eT) (bB _))
  (ay (a9 (bY (aq (aA (pv 2)) (aq (aJ aP (ae (pv 4)) (aa (dF (aq (bY (aq aj (aq (aA (pv 5)) (aq (aA (pv 6)) aO)))) aO)))) aO)))))
  bc)
  (ay (a9 (bY (aq (aA (pv 2)) (aq (aJ aP (ae (pv 4)) (aa (dF (aq (bY (aq aj (aq (aA (pv 5)) (aq (aA (pv 6)) aO)))) aO)))) aO))))))))))))
abbrev fM:Stmt:=top 26
theorem lZ:FnScope ["_law_found"] ["_law_found"] (defScope fM):=fs
theorem l5(Df:Def K mg "_law_whole" fM)(Ik:mg "bool" = none)(Jb:mg "int" = none)(F9:mg "isinstance" = none):Ct P w K mg base "_law_whole" 1 (spF K cE):=
 d5 Df lZ (fun _ _ _ _ _ _=>B4 fun _=>rfl) fun f Gp A outer s H E hr=>
  (ay (a9 (Bt (tf (T:="int") (by decide) (ae (pv 0)) (by rfl) F9 (by rfl) Jb Bg) (Bs (Bu (tf (T:="bool") (by decide) (ae (pv 0)) (by rfl) F9 (by rfl) Ik yv))))))
abbrev gU:Stmt:=top 27
theorem dO:FnScope ["_law_count","_law_number","_law_turn","_law_ends_here"] ["_law_count","_law_number"] (defScope gU):=fs
theorem nP(Df:Def K mg "_law_ends" gU)(Gh:mg "range" = none):Ct P w K mg base "_law_ends" 1 (spF K cT):=
 d5 Df dO (fun _ _ _ _ _ _=>wy fun _ _=>rfl) fun f Gp A outer s H E hr=>
  (ag (de (ba (m6 hr.units) (ae (pv 0)) (aa aj) (bB _))
  (ay (a9 (dF (aq aj aO))))
  bc)
  (ag (aK (i:=2) dO.nd rfl (lo rfl) (aJ cn (ae (pv 1)) (aa (aJ hJ (ae (pv 0)) (aa aj)))))
  (ag (aK (i:=3) dO.nd rfl (lo rfl) (aJ aP (aa (dF (aq aj aO))) (aa (bJ [none,some 2,some 0] ["_law_k","_law_turn","_law_count"] rfl (bQ (du (by rfl) Gh (aa (aJ hJ (ae (pv 0)) (aa aj))))) (fun _ _ _ _ _=>(aH (i:=0) (show List.Nodup (["_law_k","_law_turn","_law_count"]:List Str) from by decide +kernel) rfl (lo rfl))) (fun _ _ _ _ _=>bX) (fun _ _ _ _ _=>(aJ aP (aa aj) (aa (aJ cn (aa (aJ aP (ae (pv 0)) (ae (pv 1)))) (aa (aJ hJ (ae (pv 2)) (aa aj)))))))))))
  (ag (de (ba (m6 hr.units) (aa (aJ cn (aa (aJ dw (ae (pv 1)) (aa aj))) (aa aj))) (aa aj) (bB _))
  (ay (aK (i:=3) dO.nd rfl (lo rfl) (aJ aP (aa (dF (aq aj aO))) (aa (bJ [none,some 0] ["_law_end","_law_count"] rfl (bQ (fH (pU (ae (pv 3)) (ft aj) oJ))) (fun _ _ _ _ _=>(aH (i:=0) (show List.Nodup (["_law_end","_law_count"]:List Str) from by decide +kernel) rfl (lo rfl))) (fun _ _ _ _ _=>bX) (fun _ _ _ _ _=>(aJ hJ (ae (pv 1)) (ae (pv 0)))))))))
  bc)
  (ay (a9 (iI (pv 3))))))))
abbrev gW:Stmt:=top 28
theorem fN:FnScope ["_law_found","_law_due","_law_marking","_law_beads"] ["_law_found","_law_due"] (defScope gW):=fs
theorem nQ(Df:Def K mg "_law_told" gW)(IJ:Ct P w K mg base "_law_whole" 1 (spF K cE))(F9:mg "isinstance" = none)(Gu:mg "len" = none)(GV:mg "list" = none)(F6:mg "tuple" = none):Ct P w K mg base "_law_told" 2 (spF K cy):=
 d5 Df fN (fun _ _ _ _ _ _=>wy fun _ _=>rfl) fun f Gp A outer s H E hr=>
  (ag (de (QW.qt (vW (kO (kM (tf (T:="tuple") (by decide) (ae (pv 0)) (by rfl) F9 (by rfl) F6 cI))) (vW (ba (qX hr.units) (aa (bx dS (by rfl) Gu bt_len (af (ae (pv 0)) aw))) (aa aj) (bB _)) (vW (ba (qX hr.units) (ae (pv 0)) (aa (bY (aq (gm ED (by decide)) (aq (aA (pv 1)) aO)))) (bB _)) (xy (kO (kM (tf (T:="list") (by decide) (aa (aZ (ae (pv 0)) (aa aj))) (by rfl) F9 (by rfl) GV lq))))))))
  (ay (a9 sP))
  bc)
  (ag (gu RU rfl (fH (aZ (ae (pv 0)) (aa aj))) (aH (i:=2) fN.nd rfl (lo rfl))
  (ag (de (kO (kM (tf (T:="tuple") (by decide) (ae (pv 2)) (by rfl) F9 (by rfl) F6 cI)))
  (ay (a9 sP))
  bc)
  (ay (gu RU rfl (fH (aA (pv 2))) (aH (i:=3) fN.nd rfl (lo rfl))
  (ay (de (kO (kM (bj IJ hr.m (by rfl) (af (ae (pv 3)) aw))))
  (ay (a9 sP))
  bc))))))
  (ay (a9 sP))))
abbrev l6:Stmt:=top 29
theorem gD:FnScope ["_law_script","_law_net_here","_law_arcs","_law_markings","_law_ends_here","_law_chart","_law_due","_law_handed","_law_found","_law_again"] ["_law_script"] (defScope l6):=fs
theorem B5{f:Addr}{fd:FuncData}(F:Fun K "law" "law" l6 f fd)(Ga:Ct P w K mg base "_law_cell_at" 1 (spF K aF))(Jc:Ct P w K mg base "_law_ends" 1 (spF K cT))(Gm:Ct P w K mg base "_law_mixed" 1 (spF K aS))(Jw:Ct P w K mg base "_law_net" 4 (spF K cS))(Hb:Ct P w K mg base "_law_run" 2 (spF K br))(HY:Ct P w K mg base "_law_told" 2 (spF K cy))(Kv:Ct P w K mg base "held" 4 (spF K gv))(Gu:mg "len" = none)(GV:mg "list" = none)(Gh:mg "range" = none)(Gx:mg "sorted" = none):FnOk P w K mg base JU 5 f fd ["_law_script"] (spF K zw):=
 fnok_of F gD fun Gp A outer s H E hr=>
  (ag (aK (i:=1) gD.nd rfl (lo rfl) (bj Jw hr.m (by rfl) (af (ae (pv 0)) (af (aa aj) aw))))
  (ag (xF (bj Hb hr.m (by rfl) (af (ae (pv 1)) (af (aa aj) aw))) (g9 rfl (aV (aH (i:=2) gD.nd rfl (lo rfl)) (aV (aH (i:=3) gD.nd rfl (lo rfl)) eD))))
  (ag (aK (i:=4) gD.nd rfl (lo rfl) (bj Jc hr.m (by rfl) (af (aa (bx dS (by rfl) Gu bt_len (af (ae (pv 3)) aw))) (af (aa (bj Gm hr.m (by rfl) (af (aa (bj Ga hr.m (by rfl) (af (ae (pv 0)) (af (aa aj) aw)))) (af (aa aj) aw)))) aw))))
  (ag (aK (i:=5) gD.nd rfl (lo rfl) (bY (aq (aZ (ae (pv 1)) (aa aj)) (aq (bx (jM rfl) (by rfl) Gx jO (af (aa (bJ [none,none,none,some 4] ["_law_one","_law_move","_law_other","_law_ends_here"] rfl (dJ (gN (pv 2)) (dJ (bQ (iU (aA (pv 2)))) (bQ (iV (aA (pv 2)))))) (fun _ _ _ _ _=>(have h:=(show List.Nodup (["_law_one","_law_move","_law_other","_law_ends_here"]:List Str) from by decide +kernel);(g9 rfl (aV (aH (i:=0) h rfl (lo rfl)) (aV (aH (i:=1) h rfl (lo rfl)) (aV (aH (i:=2) h rfl (lo rfl)) eD)))))) (fun _ _ _ _ _=>bX) (fun _ _ _ _ _=>(bY (aq (aZ (ae (pv 3)) (ae (pv 0))) (aq (aA (pv 1)) (aq (aZ (ae (pv 3)) (ae (pv 2))) aO))))))) aw)) aO))))
  (ag (lS (i:=6) [none,some 3,some 4] ["_law_k","_law_markings","_law_ends_here"] gD.nd rfl (lo rfl) rfl (bQ (du (by rfl) Gh (aa (bx dS (by rfl) Gu bt_len (af (ae (pv 3)) aw))))) (fun _ _ _ _ _=>(aH (i:=0) (show List.Nodup (["_law_k","_law_markings","_law_ends_here"]:List Str) from by decide +kernel) rfl (lo rfl))) (fun _ _ _ _ _=>bX) (fun _ _ _ _ _=>(aZ (ae (pv 1)) (aa (xI TF UJ (jT hr.u65) (ae (pv 2)) (af (ae (pv 0)) aw))))))
  (ag (aK (i:=7) gD.nd rfl (lo rfl) (zv (oS (aZ (ae (pv 1)) (aa aj)) (bP oK (by rfl) GV lq (af (aa (aZ (ae (pv 5)) (aa aj))) aw))) (oS (aZ (ae (pv 1)) (aa aj)) (bP oK (by rfl) GV lq (af (aa (aZ (ae (pv 1)) (aa aj))) aw)))))
  (ag (aK (i:=8) gD.nd rfl (lo rfl) (ue Kv hr.m (by rfl) (pv 7) (pv 7)))
  (ag (de (QW.qt (vW (kO (kM (bj HY hr.m (by rfl) (af (ae (pv 8)) (af (ae (pv 6)) aw))))) (xy (ba (qX hr.units) (ae (pv 7)) (aa (dF (aq (aA (pv 5)) (aq (aA (pv 1)) aO)))) (bB _)))))
  (ay (a9 sP))
  bc)
  (ag (dr (wo (pv 8)))
  (ag (aK (i:=9) gD.nd rfl (lo rfl) (ue Kv hr.m (by rfl) (pv 7) (pv 7)))
  (ag (dr (ug (pv 7)))
  (ag (dr (ug (pv 7)))
  (ay (a9 (bj HY hr.m (by rfl) (af (ae (pv 9)) (af (ae (pv 6)) aw)))))))))))))))))
end
end LW
namespace PV
open PySem L2 NX
class Cont (α β:Type) where
 run:α->Res β
def Res.bnd{α β:Type}[f:Cont α β](x:Res α):Res β:=x.bind f.run
theorem Gs{α β:Type}(a:α)(f:α->Res β):Res.bnd (Res.ok a) (f:=⟨f⟩)=f a:=id rfl
section
variable(env:PV.Env)(i n:Nat)(d:D)(f g:FX)(c c':FT)(fo OP fo'':FO)(fs:FOs)(fd:FDs)(s t:FS)(op op':D->D->Res R)(F:List D->Res R)(a:FG)(as:K8)(fi fj:FI)(fp F2:FP)(T:String)
theorem Ms:aI d env=.ok ((.f,d),env):=id rfl
theorem JM:aN i env=match env[i]? with|some (some r)=>.ok ((.f,r.2),env.set i (some (fz r.1,r.2)))|_=>.bad:=id rfl
theorem N4:fz .f=.f:=id rfl
theorem N5(c:O):fz (.l c)=.f:=id rfl
theorem N6(cs:List O):fz (.t cs)=.f:=id rfl
theorem Lb(p:Addr):vV (.pin p .f)=true:=id rfl
theorem Kw(p:Addr):vV (.pin p .d)=true:=id rfl
theorem Lc:lI i env=match env[i]? with|some (some r)=>.ok (r,env.set i none)|_=>.bad:=id rfl
theorem Mt:au f env=Res.bnd (f env) (f:=⟨fun p=>.ok (.val p.1.2,p.2)⟩):=id rfl
theorem Mu:ao i env=match env[i]? with|some (some _)=>.ok (.var i,env)|_=>.bad:=id rfl
theorem Ld:aG env=.ok ([],env):=id rfl
theorem Kx:ai fo fs env=Res.bnd (fo env) (f:=⟨fun p=>Res.bnd (fs p.2) (f:=⟨fun q=>.ok (p.1::q.1,q.2)⟩)⟩):=id rfl
theorem Le:bp env=.ok ([],env):=id rfl
theorem Ky:az f fd env=Res.bnd (f env) (f:=⟨fun p=>Res.bnd (fd p.2) (f:=⟨fun q=>.ok (p.1.2::q.1,q.2)⟩)⟩):=id rfl
theorem Mv:Hi env (.val d)=.ok d:=id rfl
theorem Mw:Hi env (.var i)=match env[i]? with|some (some r)=>if vV r.1 then .ok r.2 else .bad|_=>.bad:=id rfl
theorem Lf:qR env (.val d)=.ok d:=id rfl
theorem Lg:qR env (.var i)=match env[i]? with|some (some r)=>.ok r.2|_=>.bad:=id rfl
theorem Lh:ou env []=.ok []:=id rfl
theorem Li(o:Opd)(os:List Opd):ou env (o::os)=Res.bnd (Hi env o) (f:=⟨fun d=>Res.bnd (ou env os) (f:=⟨fun ds=>.ok (d::ds)⟩)⟩):=id rfl
theorem Kz:g6 env []=.ok []:=id rfl
theorem KA(o:Opd)(os:List Opd):g6 env (o::os)=Res.bnd (qR env o) (f:=⟨fun d=>Res.bnd (g6 env os) (f:=⟨fun ds=>.ok (d::ds)⟩)⟩):=id rfl
theorem Lj:vV .f=true:=id rfl
theorem Lk:vV (.l .f)=true:=id rfl
theorem Ll:vV .d=true:=id rfl
theorem Mx:aB op fo OP env=Res.bnd (fo env) (f:=⟨fun p=>Res.bnd (OP p.2) (f:=⟨fun q=>Res.bnd (Hi q.2 p.1) (f:=⟨fun a=>Res.bnd (Hi q.2 q.1) (f:=⟨fun b=>Res.bnd (op a b) (f:=⟨fun r=>.ok (r,q.2)⟩)⟩)⟩)⟩)⟩):=id rfl
theorem Lm:cQ op fo OP env=Res.bnd (fo env) (f:=⟨fun p=>Res.bnd (OP p.2) (f:=⟨fun q=>Res.bnd (qR q.2 p.1) (f:=⟨fun a=>Res.bnd (qR q.2 q.1) (f:=⟨fun b=>Res.bnd (op a b) (f:=⟨fun r=>.ok (r,q.2)⟩)⟩)⟩)⟩)⟩):=id rfl
theorem N7:GJ f env=Res.bnd (f env) (f:=⟨fun p=>match p.1.2 with | .bl k=>.ok (k,p.2)|_=>.bad⟩):=id rfl
theorem My:Au c c' env=Res.bnd (c env) (f:=⟨fun p=>if p.1 then c' p.2 else .ok (false,p.2)⟩):=id rfl
theorem N8:M0 c c' env=Res.bnd (c env) (f:=⟨fun p=>if p.1 then .ok (true,p.2) else c' p.2⟩):=id rfl
theorem Mz:xx c env=Res.bnd (c env) (f:=⟨fun p=>.ok (!p.1,p.2)⟩):=id rfl
theorem MA:DN f g env=Res.bnd (f env) (f:=⟨fun p=>match p.1.2 with | .bl true=>g p.2 | .bl false=>.ok ((.f,.bl false),p.2)|_=>.bad⟩):=id rfl
theorem MB:DO f env=Res.bnd (f env) (f:=⟨fun p=>match p.1.2 with | .bl k=>.ok ((.f,.bl (!k)),p.2)|_=>.bad⟩):=id rfl
theorem Ln:bu F fs env=Res.bnd (fs env) (f:=⟨fun p=>Res.bnd (ou p.2 p.1) (f:=⟨fun ds=>Res.bnd (F ds) (f:=⟨fun r=>.ok (r,p.2)⟩)⟩)⟩):=id rfl
theorem MC:eZ F fs env=Res.bnd (fs env) (f:=⟨fun p=>Res.bnd (g6 p.2 p.1) (f:=⟨fun ds=>Res.bnd (F ds) (f:=⟨fun r=>.ok (r,if aE r.1 r.2 then p.2 else p.2.map frz)⟩)⟩)⟩):=id rfl
theorem MD:gK fd env=Res.bnd (fd env) (f:=⟨fun p=>if p.1.length<=1000 then .ok ((.f,.tup p.1),p.2) else .bad⟩):=id rfl
theorem ME:ox fd env=Res.bnd (fd env) (f:=⟨fun p=>if p.1.length<=1000 then .ok ((.l .f,.lst p.1),p.2) else .bad⟩):=id rfl
theorem Lo:sU env=.ok (none,env):=id rfl
theorem Lp:ky f env=Res.bnd (f env) (f:=⟨fun p=>match p.1.2 with | .int i=>.ok (some i,p.2)|_=>.bad⟩):=id rfl
theorem MF:sW i f env=if sV env i then(Res.bnd (f env) (f:=⟨fun(p:R×PV.Env)=>match p.2[i]? with
 |some (some (.l .f,.lst ds))=>if ds.length<sizeLine then .ok ((.f,.non),p.2.set i (some (.l .f,.lst (ds++[p.1.2])))) else .bad
 |_=>.bad⟩)) else .bad:=id rfl
theorem Lq:sV env i=match env[i]? with|some (some (_,.lst _))=>true|_=>false:=id rfl
theorem N9:Mi T fo env=Res.bnd (fo env) (f:=⟨fun p=>Res.bnd (qR p.2 p.1) (f:=⟨fun d=>.ok ((.f,.bl (ve T d)),p.2)⟩)⟩):=id rfl
theorem Lr:y0 f g env=Res.bnd (f env) (f:=⟨fun p=>Res.bnd (g p.2) (f:=⟨fun q=>match(mX p.1.2).bind dh,q.1.2 with|some ns,.int d=>.ok ((.f,.int (NX.maxD ns d)),q.2)|_,_=>.bad⟩)⟩):=id rfl
theorem MG(gg:List Nat->List D->Res R):DY gg fo fs env=Res.bnd (fo env) (f:=⟨fun p=>match Hi p.2 p.1 with
 | .ok (.str l)=>Res.bnd (fs p.2) (f:=⟨fun q=>Res.bnd (ou q.2 q.1) (f:=⟨fun ds=>Res.bnd (gg l ds) (f:=⟨fun r=>.ok (r,q.2)⟩)⟩)⟩)
 |_=>.bad⟩):=id rfl
theorem Ls(ix:List (Option Nat)):dj fi ix a c f env=Res.bnd (fi env) (f:=⟨fun p=>Res.bnd (cO a c f p.1 (dv ix p.2)) (f:=⟨fun ds=>if ds.length<=sizeLine then .ok ((.l .f,.lst ds),if flatDs ds then p.2 else p.2.map frz) else .bad⟩)⟩):=id rfl
theorem Jx:dv [] env=[]:=id rfl
theorem Jy(ix:List (Option Nat)):dv (none::ix) env=none::dv ix env:=id rfl
theorem Jz(ix:List (Option Nat)):dv (some i::ix) env=(match env[i]? with|some (some r)=>some (O.f,r.2)|_=>none)::dv ix env:=id rfl
theorem B6:eW env=.ok (true,env):=id rfl
theorem qe(ds:List D):cO a c f (d::ds) env=Res.bnd (a d env) (f:=⟨fun e=>Res.bnd (c e) (f:=⟨fun p=>if p.1 then(Res.bnd (f p.2) (f:=⟨fun q=>Res.bnd (cO a c f ds q.2) (f:=⟨fun rs=>.ok (q.1.2::rs)⟩)⟩)) else cO a c f ds p.2⟩)⟩):=id rfl
theorem B7:Bv f env=Res.bnd (f env) (f:=⟨fun p=>match p.1.2 with | .lst ds=>.ok (ds,p.2)|_=>.bad⟩):=id rfl
theorem uu:gI f env=Res.bnd (f env) (f:=⟨fun p=>match p.1.2 with | .tup ds=>.ok (ds,p.2)|_=>.bad⟩):=id rfl
theorem uv:gJ f env=Res.bnd (f env) (f:=⟨fun p=>match p.1.2 with | .str l=>.ok (l.map fun c=>.str [c],p.2)|_=>.bad⟩):=id rfl
theorem oW:Hj fi fj env=match fi env with | .ok a=>.ok a|_=>fj env:=by
 unfold Hj;cases fi env <;> rfl
theorem MH:Hj (Bv f) (Hj (gI f) (gJ f)) env=Res.bnd (f env) (f:=⟨fun p=>match p.1.2 with
 | .lst ds=>.ok (ds,p.2)
 | .tup ds=>.ok (ds,p.2)
 | .str l=>.ok (l.map fun c=>.str [c],p.2)
 |_=>.bad⟩):=by
 rw[oW,oW,B7,uu,uv];cases f env with
 |ok p=>
  obtain⟨⟨o,d⟩,e⟩:=p;cases d <;> rfl
 |exc c=>rfl
 |bad=>rfl
theorem Lu:Hj (iL i) (Hj (gI (aN i)) (gJ (aN i))) env=match env[i]? with
 |some (some (_,.lst ds))=>.ok (ds,env)
 |some (some (o,.tup ds))=>.ok (ds,env.set i (some (fz o,.tup ds)))
 |some (some (o,.str l))=>.ok (l.map fun c=>.str [c],env.set i (some (fz o,.str l)))
 |_=>.bad:=by
 rw[oW,oW,uu,uv,JM];unfold iL;cases env[i]? with
 |none=>rfl
 |some r=>
  cases r with
  |none=>rfl
  |some r=>
   obtain⟨o,d⟩:=r;cases d <;> rfl
theorem ID:dt fo env=Res.bnd (fo env) (f:=⟨fun p=>Res.bnd (Hi p.2 p.1) (f:=⟨fun d=>match d with
 | .int j=>if -4611686018427387904<=j/\j<4611686018427387904 then .ok ((List.range j.toNat).map fun(k:Nat)=>D.int (k:Int),p.2) else .bad
 |_=>.bad⟩)⟩):=id rfl
theorem l7(k1 k2:Bool):qU k1 k2 fs env=Res.bnd (fs env) (f:=⟨fun p=>match p.1 with
 |[.val d1,.val d2]=>Res.bnd (iJ k1 d1) (f:=⟨fun a=>Res.bnd (iJ k2 d2) (f:=⟨fun b=>.ok ((a.zip b).map fun z=>D.tup [z.1,z.2],p.2)⟩)⟩)
 |_=>.bad⟩):=id rfl
theorem Hr:aD i d env=if i<env.length then .ok (env.set i (some (.f,d))) else .bad:=id rfl
theorem Lv:d4 [] env=.ok env:=id rfl
theorem G9(ds:List D):aQ a as (d::ds) env=Res.bnd (a d env) (f:=⟨fun e=>as ds e⟩):=id rfl
theorem JA(ds:List D):kx n as (.tup ds) env=if ds.length=n then as ds env else .bad:=id rfl
theorem GW:sSeq s t env=Res.bnd (s env) (f:=⟨fun o=>match o with | .nx e=>t e|o=>.ok o⟩):=id rfl
theorem Lw:cY env=.ok (.nx env):=id rfl
theorem KC:ck i f env=Res.bnd (f env) (f:=⟨fun p=>if i<p.2.length then .ok (.nx (p.2.set i (some p.1))) else .bad⟩):=id rfl
theorem IK:g8 f env=Res.bnd (f env) (f:=⟨fun p=>.ok (.nx p.2)⟩):=id rfl
theorem MI:eV f env=Res.bnd (f env) (f:=⟨fun p=>.ok (.rt p.1)⟩):=id rfl
theorem Oa:HQ c s t env=Res.bnd (c env) (f:=⟨fun p=>if p.1 then s p.2 else t p.2⟩):=id rfl
theorem JB:qS fi a s env=Res.bnd (fi env) (f:=⟨fun p=>dD a s p.1 p.2⟩):=id rfl
theorem Lx:dD a s [] env=.ok (.nx env):=id rfl
theorem cM(ds:List D):dD a s (d::ds) env=Res.bnd (a d env) (f:=⟨fun e=>Res.bnd (s e) (f:=⟨fun o=>match o with
 | .nx e=>dD a s ds e
 | .ct e=>dD a s ds e
 | .bk e=>.ok (.nx e)
 | .rt r=>.ok (.rt r)⟩)⟩):=id rfl
theorem dP:cZ c s (n+1) env=Res.bnd (c env) (f:=⟨fun p=>if p.1 then(Res.bnd (s p.2) (f:=⟨fun o=>match o with
  | .nx e=>cZ c s n e
  | .ct e=>cZ c s n e
  | .bk e=>.ok (.nx e)
  | .rt r=>.ok (.rt r)⟩)) else .ok (.nx p.2)⟩):=id rfl
theorem MJ:BM f a env=Res.bnd (f env) (f:=⟨fun p=>Res.bnd (a p.1.2 p.2) (f:=⟨fun e=>.ok (.nx e)⟩)⟩):=id rfl
theorem bq(ds:List D)(nn:Nat)(h:ds.length=n):fBody n nn s ds=Res.bnd (s (ds.map (fun d=>some (O.f,d))++List.replicate nn none)) (f:=⟨fun o=>match o with
 | .rt r=>.ok r
 | .nx _=>.ok (.f,.non)
 |_=>.bad⟩):=by
 unfold fBody;rw[Rb h];all_goals cases s (ds.map (fun d=>some (O.f,d))++List.replicate nn none) with
 |ok o=>cases o <;> rfl
 |exc c=>rfl
 |bad=>rfl
end
theorem line_le{n:Nat}(h:n<=16777216):n<=sizeLine:=by rw[line_eq];exact h
section
variable(a b:Int)(x y:List Nat)(p q:Bool)(ds es:List D)
theorem D5:Ji (.int a) (.int b)=.ok (.f,.bl (a==b)):=by simp only[Ji,plainD,F3,Ss,TL]
theorem D6:Ji (.str x) (.str y)=.ok (.f,.bl (x==y)):=by simp only[Ji,plainD,F3,Ss,TL]
theorem D7:Jj (.int a) (.int b)=.ok (.f,.bl (!(a==b))):=by simp only[Jj,plainD,F3,Ss,TL]
theorem B8:mU (.int a) (.int b)=.ok (.f,.int (a-b)):=id rfl
theorem uw:e7 (.int a) (.int b)=if 0<b/\b<1073741824 then .ok (.f,.int (a / b)) else .bad:=id rfl
theorem qf:fY (.int a) (.int b)=if 0<b then .ok (.f,.int (a%b)) else .bad:=id rfl
theorem B9:Av (.int a) (.int b)=if 0<=b/\b<=1000000/\a.natAbs<2 ^ 64 then .ok (.f,.int (a ^ b.toNat)) else .bad:=id rfl
theorem D8:Ju (.int a) (.int b)=.ok (.f,.bl (decide (a<b))):=id rfl
theorem D9:NA (.int a) (.int b)=.ok (.f,.bl (decide (b<a))):=id rfl
theorem Ea:NG (.int a) (.int b)=.ok (.f,.bl (decide (b<=a))):=id rfl
theorem Ca:jN [.lst ds]=.ok (.f,.int ds.length):=id rfl
theorem Cb:jN [.tup ds]=.ok (.f,.int ds.length):=id rfl
theorem zH:qV [.lst ds]=.ok (.l .f,.lst ds):=id rfl
theorem wA:dH [.lst ds]=.ok (.f,.tup ds):=id rfl
theorem Eb:Gk (.lst ds) (.int a)=match Ht ds a with|some d=>.ok (.f,d)|none=>.bad:=id rfl
theorem Ec:Gk (.tup ds) (.int a)=match Ht ds a with|some d=>.ok (.f,d)|none=>.bad:=id rfl
theorem Ed:Gk (.str x) (.int a)=match Ht x a with|some c=>.ok (.f,.str [c])|none=>.bad:=id rfl
theorem Cc:maxD [.int a,.int b]=.ok (.f,.int (if a<b then b else a)):=id rfl
theorem xM(bs:List Bool):BC [.lst (bs.map D.bl)]=.ok (.f,.bl (bs.all id)):=by
 unfold BC;show(match mW (bs.map D.bl) with|some bs=>_|none=>_)=_;rw[sX]
theorem OQ{α:Type}(d:α)(l:List α):Ht (d::l) 0=some d:=by
 have:=e9 (xs:=d::l) (j:=0) (v:=d) rfl;simpa using this
theorem M5{α:Type}(c d:α)(l:List α):Ht (c::d::l) 1=some d:=by
 have:=e9 (xs:=c::d::l) (j:=1) (v:=d) rfl;simpa using this
end
theorem F8(l:List Int):flatDs (l.map D.int)=true:=by
 rw[b7,Su,RD];intro b _;rfl
theorem qg(l:List Bool):flatDs (l.map D.bl)=true:=by
 rw[b7,Su,RD];intro b _;rfl
theorem flat_strs(l:List (List Nat)):flatDs (l.map D.str)=true:=by
 rw[b7,Su,RD];intro b _;rfl
theorem oX(d:D):aE .f d=flatD d:=by rw[aE]
theorem wB(ds:List D):aE (.l .f) (.lst ds)=flatDs ds:=by rw[aE,jr]
theorem jv(i:Int):flatD (.int i)=true:=by rw[flatD];all_goals simp
theorem oY(i:Bool):flatD (.bl i)=true:=by rw[flatD];all_goals simp
theorem cu(ds:List D):flatD (.tup ds)=flatDs ds:=by rw[flatD]
theorem dn(n:Nat)(l:List Int):plainDs n (l.map D.int)=true:=by
 induction l with
 |nil=>rfl
 |cons a l ih=>rw[Rl,plainDs,ih,plainD];all_goals simp
theorem f9(n:Nat)(l:List (List Nat)):plainDs n (l.map D.str)=true:=by
 induction l with
 |nil=>rfl
 |cons a l ih=>rw[Rl,plainDs,ih,plainD];all_goals simp
theorem eqDs_ints:∀a b:List Int,iW (a.map D.int) (b.map D.int)=(a==b)
 |[],[]=>by simp[iW]
 |[],_::_=>by simp[iW]
 |_::_,[]=>by simp[iW]
 |a::r,b::t=>by
  rw[Rl,Rl,iW,F3,eqDs_ints r t,RG];simp
theorem wC(a:Int)(l:List Int):u3 (.int a) (l.map D.int)=decide (a∈l):=by
 unfold u3;rw[Tv,RG,Sq,Ro];constructor
 ·rintro⟨x,hx,e⟩;have e:F3 (.int x) (.int a)=true:=e;rw[F3,RO]at e;rw[<-e];exact hx
 ·intro h;refine⟨a,h,?_⟩;show F3 (.int a) (.int a)=true;rw[F3,Sm]
theorem wF(a:List Nat)(l:List (List Nat)):u3 (.str a) (l.map D.str)=decide (a∈l):=by
 unfold u3;rw[Tv,RG,Sq,Ro];constructor
 ·rintro⟨x,hx,e⟩;have e:F3 (.str x) (.str a)=true:=e;rw[F3,RO]at e;rw[<-e];exact hx
 ·intro h;refine⟨a,h,?_⟩;show F3 (.str a) (.str a)=true;rw[F3,Sm]
theorem EF(a:Int)(l:List Int):Kr (.int a) (.lst (l.map D.int))=.ok (.f,.bl (decide (a∈l))):=by
 unfold Kr;dsimp only;rw[dn,wC,plainD];all_goals simp
theorem wG{α:Type}{a:FG}{c:FT}{f:FX}{e:α->D}{p:α->Bool}{r:α->D}(I:PV.Env->Prop)(l:List α)
  (h:∀x∈l,∀env,I env->∃FY,a (e x) env=.ok FY/\∃F5,c FY=.ok (p x,F5)/\if p x then ∃o GC,f F5=.ok ((o,r x),GC)/\I GC else I F5):∀env,I env->cO a c f (l.map e) env=.ok ((l.filter p).map r):=by
 induction l with
 |nil=>intro env _;rfl
 |cons x l ih=>
  intro env hI;obtain⟨FY,h1,F5,h2,h3⟩:=h x Q2 env hI;have ih:=ih fun y hy=>h y (Q7 _ hy)
  rw[Rl,qe,h1,Gs,h2,Gs];cases hp:p x with
  |true=>
   rw[hp]at h3;obtain⟨o,GC,h4,h5⟩:=h3;rw[Rb rfl,h4,Gs,ih GC h5,Gs,List.filter_cons_of_pos hp];rfl
  |false=>
   rw[hp]at h3;rw[Rg Rc,ih F5 h3,List.filter_cons_of_neg (by rw[hp];exact Rc)]
theorem bN{α:Type}{a:FG}{f:FX}{e:α->D}{r:α->D}(I:PV.Env->Prop)(l:List α)
  (h:∀x∈l,∀env,I env->∃FY,a (e x) env=.ok FY/\∃o GC,f FY=.ok ((o,r x),GC)/\I GC):∀env,I env->cO a eW f (l.map e) env=.ok (l.map r):=by
 induction l with
 |nil=>intro env _;rfl
 |cons x l ih=>
  intro env hI;obtain⟨FY,h1,o,GC,h4,h5⟩:=h x Q2 env hI;have ih:=ih fun y hy=>h y (Q7 _ hy)
  rw[Rl,qe,h1,Gs,B6,Gs,Rb rfl,h4,Gs,ih GC h5];rfl
theorem zI{a:FG}{g:FS}(P:Nat->PV.Env->Prop)(ds:List D)(h:∀i d env,ds[i]?=some d->P i env->∃FY,a d env=.ok FY/\∃F5,(g FY=.ok (.nx F5)\/g FY=.ok (.ct F5))/\P (i+1) F5):
  ∀env,P 0 env->∃env',dD a g ds env=.ok (.nx env')/\P ds.length env':=by
 have key:∀(l:List D) (k:Nat) (env:PV.Env),(∀i d,l[i]?=some d->ds[k+i]?=some d)->P k env->∃env',dD a g l env=.ok (.nx env')/\P (k+l.length) env':=by
  intro l;induction l with
  |nil=>exact fun k env _ hp=>⟨env,rfl,hp⟩
  |cons d l ih=>
   intro k env hd hp;obtain⟨FY,h1,F5,h2,h3⟩:=h k d env (hd 0 d rfl) hp;obtain⟨env',h4,h5⟩:=ih (k+1) F5 (fun i d e=>by have:=hd (i+1) d (by simpa using e);rw[show k+1+i=k+(i+1) by lia];exact this) h3;refine⟨env',?_,by rw[Rk,show k+(l.length+1)=k+1+l.length by lia];exact h5⟩;rw[cM,h1,Gs];rcases h2 with h2|h2
   ·rw[h2,Gs];exact h4
   ·rw[h2,Gs];exact h4
 intro env hp;obtain⟨env',h1,h2⟩:=key ds 0 env (fun i d e=>by rw[V2];exact e) hp;exact⟨env',h1,by rw[V2]at h2;exact h2⟩
section
variable(env:PV.Env)(fo:FO)(fp F2:FP)(a b:Int)(ds:List D)(x:List Nat)
theorem MK:Ax fo fp F2 env=Res.bnd (fo env) (f:=⟨fun p=>Res.bnd (fp p.2) (f:=⟨fun q=>Res.bnd (F2 q.2) (f:=⟨fun t=>Res.bnd (Hi t.2 p.1) (f:=⟨fun d=>Res.bnd (NP d q.1 t.1) (f:=⟨fun r=>.ok (r,t.2)⟩)⟩)⟩)⟩)⟩):=id rfl
theorem Cd(lo hi:Option Int):NP (.lst ds) lo hi=.ok (.l .f,.lst (iC ds lo hi)):=id rfl
theorem Ce(lo hi:Option Int)(h:HT.sIx ds.length 0 lo=0/\HT.sIx ds.length ds.length hi=ds.length):iC ds lo hi=ds:=by
 unfold iC;rw[h.1,h.2,Vm,Nat.sub_zero,SD (Q8 _)]
theorem ux:y9 (.int a) (.int b)=if dg a||dg b then .ok (.f,.int (a*b)) else if a.natAbs<2 ^ 1000/\b.natAbs<2 ^ 1000 then .ok (.f,.int (a*b)) else .bad:=id rfl
end
section
variable(env:PV.Env)(fo:FO)(fs:FOs)(f g:FX)(a b c:Int)(ds es:List D)(x y:List Nat)
theorem ML(gg:List D->List D->Res R):BQ gg fo fs env=Res.bnd (fo env) (f:=⟨fun p=>Res.bnd (Hi p.2 p.1) (f:=⟨fun d=>match d with
 | .tup _=>Res.bnd (fs p.2) (f:=⟨fun q=>Res.bnd (Hi q.2 p.1) (f:=⟨fun d2=>match d2 with
  | .tup l=>Res.bnd (ou q.2 q.1) (f:=⟨fun ds=>Res.bnd (gg l ds) (f:=⟨fun r=>.ok (r,q.2)⟩)⟩)
  |_=>.bad⟩)⟩)
 |_=>.bad⟩)⟩):=id rfl
theorem EG(d:D):(∃l,iJ true d=.ok l/\iJ false d=.bad/\mX d=some l)\/(∃l,iJ true d=.bad/\iJ false d=.ok l/\mX d=some l)\/(iJ true d=.bad/\iJ false d=.bad/\mX d=none):=by
 cases d with
 |lst l=>exact .inl ⟨l,rfl,rfl,rfl⟩
 |tup l=>exact .inr (.inl ⟨l,rfl,rfl,rfl⟩)
 |_=>exact .inr (.inr ⟨rfl,rfl,rfl⟩)
def wH(k1 k2:Bool)(e:PV.Env)(d1 d2:D):Res (List D×PV.Env):=(iJ k1 d1).bind fun a=>(iJ k2 d2).bind fun b=>.ok ((a.zip b).map fun z=>D.tup [z.1,z.2],e)
def Ee(e:PV.Env)(d1 d2:D):Res (List D×PV.Env):=match mX d1,mX d2 with|some a,some b=>.ok ((a.zip b).map fun z=>D.tup [z.1,z.2],e)|_,_=>.bad
def LP(a b:Res (List D×PV.Env)):Res (List D×PV.Env):=match a with | .ok a=>.ok a|_=>b
def vf(g:D->D->Res (List D×PV.Env))(os:List Opd):Res (List D×PV.Env):=match os with|[.val d1,.val d2]=>g d1 d2|_=>.bad
theorem oZ(g h:D->D->Res (List D×PV.Env))(os:List Opd):LP (vf g os) (vf h os)=vf (fun a b=>LP (g a b) (h a b)) os:=by
 unfold vf;split <;> rfl
theorem zJ(e:PV.Env)(a b:D):LP (wH true true e a b) (LP (wH true false e a b) (LP (wH false true e a b) (wH false false e a b)))=Ee e a b:=by
 unfold wH Ee;rcases EG a with⟨l,h1,h2,h3⟩|⟨l,h1,h2,h3⟩|⟨h1,h2,h3⟩ <;> rcases EG b with⟨m,i1,i2,i3⟩|⟨m,i1,i2,i3⟩|⟨i1,i2,i3⟩ <;> rw[h1,h2,h3,i1,i2,i3] <;> rfl
theorem Ly:qZ fs env=Res.bnd (fs env) (f:=⟨fun p=>match p.1 with
 |[.val d1,.val d2]=>(match mX d1,mX d2 with|some a,some b=>.ok ((a.zip b).map fun z=>D.tup [z.1,z.2],p.2)|_,_=>.bad)
 |_=>.bad⟩):=by
 unfold qZ;rw[oW,oW,oW,l7,l7,l7,l7];cases fs env with
 |ok p=>
  show LP (vf (wH true true p.2) p.1) (LP (vf (wH true false p.2) p.1) (LP (vf (wH false true p.2) p.1) (vf (wH false false p.2) p.1)))=vf (Ee p.2) p.1;rw[oZ,oZ,oZ];exact R7 (fun g=>vf g p.1) (funext fun a=>funext fun b=>zJ p.2 a b)
 |_=>rfl
theorem Lz:mX (.lst ds)=some ds:=id rfl
theorem LA:mX (.tup ds)=some ds:=id rfl
theorem LB(i:Nat):wg i f g env=Res.bnd (g env) (f:=⟨fun(p:R×PV.Env)=>Res.bnd (f p.2) (f:=⟨fun(q:R×PV.Env)=>match p.2[i]?,q.2[i]? with
 |some (some _),some (some (.l .f,.lst ds))=>(match q.1.2 with
  | .int k=>(match ixN ds.length k with
   |some j=>.ok (.nx (q.2.set i (some (.l .f,.lst (ds.set j p.1.2)))))
   |none=>.bad)
  |_=>.bad)
 |_,_=>.bad⟩)⟩):=id rfl
theorem zL:lT (.int a) (.int b)=y9 (.int a) (.int b):=id rfl
theorem KD:tP f g env=Res.bnd (f env) (f:=⟨fun p=>Res.bnd (g p.2) (f:=⟨fun q=>if dR false p.1.2 then .ok ((.d,.dct false [p.1.2] [q.1.2]),q.2) else .bad⟩)⟩):=id rfl
theorem Cf(d:D):OK d (.lst ds)=Kr d (.lst ds):=id rfl
theorem zM(d:D):zf d (.lst ds)=Aw d (.lst ds):=id rfl
theorem Cg:dR false (.int a)=true:=id rfl
theorem Ci:dR false (.str x)=true:=id rfl
theorem zN:cP (.int a) (.int b)=.ok (.f,.int (a+b)):=id rfl
theorem zO:cP (.str x) (.str y)=if x.length+y.length<=sizeLine then .ok (.f,.str (x++y)) else .bad:=id rfl
theorem uy:cP (.lst ds) (.lst es)=if ds.length+es.length<=sizeLine then .ok (.l .f,.lst (ds++es)) else .bad:=id rfl
theorem zP:cP (.tup ds) (.tup es)=if ds.length+es.length<=sizeLine\/ds=[] then .ok (.f,.tup (ds++es)) else .bad:=by
 unfold cP;cases ds with
 |nil=>rw[Rb (.inr rfl)];rfl
 |cons d ds=>
  dsimp only;unfold addD;dsimp only;by_cases h:(d::ds).length+es.length<=sizeLine
  ·rw[Rb ⟨nofun,h⟩,Rb (.inl h)]
  ·rw[Rg (fun z=>h z.2),Rg (fun z=>z.elim h nofun)]
end
section
variable(env:PV.Env)(f g:FX)(ds ks:List D)(i:Nat)
theorem C6:BX i env=match env[i]? with
 |some (some (ow,.lst _))=>if isLf ow then .ok ((.f,.non),env.set i (some (ow,.lst []))) else .bad
 |_=>.bad:=id rfl
theorem uz:tS f g env=Res.bnd (f env) (f:=⟨fun p=>Res.bnd (g p.2) (f:=⟨fun q=>.ok ((.t [.f,q.1.1],.tup [p.1.2,q.1.2]),q.2)⟩)⟩):=id rfl
theorem wI:p3 i env=match env[i]? with
 |some (some (.t [.f,.l .f],.tup [a,.lst _]))=>.ok ((.f,.non),env.set i (some (.t [.f,.l .f],.tup [a,.lst []])))
 |_=>.bad:=id rfl
end
section
variable(env:PV.Env)(f:FX)(fs:FOs)(ds:List D)(i:Nat)
theorem EH:Fn i env=match env[i]? with
 |some (some (ow,.lst ds))=>if isLf ow then(match ds.getLast? with
  |some d=>.ok ((.f,d),env.set i (some (ow,.lst ds.dropLast)))
  |none=>.bad) else .bad
 |_=>.bad:=id rfl
theorem fO:jR i f env=Res.bnd (f env) (f:=⟨fun(p:R×PV.Env)=>match p.2[i]? with
 |some (some (.pin q c,d))=>.ok (.rt (.t [p.1.1,.pin q c],.tup [p.1.2,d]))
 |_=>.bad⟩):=by
 first
  |exact id rfl
  |(unfold jR;rfl)
theorem wJ(np nn:Nat)(c:O)(g:FS)(p:Addr)(d0:D)(h:ds.length+1=np):kS np nn c g p (d0::ds)=Res.bnd (g (some (.pin p c,d0)::(ds.map (fun d=>some (O.f,d))++List.replicate nn none))) (f:=⟨fun o=>match o with
  | .rt r=>.ok r
  |_=>.bad⟩):=by
 unfold kS;dsimp only;rw[Rb h];rfl
end
noncomputable def pv:=(Zz @Gs (Zz @Ms (Zz @JM (Zz @Lc (Zz @Mt (Zz @Mu (Zz @Ld (Zz @Kx (Zz @Le (Zz @Ky (Zz @Mv (Zz @Mw (Zz @Lf (Zz @Lg (Zz @Lh (Zz @Li (Zz @Kz (Zz @KA (Zz @Lj (Zz @Lk (Zz @Ll (Zz @Mx (Zz @Lm (Zz @N7 (Zz @My (Zz @N8 (Zz @Mz (Zz @MA (Zz @MB (Zz @Ln (Zz @MC (Zz @MD (Zz @ME (Zz @MK (Zz @Lo (Zz @Lp (Zz @MF (Zz @Lq (Zz @N9 (Zz @Lr (Zz @MG (Zz @Ls (Zz @Jx (Zz @Jy (Zz @Jz (Zz @MH (Zz @Lu (Zz @ID (Zz @Hr (Zz @Lv (Zz @G9 (Zz @JA (Zz @GW (Zz @Lw (Zz @KC (Zz @IK (Zz @MI (Zz @Oa (Zz @JB (Zz @Lx (Zz @MJ (Zz @List.getElem?_cons_zero.{0} (Zz @List.getElem?_cons_succ.{0} (Zz @List.set_cons_zero.{0} (Zz @List.set_cons_succ.{0} (Zz @List.length_cons.{0} (Zz @List.length_nil.{0} (Zz @List.map_cons.{0,0} (Zz @List.map_nil.{0,0} (Zz @List.replicate_succ.{0} (Zz @List.replicate_zero.{0} (Zz @List.cons_append.{0} (Zz @List.nil_append.{0} (Zz @Nat.zero_add (Zz @ML (Zz @Ly (Zz @Lz (Zz @LA (Zz @LB (Zz @KD (Zz @N4 (Zz @N5 (Zz @N6 (Zz @Lb @Kw))))))))))))))))))))))))))))))))))))))))))))))))))))))))))))))))))))))))))))))))))))
noncomputable def op:=(Zz @D5 (Zz @D6 (Zz @D7 (Zz @B8 (Zz @D8 (Zz @D9 (Zz @Ea (Zz @Ca (Zz @Cb (Zz @zH (Zz @wA (Zz @Eb (Zz @Ec (Zz @Ed (Zz @Cd (Zz @Cc (Zz @OQ (Zz @M5 (Zz @xM (Zz @oX (Zz @wB (Zz @jv (Zz @oY (Zz @F8 (Zz @qg (Zz @PV.flat_strs (Zz @cu (Zz @zN (Zz @zL (Zz @Cf (Zz @zM (Zz @Cg @Ci))))))))))))))))))))))))))))))))
theorem dV(n:Nat)(w:PV.Env):(∃d,Hi w (.var n)=.ok d)\/Hi w (.var n)=.bad:=by
 unfold Hi;dsimp only;split
 ·split
  ·exact .inl ⟨_,rfl⟩
  ·exact .inr rfl
 ·exact .inr rfl
section
variable(w:PV.Env)(op:D->D->Res R)(F:List D->Res R)(f g h:FX)(n n' n'':Nat)(x y:D)
end
section
variable(a b c d e g h i j k l m:Option R)(z:PV.Env)(r:R)(o:O)(x:D){ρ:Type}
end
end PV
namespace LW
open PySem L2 NX PV
theorem for_list{α:Type}{a:FG}{g:FS}{e:α->D}(l:List α)(P:Nat->PV.Env->Prop)
  (h:∀k x env,l[k]?=some x->P k env->∃FY,a (e x) env=.ok FY/\∃F5,g FY=.ok (.nx F5)/\P (k+1) F5):∀env,P 0 env->∃env',dD a g (l.map e) env=.ok (.nx env')/\P l.length env':=by
 intro env h0;have:=zI (a:=a) (g:=g) P (l.map e) (fun i d env hi hp=>by
  rw[List.getElem?_map,RH]at hi;obtain⟨x,hx,rfl⟩:=hi;obtain⟨FY,h1,F5,h2,h3⟩:=h i x env hx hp;exact⟨FY,h1,F5,.inl h2,h3⟩) env h0
 rwa [Q3]at this
theorem o4{a:FG}{g:FS}{e:Nat->D}(n:Nat)(P:Nat->PV.Env->Prop)
  (h:∀k env,k<n->P k env->∃FY,a (e k) env=.ok FY/\∃F5,g FY=.ok (.nx F5)/\P (k+1) F5):∀env,P 0 env->∃env',dD a g ((List.range n).map e) env=.ok (.nx env')/\P n env':=by
 intro env h0;have:=for_list (a:=a) (g:=g) (e:=e) (List.range n) P (fun k x env hk hp=>by
  obtain⟨h1,h2⟩:=List.getElem?_eq_some_iff.mp hk;rw[Rr]at h1;rw[Uo]at h2;subst h2;exact h k env h1 hp) env h0
 rwa [Rr]at this
abbrev LNN:=List (List Nat)
theorem bH{α β:Type}{l:List α}(f:α->β):(l.map f).length=l.length:=Q3 f
theorem fP:(false=true)=False:=Sk
theorem oy{α:Type}{l:List α}{i:Nat}{a:α}(h:l[i]?=some a):∃h:i<l.length,l[i]=a:=List.getElem?_eq_some_iff.mp h
theorem nR{α:Type}{l:List α}{i:Nat}(h:i<l.length):l[i]?=some l[i]:=List.getElem?_eq_getElem h
theorem eg{α β:Type}{f:α->β}{a:α}{l:List α}:(a::l).map f=f a::l.map f:=Rl
theorem nS{α:Type}{a b:α}(h:a∈[b]):a=b:=Ry.mp h
theorem oz{α β:Type}{f:α->β}{l:List α}{b:β}(h:b∈l.map f):∃a,a∈l/\f a=b:=RW.mp h
theorem vg{α:Type}{a:α}{s t:List α}(h:a∈s++t):a∈s\/a∈t:=RA.mp h
theorem mn{α:Type}{s t:List α}:(s++t).length=s.length+t.length:=RC
theorem ax{s t:FS}{env env':PV.Env}(h:s env=.ok (.nx env')):sSeq s t env=t env':=by rw[GW,h,Gs]
theorem bA{ds:List D}(h:ds.length<=16777216):ds.length<=sizeLine:=line_le h
theorem kZ{l:List Int}{k:Nat}(h:k<l.length):Ht (l.map D.int) (k:Int)=some (.int (l.getD k 0)):=e9 (by rw[List.getElem?_map,List.getD_eq_getElem?_getD,nR h];rfl)
theorem at2{α:Type}(a b c:α):Ht [a,b,c] (2:Int)=some c:=rfl
theorem d9:∀l:LNN,eX (l.map D.str)=some l
 |[]=>rfl
 |a::l=>by
  rw[eg,eX,d9 l];rfl
theorem j8(x y:D)(t1 t2:Option R)(dq:PV.Env):kx 2 (aQ (aD 0) (aQ (aD 1) d4)) (.tup [x,y]) (t1::t2::dq)=.ok (some (.f,x)::some (.f,y)::dq):=by
 rw[JA,Rb (by simp),G9,Hr,Rb (by simp),Gs,G9,Hr,Rb (by simp),Gs];rfl
theorem ir{α:Type}(lt:α->α->Bool)(l:List α):(bD lt l).length=l.length:=(dm lt l).length_eq
theorem uA(l:LNN)(h:l.length<64):eI [.lst (l.map D.str)]=.ok (.l .f,.lst ((bD J2 l).map D.str)):=by
 unfold eI;dsimp only;rw[Rb (by rw[bH];exact h)];unfold jJ;cases l with
 |nil=>rfl
 |cons a l=>
  have e:dh ((a::l).map D.str)=none:=rfl;rw[e,d9]
def Iz:List Nat:=[97,98,99,100,101,102,103,104,105,106,107,108,109,110,111,112,113,114,115,116,117,118,119,120,121,122]
theorem Cj(j:Nat)(h:j<26):Iz[j]?=some (97+j):=by
 have:∀j:_root_.Fin 26,Iz[j.1]?=some (97+j.1):=by decide
 exact this ⟨j,h⟩
theorem Ck(j:Int)(h0:0<=j)(h:j<26):Ht Iz j=some (97+j.toNat):=by
 obtain⟨n,rfl⟩:=RE h0;exact e9 (Cj n (by lia))
theorem gf(x b:Int)(h:0<b):0<=x%b/\x%b<b:=⟨Int.emod_nonneg _ (by lia),VF _ h⟩
theorem FA(n:Nat)(h:n<=200):Av (.int 10) (.int (n:Int))=.ok (.f,.int (10 ^ n)):=by
 rw[B9,Rb (by lia),RP]
theorem k4(x b:Int)(h:0<b):fY (.int x) (.int b)=.ok (.f,.int (x%b)):=by rw[qf,Rb h]
theorem jj(x b:Int)(h:0<b)(h2:b<1073741824):e7 (.int x) (.int b)=.ok (.f,.int (x / b)):=by rw[uw,Rb ⟨h,h2⟩]
theorem FC(x y:List Nat)(h:x.length+y.length<=1000):cP (.str x) (.str y)=.ok (.f,.str (x++y)):=by rw[zO,Rb (line_le (by lia))]
theorem qh{α:Type}(l:List α)(k:Nat):iC l none (some (k:Int))=l.take k:=by
 unfold iC;rw[HT.pj,HT.lb,Vm,Nat.sub_zero];by_cases h:k<=l.length
 ·rw[Uj h]
 ·rw[Nat.min_eq_right (by lia),SD (Q8 _),SD (by lia)]
theorem wK{α:Type}(l:List α)(k:Nat):iC l (some (k:Int)) none=l.drop k:=by
 unfold iC;rw[HT.pj,HT.lb];by_cases h:k<=l.length
 ·rw[Uj h,SD (by rw[Tn];exact Q8 _)]
 ·rw[Nat.min_eq_right (by lia),UX (Q8 _),UX (by lia),List.take_nil]
theorem dC{α:Type}(f:Nat->α)(n:Nat)(h:∀i j,i<n->j<n->f i=f j->i=j):((List.range n).map f).Nodup:=by
 rw[Tf,TR];refine List.pairwise_lt_range.imp_of_mem fun{a b} ha hb hl e=>?_
 have:=h a b (RL.mp ha) (RL.mp hb) e;lia
theorem FD(j:Int)(h0:0<=j)(h:j<=1000)(fo:FO)(env env':PV.Env)(o:Opd)(e1:fo env=.ok (o,env'))(e2:Hi env' o=.ok (.int j)):dt fo env=.ok ((List.range j.toNat).map fun(k:Nat)=>D.int (k:Int),env'):=by
 rw[ID,e1,Gs];dsimp only;rw[e2,Gs];dsimp only;rw[Rb (by lia)]
theorem zQ{α:Type}(l:List α)(a b:Nat)(h:a<=b)(hb:b<=l.length):iC l (some (a:Int)) (some (b:Int))=(l.drop a).take (b-a):=by
 unfold iC;rw[HT.lb,HT.lb,Uj hb,Uj (RB h hb)]
theorem nU(x:Int)(h:-1000000<=x)(h2:x<=1000000):dg x=true:=by
 unfold dg;rw[Ro];lia
theorem j9(d:D)(h:plainD 40 d=true):Jj d d=.ok (.f,.bl false):=by
 unfold Jj;rw[h,ju d 40 h];rfl
theorem wL(l:List Int):plainD 40 (.tup (l.map D.int))=true:=by
 rw[plainD,dn]
theorem zR(n k:Nat)(h:k<n):ixN n (k:Int)=some k:=by
 unfold ixN;rw[Rb (by lia),Rb (by lia)];rfl
theorem FE(b:Int):ve "bool" (.int b)=false:=rfl
theorem FF(b:Int):ve "int" (.int b)=true:=rfl
theorem isT(ds:List D):ve "tuple" (.tup ds)=true:=rfl
theorem wM{α:Type}{a:FG}{g:FS}{e:α->D}(l:List α)(env:Option R->PV.Env)(h:∀x∈l,∀t,∃t',a (e x) (env t)=.ok (env t')/\g (env t')=.ok (.nx (env t')))(t:Option R):∃t',dD a g (l.map e) (env t)=.ok (.nx (env t')):=by
 obtain⟨env',ef,t',rfl⟩:=for_list (a:=a) (g:=g) (e:=e) l (fun _ E=>∃t,E=env t) (by
  rintro k x E hk ⟨t,rfl⟩;obtain⟨t',h1,h2⟩:=h x (Rz hk) t;exact⟨_,h1,_,h2,t',rfl⟩) _ ⟨t,rfl⟩
 exact⟨t',ef⟩
theorem zS{α β:Type}(f:α->β)(l:List α)(lo hi:Option Int):iC (l.map f) lo hi=(iC l lo hi).map f:=by
 unfold iC;rw[bH,<-List.map_drop,<-VG]
theorem ka{α:Type}{l:List α}(h:l.length<=100000):l.length<sizeLine:=Rj (S4 _) (line_le (by lia))
section
variable(env:PV.Env)(f:FX)(fs:FOs)(fo:FO)
theorem zT(i:Nat)(c:O)(F:Addr->List D->Res R):eFunW c F i fs env=Res.bnd (fs env) (f:=⟨fun p=>match p.1 with
 | .var j::os=>if j=i then(match p.2[i]? with
  |some (some (ow,d0))=>if nr c ow then Res.bnd (g6 (p.2.set i none) os) (f:=⟨fun ds=>Res.bnd (iM F c d0 ds) (f:=⟨fun x=>if aE x.1.1 x.1.2&&aE c x.2 then .ok (x.1,(p.2.set i none).set i (some (ow,x.2))) else .ok (x.1,((p.2.set i none).map frz).set i (some (ow,x.2)))⟩)⟩) else .bad
  |_=>.bad) else .bad
 |_=>.bad⟩):=id rfl
theorem C7(r:R):frz (some r)=some (.f,r.2):=id rfl
theorem C8:frz none=none:=id rfl
theorem uB(gg:List D->List D->Res R):Ay gg fo fs env=Res.bnd (fo env) (f:=⟨fun p=>Res.bnd (Hi p.2 p.1) (f:=⟨fun d=>match d with
 | .lst _=>Res.bnd (fs p.2) (f:=⟨fun q=>Res.bnd (Hi q.2 p.1) (f:=⟨fun d2=>match d2 with
  | .lst l=>Res.bnd (ou q.2 q.1) (f:=⟨fun ds=>Res.bnd (gg l ds) (f:=⟨fun r=>.ok (r,q.2)⟩)⟩)
  |_=>.bad⟩)⟩)
 |_=>.bad⟩)⟩):=id rfl
end
theorem o_isnT(ds:List D):isnO (.tup ds) .non=.ok (.f,.bl true):=id rfl
theorem k7:isnO .non .non=.ok (.f,.bl false):=id rfl
abbrev Gi:=Int×List Nat×Int
def eA(a:Gi):D:=.tup [.int a.1,.str a.2.1,.int a.2.2]
theorem l8:∀(n:Nat) {l:List Int},l.Nodup->(∀x∈l,0<=x/\x<(n:Int))->l.length<=n
 | 0,l,_,hb=>by
  cases l with
  |nil=>exact Q8 _
  |cons a l=>have:=hb a Q2;lia
 |n+1,l,nd,hb=>by
  have h1:=l8 n (l:=l.erase (n:Int)) (nd.erase _) fun x hx=>by
   have h2:=(nd.mem_erase_iff.mp hx)
   have h3:=hb x h2.2;have h4:=h2.1;lia
  have:=List.length_erase_le (a:=(n:Int)) (l:=l);have h5:l.length<=(l.erase (n:Int)).length+1:=by
   by_cases hm:(n:Int)∈l
   ·rw[UA hm];have:=UY hm;lia
   ·rw[List.erase_of_not_mem hm];lia
  lia
def Gz(nY:LNN)(ap:List Gi):D:=.tup [.tup (nY.map D.str),.lst (ap.map eA)]
theorem kc(a:Gi)(t1 t2 t3:Option R)(dq:PV.Env):kx 3 (aQ (aD 0) (aQ (aD 1) (aQ (aD 2) d4))) (eA a) (t1::t2::t3::dq)=.ok (some (.f,.int a.1)::some (.f,.str a.2.1)::some (.f,.int a.2.2)::dq):=by
 unfold eA;rw[JA,Rb (by simp),G9,Hr,Rb (by simp),Gs,G9,Hr,Rb (by simp),Gs,G9,Hr,Rb (by simp),Gs];rfl
theorem wN{α:Type}{f:α->D}{p:α->Bool}{l:List α}(h:l.length<=16777216):((l.filter p).map f).length<=sizeLine:=by
 rw[bH];exact line_le (RB (List.length_filter_le _ _) h)
theorem Cm(l:List Int):(mX (.lst (l.map D.int))).bind dh=some l:=qW l
def qi(a:Gi):Int:=if a.1<a.2.2 then a.2.2 else a.1
def aR(ap:List Gi):Int:=1+NX.maxD (ap.map qi) 0
theorem iu{α:Type}{f:α->D}{l:List α}(h:∀a,flatD (f a)=true):flatDs (l.map f)=true:=by
 rw[b7,Su,RD];intro a _;exact h a
theorem o5(nY:LNN)(ap:List Gi)(hl:ap.length<=16777216):bZ [Gz nY ap]=.ok (.f,.int (aR ap)):=by
 unfold bZ jU;rw[bq (h:=by rfl)];simp only[pv,seval,op,Gz];rw[bN (r:=fun a:Gi=>D.int (qi a)) (fun env=>∃t1 t2 t3,env=[t1,t2,t3]) ap ?_ _ ⟨_,_,_,rfl⟩]
 ·rw[Gs,Rb (bA (by rw[bH];exact hl)),Gs,iu fun a=>jv _];simp only[pv,seval,op];have e:(some (ap.map fun a=>D.int (qi a))).bind dh=some (ap.map qi):=by
   have:=Cm (ap.map qi);rw[Rq]at this;exact this
  rw[e];rfl
 ·rintro a _ env ⟨t1,t2,t3,rfl⟩;refine⟨_,kc a t1 t2 t3 _,?_⟩;simp only[pv,seval,op];exact⟨_,_,rfl,_,_,_,rfl⟩
theorem zU(a:Gi):flatD (eA a)=true:=rfl
theorem zV(as:List Gi):flatDs (as.map eA)=true:=by
 rw[b7,Su,RD];exact fun p _=>zU p
theorem FH(w:LNN)(m:List Nat)(h:w.length<=1000):cP (.tup (w.map D.str)) (.tup [.str m])=.ok (.f,.tup ((w++[m]).map D.str)):=by
 rw[zP,Rb (.inl (line_le (by rw[bH,Rk,Sa];lia))),Rw];rfl
def ak(a:Gi):List Key:=[.inl a.1,.inr (S a.2.1),.inl a.2.2]
def cN(a b:Gi):Bool:=c9 (ak a) (ak b)
theorem S_inj{a b:List Nat}(h:S a=S b):a=b:=by
 have:=R7 (fun s:Str=>s.cps.toList) h;simpa only[cX] using this
theorem Ef(a:Gi):kT (ak a)=eA a:=by
 unfold kT ak eA;simp only[eg,RS,kD,cX]
theorem uC{α β:Type}(f:α->β)(lt:β->β->Bool)(x:α):∀l:List α,ins lt (f x) (l.map f)=(ins (fun a b=>lt (f a) (f b)) x l).map f
 |[]=>rfl
 |y::ys=>by
  rw[eg,ins,ins];cases lt (f y) (f x) with
  |true=>rw[Rb rfl,Rb rfl,uC f lt x ys,eg]
  |false=>rw[Rg Rc,Rg Rc,eg,eg]
theorem nV{α β:Type}(f:α->β)(lt:β->β->Bool):∀l:List α,bD lt (l.map f)=(bD (fun a b=>lt (f a) (f b)) l).map f
 |[]=>rfl
 |x::l=>by
  show ins lt (f x) (bD lt (l.map f))=_;rw[nV f lt l,uC];rfl
theorem uD(as:List Gi):as.map eA=(as.map ak).map kT:=by
 rw[Rq];exact R5 fun a _=>(Ef a).symm
theorem fQ:∀(l:List Int) (b:Int),b<=l.foldl max b/\(∀x∈l,x<=l.foldl max b)/\(l.foldl max b=b\/l.foldl max b∈l)
 |[],b=>⟨Wy _,fun _ h=>(nomatch h),.inl rfl⟩
 |a::l,b=>by
  obtain⟨h1,h2,h3⟩:=fQ l (max b a);rw[Ta];refine⟨by lia,fun x hx=>?_,?_⟩
  ·rcases Ri.mp hx with rfl|hx
   ·lia
   ·exact h2 x hx
  ·rcases h3 with h3|h3
   ·rw[h3];by_cases h:b<=a
    ·exact .inr (by rw[Int.max_eq_right h];exact Q2)
    ·exact .inl (Int.max_eq_left (by lia))
   ·exact .inr (Q7 _ h3)
theorem wO{ns:List Int}{x:Int}(h:x∈ns):x<=qI ns:=(fQ ns _).2.1 x h
theorem wQ{ns:List Int}(h:ns≠[]):qI ns∈ns:=by
 cases ns with
 |nil=>exact absurd rfl h
 |cons a l=>
  rcases(fQ (a::l) a).2.2 with e|e
  ·show List.foldl max a (a::l)∈a::l;rw[e];exact Q2
  ·exact e
theorem zW{ns:List Int}{d x:Int}(h:x∈ns):x<=NX.maxD ns d:=by
 unfold NX.maxD;rw[Rg (List.ne_nil_of_mem h)];exact wO h
theorem uE(ns:List Int)(d:Int):(ns=[]/\NX.maxD ns d=d)\/NX.maxD ns d∈ns:=by
 unfold NX.maxD;by_cases h:ns=[]
 ·exact .inl ⟨h,Rb h⟩
 ·rw[Rg h];exact .inr (wQ h)
theorem o6(a:Gi):a.1<=qi a/\a.2.2<=qi a/\(qi a=a.1\/qi a=a.2.2):=by
 unfold qi;split
 ·exact⟨by lia,by lia,.inr rfl⟩
 ·exact⟨by lia,by lia,.inl rfl⟩
theorem nW{ap:List Gi}{a:Gi}(h:a∈ap):a.1<aR ap/\a.2.2<aR ap:=by
 have h1:=zW (d:=0) (RW.mpr ⟨a,h,rfl⟩:qi a∈ap.map qi);obtain⟨h2,h3,_⟩:=o6 a;unfold aR;lia
theorem rq{ap:List Gi}(h:∀a∈ap,0<=a.1/\0<=a.2.2):1<=aR ap:=by
 unfold aR;rcases uE (ap.map qi) 0 with⟨_,e⟩|e
 ·lia
 ·obtain⟨a,ha,e2⟩:=oz e;have:=h a ha;obtain⟨h1,h2,_⟩:=o6 a;lia
theorem c8{α:Type}(lt:α->α->Bool){l:List α}{a:α}:a∈bD lt l<->a∈l:=(dm lt l).mem_iff
structure Ra(nY:LNN)(as:List Gi)(mZ:Nat):Prop where
 mm:1<=mZ/\mZ<=12
 len:as.length<=60
 bd:∀a∈as,(0<=a.1/\a.1<(mZ:Int))/\0<=a.2.2/\a.2.2<(mZ:Int)
 nm:∀a∈as,a.2.1∈nY
 rc:∃f:Nat->Nat,∀j:Nat,1<=j->j<mZ->∃a∈as,a.2.2=(j:Int)/\∃b:Nat,f b<f j/\a.1=(b:Int)
theorem ke{ap:List Gi}{mZ:Nat}(hm:1<=mZ)(h:∀a∈ap,(0<=a.1/\a.1<(mZ:Int))/\0<=a.2.2/\a.2.2<(mZ:Int)):1<=aR ap/\aR ap<=(mZ:Int):=by
 refine⟨rq fun a ha=>?_,?_⟩
 ·have:=h a ha;lia
 ·unfold aR;rcases uE (ap.map qi) 0 with⟨_,e⟩|e
  ·lia
  ·obtain⟨a,ha,e2⟩:=oz e;have:=h a ha;obtain⟨h1,h2,h3⟩:=o6 a;lia
theorem Ra.sort{nY:LNN}{as:List Gi}{mZ:Nat}(r:Ra nY as mZ):Ra nY (bD cN as) mZ:=by
 refine⟨r.mm,by rw[ir];exact r.len,fun a ha=>r.bd a ((c8 cN).mp ha),fun a ha=>r.nm a ((c8 cN).mp ha),?_⟩;obtain⟨f,h⟩:=r.rc;refine⟨f,fun j h1 h2=>?_⟩;obtain⟨a,ha,q⟩:=h j h1 h2;exact⟨a,(c8 cN).mpr ha,q⟩
theorem uF(as:List Gi)(h:as.length<64):eI [.lst (as.map eA)]=.ok (.l .f,.lst ((bD cN as).map eA)):=by
 have key:jJ (as.map eA)=some ((bD cN as).map eA):=by
  cases as with
  |nil=>rfl
  |cons a as=>
   have e1:iX ((a::as).map eA)=some ((a::as).map ak):=by rw[uD,iK]
   have e2:sameKinds (ak a) (as.map ak)=true:=by
    unfold sameKinds;rw[Su,Rh,RD];exact⟨rfl,fun b _=>rfl⟩
   unfold jJ;rw[e1,eg,eg];dsimp only[eA,dh,eX];rw[Rb e2,<-eg,nV ak c9,uD];rfl
 unfold eI;dsimp only;rw[Rb (by rw[bH];exact h),key]
theorem rA{α:Type}{l:List α}{x:α}{j:Nat}{y:α}(h:(l++[x])[j]?=some y):l[j]?=some y\/(j=l.length/\y=x):=by
 by_cases hj:j<l.length
 ·rw[List.getElem?_append_left hj]at h;exact .inl h
 ·rw[List.getElem?_append_right (by lia)]at h;by_cases e:j-l.length=0
  ·rw[e]at h;exact .inr ⟨by lia,by simpa using h.symm⟩
  ·rw[List.getElem?_eq_none (by simp;lia)]at h;cases h
def cell(ns:List Int)(k:Nat):Int:=ns.getD k 0
theorem k8(ns:List Int)(k:Nat):aF [.lst (ns.map D.int),.int (k:Int)]=.ok (.f,.int (cell ns k)):=by
 unfold aF gw cell;rw[bq (h:=by rfl)];simp only[pv,seval,op,bH];by_cases h:k<ns.length
 ·have h1:(k:Int)<(ns.length:Int):=by lia
  simp only[h1,Tr,pv,seval,kZ h]
 ·have h1:¬ (k:Int)<(ns.length:Int):=by lia
  simp only[h1,SV,pv,seval,fP,List.getD_eq_getElem?_getD,List.getElem?_eq_none (Nat.le_of_not_lt h),S3]
theorem Cn(x y:Int)(h:dg x=true):y9 (.int x) (.int y)=.ok (.f,.int (x*y)):=by rw[ux,h,Bool.true_or,Rb rfl]
theorem EI(x y:Int)(h:dg y=true):y9 (.int x) (.int y)=.ok (.f,.int (x*y)):=by rw[ux,h,Bool.or_true,Rb rfl]
theorem qj(x:Int)(h:0<=x)(h2:x<=4294967296):dg x=true:=by
 unfold dg;rw[Ro];lia
def uG(c k:Int):Int:=((((c%2147483647+48271*(k+1))*(c%2147483647+48271*(k+1))+69621*k)%2147483647)*(((c%2147483647+48271*(k+1))*(c%2147483647+48271*(k+1))+69621*k)%2147483647)+16807*k+1)%2147483647
theorem l9(c k:Int)(hk:0<=k)(OE:k<=1000):aS [.int c,.int k]=.ok (.f,.int (uG c k)):=by
 have b1:=gf c 2147483647 (by decide);have b2:=gf ((c%2147483647+48271*(k+1))*(c%2147483647+48271*(k+1))+69621*k) 2147483647 (by decide);unfold aS i5 uG;rw[bq (h:=by rfl)];rw[ax (env':=[some (.f,.int c),some (.f,.int k),some (.f,.int (c%2147483647+48271*(k+1)))]) (by simp only[pv,↓reduceIte,Nat.reduceAdd,Nat.reduceLT,Nat.reduceLeDiff,Nat.reduceEqDiff,op,k4 _ 2147483647 (by decide),Cn 48271 (k+1) (by decide)])];have hs:dg (c%2147483647+48271*(k+1))=true:=qj _ (by lia) (by lia);generalize c%2147483647+48271*(k+1)=x at *;rw[ax (env':=[some (.f,.int c),some (.f,.int k),some (.f,.int ((x*x+69621*k)%2147483647))]) (by simp only[pv,↓reduceIte,Nat.reduceAdd,Nat.reduceLT,Nat.reduceLeDiff,Nat.reduceEqDiff,op,k4 _ 2147483647 (by decide),Cn x x hs,Cn 69621 k (by decide)])];generalize (x*x+69621*k)%2147483647=y at *;have hs:dg y=true:=qj _ (by lia) (by lia);simp only[pv,↓reduceIte,Nat.reduceAdd,Nat.reduceLT,Nat.reduceLeDiff,Nat.reduceEqDiff,op,k4 _ 2147483647 (by decide),Cn y y hs,Cn 16807 k (by decide)]
theorem ql:∀l:List Nat,joinL [] (l.map fun c=>[c])=l
 |[]=>rfl
 |[c]=>rfl
 |c::d::l=>by
  have ih:=ql (d::l);show[c]++[]++joinL [] ((d::l).map fun c=>[c])=_;rw[ih];rfl
theorem uH:∀l:List Nat,((l.map fun c=>[c]).map List.length).sum=l.length
 |[]=>rfl
 |c::l=>by
  rw[eg,eg,VE,uH l];show 1+l.length=l.length+1;lia
theorem zX(l:List Nat)(h:l.length<=1000):tW [] [.lst ((l.map fun c=>[c]).map D.str)]=.ok (.f,.str l):=by
 unfold tW;dsimp only;rw[d9];dsimp only;rw[Rb (by rw[uH,Sa,Nat.mul_zero];lia),ql]
theorem xN(a:List Nat)(l:LNN):Kr (.str a) (.lst (l.map D.str))=.ok (.f,.bl (decide (a∈l))):=by
 unfold Kr;dsimp only;rw[f9,wF,plainD];all_goals simp
def Kd(base:List Int)(wd sp:Nat)(tk:Bool)(k:Nat):List Int:=if tk then base.take (k+1) else(base.take wd).set sp ((base.getD sp 0+(k:Int))%26)
def IA(base:List Int)(wd sp:Nat)(tk:Bool)(k:Nat):List Nat:=(Kd base wd sp tk k).map fun j=>97+j.toNat
theorem zY(l:List Int)(hb:∀j∈l,0<=j/\j<26):cO (aD 0) eW (aB Gk (ao 1) (ao 0)) (l.map D.int) [none,some (.f,.str Iz)]=.ok (((l.map fun j=>97+j.toNat).map fun c=>[c]).map D.str):=by
 rw[bN (r:=fun j:Int=>D.str [97+j.toNat]) (fun env=>∃t,env=[t,some (.f,.str Iz)]) l ?_ _ ⟨none,rfl⟩]
 ·rw[Rq,Rq];rfl
 ·rintro j hj env ⟨t,rfl⟩;obtain⟨h0,h1⟩:=hb j hj;refine⟨[some (.f,.int j),some (.f,.str Iz)],rfl,.f,[some (.f,.int j),some (.f,.str Iz)],?_,_,rfl⟩;simp only[pv,seval,op,Ck j h0 h1]
theorem Eg(base:List Int)(hb:∀j∈base,0<=j/\j<26)(wd sp:Nat)(tk:Bool)(k:Nat):∀j∈Kd base wd sp tk k,0<=j/\j<26:=by
 intro j hj;unfold Kd at hj;split at hj
 ·exact hb j (Vl hj)
 ·rcases List.mem_or_eq_of_mem_set hj with h|h
  ·exact hb j (Vl h)
  ·rw[h];exact gf _ _ (by decide)
theorem uI(base:List Int)(hl:base.length=8)(wd sp:Nat)(tk:Bool)(k:Nat):(Kd base wd sp tk k).length<=8:=by
 unfold Kd;split
 ·rw[RX];lia
 ·rw[RN,RX];lia
theorem Co(GS:Int)(base:List Int)(hl:base.length=8)(hb:∀j∈base,0<=j/\j<26)(wd sp:Nat)(hw:wd<=8)(hs:sp<wd)(tk:Bool)(OR:(GS / 64%4==1)=tk)(l:LNN)(hll:l.length<=10)(k:Nat)(t7:Option R):
  ∃u7,cJ [some (.f,.int GS),some (.f,.str Iz),some (.l .f,.lst (base.map D.int)),some (.f,.int (wd:Int)),some (.f,.int (sp:Int)),some (.l .f,.lst (l.map D.str)),some (.f,.int (k:Int)),t7]=.ok (.nx [some (.f,.int GS),some (.f,.str Iz),some (.l .f,.lst (base.map D.int)),some (.f,.int (wd:Int)),some (.f,.int (sp:Int)),some (.l .f,.lst ((l++[IA base wd sp tk k]).map D.str)),some (.f,.int (k:Int)),u7]):=by
 have KG:iC (base.map D.int) none (some (wd:Int))=(base.take wd).map D.int:=by rw[qh,VG]
 have J5:Ht ((base.take wd).map D.int) (sp:Int)=some (.int (base.getD sp 0)):=by
  rw[kZ (by rw[RX];lia)];congr 2
  rw[List.getD_eq_getElem?_getD,List.getD_eq_getElem?_getD,List.getElem?_take_of_lt hs]
 have HB:ixN (base.take wd).length (sp:Int)=some sp:=zR _ _ (by rw[RX];lia);have hnl:=uI base hl wd sp tk k;have LC:=zY (Kd base wd sp tk k) (Eg base hb wd sp tk k);have hj:=zX (IA base wd sp tk k) (by unfold IA;rw[bH];lia);have hz:(l.map D.str).length<sizeLine:=ka (by rw[bH];lia);have hzl:(((IA base wd sp tk k).map fun c=>[c]).map D.str).length<=sizeLine:=bA (by unfold IA;rw[bH,bH,bH];lia);have LQ:=PV.flat_strs ((IA base wd sp tk k).map fun c=>[c]);have LC:cO (aD 0) eW (aB Gk (ao 1) (ao 0)) ((Kd base wd sp tk k).map D.int) [none,some (.f,.str Iz)]=.ok (((IA base wd sp tk k).map fun c=>[c]).map D.str):=LC;unfold cJ;rw[ax (env':=[some (.f,.int GS),some (.f,.str Iz),some (.l .f,.lst (base.map D.int)),some (.f,.int (wd:Int)),some (.f,.int (sp:Int)),some (.l .f,.lst (l.map D.str)),some (.f,.int (k:Int)),some (.l .f,.lst ((base.take wd).map D.int))]) (by simp only[pv,seval,op,KG])];rw[ax (env':=[some (.f,.int GS),some (.f,.str Iz),some (.l .f,.lst (base.map D.int)),some (.f,.int (wd:Int)),some (.f,.int (sp:Int)),some (.l .f,.lst (l.map D.str)),some (.f,.int (k:Int)),some (.l .f,.lst (((base.take wd).set sp ((base.getD sp 0+(k:Int))%26)).map D.int))]) (by
  rw[List.map_set];simp only[pv,seval,op,J5,k4 _ 26 (by decide),bH,HB])]
 rw[ax (env':=[some (.f,.int GS),some (.f,.str Iz),some (.l .f,.lst (base.map D.int)),some (.f,.int (wd:Int)),some (.f,.int (sp:Int)),some (.l .f,.lst (l.map D.str)),some (.f,.int (k:Int)),some (.l .f,.lst ((Kd base wd sp tk k).map D.int))]) (by
  unfold Kd;cases tk with
  |true=>
   have Ob:iC (base.map D.int) none (some ((k:Int)+1))=(base.take (k+1)).map D.int:=by rw[show(k:Int)+1=((k+1:Nat):Int) by lia,qh,VG]
   simp only[pv,seval,op,jj _ 64 (by decide) (by decide),k4 _ 4 (by decide),OR,Ob]
  |false=>simp only[pv,seval,op,jj _ 64 (by decide) (by decide),k4 _ 4 (by decide),OR,fP])]
 refine⟨some (.l .f,.lst ((Kd base wd sp tk k).map D.int)),?_⟩;generalize Kd base wd sp tk k=W at *;generalize IA base wd sp tk k=V at *;rw[Rw,eg,RS];generalize (aB Gk (ao 1) (ao 0))=GG at LC ⊢;simp only[pv,seval,op,LC,hzl,LQ,hj,hz]
theorem zZ(base:List Int)(hl:base.length=8)(hb:∀j∈base,0<=j/\j<26)(wd sp:Nat)(hw:wd<=8)(hs:sp<wd)(tk:Bool)(k k':Nat)(hk:k<=5)(hk':k'<=5)(e:IA base wd sp tk k=IA base wd sp tk k'):k=k':=by
 unfold IA Kd at e;cases tk with
 |true=>
  have:=R7 List.length e;simp only[TL,bH,RX]at this;lia
 |false=>
  have e2:=R7 (fun l=>l[sp]?) e;have Gy:sp<(base.take wd).length:=by rw[RX];lia
  simp only[fP,T8,List.getElem?_map,List.getElem?_set_self Gy,Option.map_some,UB]at e2;have b1:=gf (base.getD sp 0+(k:Int)) 26 (by decide);have b2:=gf (base.getD sp 0+(k':Int)) 26 (by decide);generalize base.getD sp 0=z at *;lia
theorem z4(GS:Int):∃l:LNN,l.length=5/\l.Nodup/\l.Pairwise (fun a b=>J2 b a=false)/\cB [.int GS]=.ok (.l .f,.lst (l.map D.str)):=by
 unfold cB i6;rw[bq (h:=by rfl)];rw[ax (env':=[some (.f,.int GS),some (.f,.str Iz),none,none,none,none,none,none]) (by simp only[pv,seval,op];rfl)];have hc:cO (aD 0) eW (aB fY (au (eZ aS (ai (ao 1) (ai (ao 0) aG)))) (au (aI (.int 26)))) ((List.range 8).map fun(k:Nat)=>D.int (k:Int)) [none,some (.f,.int GS)]=.ok (((List.range 8).map fun(k:Nat)=>uG GS (k:Int)%26).map D.int):=by
  rw[bN (r:=fun k:Nat=>D.int (uG GS (k:Int)%26)) (fun env=>∃t,env=[t,some (.f,.int GS)]) (List.range 8) ?_ _ ⟨none,rfl⟩]
  ·rw[Rq];rfl
  ·rintro k hk env ⟨t,rfl⟩;have hk:=RL.mp hk;refine⟨[some (.f,.int (k:Int)),some (.f,.int GS)],rfl,.f,[some (.f,.int (k:Int)),some (.f,.int GS)],?_,_,rfl⟩;simp only[pv,seval,op,l9 GS (k:Int) (by lia) (by lia),k4 _ 26 (by decide)]
 have OS:((List.range 8).map fun(k:Nat)=>uG GS (k:Int)%26).length=8:=rfl;have Np:∀j∈((List.range 8).map fun(k:Nat)=>uG GS (k:Int)%26),0<=j/\j<26:=by
  intro j hj;obtain⟨k,_,rfl⟩:=oz hj;exact gf _ _ (by decide)
 generalize ((List.range 8).map fun(k:Nat)=>uG GS (k:Int)%26)=base at hc OS Np;have hlen:(base.map D.int).length<=sizeLine:=bA (by rw[bH];lia);have hff:=F8 base;rw[ax (env':=[some (.f,.int GS),some (.f,.str Iz),some (.l .f,.lst (base.map D.int)),none,none,none,none,none]) (by
  generalize (aB fY (au (eZ aS (ai (ao 1) (ai (ao 0) aG)))) (au (aI (.int 26))))=GG at hc ⊢;simp only[pv,seval,op];rw[Rb (by decide)];simp only[pv,seval,op,show(8:Int).toNat=8 from rfl,hc,hlen,hff])]
 have m8:=gf GS 8 (by decide);obtain⟨wd,ew⟩:=RE (show 0<=1+GS%8 by lia);have msp:=gf (GS / 8) (wd:Int) (by lia);obtain⟨sp,es⟩:=RE msp.1;rw[ax (env':=[some (.f,.int GS),some (.f,.str Iz),some (.l .f,.lst (base.map D.int)),some (.f,.int (wd:Int)),none,none,none,none]) (by simp only[pv,seval,op,k4 _ 8 (by decide),ew])];rw[ax (env':=[some (.f,.int GS),some (.f,.str Iz),some (.l .f,.lst (base.map D.int)),some (.f,.int (wd:Int)),some (.f,.int (sp:Int)),none,none,none]) (by simp only[pv,seval,op,jj _ 8 (by decide) (by decide),k4 _ (wd:Int) (by lia),es])];rw[ax (env':=[some (.f,.int GS),some (.f,.str Iz),some (.l .f,.lst (base.map D.int)),some (.f,.int (wd:Int)),some (.f,.int (sp:Int)),some (.l .f,.lst []),none,none]) (by simp only[pv,seval,op])];obtain⟨tk,OR⟩:∃tk,(GS / 64%4==1)=tk:=⟨_,rfl⟩
 obtain⟨env',ef,t6,t7,rfl⟩:=o4 (a:=aD 6) (g:=cJ) (e:=fun k=>D.int (k:Int)) 5 (fun i env=>∃(t6 t7:Option R),env=[some (.f,.int GS),some (.f,.str Iz),some (.l .f,.lst (base.map D.int)),some (.f,.int (wd:Int)),some (.f,.int (sp:Int)),some (.l .f,.lst (((List.range i).map (IA base wd sp tk)).map D.str)),t6,t7]) (by
  rintro k env hk ⟨t6,t7,rfl⟩;obtain⟨u7,e⟩:=Co GS base OS Np wd sp (by lia) (by lia) tk OR ((List.range k).map (IA base wd sp tk)) (by rw[bH,Rr];lia) k t7;rw[show((List.range k).map (IA base wd sp tk))++[IA base wd sp tk k]=(List.range (k+1)).map (IA base wd sp tk) by rw[List.range_succ,Rw];rfl]at e;exact⟨_,rfl,_,e,_,_,rfl⟩) _ ⟨none,none,rfl⟩
 rw[List.range_zero,RS,RS]at ef;rw[ax (env':=_) (by
  unfold gx;simp only[pv,seval,op];rw[Rb (by decide)];simp only[pv,seval,op,show(5:Int).toNat=5 from rfl];exact ef)]
 unfold fD;have KH:((List.range 5).map (IA base wd sp tk)).length=5:=by rw[bH,Rr]
 have Md:((List.range 5).map (IA base wd sp tk)).Nodup:=dC _ 5 fun i j hi hj e=>zZ base OS Np wd sp (by lia) (by lia) tk i j (by lia) (by lia) e
 have QA:∀n∈((List.range 5).map (IA base wd sp tk)),n.length<=8:=by
  intro n hn;obtain⟨k,_,rfl⟩:=oz hn;unfold IA;rw[bH];exact uI base OS wd sp tk k
 generalize ((List.range 5).map (IA base wd sp tk))=l at KH Md QA;by_cases hm:[109,111,118,101,115]∈l
 ·have IV:cO (aD 0) eW (aB cP (au (aI (.str [115]))) (ao 0)) (l.map D.str) [none]=.ok ((l.map fun n=>115::n).map D.str):=by
   rw[bN (r:=fun n:List Nat=>D.str (115::n)) (fun env=>∃t,env=[t]) l ?_ _ ⟨none,rfl⟩]
   ·rw[Rq];rfl
   ·rintro n hn env ⟨t,rfl⟩;have:=QA n hn;refine⟨[some (.f,.str n)],rfl,.f,[some (.f,.str n)],?_,_,rfl⟩;simp only[pv,seval,op,FC [115] n (by rw[RI];lia)]
  have PY:((l.map fun n=>115::n).map D.str).length<=sizeLine:=bA (by rw[bH,bH];lia);have hnd2:(l.map fun n=>115::n).Nodup:=by
   rw[Tf,TR];exact(Tf.mp Md).imp fun{a b} h e=>h (SX e).2
  have LQ:=PV.flat_strs (l.map fun n=>115::n);rw[ax (env':=[some (.f,.int GS),some (.f,.str Iz),some (.l .f,.lst (base.map D.int)),some (.f,.int (wd:Int)),some (.f,.int (sp:Int)),some (.l .f,.lst ((l.map fun n=>115::n).map D.str)),t6,t7]) (by
   generalize (aB cP (au (aI (.str [115]))) (ao 0))=GG at IV ⊢;simp only[pv,seval,op,xN,hm,Tr,IV,PY,LQ])]
  refine⟨bD J2 (l.map fun n=>115::n),by rw[ir,bH];exact KH,(dm J2 _).nodup_iff.mpr hnd2,dI oN _,?_⟩;simp only[pv,seval,op,uA (l.map fun n=>115::n) (by rw[bH];lia)]
 ·rw[ax (env':=[some (.f,.int GS),some (.f,.str Iz),some (.l .f,.lst (base.map D.int)),some (.f,.int (wd:Int)),some (.f,.int (sp:Int)),some (.l .f,.lst (l.map D.str)),t6,t7]) (by simp only[pv,seval,op,xN,hm,SV,fP])];refine⟨bD J2 l,by rw[ir];exact KH,(dm J2 _).nodup_iff.mpr Md,dI oN _,?_⟩;simp only[pv,seval,op,uA l (by lia)]
theorem Cp(env:PV.Env)(fo:FO)(fp F2 fq:FP):D3 fo fp F2 fq env=Res.bnd (fo env) (f:=⟨fun p=>Res.bnd (fp p.2) (f:=⟨fun q=>Res.bnd (F2 q.2) (f:=⟨fun t=>Res.bnd (fq t.2) (f:=⟨fun u=>Res.bnd (Hi u.2 p.1) (f:=⟨fun d=>Res.bnd (BZ d q.1 t.1 u.1) (f:=⟨fun r=>.ok (r,u.2)⟩)⟩)⟩)⟩)⟩)⟩):=id rfl
theorem z5(env:PV.Env)(fa fb fc:FX):zk fa fb fc env=Res.bnd (fa env) (f:=⟨fun p=>Res.bnd (fb p.2) (f:=⟨fun q=>Res.bnd (fc q.2) (f:=⟨fun t=>.ok ((.t [.f,q.1.1,t.1.1],.tup [p.1.2,q.1.2,t.1.2]),t.2)⟩)⟩)⟩):=id rfl
theorem wR{α β:Type}(f:α->β)(l:List α)(lo hi:Option Int)(c:Int):fB (l.map f) lo hi c=(fB l lo hi c).map f:=by
 unfold fB;rw[bH,List.map_filterMap];congr 1
 funext i
 rw[List.getElem?_map]
theorem Eh(ds:List D)(lo hi:Option Int):BZ (.lst ds) lo hi (some 6)=.ok (.l .f,.lst (fB ds lo hi 6)):=id rfl
theorem Cq(ns:List Int)(first k:Int)(hk:0<=k/\k<=1000):∃v:Int,cR [.lst (ns.map D.int),.int first,.int k]=.ok (.f,.int v):=by
 unfold cR jX;rw[bq (h:=by rfl)];rw[ax (env':=[some (.f,.lst (ns.map D.int)),some (.f,.int first),some (.f,.int k),some (.f,.int (7+k)),none]) (by simp only[pv,↓reduceIte,Nat.reduceAdd,Nat.reduceLT,Nat.reduceLeDiff,Nat.reduceEqDiff,op])];obtain⟨env',ef,v,t4,rfl⟩:=for_list (a:=aD 4) (g:=dU) (e:=D.int) (fB ns (some (first+k)) (some (first+84)) 6) (fun j env=>∃(v:Int) (t4:Option R),env=[some (.f,.lst (ns.map D.int)),some (.f,.int first),some (.f,.int k),some (.f,.int v),t4]) (by
  rintro j c env hj ⟨v,t4,rfl⟩;refine⟨_,rfl,_,?_,uG (c+v) k,some (.f,.int c),rfl⟩;unfold dU;simp only[pv,↓reduceIte,Nat.reduceAdd,Nat.reduceLT,Nat.reduceLeDiff,Nat.reduceEqDiff,op,l9 (c+v) k hk.1 hk.2]) _ ⟨7+k,none,rfl⟩
 rw[ax (env':=_) (by
  unfold ig;simp only[pv,↓reduceIte,Nat.reduceAdd,Nat.reduceLT,Nat.reduceLeDiff,Nat.reduceEqDiff,op,Cp,Eh,wR];exact ef)]
 unfold gA;exact⟨v,by simp only[pv,↓reduceIte,Nat.reduceAdd,Nat.reduceLT,Nat.reduceLeDiff,Nat.reduceEqDiff,op]⟩
def Tk(l:List Int)(cnt:Nat):Prop:=l.length=cnt/\∀x∈l,0<=x/\x<=10
theorem Tk.app{l:List Int}{cnt:Nat}(h:Tk l cnt){x:Int}(hx:0<=x/\x<=10):Tk (l++[x]) (cnt+1):=by
 refine⟨by rw[mn,h.1];rfl,fun y hy=>?_⟩;rcases vg hy with hy|hy
 ·exact h.2 y hy
 ·rw[nS hy];exact hx
theorem z6(number:Int)(cnt:Nat)(hc:cnt<=10):∃(b:Int) (ts gs:List Int),(0<=b/\b<=10)/\Tk ts cnt/\Tk gs cnt/\cC [.int number,.int (cnt:Int)]=.ok (.t [.f,.l .f,.l .f],.tup [.int b,.lst (ts.map D.int),.lst (gs.map D.int)]):=by
 unfold cC i7;rw[bq (h:=by rfl)];rw[ax (env':=[some (.f,.int number),some (.f,.int (cnt:Int)),some (.l .f,.lst []),none,none,none,none,none]) (by simp only[pv,seval,op])];rw[ax (env':=[some (.f,.int number),some (.f,.int (cnt:Int)),some (.l .f,.lst []),some (.l .f,.lst []),none,none,none,none]) (by simp only[pv,seval,op])];obtain⟨env',ef,ts,gs,t4,t5,t6,t7,h1,h2,rfl⟩:=o4 (a:=aD 4) (g:=dA) (e:=fun k=>D.int (k:Int)) cnt (fun i env=>∃(ts gs:List Int) (t4 t5 t6 t7:Option R),Tk ts i/\Tk gs i/\env=[some (.f,.int number),some (.f,.int (cnt:Int)),some (.l .f,.lst (ts.map D.int)),some (.l .f,.lst (gs.map D.int)),t4,t5,t6,t7]) (by
  rintro j env hj ⟨ts,gs,t4,t5,t6,t7,h1,h2,rfl⟩;have z1:(ts.map D.int).length<sizeLine:=ka (by rw[bH,h1.1];lia);have z2:(gs.map D.int).length<sizeLine:=ka (by rw[bH,h2.1];lia);have M6:=l9 number (j:Int) (by lia) (by lia);generalize uG number (j:Int)=x at M6;have b1:=gf x 5 (by decide);have b2:=gf (x / 8) 4 (by decide);refine⟨[some (.f,.int number),some (.f,.int (cnt:Int)),some (.l .f,.lst (ts.map D.int)),some (.l .f,.lst (gs.map D.int)),some (.f,.int (j:Int)),t5,t6,t7],rfl,_,?_,ts++[(if 0<0-(x%5-2) then 0-(x%5-2) else 0)+x / 8%4 / 3],gs++[(if 0<x%5-2 then x%5-2 else 0)+x / 8%4 / 3],some (.f,.int (j:Int)),some (.f,.int x),some (.f,.int (x%5-2)),some (.f,.int (x / 8%4 / 3)),h1.app ?_,h2.app ?_,rfl⟩
  ·unfold dA;rw[ax (env':=[some (.f,.int number),some (.f,.int (cnt:Int)),some (.l .f,.lst (ts.map D.int)),some (.l .f,.lst (gs.map D.int)),some (.f,.int (j:Int)),some (.f,.int x),t6,t7]) (by simp only[pv,seval,op,M6])];rw[ax (env':=[some (.f,.int number),some (.f,.int (cnt:Int)),some (.l .f,.lst (ts.map D.int)),some (.l .f,.lst (gs.map D.int)),some (.f,.int (j:Int)),some (.f,.int x),some (.f,.int (x%5-2)),t7]) (by simp only[pv,seval,op,k4 _ 5 (by decide)])];generalize x%5-2=y;rw[ax (env':=[some (.f,.int number),some (.f,.int (cnt:Int)),some (.l .f,.lst (ts.map D.int)),some (.l .f,.lst (gs.map D.int)),some (.f,.int (j:Int)),some (.f,.int x),some (.f,.int y),some (.f,.int (x / 8%4 / 3))]) (by simp only[pv,seval,op,k4 _ 4 (by decide),jj _ 8 (by decide) (by decide),jj _ 3 (by decide) (by decide)])];generalize x / 8%4 / 3=z;rw[Rw,Rw,eg,eg,RS];rw[ax (env':=[some (.f,.int number),some (.f,.int (cnt:Int)),some (.l .f,.lst (ts.map D.int++[.int ((if 0<0-y then 0-y else 0)+z)])),some (.l .f,.lst (gs.map D.int)),some (.f,.int (j:Int)),some (.f,.int x),some (.f,.int y),some (.f,.int z)]) (by simp only[pv,seval,op,z1])];simp only[pv,seval,op,z2]
  ·split <;> lia
  ·split <;> lia) _ ⟨[],[],none,none,none,none,⟨rfl,(fun _ h=>nomatch h)⟩,⟨rfl,(fun _ h=>nomatch h)⟩,rfl⟩
 rw[RS]at ef;rw[ax (env':=_) (by
  unfold gB;simp only[pv,seval,op];rw[Rb (by lia)];simp only[pv,seval,op,RP];exact ef)]
 unfold fF;have b:=gf (number / 16) 4 (by decide);exact⟨number / 16%4,ts,gs,by lia,h1,h2,by simp only[pv,seval,op,z5,jj _ 16 (by decide) (by decide),k4 _ 4 (by decide)]⟩
abbrev Pl:=Int×List Int×List Int
def eP(p:Pl):D:=.tup [.int p.1,.tup (p.2.1.map D.int),.tup (p.2.2.map D.int)]
def Il(p:Pl)(cnt:Nat):Prop:=p.2.1.length=cnt/\p.2.2.length=cnt
theorem Cr(f:Int)(l:List Int)(h:∀x∈l,0<=x/\x<=10):cO (aD 0) eW (aB lT (ao 1) (ao 0)) (l.map D.int) [none,some (.f,.int f)]=.ok ((l.map fun x=>f*x).map D.int):=by
 rw[bN (r:=fun x:Int=>D.int (f*x)) (fun env=>∃t,env=[t,some (.f,.int f)]) l ?_ _ ⟨none,rfl⟩]
 ·rw[Rq];rfl
 ·rintro x hx env ⟨t,rfl⟩;have:=h x hx;refine⟨[some (.f,.int x),some (.f,.int f)],rfl,.f,[some (.f,.int x),some (.f,.int f)],?_,_,rfl⟩;simp only[pv,seval,op,EI f x (nU x (by lia) (by lia))]
theorem qm(b:Int)(hb:0<=b/\b<=10)(ts gs:List Int)(cnt:Nat)(hc:cnt<=10)(h1:Tk ts cnt)(h2:Tk gs cnt)(GS:Int):∃p:Pl,Il p cnt/\bL [.tup [.int b,.lst (ts.map D.int),.lst (gs.map D.int)],.int GS]=.ok (.f,eP p):=by
 have p50:Av (.int 10) (.int 50)=.ok (.f,.int (10 ^ 50)):=FA 50 (by decide);have m50:=gf GS (10 ^ 50) (by decide);unfold bL ij;rw[bq (h:=by rfl)];rw[ax (env':=[some (.f,.tup [.int b,.lst (ts.map D.int),.lst (gs.map D.int)]),some (.f,.int GS),some (.f,.int (1+GS%10 ^ 50)),none,none,none]) (by simp only[pv,↓reduceIte,Nat.reduceAdd,Nat.reduceLT,Nat.reduceLeDiff,Nat.reduceEqDiff,op,p50,k4 _ (10 ^ 50) (by decide)])];have hf:0<1+GS%10 ^ 50:=by
  generalize GS%10 ^ 50=q at m50;lia
 generalize 1+GS%10 ^ 50=f at hf;rw[ax (env':=[some (.f,.tup [.int b,.lst (ts.map D.int),.lst (gs.map D.int)]),some (.f,.int GS),some (.f,.int f),some (.f,.int b),some (.f,.lst (ts.map D.int)),some (.f,.lst (gs.map D.int))]) (by simp only[pv,↓reduceIte,Nat.reduceAdd,Nat.reduceLT,Nat.reduceLeDiff,Nat.reduceEqDiff,op])];have c1:=Cr f ts h1.2;have c2:=Cr f gs h2.2;have l1:((ts.map fun x=>f*x).map D.int).length<=sizeLine:=bA (by rw[bH,bH,h1.1];lia);have l2:((gs.map fun x=>f*x).map D.int).length<=sizeLine:=bA (by rw[bH,bH,h2.1];lia);have f1:=F8 (ts.map fun x=>f*x);have f2:=F8 (gs.map fun x=>f*x);refine⟨(f*b+GS / 7%f,ts.map fun x=>f*x,gs.map fun x=>f*x),⟨by rw[bH];exact h1.1,by rw[bH];exact h2.1⟩,?_⟩;unfold eP;dsimp only;generalize (ts.map fun x=>f*x).map D.int=T1 at *;generalize (gs.map fun x=>f*x).map D.int=T2 at *;have QB:=EI f b (nU b (by lia) (by lia));have Oc:=k4 (GS / 7) f hf;have hdiv:=jj GS 7 (by decide) (by decide);generalize f*b=fb at QB ⊢;generalize (GS / 7)%f=cf at Oc ⊢;rw[ax (env':=[some (.f,.tup [.int b,.lst (ts.map D.int),.lst (gs.map D.int)]),some (.f,.int GS),some (.f,.int f),some (.f,.int b),some (.f,.tup T1),some (.f,.lst (gs.map D.int))]) (by
  generalize (aB lT (ao 1) (ao 0))=GG at c1 ⊢;simp only[pv,↓reduceIte,Nat.reduceAdd,Nat.reduceLT,Nat.reduceLeDiff,Nat.reduceEqDiff,op,c1,l1,f1])]
 have QC:∀GG,GG=(aB lT (ao 1) (ao 0))->cO (aD 0) eW GG (gs.map D.int) [none,some (.f,.int f)]=.ok T2:=fun GG h=>by rw[h];exact c2
 rw[show(eV (gK (az (aB cP (au (aB lT (ao 2) (ao 3))) (au (aB fY (au (aB e7 (ao 1) (au (aI (.int 7))))) (ao 2)))) (az (aN 4) (az (bu dH (ai (au (dj (Hj (iL 5) (Hj (gI (aN 5)) (gJ (aN 5)))) [none,some 2] (aD 0) eW (aB lT (ao 1) (ao 0)))) aG)) bp)))))=(fun GG=>eV (gK (az (aB cP (au (aB lT (ao 2) (ao 3))) (au (aB fY (au (aB e7 (ao 1) (au (aI (.int 7))))) (ao 2)))) (az (aN 4) (az (bu dH (ai (au (dj (Hj (iL 5) (Hj (gI (aN 5)) (gJ (aN 5)))) [none,some 2] (aD 0) eW GG)) aG)) bp))))) (aB lT (ao 1) (ao 0)) from rfl];generalize eGG:(aB lT (ao 1) (ao 0))=GG;have c2:=QC GG eGG.symm;clear eGG QC;simp only[pv,↓reduceIte,Nat.reduceAdd,Nat.reduceLT,Nat.reduceLeDiff,Nat.reduceEqDiff,op,QB,Oc,hdiv,c2,l2,f2]
theorem wU(ns:List Int)(first:Nat)(cnt:Nat)(hc:cnt<=10)(ps:List Pl)(QD:∀p∈ps,Il p cnt)(hl:ps.length<=100)(k:Nat)(hk:k<=100)(t5 t6 t7:Option R):
  ∃(MN:List Pl) (u5 u6 u7:Option R),(∀p∈MN,Il p cnt)/\ps.length+1<=MN.length/\MN.length<=ps.length+2/\cq [some (.f,.lst (ns.map D.int)),some (.f,.int (first:Int)),some (.f,.int (cnt:Int)),some (.l .f,.lst (ps.map eP)),some (.f,.int (k:Int)),t5,t6,t7]=.ok (.nx [some (.f,.lst (ns.map D.int)),some (.f,.int (first:Int)),some (.f,.int (cnt:Int)),some (.l .f,.lst (MN.map eP)),some (.f,.int (k:Int)),u5,u6,u7]):=by
 obtain⟨v,ev⟩:=Cq ns (first:Int) (k:Int) (by lia);obtain⟨b,ts,gs,hb,h1,h2,ep⟩:=z6 v cnt hc;have c1:=k8 ns (first+k);rw[show((first+k:Nat):Int)=(first:Int)+(k:Int) by lia]at c1;have c2:=k8 ns (first+6+k);rw[show((first+6+k:Nat):Int)=(first:Int)+6+(k:Int) by lia]at c2;obtain⟨p1,QF,e1⟩:=qm b hb ts gs cnt hc h1 h2 (cell ns (first+k));have m4:=gf (v / 256) 4 (by decide);obtain⟨p2,Nx,e2⟩:=qm (v / 256%4) (by lia) gs ts cnt hc h2 h1 (cell ns (first+6+k));have IF:aE (.t [.f,.l .f,.l .f]) (.tup [.int b,.lst (ts.map D.int),.lst (gs.map D.int)])=true:=by
  have f1:=F8 ts;have f2:=F8 gs;simp only[aE,iT,flatD];rw[<-b7,<-b7,f1,f2];rfl
 have OT:∀p:Pl,flatD (eP p)=true:=fun p=>by
  unfold eP;rw[cu];simp only[flatDs,cu,F8,jv];rfl
 have hz1:(ps.map eP).length<sizeLine:=ka (by rw[bH];lia);have KS:(ps.map eP++[eP p1]).length<sizeLine:=ka (by rw[mn,bH,RI];lia);unfold cq;rw[ax (env':=[some (.f,.lst (ns.map D.int)),some (.f,.int (first:Int)),some (.f,.int (cnt:Int)),some (.l .f,.lst (ps.map eP)),some (.f,.int (k:Int)),some (.f,.int v),t6,t7]) (by simp only[pv,↓reduceIte,Nat.reduceAdd,Nat.reduceLT,Nat.reduceLeDiff,Nat.reduceEqDiff,op,ev])];rw[ax (env':=[some (.f,.lst (ns.map D.int)),some (.f,.int (first:Int)),some (.f,.int (cnt:Int)),some (.l .f,.lst (ps.map eP)),some (.f,.int (k:Int)),some (.f,.int v),some (.t [.f,.l .f,.l .f],.tup [.int b,.lst (ts.map D.int),.lst (gs.map D.int)]),t7]) (by simp only[pv,↓reduceIte,Nat.reduceAdd,Nat.reduceLT,Nat.reduceLeDiff,Nat.reduceEqDiff,op,ep,IF])];rw[ax (env':=[some (.f,.lst (ns.map D.int)),some (.f,.int (first:Int)),some (.f,.int (cnt:Int)),some (.l .f,.lst (ps.map eP++[eP p1])),some (.f,.int (k:Int)),some (.f,.int v),some (.t [.f,.l .f,.l .f],.tup [.int b,.lst (ts.map D.int),.lst (gs.map D.int)]),t7]) (by simp only[pv,↓reduceIte,Nat.reduceAdd,Nat.reduceLT,Nat.reduceLeDiff,Nat.reduceEqDiff,op,c1,e1,OT,hz1])];by_cases h3:0<v / 64%3
 ·refine⟨ps++[p1,p2],some (.f,.int v),some (.f,.tup [.int b,.lst (ts.map D.int),.lst (gs.map D.int)]),some (.f,.tup [.int (v / 256%4),.lst (gs.map D.int),.lst (ts.map D.int)]),fun p hp=>?_,by rw[mn];simp,by rw[mn];simp,?_⟩
  ·rcases vg hp with hp|hp
   ·exact QD p hp
   ·rcases Ri.mp hp with rfl|hp
    ·exact QF
    ·rw[nS hp];exact Nx
  ·rw[Rw,eg,eg,RS,show ps.map eP++[eP p1,eP p2]=(ps.map eP++[eP p1])++[eP p2] by rw[RK];rfl];simp only[pv,↓reduceIte,Nat.reduceAdd,Nat.reduceLT,Nat.reduceLeDiff,Nat.reduceEqDiff,op,jj _ 64 (by decide) (by decide),jj _ 256 (by decide) (by decide),k4 _ 3 (by decide),k4 _ 4 (by decide),gt_iff_lt,h3,Tr,at2,c2,e2,OT,KS]
 ·refine⟨ps++[p1],some (.f,.int v),some (.t [.f,.l .f,.l .f],.tup [.int b,.lst (ts.map D.int),.lst (gs.map D.int)]),t7,fun p hp=>?_,by rw[mn];simp,by rw[mn];simp,?_⟩
  ·rcases vg hp with hp|hp
   ·exact QD p hp
   ·rw[nS hp];exact QF
  ·rw[Rw,eg,RS];simp only[pv,↓reduceIte,Nat.reduceAdd,Nat.reduceLT,Nat.reduceLeDiff,Nat.reduceEqDiff,op,jj _ 64 (by decide) (by decide),k4 _ 3 (by decide),gt_iff_lt,h3,SV,fP]
theorem wV(ns:List Int)(first:Nat)(cnt:Nat)(hc:cnt<=10):∃ps:List Pl,(∀p∈ps,Il p cnt)/\ps≠[]/\ps.length<=8/\b9 [.lst (ns.map D.int),.int (first:Int),.int (cnt:Int)]=.ok (.l .f,.lst (ps.map eP)):=by
 have c1:aF [.lst (ns.map D.int),.int 1]=.ok (.f,.int (cell ns 1)):=k8 ns 1;have m4:=gf (cell ns 1 / 4) 4 (by decide);unfold b9 ik;rw[bq (h:=by rfl)];rw[ax (env':=[some (.f,.lst (ns.map D.int)),some (.f,.int (first:Int)),some (.f,.int (cnt:Int)),some (.l .f,.lst []),none,none,none,none]) (by simp only[pv,seval,op])];obtain⟨env',ef,ps,t4,t5,t6,t7,h1,h2,h3,rfl⟩:=o4 (a:=aD 4) (g:=cq) (e:=fun k=>D.int (k:Int)) (1+cell ns 1 / 4%4).toNat (fun i env=>∃(ps:List Pl) (t4 t5 t6 t7:Option R),(∀p∈ps,Il p cnt)/\i<=ps.length/\ps.length<=2*i/\env=[some (.f,.lst (ns.map D.int)),some (.f,.int (first:Int)),some (.f,.int (cnt:Int)),some (.l .f,.lst (ps.map eP)),t4,t5,t6,t7]) (by
  rintro k env hk ⟨ps,t4,t5,t6,t7,h1,h2,h3,rfl⟩;obtain⟨MN,u5,u6,u7,h1',Pg,h3',e⟩:=wU ns first cnt hc ps h1 (by lia) k (by lia) t5 t6 t7
  exact⟨_,rfl,_,e,MN,_,_,_,_,h1',by lia,by lia,rfl⟩) _ ⟨[],none,none,none,none,(fun _ h=>nomatch h),Q8 _,Q8 _,rfl⟩
 rw[RS]at ef;rw[ax (env':=_) (by
  unfold fG;simp only[pv,seval,op,c1,jj _ 4 (by decide) (by decide),k4 _ 4 (by decide)];rw[Rb (by lia)];simp only[pv,seval,op];exact ef)]
 unfold eY;refine⟨ps,h1,?_,by lia,by simp only[pv,seval,op]⟩;intro h;rw[h,Sa]at h2;lia
theorem Cs{α:Type}{l:List α}(h:l.Nodup)(lo hi:Option Int):(iC l lo hi).Nodup:=by
 unfold iC;exact(h.sublist (List.drop_sublist _ _)).sublist (Ut _ _)
theorem Cu{α:Type}{l:List α}{r:α->α->Prop}(h:l.Pairwise r)(lo hi:Option Int):(iC l lo hi).Pairwise r:=by
 unfold iC;exact(h.sublist (List.drop_sublist _ _)).sublist (Ut _ _)
theorem z7(ns:List Int):∃nY:LNN,nY≠[]/\nY.length<=3/\nY.Nodup/\nY.Pairwise (fun a b=>J2 b a=false)/\cD [.lst (ns.map D.int)]=.ok (.f,.tup (nY.map D.str)):=by
 have c0:aF [.lst (ns.map D.int),.int 0]=.ok (.f,.int (cell ns 0)):=k8 ns 0;have c1:aF [.lst (ns.map D.int),.int 1]=.ok (.f,.int (cell ns 1)):=k8 ns 1;obtain⟨l,hl,Md,hpw,en⟩:=z4 (cell ns 0);have m3:=gf (cell ns 1) 3 (by decide);unfold cD i8;rw[bq (h:=by rfl)];rw[ax (env':=[some (.f,.lst (ns.map D.int)),some (.l .f,.lst (l.map D.str)),none,none,none]) (by simp only[pv,seval,op,c0,en])];rw[ax (env':=[some (.f,.lst (ns.map D.int)),some (.l .f,.lst (l.map D.str)),some (.f,.int (cell ns 1)),none,none]) (by simp only[pv,seval,op,c1])];rw[ax (env':=[some (.f,.lst (ns.map D.int)),some (.l .f,.lst (l.map D.str)),some (.f,.int (cell ns 1)),some (.f,.int (1+cell ns 1%3)),none]) (by simp only[pv,seval,op,k4 _ 3 (by decide)])];obtain⟨cnt,ec⟩:=RE (show 0<=1+cell ns 1%3 by lia);rw[ec];have ms:=gf (cell ns 1 / 32) (6-(cnt:Int)) (by lia);obtain⟨st,es⟩:=RE ms.1;rw[ax (env':=[some (.f,.lst (ns.map D.int)),some (.l .f,.lst (l.map D.str)),some (.f,.int (cell ns 1)),some (.f,.int (cnt:Int)),some (.f,.int (st:Int))]) (by simp only[pv,seval,op,jj _ 32 (by decide) (by decide),k4 _ (6-(cnt:Int)) (by lia),es])];have KG:=zQ l st (st+cnt) (by lia) (by lia);have hlen:(iC l (some (st:Int)) (some ((st+cnt:Nat):Int))).length=cnt:=by
  rw[KG,RX,Tn];lia
 rw[show((st+cnt:Nat):Int)=(st:Int)+(cnt:Int) by lia]at hlen;refine⟨iC l (some (st:Int)) (some ((st:Int)+(cnt:Int))),?_,by lia,Cs Md _ _,Cu hpw _ _,?_⟩
 ·intro h;rw[h,Sa]at hlen;lia
 ·simp only[pv,seval,op,zS]
def cb(k:Nat):List (Int×Pl)->Option (List Int)
 |[]=>some []
 |z::zs=>if z.1<z.2.2.1.getD k 0 then none else(cb k zs).map fun r=>(z.1-z.2.2.1.getD k 0+z.2.2.2.getD k 0)::r
theorem nX(k:Nat):∀{zs:List (Int×Pl)}{r:List Int},cb k zs=some r->r.length=zs.length
 |[],r,h=>by cases h;rfl
 |z::zs,r,h=>by
  rw[cb]at h;split at h
  ·cases h
  ·rw[RH]at h;obtain⟨r',h1,rfl⟩:=h;rw[Rk,Rk,nX k h1]
theorem qo(k:Nat):∀{zs:List (Int×Pl)}{r:List Int}{j:Nat}{z:Int×Pl},cb k zs=some r->zs[j]?=some z->¬ z.1<z.2.2.1.getD k 0/\r[j]?=some (z.1-z.2.2.1.getD k 0+z.2.2.2.getD k 0)
 |[],r,j,z,h,e=>by cases e
 |y::zs,r,j,z,h,e=>by
  rw[cb]at h;split at h
  ·cases h
  ·rename_i hn;rw[RH]at h;obtain⟨r',h1,rfl⟩:=h;cases j with
   |zero=>
    rw[List.getElem?_cons_zero]at e;cases e;exact⟨hn,rfl⟩
   |succ j=>
    rw[List.getElem?_cons_succ]at e ⊢;exact qo k h1 e
theorem Cv(A0 A1 A2:Option R)(k cnt:Nat)(hk:k<cnt)(acc:List Int)(hl:acc.length<=1000)(z:Int×Pl)(hz:Il z.2 cnt):cp [A0,A1,A2,some (.f,.int (k:Int)),some (.l .f,.lst (acc.map D.int)),some (.f,.int z.1),some (.f,eP z.2)]=if z.1<z.2.2.1.getD k 0 then .ok (.rt (.f,.non)) else .ok (.nx [A0,A1,A2,some (.f,.int (k:Int)),some (.l .f,.lst ((acc++[z.1-z.2.2.1.getD k 0+z.2.2.2.getD k 0]).map D.int)),some (.f,.int z.1),some (.f,eP z.2)]):=by
 have h1:Ht (z.2.2.1.map D.int) (k:Int)=some (.int (z.2.2.1.getD k 0)):=kZ (by rw[hz.1];exact hk);have h2:Ht (z.2.2.2.map D.int) (k:Int)=some (.int (z.2.2.2.getD k 0)):=kZ (by rw[hz.2];exact hk);have PY:(acc.map D.int).length<sizeLine:=ka (by rw[bH];lia);unfold cp eP;by_cases h:z.1<z.2.2.1.getD k 0
 ·rw[Rb h];simp only[pv,↓reduceIte,Nat.reduceAdd,Nat.reduceLT,Nat.reduceLeDiff,Nat.reduceEqDiff,op,h1,h,Tr]
 ·rw[Rg h,Rw,eg,RS];simp only[pv,↓reduceIte,Nat.reduceAdd,Nat.reduceLT,Nat.reduceLeDiff,Nat.reduceEqDiff,op,h1,h2,at2,h,SV,fP,PY]
theorem nZ(A0 A1 A2:Option R)(k cnt:Nat)(hk:k<cnt):∀(zs:List (Int×Pl)) (acc:List Int) (t5 t6:Option R),acc.length+zs.length<=1000->(∀z∈zs,Il z.2 cnt)->
  (cb k zs=none/\dD (kx 2 (aQ (aD 5) (aQ (aD 6) d4))) cp (zs.map fun z:Int×Pl=>D.tup [D.int z.1,eP z.2]) [A0,A1,A2,some (.f,.int (k:Int)),some (.l .f,.lst (acc.map D.int)),t5,t6]=.ok (.rt (.f,.non)))\/
  ∃r u5 u6,cb k zs=some r/\dD (kx 2 (aQ (aD 5) (aQ (aD 6) d4))) cp (zs.map fun z:Int×Pl=>D.tup [D.int z.1,eP z.2]) [A0,A1,A2,some (.f,.int (k:Int)),some (.l .f,.lst (acc.map D.int)),t5,t6]=.ok (.nx [A0,A1,A2,some (.f,.int (k:Int)),some (.l .f,.lst ((acc++r).map D.int)),u5,u6])
 |[],acc,t5,t6,_,_=>.inr ⟨[],t5,t6,rfl,by rw[Ru];rfl⟩
 |z::zs,acc,t5,t6,hl,hp=>by
  have h1:=Cv A0 A1 A2 k cnt hk acc (by rw[Rk]at hl;lia) z (hp z Q2);have ha:kx 2 (aQ (aD 5) (aQ (aD 6) d4)) (D.tup [D.int z.1,eP z.2]) [A0,A1,A2,some (.f,.int (k:Int)),some (.l .f,.lst (acc.map D.int)),t5,t6]=.ok [A0,A1,A2,some (.f,.int (k:Int)),some (.l .f,.lst (acc.map D.int)),some (.f,.int z.1),some (.f,eP z.2)]:=by simp only[pv,↓reduceIte,Nat.reduceAdd,Nat.reduceLT,Nat.reduceLeDiff,Nat.reduceEqDiff]
  rw[eg,cM,ha,Gs,h1,cb];by_cases h:z.1<z.2.2.1.getD k 0
  ·left;rw[Rb h,Rb h];exact⟨rfl,by rw[Gs]⟩
  ·rw[Rg h,Rg h,Gs];rcases nZ A0 A1 A2 k cnt hk zs (acc++[z.1-z.2.2.1.getD k 0+z.2.2.2.getD k 0]) (some (.f,.int z.1)) (some (.f,eP z.2)) (by rw[Rk]at hl;rw[mn,RI];lia) (fun y hy=>hp y (Q7 _ hy)) with⟨e1,e2⟩|⟨r,u5,u6,e1,e2⟩
   ·left;exact⟨by rw[e1];rfl,e2⟩
   ·right;refine⟨_,u5,u6,by rw[e1];rfl,?_⟩;rw[RK]at e2;exact e2
def eN(nY:LNN)(ps:List Pl):D:=.tup [.tup (nY.map D.str),.lst (ps.map eP)]
def eM(m:List Int):D:=.tup (m.map D.int)
theorem o7 {nY : LNN} {m : List Nat} (h : m ∈ nY) : ni (nY.map D.str) [.str m] = .ok (.f, .int ((nY.idxOf m : Nat) : Int)) := by
  first
    | (unfold ni
       dsimp only
       rw [d9]
       dsimp only
       rw [Rb h])
    | (unfold ni
       simp only [d9, h, TL])
theorem jw{α β:Type}(f:α->D)(g:β->D)(xs:List α)(ys:List β):((xs.map f).zip (ys.map g)).map (fun z=>D.tup [z.1,z.2])=(xs.zip ys).map fun z=>D.tup [f z.1,g z.2]:=by
 rw[List.zip_map,Rq];rfl
theorem Cw(nY:LNN)(ps:List Pl)(hl:ps.length<=100)(hp:∀p∈ps,Il p nY.length)(m:List Int)(mv:List Nat)(hm:mv∈nY):
  (cb (nY.idxOf mv) (m.zip ps)=none/\cx [eN nY ps,eM m,.str mv]=.ok (.f,.non))\/∃r,cb (nY.idxOf mv) (m.zip ps)=some r/\cx [eN nY ps,eM m,.str mv]=.ok (.f,eM r):=by
 have HB:=o7 hm;have hk:=Sd hm;generalize nY.idxOf mv=k at HB hk;unfold cx jW eN eM;rw[bq (h:=by rfl)];rw[ax (env':=[some (.f,.tup [.tup (nY.map D.str),.lst (ps.map eP)]),some (.f,.tup (m.map D.int)),some (.f,.str mv),some (.f,.int (k:Int)),none,none,none]) (by simp only[pv,seval,op,HB])];rw[ax (env':=[some (.f,.tup [.tup (nY.map D.str),.lst (ps.map eP)]),some (.f,.tup (m.map D.int)),some (.f,.str mv),some (.f,.int (k:Int)),some (.l .f,.lst []),none,none]) (by simp only[pv,seval,op])];rcases nZ (some (.f,.tup [.tup (nY.map D.str),.lst (ps.map eP)])) (some (.f,.tup (m.map D.int))) (some (.f,.str mv)) k nY.length hk (m.zip ps) [] none none (by rw[Sa,TC];lia) (fun z hz=>hp _ (SQ (show(z.1,z.2)∈m.zip ps from hz)).2) with⟨e1,e2⟩|⟨r,u5,u6,e1,e2⟩
 ·left;refine⟨e1,?_⟩;rw[RS]at e2;unfold eK;simp only[pv,seval,op,jw,e2]
 ·right;refine⟨r,e1,?_⟩;rw[RS,Tc]at e2;unfold eK gy;simp only[pv,seval,op,jw,e2]
theorem eqDs_ints:∀a b:List Int,iW (a.map D.int) (b.map D.int)=decide (a=b)
 |[],[]=>rfl
 |[],_::_=>rfl
 |_::_,[]=>rfl
 |x::a,y::b=>by
  rw[eg,eg,iW,eqDs_ints a b,F3,RG];simp
theorem uJ(a b:List Int):F3 (eM a) (eM b)=decide (a=b):=by
 unfold eM;rw[F3,eqDs_ints]
theorem fR(a:List Int):plainD 40 (eM a)=true:=wL a
theorem ma(l:List (List Int)):plainDs 40 (l.map eM)=true:=by
 induction l with
 |nil=>rfl
 |cons a l ih=>
  rw[eg,plainDs,ih,S1];exact fR a
theorem kg{α:Type}[DecidableEq α](a:α):∀l:List α,a∉l->((l++[a]).findIdx fun x=>decide (x=a))=l.length
 |[],_=>by simp
 |x::l,h=>by
  rw[Ri,not_or]at h;rw[SH,List.findIdx_cons,kg a l h.2,RF (fun e=>h.1 e.symm)];rfl
theorem Ei{α:Type}[DecidableEq α]{e:α->D}(he:∀a b,F3 (e a) (e b)=decide (a=b))(hp:∀l:List α,plainDs 40 (l.map e)=true)(hq:∀a,plainD 40 (e a)=true)(l:List α)(a:α)(h:a∉l):jS (l.map e++[e a]) [e a]=.ok (.f,.int (l.length:Int)):=by
 have e0:l.map e++[e a]=(l++[a]).map e:=by rw[Rw];rfl
 have e1:((l++[a]).map e).any (fun d=>F3 d (e a))=true:=by
  rw[Tv,Sq];exact⟨a,Q5 _ (Ry.mpr rfl),by show F3 (e a) (e a)=true;rw[he,RJ rfl]⟩
 have e2:((l++[a]).map e).findIdx (fun d=>F3 d (e a))=l.length:=by
  rw[List.findIdx_map];rw[<-kg a l h];congr 1
  funext x
  exact he x a
 unfold jS;dsimp only;rw[e0,hq,hp,e1,e2];rfl
theorem FJ{α:Type}[DecidableEq α]{e:α->D}(he:∀a b,F3 (e a) (e b)=decide (a=b))(hp:∀l:List α,plainDs 40 (l.map e)=true)(hq:∀a,plainD 40 (e a)=true)(l:List α)(a:α):Aw (e a) (.lst (l.map e))=.ok (.f,.bl (!decide (a∈l))):=by
 have e1:u3 (e a) (l.map e)=decide (a∈l):=by
  unfold u3;rw[Tv,RG,Sq,Ro];constructor
  ·rintro⟨x,hx,e1⟩;have e1:F3 (e x) (e a)=true:=e1;rw[he,Ro]at e1;rw[<-e1];exact hx
  ·intro h;refine⟨a,h,?_⟩;show F3 (e a) (e a)=true;rw[he,Ro]
 unfold Aw Kr;dsimp only;rw[hq,hp,Ss,Rb rfl,e1];rfl
structure Rm(nY:LNN)(ps:List Pl)(S:List (List Int))(A:List Gi)(m:Nat):Prop where
 nd:S.Nodup
 z:S[0]?=some (ps.map (·.1))
 ln:∀s∈S,s.length=ps.length
 le:S.length<=8
 ab:∀a∈A,a.2.1∈nY/\∃i j:Nat,i<m/\a.1=(i:Int)/\a.2.2=(j:Int)/\∃s t,S[i]?=some s/\S[j]?=some t/\cb (nY.idxOf a.2.1) (s.zip ps)=some t
 rc:∀j:Nat,1<=j->j<S.length->∃a∈A,a.2.2=(j:Int)/\∃b:Nat,b<j/\a.1=(b:Int)
theorem Rm.more{nY:LNN}{ps:List Pl}{S:List (List Int)}{A:List Gi}{m m':Nat}(r:Rm nY ps S A m)(h:m<=m'):Rm nY ps S A m':=⟨r.nd,r.z,r.ln,r.le,fun a ha=>by
 obtain⟨h1,i,j,h2,h3⟩:=r.ab a ha;exact⟨h1,i,j,by lia,h3⟩,r.rc⟩
theorem Rm.old{nY:LNN}{ps:List Pl}{S:List (List Int)}{A:List Gi}{d:Nat}(r:Rm nY ps S A (d+1)){mv:List Nat}(hn:mv∈nY){s t:List Int}(hs:S[d]?=some s){i:Nat}(ht:S[i]?=some t)(hf:cb (nY.idxOf mv) (s.zip ps)=some t):Rm nY ps S (A++[((d:Int),mv,(i:Int))]) (d+1):=by
 refine⟨r.nd,r.z,r.ln,r.le,fun a ha=>?_,fun j j1 j2=>?_⟩
 ·rcases vg ha with ha|ha
  ·exact r.ab a ha
  ·rw[nS ha];exact⟨hn,d,i,by lia,rfl,rfl,s,t,hs,ht,hf⟩
 ·obtain⟨a,ha,q⟩:=r.rc j j1 j2;exact⟨a,Q9 _ ha,q⟩
theorem Rm.new{nY:LNN}{ps:List Pl}{S:List (List Int)}{A:List Gi}{d:Nat}(r:Rm nY ps S A (d+1)){mv:List Nat}(hn:mv∈nY){s t:List Int}(hs:S[d]?=some s)(ht:t∉S)(hf:cb (nY.idxOf mv) (s.zip ps)=some t)(h8:S.length<8):Rm nY ps (S++[t]) (A++[((d:Int),mv,(S.length:Int))]) (d+1):=by
 have hd:=(oy hs).1;have hl:(S++[t]).length=S.length+1:=by rw[mn];rfl
 have up:∀{i:Nat}{x:List Int},S[i]?=some x->(S++[t])[i]?=some x:=fun{i x} h=>by
  rw[List.getElem?_append_left (oy h).1];exact h
 refine⟨Rv.mpr ⟨r.nd,Rx.mpr ⟨Se,SM⟩,fun x hx y hy=>?_⟩,up r.z,fun x hx=>?_,by lia,fun a ha=>?_,fun j j1 j2=>?_⟩
 ·rw[nS hy];rintro rfl;exact ht hx
 ·rcases vg hx with hx|hx
  ·exact r.ln x hx
  ·rw[nS hx,nX _ hf,TC,r.ln s (Rz hs),Nat.min_self]
 ·rcases vg ha with ha|ha
  ·obtain⟨h1,i,j,h2,h3,h4,x,y,h5,h6,h7⟩:=r.ab a ha;exact⟨h1,i,j,h2,h3,h4,x,y,up h5,up h6,h7⟩
  ·rw[nS ha];exact⟨hn,d,S.length,by lia,rfl,rfl,s,t,up hs,by rw[List.getElem?_append_right (Q8 _),Vc];rfl,hf⟩
 ·by_cases e:j=S.length
  ·subst e;exact⟨_,Q5 _ (Ry.mpr rfl),rfl,d,hd,rfl⟩
  ·obtain⟨a,ha,q⟩:=r.rc j j1 (by lia);exact⟨a,Q9 _ ha,q⟩
theorem kh(t:List Int):flatD (eM t)=true:=by
 unfold eM;rw[cu,F8]
def Fu(nY:LNN)(ps:List Pl)(S:List (List Int))(A:List Gi)(d j:Nat):Prop:=∀i k:Nat,(i<d\/(i=d/\k<j))->∀mv,nY[k]?=some mv->∀s t,S[i]?=some s->cb (nY.idxOf mv) (s.zip ps)=some t->∃m:Nat,S[m]?=some t/\((i:Int),mv,(m:Int))∈A
theorem Fu.next{nY:LNN}{ps:List Pl}{S S':List (List Int)}{A A':List Gi}{d j:Nat}(fu:Fu nY ps S A d j){s0:List Int}(hd:S[d]?=some s0)(up:∀(i:Nat) (x:List Int),S[i]?=some x->S'[i]?=some x)(ua:∀a∈A,a∈A'){mv:List Nat}(hj:nY[j]?=some mv)(new:∀t,cb (nY.idxOf mv) (s0.zip ps)=some t->∃m:Nat,S'[m]?=some t/\((d:Int),mv,(m:Int))∈A'):Fu nY ps S' A' d (j+1):=by
 intro i k h mv' hk s t hs hf;have hdl:=(oy hd).1;have KR:i<S.length:=by lia
 have PZ:S[i]?=some s:=by
  have:=up i _ (nR KR);rw[hs]at this;rw[nR KR,this]
 by_cases h2:i<d\/(i=d/\k<j)
 ·obtain⟨m,h3,h4⟩:=fu i k h2 mv' hk s t PZ hf;exact⟨m,up _ _ h3,ua _ h4⟩
 ·have e1:i=d:=by lia
  have e2:k=j:=by lia
  subst e1 e2;rw[hj]at hk;cases hk;rw[hd]at PZ;cases PZ;exact new t hf
theorem Fu.row{nY:LNN}{ps:List Pl}{S:List (List Int)}{A:List Gi}{d:Nat}(fu:Fu nY ps S A d nY.length):Fu nY ps S A (d+1) 0:=fun i k h mv hk s t hs hf=>fu i k (by
 have:=(oy hk).1;lia) mv hk s t hs hf
def Ke(k:Nat)(p:Pl):Int:=p.2.1.getD k 0
def OU(k:Nat)(p:Pl):Int:=p.2.2.getD k 0
def Cy(k:Nat)(zs:List (Int×Pl)):Bool:=zs.all fun z=>decide (Ke k z.2<=z.1)
theorem qp(k:Nat):∀zs:List (Int×Pl),cb k zs=if Cy k zs then some (zs.map fun z=>z.1-Ke k z.2+OU k z.2) else none
 |[]=>rfl
 |z::zs=>by
  rw[cb,qp k zs];unfold Cy;rw[Te];by_cases h:z.1<z.2.2.1.getD k 0
  ·have h2:decide (Ke k z.2<=z.1)=false:=RF (by unfold Ke;lia);rw[Rb h,h2,Uq,Rg Rc]
  ·have h2:decide (Ke k z.2<=z.1)=true:=RJ (by unfold Ke;lia);rw[Rg h,h2,VH];cases(zs.all fun z=>decide (Ke k z.2<=z.1)) with
   |true=>rw[Rb rfl,Rb rfl];rfl
   |false=>rw[Rg Rc,Rg Rc];rfl
theorem z8(nY:LNN)(ps:List Pl)(hl:ps.length<=100):bG [eN nY ps]=.ok (.f,eM (ps.map (·.1))):=by
 have hc:cO (aD 0) eW (aB Gk (ao 0) (au (aI (.int 0)))) (ps.map eP) [none]=.ok ((ps.map (·.1)).map D.int):=by
  rw[Rq];refine bN (fun env=>∃t,env=[t]) _ ?_ _ ⟨_,rfl⟩;rintro p _ env ⟨t,rfl⟩;refine⟨[some (.f,eP p)],by simp only[pv,seval],?_⟩;unfold eP;simp only[pv,seval,op,OQ];exact⟨_,_,rfl,_,rfl⟩
 have Od:((ps.map (·.1)).map D.int).length<=sizeLine:=line_le (by rw[bH,bH];lia);unfold bG fC eN;rw[bq (h:=by rfl)];simp only[pv,seval,op,M5,hc,Od,F8];rfl
theorem Cz{p:Pl}{k cnt:Nat}(h:Il p cnt)(hk:k<cnt):Ht (p.2.1.map D.int) (k:Int)=some (.int (Ke k p)):=kZ (by rw[h.1];exact hk)
theorem Ej{p:Pl}{k cnt:Nat}(h:Il p cnt)(hk:k<cnt):Ht (p.2.2.map D.int) (k:Int)=some (.int (OU k p)):=kZ (by rw[h.2];exact hk)
theorem wW(nY:LNN)(ps:List Pl)(hl:ps.length<=100)(hp:∀p∈ps,Il p nY.length)(m:List Int)(mv:List Nat)(hm:mv∈nY):f7 [eN nY ps,eM m,.str mv]=.ok (.f,.bl (Cy (nY.idxOf mv) (m.zip ps))):=by
 have HB:=o7 hm;have hk:=Sd hm;generalize nY.idxOf mv=k at HB hk;have hc:cO (kx 2 (aQ (aD 0) (aQ (aD 1) d4))) eW (aB NG (ao 0) (au (aB Gk (au (aB Gk (ao 1) (au (aI (.int 1))))) (ao 2)))) ((m.zip ps).map fun z=>D.tup [.int z.1,eP z.2]) [none,none,some (.f,.int (k:Int))]=.ok (((m.zip ps).map fun z=>decide (Ke k z.2<=z.1)).map D.bl):=by
  rw[Rq];refine bN (fun env=>∃t u,env=[t,u,some (.f,.int (k:Int))]) _ ?_ _ ⟨_,_,rfl⟩;rintro⟨x,p⟩ hz env ⟨t,u,rfl⟩;have e1:=Cz (hp p (SQ hz).2) hk;refine⟨_,j8 _ _ _ _ _,?_⟩;unfold eP;simp only[pv,seval,op,M5,e1];exact⟨_,_,rfl,_,_,rfl⟩
 have Od:(((m.zip ps).map fun z=>decide (Ke k z.2<=z.1)).map D.bl).length<=sizeLine:=line_le (by rw[bH,bH,TC];lia);unfold f7 p6 eN eM;rw[bq (h:=by rfl)];rw[ax (env':=[some (.f,.tup [.tup (nY.map D.str),.lst (ps.map eP)]),some (.f,.tup (m.map D.int)),some (.f,.str mv),some (.f,.int (k:Int))]) (by simp only[pv,seval,op,OQ,HB])];simp only[pv,seval,op,M5,jw,hc,Od,qg,xM];unfold Cy;rw[Su];rfl
def eO:Option (List Int)->D
 |none=>.non
 |some r=>eM r
theorem z9(o:Option (List Int)):flatD (eO o)=true:=by
 cases o with
 |none=>rfl
 |some r=>exact kh r
theorem Aa(nY:LNN)(ps:List Pl)(hl:ps.length<=100)(hp:∀p∈ps,Il p nY.length)(m:List Int)(mv:List Nat)(hm:mv∈nY):iN [eN nY ps,eM m,.str mv]=.ok (.f,eO (cb (nY.idxOf mv) (m.zip ps))):=by
 have hg:=wW nY ps hl hp m mv hm;have HB:=o7 hm;have hk:=Sd hm;rw[qp];generalize nY.idxOf mv=k at HB hk hg;have hc:cO (kx 2 (aQ (aD 0) (aQ (aD 1) d4))) eW (aB cP (au (aB mU (ao 0) (au (aB Gk (au (aB Gk (ao 1) (au (aI (.int 1))))) (ao 2))))) (au (aB Gk (au (aB Gk (ao 1) (au (aI (.int 2))))) (ao 2)))) ((m.zip ps).map fun z=>D.tup [.int z.1,eP z.2]) [none,none,some (.f,.int (k:Int))]=.ok (((m.zip ps).map fun z=>z.1-Ke k z.2+OU k z.2).map D.int):=by
  rw[Rq];refine bN (fun env=>∃t u,env=[t,u,some (.f,.int (k:Int))]) _ ?_ _ ⟨_,_,rfl⟩;rintro⟨x,p⟩ hz env ⟨t,u,rfl⟩;have e1:=Cz (hp p (SQ hz).2) hk;have e2:=Ej (hp p (SQ hz).2) hk;refine⟨_,j8 _ _ _ _ _,?_⟩;unfold eP;simp only[pv,seval,op,M5,at2,e1,e2];exact⟨_,_,rfl,_,_,rfl⟩
 have Od:(((m.zip ps).map fun z=>z.1-Ke k z.2+OU k z.2).map D.int).length<=sizeLine:=line_le (by rw[bH,bH,TC];lia);unfold iN uk;rw[bq (h:=by rfl)];cases hz:Cy k (m.zip ps) with
 |false=>
  rw[hz]at hg;simp only[pv,seval,hg,oX,oY,Tj,fP];rfl
 |true=>
  rw[hz]at hg;unfold eN eM at hg ⊢;rw[ax (env':=[some (.f,.tup [.tup (nY.map D.str),.lst (ps.map eP)]),some (.f,.tup (m.map D.int)),some (.f,.str mv),none]) (by simp only[pv,seval,hg,oX,oY,S2,fP])];rw[ax (env':=[some (.f,.tup [.tup (nY.map D.str),.lst (ps.map eP)]),some (.f,.tup (m.map D.int)),some (.f,.str mv),some (.f,.int (k:Int))]) (by simp only[pv,seval,op,OQ,HB])];simp only[pv,seval,op,M5,jw,hc,Od,F8];rfl
abbrev Rn:=List (List Int)×List Gi
def pos(S:List (List Int))(t:List Int):Nat:=S.findIdx fun x=>decide (x=t)
noncomputable def ki(nY:LNN)(ps:List Pl)(d:Nat)(mv:List Nat)(r:Rn):Option Rn:=match cb (nY.idxOf mv) ((r.1.getD d []).zip ps) with
 |none=>some r
 |some t=>if t∈r.1 then some (r.1,r.2++[((d:Int),mv,(pos r.1 t:Int))]) else if r.1.length=8 then none else some (r.1++[t],r.2++[((d:Int),mv,(r.1.length:Int))])
def uK(nY:LNN)(ps:List Pl)(d:Nat):LNN->Rn->Option Rn
 |[],r=>some r
 |mv::l,r=>(ki nY ps d mv r).bind (uK nY ps d l)
def xO(nY:LNN)(ps:List Pl):Nat->Nat->Rn->Option Rn
 | 0,_,r=>some r
 |f+1,d,r=>if d<r.1.length then(uK nY ps d nY r).bind (xO nY ps f (d+1)) else some r
theorem EJ{α:Type}[DecidableEq α]{e:α->D}(he:∀a b,F3 (e a) (e b)=decide (a=b))(hp:∀l:List α,plainDs 40 (l.map e)=true)(hq:∀a,plainD 40 (e a)=true)(l:List α)(a:α)(h:a∈l):jS (l.map e) [e a]=.ok (.f,.int ((l.findIdx fun x=>decide (x=a):Nat):Int)):=by
 have e1:(l.map e).any (fun d=>F3 d (e a))=true:=by
  rw[Tv,Sq];exact⟨a,h,by show F3 (e a) (e a)=true;rw[he,RJ rfl]⟩
 have e2:(l.map e).findIdx (fun d=>F3 d (e a))=l.findIdx fun x=>decide (x=a):=by
  rw[List.findIdx_map];congr 1
  funext x
  exact he x a
 unfold jS;dsimp only;rw[hq,hp,e1,e2];rfl
theorem CA(nY:LNN)(ps:List Pl)(hl:ps.length<=100)(hp:∀p∈ps,Il p nY.length)(S:List (List Int))(A:List Gi)(hA:A.length<=1000)(hS:S.length<=8)(d:Nat)(hd:d<S.length)(mv:List Nat)(hn:mv∈nY)(t6:Option R):
  match ki nY ps d mv (S,A) with
  |some (S',A')=>∃u6,bK [some (.f,eN nY ps),some (.f,.int 8),some (.l .f,.lst (S.map eM)),some (.l .f,.lst (A.map eA)),some (.f,.int ((d:Nat):Int)),some (.f,.str mv),t6]=.ok (.nx [some (.f,eN nY ps),some (.f,.int 8),some (.l .f,.lst (S'.map eM)),some (.l .f,.lst (A'.map eA)),some (.f,.int ((d:Nat):Int)),some (.f,.str mv),u6])
  |none=>bK [some (.f,eN nY ps),some (.f,.int 8),some (.l .f,.lst (S.map eM)),some (.l .f,.lst (A.map eA)),some (.f,.int ((d:Nat):Int)),some (.f,.str mv),t6]=.ok (.rt (.f,.non)):=by
 have LD:S[d]?=some S[d]:=nR hd;have P0:S.getD d []=S[d]:=by rw[List.getD_eq_getElem?_getD,LD];rfl
 have J5:Ht (S.map eM) (d:Int)=some (eM S[d]):=e9 (by rw[List.getElem?_map,LD];rfl);have hzA:(A.map eA).length<sizeLine:=ka (by rw[bH];lia);have hzS:(S.map eM).length<sizeLine:=ka (by rw[bH];lia);have OV:flatD .non=true:=rfl;unfold ki;dsimp only;rw[P0];unfold bK;rcases Cw nY ps hl hp S[d] mv hn with⟨hf,e⟩|⟨t,hf,e⟩
 ·rw[hf];dsimp only;refine⟨some (.f,.non),?_⟩;rw[ax (env':=[some (.f,eN nY ps),some (.f,.int 8),some (.l .f,.lst (S.map eM)),some (.l .f,.lst (A.map eA)),some (.f,.int ((d:Nat):Int)),some (.f,.str mv),some (.f,.non)]) (by simp only[pv,↓reduceIte,Nat.reduceAdd,Nat.reduceLT,Nat.reduceLeDiff,Nat.reduceEqDiff,op,J5,e,OV])];simp only[pv,↓reduceIte,Nat.reduceAdd,Nat.reduceLT,Nat.reduceLeDiff,Nat.reduceEqDiff,op,k7,fP]
 ·rw[hf];dsimp only;have hft:=kh t;have MO:=FJ uJ ma fR S t;have P1:isnO (eM t) .non=.ok (.f,.bl true):=id rfl;rw[ax (env':=[some (.f,eN nY ps),some (.f,.int 8),some (.l .f,.lst (S.map eM)),some (.l .f,.lst (A.map eA)),some (.f,.int ((d:Nat):Int)),some (.f,.str mv),some (.f,eM t)]) (by simp only[pv,↓reduceIte,Nat.reduceAdd,Nat.reduceLT,Nat.reduceLeDiff,Nat.reduceEqDiff,op,J5,e,hft])];by_cases hm:t∈S
  ·rw[Rb hm];have HB:=EJ uJ ma fR S t hm;dsimp only;refine⟨some (.f,eM t),?_⟩;unfold pos;rw[Rw];simp only[pv,↓reduceIte,Nat.reduceAdd,Nat.reduceLT,Nat.reduceLeDiff,Nat.reduceEqDiff,op,P1,MO,hm,Tr,S2,fP,uB,HB,hzA];rfl
  ·rw[Rg hm];by_cases h9:S.length=8
   ·rw[Rb h9];dsimp only;have he:((S.length:Int)==8)=true:=by rw[h9];rfl
    simp only[pv,↓reduceIte,Nat.reduceAdd,Nat.reduceLT,Nat.reduceLeDiff,Nat.reduceEqDiff,op,P1,MO,hm,SV,Tj,bH,he]
   ·rw[Rg h9];dsimp only;have he:((S.length:Int)==8)=false:=by
     rw[R3];lia
    have HB:=Ei uJ ma fR S t hm;refine⟨some (.f,eM t),?_⟩;rw[Rw,Rw,eg,RS];have hzS':S.length<sizeLine:=ka (by lia);have hzA':A.length<sizeLine:=ka (by lia);simp only[pv,↓reduceIte,Nat.reduceAdd,Nat.reduceLT,Nat.reduceLeDiff,Nat.reduceEqDiff,op,P1,MO,hm,SV,Tj,fP,bH,he,uB,HB,hzA',hzS'];rfl
theorem uL{nY:LNN}{ps:List Pl}{d:Nat}{mv:List Nat}{r r':Rn}(h:ki nY ps d mv r=some r')(h8:r.1.length<=8):r.1.length<=r'.1.length/\r'.1.length<=8/\r'.2.length<=r.2.length+1:=by
 unfold ki at h;split at h
 ·cases h;lia
 ·split at h
  ·cases h;refine⟨Q8 _,h8,?_⟩;rw[mn];exact Q8 _
  ·split at h
   ·cases h
   ·cases h;dsimp only;rw[mn,mn,RI,RI];lia
theorem Ab{nY:LNN}{ps:List Pl}{d:Nat}:∀(l:LNN) {r r':Rn},uK nY ps d l r=some r'->r.1.length<=8->r.1.length<=r'.1.length/\r'.1.length<=8/\r'.2.length<=r.2.length+l.length
 |[],r,r',h,h8=>by
  cases h;exact⟨Q8 _,h8,Q8 _⟩
 |mv::l,r,r',h,h8=>by
  unfold uK at h;obtain⟨r1,h1,h2⟩:=Sb.mp h;have b1:=uL h1 h8;have b2:=Ab l h2 b1.2.1;rw[Rk];lia
theorem xP(nY:LNN)(ps:List Pl)(hl:ps.length<=100)(hp:∀p∈ps,Il p nY.length)(d:Nat):∀(l:LNN),(∀mv∈l,mv∈nY)->∀(r:Rn),r.2.length+l.length<=1000->r.1.length<=8->d<r.1.length->∀t5 t6:Option R,
  match uK nY ps d l r with
  |some r'=>∃u5 u6,dD (aD 5) bK (l.map D.str) [some (.f,eN nY ps),some (.f,.int 8),some (.l .f,.lst (r.1.map eM)),some (.l .f,.lst (r.2.map eA)),some (.f,.int ((d:Nat):Int)),t5,t6]=.ok (.nx [some (.f,eN nY ps),some (.f,.int 8),some (.l .f,.lst (r'.1.map eM)),some (.l .f,.lst (r'.2.map eA)),some (.f,.int ((d:Nat):Int)),u5,u6])
  |none=>dD (aD 5) bK (l.map D.str) [some (.f,eN nY ps),some (.f,.int 8),some (.l .f,.lst (r.1.map eM)),some (.l .f,.lst (r.2.map eA)),some (.f,.int ((d:Nat):Int)),t5,t6]=.ok (.rt (.f,.non))
 |[],_,r,_,_,_,t5,t6=>⟨t5,t6,rfl⟩
 |mv::l,hm,r,hA,h8,hd,t5,t6=>by
  have h1:=CA nY ps hl hp r.1 r.2 (by lia) h8 d hd mv (hm mv Q2) t6;have ha:aD 5 (.str mv) [some (.f,eN nY ps),some (.f,.int 8),some (.l .f,.lst (r.1.map eM)),some (.l .f,.lst (r.2.map eA)),some (.f,.int ((d:Nat):Int)),t5,t6]=.ok [some (.f,eN nY ps),some (.f,.int 8),some (.l .f,.lst (r.1.map eM)),some (.l .f,.lst (r.2.map eA)),some (.f,.int ((d:Nat):Int)),some (.f,.str mv),t6]:=rfl;unfold uK;cases hs:ki nY ps d mv r with
  |none=>
   have L5:ki nY ps d mv (r.1,r.2)=none:=hs;rw[L5]at h1;dsimp only[Option.bind]at h1 ⊢;rw[eg,cM,ha,Gs,h1,Gs]
  |some r1=>
   have L5:ki nY ps d mv (r.1,r.2)=some r1:=hs;have b:=uL hs h8;rw[L5]at h1;obtain⟨u6,h1⟩:=h1;rw[Rk]at hA;have ih:=xP nY ps hl hp d l (fun x hx=>hm x (Q7 _ hx)) r1 (by lia) b.2.1 (by lia) (some (.f,.str mv)) u6;dsimp only[Option.bind];cases hr:uK nY ps d l r1 with
   |none=>
    rw[hr]at ih;dsimp only at ih ⊢;rw[eg,cM,ha,Gs,h1,Gs];exact ih
   |some r2=>
    rw[hr]at ih;dsimp only at ih ⊢;obtain⟨v5,v6,ih⟩:=ih;refine⟨v5,v6,?_⟩;rw[eg,cM,ha,Gs,h1,Gs];exact ih
theorem CB(nY:LNN)(hn:nY.length<=3)(ps:List Pl)(hl:ps.length<=100)(hp:∀p∈ps,Il p nY.length):∀(f F d:Nat) (r:Rn),r.1.length<=8->d<=r.1.length->r.2.length<=3*d->9<=f+d->f<=F->∀t5 t6:Option R,
  match xO nY ps f d r with
  |some r'=>r'.2.length<=24/\∃u4 u5 u6,cZ (GJ (aB Ju (ao 4) (au (bu jN (ai (ao 2) aG))))) b8 F [some (.f,eN nY ps),some (.f,.int 8),some (.l .f,.lst (r.1.map eM)),some (.l .f,.lst (r.2.map eA)),some (.f,.int ((d:Nat):Int)),t5,t6]=.ok (.nx [some (.f,eN nY ps),some (.f,.int 8),some (.l .f,.lst (r'.1.map eM)),some (.l .f,.lst (r'.2.map eA)),u4,u5,u6])
  |none=>cZ (GJ (aB Ju (ao 4) (au (bu jN (ai (ao 2) aG))))) b8 F [some (.f,eN nY ps),some (.f,.int 8),some (.l .f,.lst (r.1.map eM)),some (.l .f,.lst (r.2.map eA)),some (.f,.int ((d:Nat):Int)),t5,t6]=.ok (.rt (.f,.non))
 | 0,F,d,r,h8,hd,hA,hf,hF,t5,t6=>by lia
 |f+1,0,d,r,h8,hd,hA,hf,hF,t5,t6=>by lia
 |f+1,F+1,d,r,h8,hd,hA,hf,hF,t5,t6=>by
  unfold xO;by_cases Gy:d<r.1.length
  ·rw[Rb Gy];have h1:=xP nY ps hl hp d nY (fun _ h=>h) r (by lia) h8 Gy t5 t6;have hc:(GJ (aB Ju (ao 4) (au (bu jN (ai (ao 2) aG))))) [some (.f,eN nY ps),some (.f,.int 8),some (.l .f,.lst (r.1.map eM)),some (.l .f,.lst (r.2.map eA)),some (.f,.int ((d:Nat):Int)),t5,t6]=.ok (true,[some (.f,eN nY ps),some (.f,.int 8),some (.l .f,.lst (r.1.map eM)),some (.l .f,.lst (r.2.map eA)),some (.f,.int ((d:Nat):Int)),t5,t6]):=by
    have:(d:Int)<(r.1.length:Int):=by lia
    simp only[pv,seval,op,bH,this,Tr]
   have go:∀q:Res Out,dD (aD 5) bK (nY.map D.str) [some (.f,eN nY ps),some (.f,.int 8),some (.l .f,.lst (r.1.map eM)),some (.l .f,.lst (r.2.map eA)),some (.f,.int ((d:Nat):Int)),t5,t6]=q->fE [some (.f,eN nY ps),some (.f,.int 8),some (.l .f,.lst (r.1.map eM)),some (.l .f,.lst (r.2.map eA)),some (.f,.int ((d:Nat):Int)),t5,t6]=q:=fun q h=>by
    unfold fE;unfold eN at h ⊢;simp only[pv,seval,op];exact h
   cases hr:uK nY ps d nY r with
   |none=>
    rw[hr]at h1;dsimp only[Option.bind]at h1 ⊢;rw[dP,hc,Gs];dsimp only;rw[Rb rfl];unfold b8;rw[GW,go _ h1,Gs];rfl
   |some r1=>
    rw[hr]at h1;dsimp only[Option.bind]at h1 ⊢;obtain⟨u5,u6,h1⟩:=h1;have b:=Ab nY hr h8;have e2:b8 [some (.f,eN nY ps),some (.f,.int 8),some (.l .f,.lst (r.1.map eM)),some (.l .f,.lst (r.2.map eA)),some (.f,.int ((d:Nat):Int)),t5,t6]=.ok (.nx [some (.f,eN nY ps),some (.f,.int 8),some (.l .f,.lst (r1.1.map eM)),some (.l .f,.lst (r1.2.map eA)),some (.f,.int ((d+1:Nat):Int)),u5,u6]):=by
     unfold b8;rw[ax (go _ h1)];unfold ib;simp only[pv,seval,op,Uk,Up]
    have ih:=CB nY hn ps hl hp f F (d+1) r1 b.2.1 (by lia) (by lia) (by lia) (by lia) u5 u6;cases hq:xO nY ps f (d+1) r1 with
    |none=>
     rw[hq]at ih;dsimp only at ih ⊢;rw[dP,hc,Gs];dsimp only;rw[Rb rfl,e2,Gs];exact ih
    |some r2=>
     rw[hq]at ih;dsimp only at ih ⊢;obtain⟨hb,v4,v5,v6,ih⟩:=ih;refine⟨hb,v4,v5,v6,?_⟩;rw[dP,hc,Gs];dsimp only;rw[Rb rfl,e2,Gs];exact ih
  ·rw[Rg Gy];dsimp only;refine⟨by lia,some (.f,.int ((d:Nat):Int)),t5,t6,?_⟩;have hc:(GJ (aB Ju (ao 4) (au (bu jN (ai (ao 2) aG))))) [some (.f,eN nY ps),some (.f,.int 8),some (.l .f,.lst (r.1.map eM)),some (.l .f,.lst (r.2.map eA)),some (.f,.int ((d:Nat):Int)),t5,t6]=.ok (false,[some (.f,eN nY ps),some (.f,.int 8),some (.l .f,.lst (r.1.map eM)),some (.l .f,.lst (r.2.map eA)),some (.f,.int ((d:Nat):Int)),t5,t6]):=by
    have:¬ (d:Int)<(r.1.length:Int):=by lia
    simp only[pv,seval,op,bH,this,SV]
   rw[dP,hc,Gs];rfl
abbrev iw(nY:LNN)(ps:List Pl):Option Rn:=xO nY ps 9 0 ([ps.map (·.1)],[])
theorem xQ(nY:LNN)(hn:nY.length<=3)(ps:List Pl)(hl:ps.length<=100)(hp:∀p∈ps,Il p nY.length):
  br [eN nY ps,.int 8]=.ok (.f,match iw nY ps with
   |some r=>.tup [.lst ((bD cN r.2).map eA),.lst (r.1.map eM)]
   |none=>.non):=by
 unfold br kX;rw[bq (h:=by rfl)];have hc:cO (kx 3 (aQ (aD 0) (aQ (aD 1) (aQ (aD 2) d4)))) eW (aN 0) (ps.map eP) [none,none,none]=.ok ((ps.map (·.1)).map D.int):=by
  rw[bN (r:=fun p:Pl=>D.int p.1) (fun env=>∃t u w,env=[t,u,w]) ps ?_ _ ⟨none,none,none,rfl⟩]
  ·rw[Rq];rfl
  ·rintro p _ env ⟨t,u,w,rfl⟩;exact⟨[some (.f,.int p.1),some (.f,.tup (p.2.1.map D.int)),some (.f,.tup (p.2.2.map D.int))],by unfold eP;simp only[pv,↓reduceIte,Nat.reduceAdd,Nat.reduceLT,Nat.reduceLeDiff,Nat.reduceEqDiff],.f,_,rfl,_,_,_,rfl⟩
 have hlen:((ps.map (·.1)).map D.int).length<=sizeLine:=bA (by rw[bH,bH];lia);have LQ:=F8 (ps.map (·.1));rw[ax (env':=[some (.f,eN nY ps),some (.f,.int 8),some (.l .f,.lst [eM (ps.map (·.1))]),none,none,none,none]) (by
  unfold eN eM;simp only[pv,↓reduceIte,Nat.reduceAdd,Nat.reduceLT,Nat.reduceLeDiff,Nat.reduceEqDiff,op,hc,hlen,LQ])]
 rw[ax (env':=[some (.f,eN nY ps),some (.f,.int 8),some (.l .f,.lst [eM (ps.map (·.1))]),some (.l .f,.lst []),none,none,none]) (by simp only[pv,↓reduceIte,Nat.reduceAdd,Nat.reduceLT,Nat.reduceLeDiff,Nat.reduceEqDiff,op])];rw[ax (env':=[some (.f,eN nY ps),some (.f,.int 8),some (.l .f,.lst [eM (ps.map (·.1))]),some (.l .f,.lst []),some (.f,.int 0),none,none]) (by simp only[pv,↓reduceIte,Nat.reduceAdd,Nat.reduceLT,Nat.reduceLeDiff,Nat.reduceEqDiff,op])];have w:=CB nY hn ps hl hp 9 100000 0 ([ps.map (·.1)],[]) (by show 1<=8;decide) (RM _) (Q8 _) (by decide) (by decide) none none;unfold iw;cases hr:xO nY ps 9 0 ([ps.map (·.1)],[]) with
 |some r=>
  rw[hr]at w;obtain⟨hA,u4,u5,u6,w⟩:=w;rw[ax (env':=_) (by
   unfold dM;exact w)]
  unfold ic;simp only[pv,↓reduceIte,Nat.reduceAdd,Nat.reduceLT,Nat.reduceLeDiff,Nat.reduceEqDiff,op,uF r.2 (by lia)]
 |none=>
  rw[hr]at w;have w2:dM [some (.f,eN nY ps),some (.f,.int 8),some (.l .f,.lst [eM (ps.map (·.1))]),some (.l .f,.lst []),some (.f,.int 0),none,none]=.ok (.rt (.f,.non)):=by
   unfold dM;exact w
  rw[GW,w2];simp only[pv,↓reduceIte,Nat.reduceAdd,Nat.reduceLT,Nat.reduceLeDiff,Nat.reduceEqDiff]
theorem xR{S:List (List Int)}{t:List Int}(h:t∈S):S[pos S t]?=some t:=by
 have h3:(S.findIdx fun x=>decide (x=t))<S.length:=TH ⟨t,h,RJ rfl⟩;have h4:=T6 (p:=fun x=>decide (x=t)) (xs:=S) (w:=h3);unfold pos;rw[nR h3];congr 1
 simpa using h4
def Zr(nY:LNN)(ps:List Pl):Prop:=∃S A m,Rm nY ps S A m/\S.length=8
section
variable{nY:LNN}{ps:List Pl}
theorem Ac{d j:Nat}{mv:List Nat}{r:Rn}(rm:Rm nY ps r.1 r.2 (d+1))(hd:d<r.1.length)(hj:nY[j]?=some mv)(fu:Fu nY ps r.1 r.2 d j):
  match ki nY ps d mv r with
  |some r'=>Rm nY ps r'.1 r'.2 (d+1)/\Fu nY ps r'.1 r'.2 d (j+1)
  |none=>Zr nY ps:=by
 have hn:=Rz hj;have LD:r.1[d]?=some r.1[d]:=nR hd;have P0:r.1.getD d []=r.1[d]:=by rw[List.getD_eq_getElem?_getD,LD];rfl
 unfold ki;rw[P0];cases hf:cb (nY.idxOf mv) (r.1[d].zip ps) with
 |none=>exact⟨rm,fu.next LD (fun _ _ h=>h) (fun _ h=>h) hj fun t h=>by rw[hf]at h;cases h⟩
 |some t=>
  dsimp only;by_cases hm:t∈r.1
  ·rw[Rb hm];exact⟨rm.old hn LD (xR hm) hf,fu.next LD (fun _ _ h=>h) (fun _ h=>Q9 _ h) hj fun t' h=>by rw[hf]at h;cases h;exact⟨_,xR hm,Q5 _ (Ry.mpr rfl)⟩⟩
  ·rw[Rg hm];by_cases h9:r.1.length=8
   ·rw[Rb h9];exact⟨_,_,_,rm,h9⟩
   ·rw[Rg h9];have:=rm.le;exact⟨rm.new hn LD hm hf (by lia),fu.next LD (fun i x h=>by rw[List.getElem?_append_left (oy h).1];exact h) (fun _ h=>Q9 _ h) hj fun t' h=>by rw[hf]at h;cases h;exact⟨r.1.length,by rw[List.getElem?_append_right (Q8 _),Vc];rfl,Q5 _ (Ry.mpr rfl)⟩⟩
theorem xS{d:Nat}:∀(l:LNN) (j:Nat) (r:Rn),nY.drop j=l->Rm nY ps r.1 r.2 (d+1)->d<r.1.length->Fu nY ps r.1 r.2 d j->
  match uK nY ps d l r with
  |some r'=>Rm nY ps r'.1 r'.2 (d+1)/\Fu nY ps r'.1 r'.2 d (j+l.length)
  |none=>Zr nY ps
 |[],j,r,_,rm,_,fu=>⟨rm,fu⟩
 |mv::l,j,r,hl,rm,hd,fu=>by
  have hj:nY[j]?=some mv:=by
   have:(nY.drop j)[0]?=some mv:=by rw[hl];rfl
   rw[List.getElem?_drop]at this;exact this
  have hl':nY.drop (j+1)=l:=by
   rw[<-List.tail_drop,hl];rfl
  have h1:=Ac rm hd hj fu;unfold uK;cases hs:ki nY ps d mv r with
  |none=>
   rw[hs]at h1;exact h1
  |some r1=>
   rw[hs]at h1;have b:=uL hs rm.le;have ih:=xS l (j+1) r1 hl' h1.1 (by lia) h1.2;rw[Rk,show j+(l.length+1)=j+1+l.length by lia];exact ih
theorem xT(hn:nY.length<=3):∀(f d:Nat) (r:Rn),Rm nY ps r.1 r.2 d->d<=r.1.length->r.2.length<=3*d->Fu nY ps r.1 r.2 d 0->9<=f+d->
  match xO nY ps f d r with
  |some r'=>(∃m,Rm nY ps r'.1 r'.2 m)/\Fu nY ps r'.1 r'.2 r'.1.length 0/\r'.2.length<=24
  |none=>Zr nY ps
 | 0,d,r,rm,hd,_,_,hf=>by
  have:=rm.le;lia
 |f+1,d,r,rm,hd,hA,fu,hf=>by
  have h8:=rm.le;unfold xO;by_cases Gy:d<r.1.length
  ·rw[Rb Gy];have h1:=xS nY 0 r rfl (rm.more (Tb d)) Gy fu;cases hs:uK nY ps d nY r with
   |none=>
    rw[hs]at h1;exact h1
   |some r1=>
    rw[hs,V2]at h1;have b:=Ab nY hs h8;exact xT hn f (d+1) r1 h1.1 (by lia) (by lia) h1.2.row (by lia)
  ·rw[Rg Gy];have:d=r.1.length:=by lia
   exact⟨⟨d,rm⟩,this▸fu,by lia⟩
theorem rm0:Rm nY ps [ps.map (·.1)] [] 0:=⟨Rx.mpr ⟨Se,SM⟩,rfl,fun x hx=>by rw[nS hx,bH],by simp,(fun _ h=>nomatch h),fun j j1 j2=>by rw[RI]at j2;lia⟩
theorem kj(hn:nY.length<=3):
  match iw nY ps with
  |some r'=>(∃m,Rm nY ps r'.1 r'.2 m)/\Fu nY ps r'.1 r'.2 r'.1.length 0/\r'.2.length<=24
  |none=>Zr nY ps:=xT hn 9 0 ([ps.map (·.1)],[]) rm0 (RM _) (Q8 _) (fun i k h=>by lia) (by decide)
end
section
variable{nY:LNN}{ps MN:List Pl}{h:List Int->List Int}{Sf:List (List Int)}
def hR(h:List Int->List Int)(r:Rn):Rn:=(r.1.map h,r.2)
end
theorem flat_P(p:Pl):flatD (eP p)=true:=by
 unfold eP;rw[cu];simp only[flatDs,cu,F8,jv];rfl
theorem Ad(ps:List Pl):flatDs (ps.map eP)=true:=by
 rw[b7,Su,RD];exact fun p _=>flat_P p
theorem o8{α:Type}[DecidableEq α]:∀(l m:List α),l.Nodup->(∀x∈l,x∈m)->l.length<=m.length
 |[],m,_,_=>RM _
 |a::l,m,nd,h=>by
  rw[Rx]at nd;have ha:=h a Q2;have:=o8 l (m.erase a) nd.2 fun x hx=>(List.mem_erase_of_ne (fun e=>nd.1 (by rw[<-e];exact hx))).mpr (h x (Q7 _ hx))
  rw[UA ha]at this;have:=UY ha;rw[Rk];lia
def mq(nY:LNN)(b:Int):Pl:=(b,nY.map fun _=>1,nY.map fun _=>0)
theorem qq(nY:LNN)(c:Int){k:Nat}(h:k<nY.length):(nY.map fun _=>c).getD k 0=c:=by
 rw[List.getD_eq_getElem?_getD,List.getElem?_map,nR h];rfl
theorem uM{nY:LNN}{ps:List Pl}{b:Int}{k:Nat}(hk:k<nY.length){s t:List Int}(hs:s.length=(ps++[mq nY b]).length)(hf:cb k (s.zip (ps++[mq nY b]))=some t):1<=s.getD ps.length 0/\t.getD ps.length 0=s.getD ps.length 0-1:=by
 rw[mn,RI]at hs;have Gy:ps.length<s.length:=by lia
 have e:(s.zip (ps++[mq nY b]))[ps.length]?=some (s[ps.length],mq nY b):=by
  rw[List.getElem?_zip_eq_some];exact⟨nR Gy,by rw[List.getElem?_append_right (Q8 _),Vc];rfl⟩
 obtain⟨h1,h2⟩:=qo k hf e;have e1:(mq nY b).2.1.getD k 0=1:=qq nY 1 hk;have e2:(mq nY b).2.2.getD k 0=0:=qq nY 0 hk;dsimp only at h1 h2;rw[e1]at h1;rw[e1,e2]at h2;have e3:s.getD ps.length 0=s[ps.length]:=by rw[List.getD_eq_getElem?_getD,nR Gy];rfl
 rw[e3,List.getD_eq_getElem?_getD,h2];exact⟨by lia,by show _=_;simp⟩
theorem wX{nY:LNN}{ps:List Pl}{S:List (List Int)}{A:List Gi}{m:Nat}(r:Rm nY (ps++[mq nY 1]) S A m):S.length<=1+nY.length:=by
 have hz:=r.z;cases hS:S with
 |nil=>exact RM _
 |cons s0 tl=>
  rw[hS,List.getElem?_cons_zero,UB]at hz;have h0:s0.getD ps.length 0=1:=by
   rw[hz,List.getD_eq_getElem?_getD,List.getElem?_map,List.getElem?_append_right (Q8 _),Vc];rfl
  have key:∀j:Nat,1<=j->∀s,S[j]?=some s->s.getD ps.length 0=0/\∃mv∈nY,cb (nY.idxOf mv) (s0.zip (ps++[mq nY 1]))=some s:=by
   intro j;induction j using Nat.strongRecOn with
   |_ j ih=>
    intro hj s hs;obtain⟨a,ha,e1,b,hb,e2⟩:=r.rc j hj (oy hs).1;obtain⟨hn,i',j',_,e3,e4,x,y,hx,hy,hf⟩:=r.ab a ha;have:i'=b:=by lia
    subst this;have:j'=j:=by lia
    subst this;rw[hs]at hy;cases hy;have hd:=uM (Sd hn) (r.ln x (Rz hx)) hf;cases i' with
    |zero=>
     rw[hS,List.getElem?_cons_zero,UB]at hx;subst hx;exact⟨by lia,_,hn,hf⟩
    |succ i'=>
     have:=(ih (i'+1) hb (by lia) x hx).1;lia
  have nd:=r.nd;rw[hS]at nd;have:=o8 tl (nY.filterMap fun mv=>cb (nY.idxOf mv) (s0.zip (ps++[mq nY 1]))) (Rx.mp nd).2 fun s hs=>by
   obtain⟨i,hi⟩:=Si.mp hs;obtain⟨_,mv,KI,hf⟩:=key (i+1) (by lia) s (by rw[hS,List.getElem?_cons_succ];exact hi);exact Um.mpr ⟨mv,KI,hf⟩
  have h2:=List.length_filterMap_le (fun mv=>cb (nY.idxOf mv) (s0.zip (ps++[mq nY 1]))) nY;rw[Rk];lia
theorem og(nY:LNN)(c:Int):cO (aD 0) eW (aI (.int c)) (nY.map D.str) [none]=.ok ((nY.map fun _=>c).map D.int):=by
 rw[bN (r:=fun _:List Nat=>D.int c) (fun env=>∃t,env=[t]) nY ?_ _ ⟨none,rfl⟩]
 ·rw[Rq];rfl
 ·rintro n _ env ⟨t,rfl⟩;exact⟨[some (.f,.str n)],rfl,.f,_,rfl,_,rfl⟩
theorem FK(ps:List Pl)(hl:ps.length<=100)(d:D):cP (.lst (ps.map eP)) (.lst [d])=.ok (.l .f,.lst (ps.map eP++[d])):=by
 rw[uy,Rb (line_le (by rw[bH,RI];lia))]
structure Nt(nY:LNN)(ps:List Pl)(r:Rn):Prop where
 n0:nY≠[]
 n3:nY.length<=3
 nn:nY.Nodup
 p0:ps≠[]
 p9:ps.length<=12
 po:∀p∈ps,Il p nY.length
 e:iw nY ps=some r
theorem uN(nY:LNN)(hn:nY.length<=3)(ps:List Pl)(hl:ps.length<=100)(hp:∀p∈ps,Il p nY.length):
  (∃r,iw nY ps=some r/\br [eN nY ps,.int 8]=.ok (.f,.tup [.lst ((bD cN r.2).map eA),.lst (r.1.map eM)]))\/(iw nY ps=none/\br [eN nY ps,.int 8]=.ok (.f,.non)/\Zr nY ps):=by
 have h:=xQ nY hn ps hl hp;have z:=kj (ps:=ps) hn;cases e:iw nY ps with
 |some r=>
  rw[e]at h;exact .inl ⟨r,rfl,h⟩
 |none=>
  rw[e]at h z;exact .inr ⟨rfl,h,z⟩
theorem Ek(ns:List Int)(first:Nat):∃nY ps r,Nt nY ps r/\ps.length<=9/\cS [.lst (ns.map D.int),.int (first:Int)]=.ok (.f,eN nY ps):=by
 obtain⟨nY,n0,n3,nn,nw,en⟩:=z7 ns;obtain⟨ps,P2,hp0,hp8,ep⟩:=wV ns first nY.length (by lia)
 have OT:=Ad ps;have KU:flatD (.tup (nY.map D.str))=true:=by rw[cu,PV.flat_strs]
 have OV:flatD .non=true:=rfl;have OW:∀(x y:List D),flatDs [.lst x,.lst y]=false:=fun _ _=>rfl
 unfold cS kY;rw[bq (h:=by rfl)];rw[ax (env':=[some (.f,.lst (ns.map D.int)),some (.f,.int (first:Int)),some (.f,.tup (nY.map D.str)),none,none,none,none]) (by simp only[pv,seval,op,en,KU])];rw[ax (env':=[some (.f,.lst (ns.map D.int)),some (.f,.int (first:Int)),some (.f,.tup (nY.map D.str)),some (.f,.int (nY.length:Int)),none,none,none]) (by simp only[pv,seval,op,bH])];rw[ax (env':=[some (.f,.lst (ns.map D.int)),some (.f,.int (first:Int)),some (.f,.tup (nY.map D.str)),some (.f,.int (nY.length:Int)),some (.l .f,.lst (ps.map eP)),none,none]) (by simp only[pv,seval,op,ep,OT])];rcases uN nY n3 ps (by lia) P2 with⟨r,e,er⟩|⟨_,er,_⟩
 ·refine⟨nY,ps,r,⟨n0,n3,nn,hp0,by lia,P2,e⟩,by lia,?_⟩;unfold eN at er ⊢;simp only[pv,seval,op,er,OW,fP,o_isnT,C7,C8]
 ·unfold eN at er;rw[ax (env':=[some (.f,.lst (ns.map D.int)),some (.f,.int (first:Int)),some (.f,.tup (nY.map D.str)),some (.f,.int (nY.length:Int)),some (.f,.lst (ps.map eP)),none,none]) (by simp only[pv,seval,op,er,OV,k7,fP])];have c1:=og nY 1;have c0:=og nY 0;have l1:((nY.map fun _=>(1:Int)).map D.int).length<=sizeLine:=bA (by rw[bH,bH];lia);have l0:((nY.map fun _=>(0:Int)).map D.int).length<=sizeLine:=bA (by rw[bH,bH];lia);have f1:=F8 (nY.map fun _=>(1:Int));have f0:=F8 (nY.map fun _=>(0:Int));rw[ax (env':=[some (.f,.lst (ns.map D.int)),some (.f,.int (first:Int)),some (.f,.tup (nY.map D.str)),some (.f,.int (nY.length:Int)),some (.f,.lst (ps.map eP)),some (.f,.tup ((nY.map fun _=>(1:Int)).map D.int)),none]) (by simp only[pv,seval,op,c1,l1,f1])];rw[ax (env':=[some (.f,.lst (ns.map D.int)),some (.f,.int (first:Int)),some (.f,.tup (nY.map D.str)),some (.f,.int (nY.length:Int)),some (.f,.lst (ps.map eP)),some (.f,.tup ((nY.map fun _=>(1:Int)).map D.int)),some (.f,.tup ((nY.map fun _=>(0:Int)).map D.int))]) (by simp only[pv,seval,op,c0,l0,f0])];have LR:∀b:Int,(ps++[mq nY b]).map eP=ps.map eP++[.tup [.int b,.tup ((nY.map fun _=>(1:Int)).map D.int),.tup ((nY.map fun _=>(0:Int)).map D.int)]]:=fun b=>by
   rw[Rw];rfl
  have LF:∀b:Int,∀p∈ps++[mq nY b],Il p nY.length:=fun b p hp=>by
   rcases vg hp with hp|hp
   ·exact P2 p hp
   ·rw[nS hp];exact⟨bH _,bH _⟩
  have IE:∀b:Int,(ps++[mq nY b]).length<=9:=fun b=>by
   rw[mn,RI];lia
  have Oe:∀b:Int,ps++[mq nY b]≠[]:=fun b h=>by simp at h
  have P4:=fun d=>FK ps (by lia) d
  have lo:((ps.map eP).length)<=100:=by rw[bH];lia
  rcases uN nY n3 (ps++[mq nY 2]) (by have:=IE 2;lia) (LF 2) with⟨r,e,er2⟩|⟨_,er2,_⟩
  ·refine⟨nY,ps++[mq nY 2],r,⟨n0,n3,nn,Oe 2,by have:=IE 2;lia,LF 2,e⟩,IE 2,?_⟩;unfold eN at er2 ⊢;rw[LR]at er2 ⊢;simp only[pv,seval,op,P4,er2,OW,fP,o_isnT,C7,C8]
  ·rcases uN nY n3 (ps++[mq nY 1]) (by have:=IE 1;lia) (LF 1) with⟨r,e,er3⟩|⟨_,_,S,A,m,r,h8⟩
   ·refine⟨nY,ps++[mq nY 1],r,⟨n0,n3,nn,Oe 1,by have:=IE 1;lia,LF 1,e⟩,IE 1,?_⟩;unfold eN at er2 ⊢;rw[LR]at er2 ⊢;rw[ax (env':=[some (.f,.lst (ns.map D.int)),some (.f,.int (first:Int)),some (.f,.tup (nY.map D.str)),some (.f,.int (nY.length:Int)),some (.f,.lst (ps.map eP)),some (.f,.tup ((nY.map fun _=>(1:Int)).map D.int)),some (.f,.tup ((nY.map fun _=>(0:Int)).map D.int))]) (by simp only[pv,seval,op,P4,er2,OV,k7,fP])];simp only[pv,seval,op,P4]
   ·have:=wX r;lia
theorem CC{nY:LNN}{ps:List Pl}{r:Rn}(hn:nY.length<=3)(e:iw nY ps=some r):Ra nY r.2 r.1.length:=by
 have h:=kj (ps:=ps) hn;rw[e]at h;obtain⟨⟨m,rm⟩,_,IW⟩:=h;have h8:=rm.le;have h0:=(oy rm.z).1;refine⟨by lia,by lia,fun a ha=>?_,fun a ha=>(rm.ab a ha).1,id,rm.rc⟩;obtain⟨_,i,j,_,e1,e2,s,t,hs,ht,_⟩:=rm.ab a ha;have h1:=(oy hs).1;have h2:=(oy ht).1;lia
abbrev Gt:=Int×List Int×LNN
def wD(w:LNN):D:=.tup (w.map D.str)
def vG(n:Gt):D:=.tup [eM n.2.1,wD n.2.2]
def dG(N:List Gt):D:=.dct false (N.map fun n=>D.int n.1) (N.map vG)
theorem Ae:∀(N:List Gt) (s:Int),getD (N.map fun n=>D.int n.1) (N.map vG) (.int s)=(N.find? fun n=>n.1==s).map vG
 |[],s=>rfl
 |z::L,s=>by
  have ih:=Ae L s;unfold getD at ih ⊢;rw[eg,eg,Sl];by_cases e:z.1=s
  ·rw[List.find?_cons_of_pos (by show F3 (.int s) (.int z.1)=true;rw[F3,RO];exact e.symm),List.find?_cons_of_pos (by simpa using e)];rfl
  ·rw[List.find?_cons_of_neg (by show ¬ F3 (.int s) (.int z.1)=true;rw[F3,RO];exact fun q=>e q.symm),List.find?_cons_of_neg (by simpa using e)];exact ih
theorem uO:∀{N:List Gt},(N.map (·.1)).Nodup->∀{n:Gt},n∈N->(N.find? fun z=>z.1==n.1)=some n
 |z::N,nd,n,h=>by
  rw[eg,Rx]at nd;rcases Ri.mp h with e|h
  ·subst e;rw[List.find?_cons_of_pos (by simp)]
  ·rw[List.find?_cons_of_neg (by
    simp only[RO];intro e;exact nd.1 (e▸RW.mpr ⟨n,h,rfl⟩))]
   exact uO nd.2 h
theorem C9{N:List Gt}{s:Int}{n:Gt}(h:(N.find? fun z=>z.1==s)=some n):J3 (dG N) (.int s)=.ok (.f,vG n):=by
 unfold J3 dG;dsimp only;rw[Rb (show dR false (.int s)=true from rfl),Ae,h];rfl
theorem El(N:List Gt)(s:Int):zf (.int s) (dG N)=.ok (.f,.bl (N.find? fun z=>z.1==s).isNone):=by
 unfold zf dG;dsimp only;rw[Rb (show dR false (.int s)=true from rfl),Ae];cases(N.find? fun z=>z.1==s) <;> rfl
theorem Em{N:List Gt}{s:Int}(h:(N.find? fun z=>z.1==s)=none)(m:List Int)(w:LNN):oO (N.map fun n=>D.int n.1) (N.map vG) (.int s) (.tup [eM m,wD w])=((N++[(s,m,w)]).map (fun n=>D.int n.1),(N++[(s,m,w)]).map vG):=by
 rw[List.find?_eq_none]at h;have e:(N.map fun n=>D.int n.1).any (F3 (.int s))=false:=by
  rw[Tv,List.any_eq_false];intro x hx;show ¬ F3 (.int s) (.int x.1)=true;rw[F3,RO];intro q;exact h x hx (by simp[q])
 unfold oO;rw[e,Rg Rc,Rw,Rw];rfl
theorem fS(w:LNN):flatD (wD w)=true:=by
 unfold wD;rw[cu,PV.flat_strs]
theorem Af(n:Gt):flatD (vG n)=true:=by
 unfold vG;rw[cu];simp only[flatDs,kh,fS,Ss]
theorem wY(N:List Gt):flatDs (N.map vG)=true:=iu fun n=>Af n
theorem Ag(i:Nat)(f g:FX)(env:PV.Env):sPutP i f g env=Res.bnd (g env) (f:=⟨fun(p:R×PV.Env)=>Res.bnd (f p.2) (f:=⟨fun(q:R×PV.Env)=>match p.2[i]?,q.2[i]? with
 |some (some _),some (some (.pin pp .d,.dct tk ks vs))=>if dR tk q.1.2&&decide (ks.length<sizeLine) then .ok (.nx (q.2.set i (some (.pin pp .d,.dct tk (oO ks vs q.1.2 p.1.2).1 (oO ks vs q.1.2 p.1.2).2)))) else .bad
 |_,_=>.bad⟩)⟩):=id rfl
def xU(w w':LNN):D:=.tup [.str [111,110,101],wD w,wD w']
def EK(w w':LNN):D:=.tup [.str [116,119,111],wD w,wD w']
def uP(s:Int)(m:List Int)(n:Gt):Bool:=!(n.1==s)&&decide (n.2.1=m)
noncomputable def kl(N:List Gt)(s:Int)(m:List Int)(w:LNN):D ⊕ List Gt:=match N.find? (uP s m) with
 |some n=>.inl (xU n.2.2 w)
 |none=>match N.find? (fun n=>n.1==s) with
  |none=>.inr (N++[(s,m,w)])
  |some n=>if n.2.1=m then .inr N else .inl (EK n.2.2 w)
theorem En(a b:List Int):Ji (eM a) (eM b)=.ok (.f,.bl (decide (a=b))):=by
 unfold Ji;rw[fR,fR,uJ];rfl
theorem Eo(a b:List Int):Jj (eM a) (eM b)=.ok (.f,.bl (!decide (a=b))):=by
 unfold Jj;rw[fR,fR,uJ];rfl
theorem M7(a b:D):Gk (.tup [a,b]) (.int 0)=.ok (.f,a):=rfl
theorem P5(a b:D):Gk (.tup [a,b]) (.int 1)=.ok (.f,b):=rfl
theorem Ah(N:List Gt)(nd:(N.map (·.1)).Nodup)(s:Int)(m:List Int)(w:LNN)(p:Addr)(n:Gt)(hn:n∈N):
  dy [some (.pin p .f,dG N),some (.f,.int s),some (.f,eM m),some (.f,wD w),some (.f,.int n.1)]=if uP s m n then .ok (.rt (.t [.f,.pin p .f],.tup [xU n.2.2 w,dG N])) else .ok (.nx [some (.pin p .f,dG N),some (.f,.int s),some (.f,eM m),some (.f,wD w),some (.f,.int n.1)]):=by
 have hd:=C9 (uO nd hn);have he:=En n.2.1 m;have f1:=fS n.2.2;unfold vG at hd;unfold dy uP;generalize hG:dG N=GG at hd ⊢;cases h1:(n.1==s) with
 |true=>simp only[pv,seval,op,h1,S2,Uq,fP]
 |false=>
  cases h2:decide (n.2.1=m) with
  |false=>simp only[pv,seval,op,h1,h2,hd,M7,he,Tj,VH,fP]
  |true=>
   simp only[pv,seval,op,fO,h1,h2,hd,M7,P5,he,Tj,VH];rfl
theorem oh(N:List Gt)(nd:(N.map (·.1)).Nodup)(s:Int)(m:List Int)(w:LNN)(p:Addr):∀(L:List Gt),(∀n∈L,n∈N)->∀t4:Option R,
  match L.find? (uP s m) with
  |some n=>dD (aD 4) dy (L.map fun n=>D.int n.1) [some (.pin p .f,dG N),some (.f,.int s),some (.f,eM m),some (.f,wD w),t4]=.ok (.rt (.t [.f,.pin p .f],.tup [xU n.2.2 w,dG N]))
  |none=>∃t,(t=t4\/∃k:Int,t=some (.f,.int k))/\dD (aD 4) dy (L.map fun n=>D.int n.1) [some (.pin p .f,dG N),some (.f,.int s),some (.f,eM m),some (.f,wD w),t4]=.ok (.nx [some (.pin p .f,dG N),some (.f,.int s),some (.f,eM m),some (.f,wD w),t])
 |[],_,t4=>⟨t4,.inl rfl,rfl⟩
 |n::L,h,t4=>by
  have hi:=Ah N nd s m w p n (h n Q2);have ha:aD 4 (.int n.1) [some (.pin p .f,dG N),some (.f,.int s),some (.f,eM m),some (.f,wD w),t4]=.ok [some (.pin p .f,dG N),some (.f,.int s),some (.f,eM m),some (.f,wD w),some (.f,.int n.1)]:=rfl;cases hc:uP s m n with
  |true=>
   rw[List.find?_cons_of_pos hc];rw[hc,Rb rfl]at hi;show dD _ _ (D.int n.1::L.map _) _=_;rw[cM,ha,Gs,hi,Gs]
  |false=>
   rw[List.find?_cons_of_neg (by rw[hc];exact Rc)];rw[hc,Rg Rc]at hi;have ih:=oh N nd s m w p L (fun n hn=>h n (Q7 _ hn)) (some (.f,.int n.1));cases hf:L.find? (uP s m) with
   |some n'=>
    rw[hf]at ih;dsimp only at ih ⊢;show dD _ _ (D.int n.1::L.map _) _=_;rw[cM,ha,Gs,hi,Gs];exact ih
   |none=>
    rw[hf]at ih;dsimp only at ih ⊢;obtain⟨t,ht,e⟩:=ih;refine⟨t,.inr (ht.elim (fun z=>⟨n.1,z⟩) id),?_⟩;show dD _ _ (D.int n.1::L.map _) _=_;rw[cM,ha,Gs,hi,Gs];exact e
def Ai(N:List Gt):D ⊕ List Gt->D×D
 | .inl d=>(d,dG N)
 | .inr N'=>(.non,dG N')
theorem CD(N:List Gt)(nd:(N.map (·.1)).Nodup)(hN:N.length<=100)(s:Int)(m:List Int)(w:LNN)(p:Addr):jV p [dG N,.int s,eM m,wD w]=.ok (.t [.f,.pin p .d],.tup [(Ai N (kl N s m w)).1,(Ai N (kl N s m w)).2]):=by
 have fm:=kh m;have fw:=fS w;have LS:=oh N nd s m w p N (fun _ h=>h) none;unfold jV xJ;rw[wJ (h:=by rfl)];have e0:(dG N)=.dct false (N.map fun n=>D.int n.1) (N.map vG):=rfl;unfold kl;cases hf:N.find? (uP s m) with
 |some n=>
  rw[hf]at LS;dsimp only at LS ⊢;have e:ia [some (.pin p .d,dG N),some (.f,.int s),some (.f,eM m),some (.f,wD w),none]=.ok (.rt (.t [.f,.pin p .d],.tup [xU n.2.2 w,dG N])):=by
   unfold ia;show(dD (aD 4) dy (N.map fun n=>D.int n.1) [some (.pin p .f,dG N),some (.f,.int s),some (.f,eM m),some (.f,wD w),none]).bind (q0 0 p (dG N))=_;rw[LS];show(if decide (p=p)&&aE .f (xU n.2.2 w) then Res.ok (Out.rt (.t [.f,.pin p .d],.tup [xU n.2.2 w,dG N])) else .bad)=_;have fr:aE .f (xU n.2.2 w)=true:=by
    unfold xU;rw[aE,cu];simp only[flatDs,fS,flatD,Ss]
   rw[fr,RJ rfl];rfl
  simp only[List.map,List.replicate,SH,Tc];rw[GW,e,Gs];rfl
 |none=>
  rw[hf]at LS;dsimp only at LS ⊢;obtain⟨t,ht,LS⟩:=LS;have e:ia [some (.pin p .d,dG N),some (.f,.int s),some (.f,eM m),some (.f,wD w),none]=.ok (.nx [some (.pin p .d,dG N),some (.f,.int s),some (.f,eM m),some (.f,wD w),t]):=by
   unfold ia;show(dD (aD 4) dy (N.map fun n=>D.int n.1) [some (.pin p .f,dG N),some (.f,.int s),some (.f,eM m),some (.f,wD w),none]).bind (q0 0 p (dG N))=_;rw[LS];show(if wt 0 p [some (.pin p .f,dG N),some (.f,.int s),some (.f,eM m),some (.f,wD w),t]&&cleanE 0 [some (.pin p .f,dG N),some (.f,.int s),some (.f,eM m),some (.f,wD w),t] then Res.ok (Out.nx [some (.pin p .d,dG N),some (.f,.int s),some (.f,eM m),some (.f,wD w),t]) else .bad)=_;have f1:wt 0 p [some (.pin p .f,dG N),some (.f,.int s),some (.f,eM m),some (.f,wD w),t]=true:=by
    show decide (p=p)=true;exact RJ rfl
   have f2:cleanE 0 [some (.pin p .f,dG N),some (.f,.int s),some (.f,eM m),some (.f,wD w),t]=true:=by
    rcases ht with e|⟨k,e⟩ <;> subst e <;> simp only[cleanE,List.set_cons_zero,Te,List.all_nil,aE,fm,fw,flatD,Ss]
   rw[f1,f2];rfl
  simp only[List.map,List.replicate,SH,Tc];rw[ax e];have hn:=El N s;unfold nH;cases hs:N.find? fun n=>n.1==s with
  |none=>
   rw[hs]at hn;have hp:=Em hs m w;have hz:(N.map fun n=>D.int n.1).length<sizeLine:=ka (by rw[bH];lia);have e2:sPutP 0 (aN 1) (gK (az (aN 2) (az (aN 3) bp))) [some (.pin p .d,dG N),some (.f,.int s),some (.f,eM m),some (.f,wD w),t]=.ok (.nx [some (.pin p .d,dG (N++[(s,m,w)])),some (.f,.int s),some (.f,eM m),some (.f,wD w),t]):=by
    rw[Ag];unfold dG;simp only[pv,seval,op,hp,hz,Tr];rfl
   rw[ax (env':=[some (.pin p .d,dG (N++[(s,m,w)])),some (.f,.int s),some (.f,eM m),some (.f,wD w),t]) (by
    generalize dG (N++[(s,m,w)])=G2 at e2 ⊢;generalize dG N=G1 at e2 hn ⊢;generalize (sPutP 0 (aN 1) (gK (az (aN 2) (az (aN 3) bp))))=TT at e2 ⊢;simp only[pv,seval,op,hn,Option.isNone_none,e2])]
   show _=Res.ok (O.t [.f,.pin p .d],D.tup [.non,dG (N++[(s,m,w)])]);generalize dG (N++[(s,m,w)])=G2;simp only[pv,seval,op,fO]
  |some n=>
   rw[hs]at hn;have hd:=C9 hs;unfold vG at hd;have Iu:=Eo n.2.1 m;by_cases hm:n.2.1=m
   ·rw[RJ hm]at Iu;dsimp only;rw[Rb hm];show _=Res.ok (O.t [.f,.pin p .d],D.tup [.non,dG N]);generalize dG N=G1 at hd hn ⊢;rw[ax (env':=[some (.pin p .d,G1),some (.f,.int s),some (.f,eM m),some (.f,wD w),t]) (by simp only[pv,seval,op,hn,VI,hd,M7,Iu,S2,fP])];simp only[pv,seval,op,fO]
   ·rw[RF hm]at Iu;dsimp only;rw[Rg hm];show _=Res.ok (O.t [.f,.pin p .d],D.tup [EK n.2.2 w,dG N]);generalize dG N=G1 at hd hn ⊢;rw[GW];simp only[pv,seval,op,fO,hn,VI,hd,M7,P5,Iu,Tj,fP];rfl
def jk(ap:List Gi)(s:Int)(m:List Nat):List Int:=(ap.filter fun a=>a.1==s&&a.2.1==m).map fun a=>a.2.2
theorem uQ(nY:LNN)(ap:List Gi)(s:Int)(m:List Nat)(hl:ap.length<=16777216):d7 [Gz nY ap,.int s,.str m]=.ok (.l .f,.lst ((jk ap s m).map D.int)):=by
 unfold d7 nG;rw[bq (h:=by rfl)];simp only[pv,seval,op,Gz];rw[wG (p:=fun a:Gi=>a.1==s&&a.2.1==m) (r:=fun a:Gi=>D.int a.2.2) (fun env=>∃t1 t2 t3,env=[t1,t2,t3,some (.f,.int s),some (.f,.str m)]) ap ?_ _ ⟨_,_,_,rfl⟩]
 ·rw[Gs,Rb (wN hl),Gs];unfold jk;rw[Rq];rfl
 ·rintro a _ env ⟨t1,t2,t3,rfl⟩;refine⟨_,kc a t1 t2 t3 _,?_⟩;simp only[pv,seval,op];cases h1:a.1==s with
  |true=>
   cases h2:a.2.1==m with
   |true=>exact⟨_,rfl,_,_,rfl,_,_,_,rfl⟩
   |false=>exact⟨_,rfl,_,_,_,rfl⟩
  |false=>exact⟨_,rfl,_,_,_,rfl⟩
def CF(w:LNN)(mv:List Nat):D:=.tup [.str [115,116,117,99,107],wD w,.str mv]
def CG(w:LNN)(mv:List Nat):D:=.tup [.str [102,114,101,101],wD w,.str mv]
abbrev So:=Option D×List Gt
def cA(N:List Gt)(s:Int)(m:List Int)(w:LNN):So:=match kl N s m w with
 | .inl d=>(some d,N)
 | .inr N'=>(none,N')
def bV(m:List Int)(w:LNN):List Int->List Gt->So
 |[],N=>(none,N)
 |s::ss,N=>match cA N s m w with
  |(some d,N')=>(some d,N')
  |(none,N')=>bV m w ss N'
noncomputable def dE(nY:LNN)(ps:List Pl)(ap:List Gi)(n:Gt)(mv:List Nat)(N:List Gt):So:=match cb (nY.idxOf mv) (n.2.1.zip ps),jk ap n.1 mv with
 |none,[]=>(none,N)
 |none,_::_=>(some (CF n.2.2 mv),N)
 |some _,[]=>(some (CG n.2.2 mv),N)
 |some t,s::ss=>bV t (n.2.2++[mv]) (s::ss) N
def aU(nY:LNN)(ps:List Pl)(ap:List Gi)(n:Gt):LNN->List Gt->So
 |[],N=>(none,N)
 |mv::r,N=>match dE nY ps ap n mv N with
  |(some d,N')=>(some d,N')
  |(none,N')=>aU nY ps ap n r N'
structure Iv(N:List Gt):Prop where
 nd:(N.map (·.1)).Nodup
 bd:∀n∈N,0<=n.1/\n.1<12
 wl:∀(k:Nat) (n:Gt),N[k]?=some n->n.2.2.length<=k
theorem Iv.le{N:List Gt}(i:Iv N):N.length<=12:=by
 have:=l8 12 i.nd (fun x hx=>by
  obtain⟨n,hn,e⟩:=oz hx;rw[<-e];exact i.bd n hn)
 rwa [bH]at this
structure Gr(N N':List Gt)(o:Option D):Prop where
 iv:Iv N'
 ex:∃more,N'=N++more
 fl:flatD (o.getD .non)=true
theorem Gr.refl{N:List Gt}(i:Iv N):Gr N N none:=⟨i,⟨[],(Ru N).symm⟩,rfl⟩
theorem Gr.trans{N N' N2:List Gt}{o o':Option D}(a:Gr N N' o)(b:Gr N' N2 o'):Gr N N2 o':=by
 obtain⟨m1,e1⟩:=a.ex;obtain⟨m2,e2⟩:=b.ex;exact⟨b.iv,⟨m1++m2,by rw[e2,e1,RK]⟩,b.fl⟩
theorem Gr.le{N N':List Gt}{o:Option D}(a:Gr N N' o):N.length<=N'.length:=by
 obtain⟨m,e⟩:=a.ex;rw[e,mn];lia
theorem wZ(l:List Nat)(a b:D)(ha:flatD a=true)(hb:flatD b=true):flatD (.tup [.str l,a,b])=true:=by
 rw[cu];simp only[flatDs,ha,hb,flatD,Ss]
theorem me{N:List Gt}(i:Iv N){s:Int}(hs:0<=s/\s<12)(m:List Int){w:LNN}(hw:w.length<=N.length):Gr N (cA N s m w).2 (cA N s m w).1:=by
 unfold cA kl;split
 ·rename_i d hd;refine⟨i,⟨[],(Ru N).symm⟩,?_⟩;split at hd
  ·cases hd;exact wZ _ _ _ (fS _) (fS _)
  ·split at hd
   ·cases hd
   ·split at hd
    ·cases hd
    ·cases hd;exact wZ _ _ _ (fS _) (fS _)
 ·rename_i N' hd;split at hd
  ·cases hd
  ·split at hd
   ·rename_i hf;cases hd;rw[List.find?_eq_none]at hf;refine⟨⟨?_,fun n hn=>?_,fun k n hk=>?_⟩,⟨_,rfl⟩,rfl⟩
    ·rw[Rw];refine Rv.mpr ⟨i.nd,Rx.mpr ⟨Se,SM⟩,fun x hx y hy e=>?_⟩;obtain⟨n,hn,en⟩:=oz hx;have hy:y=s:=nS hy;exact hf n hn (by rw[RO,en,e,hy])
    ·rcases vg hn with hn|hn
     ·exact i.bd n hn
     ·rw[nS hn];exact hs
    ·rcases rA hk with h|⟨e1,e2⟩
     ·exact i.wl k n h
     ·rw[e2,e1];exact hw
   ·split at hd
    ·cases hd;exact Gr.refl i
    ·cases hd
theorem mf(m:List Int)(w:LNN):∀(ss:List Int) {N:List Gt},Iv N->(∀s∈ss,0<=s/\s<12)->w.length<=N.length->Gr N (bV m w ss N).2 (bV m w ss N).1
 |[],N,i,_,_=>Gr.refl i
 |s::ss,N,i,hs,hw=>by
  have g:=me i (hs s Q2) m hw;unfold bV;split
  ·rename_i d N' e;rw[e]at g;exact g
  ·rename_i N' e;rw[e]at g;exact g.trans (mf m w ss g.iv (fun x hx=>hs x (Q7 _ hx)) (RB hw g.le))
theorem o9{nY:LNN}{ps:List Pl}{ap:List Gi}(hb:∀a∈ap,0<=a.2.2/\a.2.2<12){n:Gt}(mv:List Nat){N:List Gt}(i:Iv N)(hw:n.2.2.length+1<=N.length):Gr N (dE nY ps ap n mv N).2 (dE nY ps ap n mv N).1:=by
 unfold dE;have hg:∀s∈jk ap n.1 mv,0<=s/\s<12:=fun s hs=>by
  unfold jk at hs;obtain⟨a,ha,e⟩:=oz hs;rw[<-e];exact hb a (S8.mp ha).1
 split
 ·exact Gr.refl i
 ·exact⟨i,⟨[],(Ru N).symm⟩,wZ _ _ _ (fS _) rfl⟩
 ·exact⟨i,⟨[],(Ru N).symm⟩,wZ _ _ _ (fS _) rfl⟩
 ·rename_i t s ss _ e;rw[e]at hg;exact mf t _ (s::ss) i hg (by rw[mn];exact hw)
theorem iy{nY:LNN}{ps:List Pl}{ap:List Gi}(hb:∀a∈ap,0<=a.2.2/\a.2.2<12){n:Gt}:∀(l:LNN) {N:List Gt},Iv N->n.2.2.length+1<=N.length->Gr N (aU nY ps ap n l N).2 (aU nY ps ap n l N).1
 |[],N,i,_=>Gr.refl i
 |mv::l,N,i,hw=>by
  have g:=o9 (nY:=nY) (ps:=ps) hb mv i hw;unfold aU;split
  ·rename_i d N' e;rw[e]at g;exact g
  ·rename_i N' e;rw[e]at g;exact g.trans (iy hb l g.iv (RB hw g.le))
theorem Aj(N:List Gt)(s:Int)(m:List Int)(w:LNN):Ai N (kl N s m w)=((cA N s m w).1.getD .non,dG (cA N s m w).2):=by
 unfold cA;cases kl N s m w <;> rfl
theorem uR(N:List Gt)(i:Iv N)(s:Int)(m:List Int)(w:LNN):iM jV .d (dG N) [.int s,eM m,wD w]=.ok ((.f,(cA N s m w).1.getD .non),dG (cA N s m w).2):=pX (r:=(.f,(cA N s m w).1.getD .non)) fun p=>by
 have:=i.le;have h:=CD N i.nd (by lia) s m w p;rw[Aj]at h;exact h
theorem qr(N:List Gt):aE .d (dG N)=true:=by
 unfold dG;rw[aE];exact wY N
theorem xV(ds:List D):isnO (.tup ds) (.non)=.ok (.f,.bl true):=id rfl
theorem k9(N:List Gt)(s:Int)(m:List Int)(w:LNN):(cA N s m w).1=none\/∃ds,(cA N s m w).1=some (.tup ds):=by
 unfold cA kl;split
 ·rename_i d hd;right;split at hd
  ·cases hd;exact⟨_,rfl⟩
  ·split at hd
   ·cases hd
   ·split at hd
    ·cases hd
    ·cases hd;exact⟨_,rfl⟩
 ·exact .inl rfl
theorem CI(CH NE:D)(p:Addr)(N:List Gt)(i:Iv N)(st:Int)(m0:List Int)(w:LNN)(hw:w.length+1<=N.length)(mv:List Nat)(t:List Int)(s:Int)(hs:0<=s/\s<12)(t8 Hh:Option R):
  match(cA N s t (w++[mv])).1 with
  |some d=>b5 [some (.f,CH),some (.f,NE),some (.pin p .d,dG N),some (.f,.int st),some (.f,eM m0),some (.f,wD w),some (.f,.str mv),some (.f,eM t),t8,some (.f,.int s),Hh]=.ok (.rt (.t [.f,.pin p .d],.tup [d,dG (cA N s t (w++[mv])).2]))
  |none=>b5 [some (.f,CH),some (.f,NE),some (.pin p .d,dG N),some (.f,.int st),some (.f,eM m0),some (.f,wD w),some (.f,.str mv),some (.f,eM t),t8,some (.f,.int s),Hh]=.ok (.nx [some (.f,CH),some (.f,NE),some (.pin p .d,dG (cA N s t (w++[mv])).2),some (.f,.int st),some (.f,eM m0),some (.f,wD w),some (.f,.str mv),some (.f,eM t),t8,some (.f,.int s),some (.f,.non)]):=by
 have hle:=i.le;have ha:=FH w mv (by lia);have hc:=uR N i s t (w++[mv]);have gr:=me i hs t (w:=w++[mv]) (by rw[mn];exact hw);have cl:=qr (cA N s t (w++[mv])).2;have fl:=gr.fl;have sh:=k9 N s t (w++[mv]);revert hc cl fl sh;generalize (cA N s t (w++[mv])).1=o;generalize dG (cA N s t (w++[mv])).2=G2;generalize dG N=G1;intro hc cl fl sh;unfold wD at hc ⊢;have cf:aE .f (o.getD .non)=true:=by rw[aE];exact fl
 unfold b5;rw[ax (env':=[some (.f,CH),some (.f,NE),some (.pin p .d,G2),some (.f,.int st),some (.f,eM m0),some (.f,.tup (w.map D.str)),some (.f,.str mv),some (.f,eM t),t8,some (.f,.int s),some (.f,o.getD .non)]) (by
  simp only[pv,seval,op,zT,ha,hc,cl,cf,Ss];rfl)]
 rcases sh with e|⟨ds,e⟩
 ·subst e;simp only[pv,seval,op,k7,S3,fP]
 ·subst e;simp only[pv,seval,op,fO,xV,TY]
theorem uS(CH NE:D)(p:Addr)(st:Int)(m0:List Int)(w:LNN)(mv:List Nat)(t:List Int)(t8:Option R):∀(ss:List Int) (N:List Gt),Iv N->w.length+1<=N.length->(∀s∈ss,0<=s/\s<12)->∀t9 Hh:Option R,
  match(bV t (w++[mv]) ss N).1 with
  |some d=>dD (aD 9) b5 (ss.map D.int) [some (.f,CH),some (.f,NE),some (.pin p .d,dG N),some (.f,.int st),some (.f,eM m0),some (.f,wD w),some (.f,.str mv),some (.f,eM t),t8,t9,Hh]=.ok (.rt (.t [.f,.pin p .d],.tup [d,dG (bV t (w++[mv]) ss N).2]))
  |none=>∃u9 JN,dD (aD 9) b5 (ss.map D.int) [some (.f,CH),some (.f,NE),some (.pin p .d,dG N),some (.f,.int st),some (.f,eM m0),some (.f,wD w),some (.f,.str mv),some (.f,eM t),t8,t9,Hh]=.ok (.nx [some (.f,CH),some (.f,NE),some (.pin p .d,dG (bV t (w++[mv]) ss N).2),some (.f,.int st),some (.f,eM m0),some (.f,wD w),some (.f,.str mv),some (.f,eM t),t8,u9,JN])
 |[],N,_,_,_,t9,Hh=>⟨t9,Hh,rfl⟩
 |s::ss,N,i,hw,hs,t9,Hh=>by
  have h1:=CI CH NE p N i st m0 w hw mv t s (hs s Q2) t8 Hh;have gr:=me i (hs s Q2) t (w:=w++[mv]) (by rw[mn];exact hw);have ha:aD 9 (.int s) [some (.f,CH),some (.f,NE),some (.pin p .d,dG N),some (.f,.int st),some (.f,eM m0),some (.f,wD w),some (.f,.str mv),some (.f,eM t),t8,t9,Hh]=.ok [some (.f,CH),some (.f,NE),some (.pin p .d,dG N),some (.f,.int st),some (.f,eM m0),some (.f,wD w),some (.f,.str mv),some (.f,eM t),t8,some (.f,.int s),Hh]:=rfl;unfold bV;cases hg:cA N s t (w++[mv]) with
  |mk o N'=>
   rw[hg]at h1 gr;cases o with
   |some d=>
    dsimp only at h1 ⊢;rw[eg,cM,ha,Gs,h1,Gs]
   |none=>
    dsimp only at h1 ⊢;have ih:=uS CH NE p st m0 w mv t t8 ss N' gr.iv (RB hw gr.le) (fun x hx=>hs x (Q7 _ hx)) (some (.f,.int s)) (some (.f,.non));cases hgs:(bV t (w++[mv]) ss N').1 with
    |some d=>
     rw[hgs]at ih;dsimp only at ih ⊢;rw[eg,cM,ha,Gs,h1,Gs];exact ih
    |none=>
     rw[hgs]at ih;dsimp only at ih ⊢;obtain⟨u9,JN,ih⟩:=ih;refine⟨u9,JN,?_⟩;rw[eg,cM,ha,Gs,h1,Gs];exact ih
theorem CJ(t:List Int):Mh (eM t) .non=.ok (.f,.bl false):=id rfl
theorem xW(t:List Int):isnO (eM t) .non=.ok (.f,.bl true):=id rfl
theorem xX:Mh .non .non=.ok (.f,.bl true):=id rfl
theorem CK(nY:LNN)(ps:List Pl)(hl:ps.length<=100)(hp:∀q∈ps,Il q nY.length)(ap:List Gi)(IW:ap.length<=60)(hb:∀a∈ap,0<=a.2.2/\a.2.2<12)(p:Addr)(N:List Gt)(i:Iv N)(n:Gt)(hw:n.2.2.length+1<=N.length)(mv:List Nat)(hm:mv∈nY)(t7 t8 t9 Hh:Option R):
  match(dE nY ps ap n mv N).1 with
  |some d=>b6 [some (.f,Gz nY ap),some (.f,eN nY ps),some (.pin p .d,dG N),some (.f,.int n.1),some (.f,eM n.2.1),some (.f,wD n.2.2),some (.f,.str mv),t7,t8,t9,Hh]=.ok (.rt (.t [.f,.pin p .d],.tup [d,dG (dE nY ps ap n mv N).2]))
  |none=>∃u7 u8 u9 JN,b6 [some (.f,Gz nY ap),some (.f,eN nY ps),some (.pin p .d,dG N),some (.f,.int n.1),some (.f,eM n.2.1),some (.f,wD n.2.2),some (.f,.str mv),t7,t8,t9,Hh]=.ok (.nx [some (.f,Gz nY ap),some (.f,eN nY ps),some (.pin p .d,dG (dE nY ps ap n mv N).2),some (.f,.int n.1),some (.f,eM n.2.1),some (.f,wD n.2.2),some (.f,.str mv),u7,u8,u9,JN]):=by
 have KI:=Aa nY ps hl hp n.2.1 mv hm;have JO:=uQ nY ap n.1 mv (by lia);have QH:=z9 (cb (nY.idxOf mv) (n.2.1.zip ps));have hfg:=F8 (jk ap n.1 mv);have hg:∀s∈jk ap n.1 mv,0<=s/\s<12:=fun s hs=>by
  unfold jk at hs;obtain⟨a,ha,e⟩:=oz hs;rw[<-e];exact hb a (S8.mp ha).1
 unfold dE;unfold b6;rw[ax (env':=[some (.f,Gz nY ap),some (.f,eN nY ps),some (.pin p .d,dG N),some (.f,.int n.1),some (.f,eM n.2.1),some (.f,wD n.2.2),some (.f,.str mv),some (.f,eO (cb (nY.idxOf mv) (n.2.1.zip ps))),t8,t9,Hh]) (by
  generalize eN nY ps=NE at KI ⊢;generalize Gz nY ap=CE at JO ⊢;simp only[pv,seval,op,KI,QH])]
 rw[ax (env':=[some (.f,Gz nY ap),some (.f,eN nY ps),some (.pin p .d,dG N),some (.f,.int n.1),some (.f,eM n.2.1),some (.f,wD n.2.2),some (.f,.str mv),some (.f,eO (cb (nY.idxOf mv) (n.2.1.zip ps))),some (.l .f,.lst ((jk ap n.1 mv).map D.int)),t9,Hh]) (by
  generalize eN nY ps=NE at KI ⊢;generalize Gz nY ap=CE at JO ⊢;simp only[pv,seval,op,JO,hfg])]
 clear KI JO QH;have lp:=fun t=>uS (Gz nY ap) (eN nY ps) p n.1 n.2.1 n.2.2 mv t (some (.f,.lst ((jk ap n.1 mv).map D.int))) (jk ap n.1 mv) N i hw hg t9 Hh
 generalize eN nY ps=NE at lp ⊢;generalize Gz nY ap=CE at lp ⊢;cases cb (nY.idxOf mv) (n.2.1.zip ps) with
 |none=>
  cases hgs:jk ap n.1 mv with
  |nil=>
   dsimp only;refine⟨some (.f,.non),some (.f,.lst []),t9,Hh,?_⟩;have c0:((0:Int)<((0:Nat):Int))=False:=by simp
   unfold eO;generalize dG N=G1;rw[ax (env':=[some (.f,CE),some (.f,NE),some (.pin p .d,G1),some (.f,.int n.1),some (.f,eM n.2.1),some (.f,wD n.2.2),some (.f,.str mv),some (.f,.non),some (.l .f,.lst []),t9,Hh]) (by simp only[pv,seval,op,xX,RS,Sa,Up,SV,fP] <;> rfl)];rw[ax (env':=[some (.f,CE),some (.f,NE),some (.pin p .d,G1),some (.f,.int n.1),some (.f,eM n.2.1),some (.f,wD n.2.2),some (.f,.str mv),some (.f,.non),some (.l .f,.lst []),t9,Hh]) (by simp only[pv,seval,op,k7,RS,fP])];unfold eJ;simp only[pv,seval,op]
  |cons s ss=>
   dsimp only;unfold eO;generalize dG N=G1;have c0:decide ((0:Int)<((ss.length+1:Nat):Int))=true:=RJ (by lia);rw[GW];simp only[pv,seval,op,xX,fO,bH,c0];rfl
 |some t=>
  have MP:=lp t;clear lp;cases hgs:jk ap n.1 mv with
  |nil=>
   dsimp only;show _=Res.ok (Out.rt (O.t [.f,.pin p .d],D.tup [CG n.2.2 mv,dG N]));show(sSeq _ _) [some (.f,CE),some (.f,NE),some (.pin p .d,dG N),some (.f,.int n.1),some (.f,eM n.2.1),some (.f,wD n.2.2),some (.f,.str mv),some (.f,eM t),some (.l .f,.lst []),t9,Hh]=_;generalize dG N=G1;rw[ax (env':=[some (.f,CE),some (.f,NE),some (.pin p .d,G1),some (.f,.int n.1),some (.f,eM n.2.1),some (.f,wD n.2.2),some (.f,.str mv),some (.f,eM t),some (.l .f,.lst []),t9,Hh]) (by simp only[pv,seval,op,CJ,fP])];rw[GW];simp only[pv,seval,op,xW,fO,Sa];rfl
  |cons s ss=>
   rw[hgs]at MP;dsimp only;show match(bV t (n.2.2++[mv]) (s::ss) N).1 with
    |some d=>(sSeq _ _) [some (.f,CE),some (.f,NE),some (.pin p .d,dG N),some (.f,.int n.1),some (.f,eM n.2.1),some (.f,wD n.2.2),some (.f,.str mv),some (.f,eM t),some (.l .f,.lst ((s::ss).map D.int)),t9,Hh]=.ok (.rt (.t [.f,.pin p .d],.tup [d,dG (bV t (n.2.2++[mv]) (s::ss) N).2]))
    |none=>∃u7 u8 u9 JN,(sSeq _ _) [some (.f,CE),some (.f,NE),some (.pin p .d,dG N),some (.f,.int n.1),some (.f,eM n.2.1),some (.f,wD n.2.2),some (.f,.str mv),some (.f,eM t),some (.l .f,.lst ((s::ss).map D.int)),t9,Hh]=.ok (.nx [some (.f,CE),some (.f,NE),some (.pin p .d,dG (bV t (n.2.2++[mv]) (s::ss) N).2),some (.f,.int n.1),some (.f,eM n.2.1),some (.f,wD n.2.2),some (.f,.str mv),u7,u8,u9,JN])
   have c0:(((ss.length+1:Nat):Int)==0)=false:=by
    rw[R3];lia
   rw[ax (env':=[some (.f,CE),some (.f,NE),some (.pin p .d,dG N),some (.f,.int n.1),some (.f,eM n.2.1),some (.f,wD n.2.2),some (.f,.str mv),some (.f,eM t),some (.l .f,.lst ((s::ss).map D.int)),t9,Hh]) (by
    generalize dG N=G1;simp only[pv,seval,op,CJ,fP])]
   rw[ax (env':=[some (.f,CE),some (.f,NE),some (.pin p .d,dG N),some (.f,.int n.1),some (.f,eM n.2.1),some (.f,wD n.2.2),some (.f,.str mv),some (.f,eM t),some (.l .f,.lst ((s::ss).map D.int)),t9,Hh]) (by
    generalize dG N=G1;simp only[pv,seval,op,xW,bH,c0,fP])]
   have go:∀env':Res Out,dD (aD 9) b5 ((s::ss).map D.int) [some (.f,CE),some (.f,NE),some (.pin p .d,dG N),some (.f,.int n.1),some (.f,eM n.2.1),some (.f,wD n.2.2),some (.f,.str mv),some (.f,eM t),some (.f,.lst ((s::ss).map D.int)),t9,Hh]=env'->eJ [some (.f,CE),some (.f,NE),some (.pin p .d,dG N),some (.f,.int n.1),some (.f,eM n.2.1),some (.f,wD n.2.2),some (.f,.str mv),some (.f,eM t),some (.l .f,.lst ((s::ss).map D.int)),t9,Hh]=env':=fun env' h=>by
    unfold eJ;generalize dG N=G1 at h ⊢;generalize ((s::ss).map D.int)=LL at h ⊢;simp only[pv,seval,op];exact h
   cases JO:(bV t (n.2.2++[mv]) (s::ss) N).1 with
   |some d=>
    rw[JO]at MP;exact go _ MP
   |none=>
    rw[JO]at MP;obtain⟨u9,JN,MP⟩:=MP;exact⟨_,_,u9,JN,go _ MP⟩
structure Nc(nY:LNN)(ps:List Pl)(ap:List Gi):Prop where
 pl:ps.length<=100
 po:∀q∈ps,Il q nY.length
 al:ap.length<=60
 ab:∀a∈ap,0<=a.2.2/\a.2.2<12
theorem uT{nY:LNN}{ps:List Pl}{ap:List Gi}(c:Nc nY ps ap)(p:Addr)(n:Gt):∀(l:LNN),(∀mv∈l,mv∈nY)->∀(N:List Gt),Iv N->n.2.2.length+1<=N.length->∀t6 t7 t8 t9 Hh:Option R,
  match(aU nY ps ap n l N).1 with
  |some d=>dD (aD 6) b6 (l.map D.str) [some (.f,Gz nY ap),some (.f,eN nY ps),some (.pin p .d,dG N),some (.f,.int n.1),some (.f,eM n.2.1),some (.f,wD n.2.2),t6,t7,t8,t9,Hh]=.ok (.rt (.t [.f,.pin p .d],.tup [d,dG (aU nY ps ap n l N).2]))
  |none=>∃u6 u7 u8 u9 JN,dD (aD 6) b6 (l.map D.str) [some (.f,Gz nY ap),some (.f,eN nY ps),some (.pin p .d,dG N),some (.f,.int n.1),some (.f,eM n.2.1),some (.f,wD n.2.2),t6,t7,t8,t9,Hh]=.ok (.nx [some (.f,Gz nY ap),some (.f,eN nY ps),some (.pin p .d,dG (aU nY ps ap n l N).2),some (.f,.int n.1),some (.f,eM n.2.1),some (.f,wD n.2.2),u6,u7,u8,u9,JN])
 |[],_,N,_,_,t6,t7,t8,t9,Hh=>⟨t6,t7,t8,t9,Hh,rfl⟩
 |mv::l,hm,N,i,hw,t6,t7,t8,t9,Hh=>by
  have h1:=CK nY ps c.pl c.po ap c.al c.ab p N i n hw mv (hm mv Q2) t7 t8 t9 Hh;have gr:=o9 (nY:=nY) (ps:=ps) c.ab mv i hw;have ha:aD 6 (.str mv) [some (.f,Gz nY ap),some (.f,eN nY ps),some (.pin p .d,dG N),some (.f,.int n.1),some (.f,eM n.2.1),some (.f,wD n.2.2),t6,t7,t8,t9,Hh]=.ok [some (.f,Gz nY ap),some (.f,eN nY ps),some (.pin p .d,dG N),some (.f,.int n.1),some (.f,eM n.2.1),some (.f,wD n.2.2),some (.f,.str mv),t7,t8,t9,Hh]:=rfl;unfold aU;cases hg:dE nY ps ap n mv N with
  |mk o N'=>
   rw[hg]at h1 gr;cases o with
   |some d=>
    dsimp only at h1 ⊢;rw[eg,cM,ha,Gs,h1,Gs]
   |none=>
    dsimp only at h1 ⊢;obtain⟨u7,u8,u9,JN,h1⟩:=h1;have ih:=uT c p n l (fun x hx=>hm x (Q7 _ hx)) N' gr.iv (RB hw gr.le) (some (.f,.str mv)) u7 u8 u9 JN;cases hgs:(aU nY ps ap n l N').1 with
    |some d=>
     rw[hgs]at ih;dsimp only at ih ⊢;rw[eg,cM,ha,Gs,h1,Gs];exact ih
    |none=>
     rw[hgs]at ih;dsimp only at ih ⊢;obtain⟨v6,v7,v8,v9,v10,ih⟩:=ih;refine⟨v6,v7,v8,v9,v10,?_⟩;rw[eg,cM,ha,Gs,h1,Gs];exact ih
theorem rB(nn:Nat)(c:O)(g:FS)(p:Addr)(d0 d1 d2 d3:D):fBodyJ 2 4 nn c g p [d0,d1,d2,d3]=Res.bnd (g ([some (.f,d1),some (.f,d2),some (.pin p c,d0),some (.f,d3)]++List.replicate nn none)) (f:=⟨fun o=>match o with | .rt r=>.ok r|_=>.bad⟩):=by
 unfold fBodyJ;dsimp only;rw[Rb ⟨rfl,(by decide:2<=3)⟩];rfl
theorem uU{nY:LNN}{ps:List Pl}{ap:List Gi}(c:Nc nY ps ap)(p:Addr)(N:List Gt)(i:Iv N)(n:Gt)(hn:n∈N)(hw:n.2.2.length+1<=N.length):
  c6 p [dG N,Gz nY ap,eN nY ps,.int n.1]=.ok (.t [.f,.pin p .d],.tup [(aU nY ps ap n nY N).1.getD .non,dG (aU nY ps ap n nY N).2]):=by
 have hd:=C9 (uO i.nd hn);unfold vG at hd;have fm:=kh n.2.1;have fw:=fS n.2.2;have lp:=uT c p n nY (fun _ h=>h) N i hw none none none none none;unfold c6 nI;rw[rB];simp only[List.replicate,SH,Tc];rw[ax (env':=[some (.f,Gz nY ap),some (.f,eN nY ps),some (.pin p .d,dG N),some (.f,.int n.1),some (.f,eM n.2.1),none,none,none,none,none,none]) (by
  generalize dG N=G1 at hd ⊢;simp only[pv,seval,op,hd,M7,fm])]
 rw[ax (env':=[some (.f,Gz nY ap),some (.f,eN nY ps),some (.pin p .d,dG N),some (.f,.int n.1),some (.f,eM n.2.1),some (.f,wD n.2.2),none,none,none,none,none]) (by
  generalize dG N=G1 at hd ⊢;simp only[pv,seval,op,hd,P5,fw])]
 have go:∀r:Res Out,dD (aD 6) b6 (nY.map D.str) [some (.f,Gz nY ap),some (.f,eN nY ps),some (.pin p .d,dG N),some (.f,.int n.1),some (.f,eM n.2.1),some (.f,wD n.2.2),none,none,none,none,none]=r->gQ [some (.f,Gz nY ap),some (.f,eN nY ps),some (.pin p .d,dG N),some (.f,.int n.1),some (.f,eM n.2.1),some (.f,wD n.2.2),none,none,none,none,none]=r:=fun r h=>by
  unfold gQ;generalize dG N=G1 at h ⊢;unfold Gz at h ⊢;generalize eN nY ps=NE at h ⊢;simp only[pv,seval,op];exact h
 cases JO:(aU nY ps ap n nY N).1 with
 |some d=>
  rw[JO]at lp;rw[GW,go _ lp,Gs];rfl
 |none=>
  rw[JO]at lp;obtain⟨u6,u7,u8,u9,JN,lp⟩:=lp;rw[ax (go _ lp)];unfold i4;generalize dG (aU nY ps ap n nY N).2=G2;generalize eN nY ps=NE;generalize Gz nY ap=CE;simp only[pv,seval,op,fO,S3]
theorem CL{nY:LNN}{ps:List Pl}{ap:List Gi}(c:Nc nY ps ap)(N:List Gt)(i:Iv N)(n:Gt)(hn:n∈N)(hw:n.2.2.length+1<=N.length):iM c6 .d (dG N) [Gz nY ap,eN nY ps,.int n.1]=.ok ((.f,(aU nY ps ap n nY N).1.getD .non),dG (aU nY ps ap n nY N).2):=
 pX (r:=(.f,(aU nY ps ap n nY N).1.getD .non)) fun p=>uU c p N i n hn hw
noncomputable def heldO(nY:LNN)(ps:List Pl)(ap:List Gi):Nat->Nat->List Gt->So
 | 0,_,N=>(none,N)
 |f+1,k,N=>match N[k]? with
  |none=>(none,N)
  |some n=>match aU nY ps ap n nY N with
   |(some d,N')=>(some d,N')
   |(none,N')=>heldO nY ps ap f (k+1) N'
theorem CM{c:O}{F:Addr->List D->Res R}{i:Nat}{fs:FOs}{env e:PV.Env}{o0 o1 o2:Opd}{ow:O}{d0:D}{ds:List D}{x:R×D}(h:fs env=.ok ([o0,o1,.var i,o2],e))(hi:e[i]?=some (some (ow,d0)))(ho:nr c ow=true)(hd:g6 (e.set i none) [o0,o1,o2]=.ok ds)(hc:iM F c d0 ds=.ok x)(IF:(aE x.1.1 x.1.2&&aE c x.2)=true):
  tZ 2 c F i fs env=.ok (x.1,(e.set i none).set i (some (ow,x.2))):=by
 unfold tZ;rw[h];show(match([o0,o1,Opd.var i,o2]:List Opd)[2]? with
  |some (.var j')=>if j'=i then(match e[i]? with
   |some (some (ow,d0))=>if nr c ow then(g6 (e.set i none) (([o0,o1,Opd.var i,o2]:List Opd).eraseIdx 2)).bind fun ds=>(iM F c d0 ds).bind fun x=>if aE x.1.1 x.1.2&&aE c x.2 then .ok (x.1,(e.set i none).set i (some (ow,x.2))) else .ok (x.1,((e.set i none).map frz).set i (some (ow,x.2))) else .bad
   |_=>.bad) else .bad
  |_=>.bad)=_
 show(if i=i then(match e[i]? with
   |some (some (ow,d0))=>if nr c ow then(g6 (e.set i none) [o0,o1,o2]).bind fun ds=>(iM F c d0 ds).bind fun x=>if aE x.1.1 x.1.2&&aE c x.2 then .ok (x.1,(e.set i none).set i (some (ow,x.2))) else .ok (x.1,((e.set i none).map frz).set i (some (ow,x.2))) else .bad
   |_=>.bad) else .bad)=_
 rw[Rb rfl,hi];dsimp only;rw[Rb ho,hd];show((iM F c d0 ds).bind fun x=>if aE x.1.1 x.1.2&&aE c x.2 then .ok (x.1,(e.set i none).set i (some (ow,x.2))) else .ok (x.1,((e.set i none).map frz).set i (some (ow,x.2))))=_;rw[hc];show(if aE x.1.1 x.1.2&&aE c x.2 then Res.ok (x.1,(e.set i none).set i (some (ow,x.2))) else .ok (x.1,((e.set i none).map frz).set i (some (ow,x.2))))=_;rw[Rb IF]
theorem rD(nY:LNN)(ps:List Pl)(ap:List Gi)(n:Gt)(mv:List Nat)(N:List Gt):∀d,(dE nY ps ap n mv N).1=some d->∃ds,d=.tup ds:=by
 have gs:∀(m:List Int) (w:LNN) (ss:List Int) (N:List Gt) d,(bV m w ss N).1=some d->∃ds,d=.tup ds:=by
  intro m w ss;induction ss with
  |nil=>intro N d h;cases h
  |cons s ss ih=>
   intro N d h;unfold bV at h;rcases k9 N s m w with e|⟨ds,e⟩
   ·split at h
    ·rename_i d' N' e';rw[e']at e;cases e
    ·exact ih _ d h
   ·split at h
    ·rename_i d' N' e';rw[e']at e;cases e;cases h;exact⟨ds,rfl⟩
    ·rename_i N' e';rw[e']at e;cases e
 intro d h;unfold dE at h;split at h
 ·cases h
 ·cases h;exact⟨_,rfl⟩
 ·cases h;exact⟨_,rfl⟩
 ·exact gs _ _ _ _ d h
theorem km(nY:LNN)(ps:List Pl)(ap:List Gi)(n:Gt):∀(l:LNN) (N:List Gt) d,(aU nY ps ap n l N).1=some d->∃ds,d=.tup ds
 |[],N,d,h=>by cases h
 |mv::l,N,d,h=>by
  unfold aU at h;split at h
  ·rename_i d' N' e;cases h;exact rD nY ps ap n mv N d (by rw[e])
  ·exact km nY ps ap n l _ d h
theorem Ak(N:List Gt):tU [dG N]=.ok (.l .f,.lst (N.map fun n=>D.int n.1)):=rfl
theorem CN{nY:LNN}{ps:List Pl}{ap:List Gi}(c:Nc nY ps ap)(N:List Gt)(i:Iv N)(k:Nat)(n:Gt)(hk:N[k]?=some n)(t4:Option R):
  match(aU nY ps ap n nY N).1 with
  |some d=>d8 [some (.f,Gz nY ap),some (.f,eN nY ps),some (.d,dG N),some (.f,.int (k:Int)),t4]=.ok (.rt (.f,d))
  |none=>d8 [some (.f,Gz nY ap),some (.f,eN nY ps),some (.d,dG N),some (.f,.int (k:Int)),t4]=.ok (.nx [some (.f,Gz nY ap),some (.f,eN nY ps),some (.d,dG (aU nY ps ap n nY N).2),some (.f,.int ((k+1:Nat):Int)),some (.f,.non)]):=by
 have hn:n∈N:=Rz hk;have hkl:=(oy hk).1;have MV:=i.wl k n hk;have hw:n.2.2.length+1<=N.length:=by lia
 have gr:=iy (nY:=nY) (ps:=ps) c.ab nY i hw (n:=n);have hc:=CL c N i n hn hw;have cl:=qr (aU nY ps ap n nY N).2;have sh:=km nY ps ap n nY N;have cf:aE .f ((aU nY ps ap n nY N).1.getD .non)=true:=by rw[aE];exact gr.fl
 have J5:Ht (N.map fun n=>D.int n.1) (k:Int)=some (.int n.1):=e9 (by rw[List.getElem?_map,hk];rfl);have QJ:=Ak N;revert hc cl sh cf;generalize (aU nY ps ap n nY N).1=o;generalize dG (aU nY ps ap n nY N).2=G2;intro hc cl sh cf;unfold d8;have e1:tZ 2 (.d) c6 2 (ai (ao 0) (ai (ao 1) (ai (ao 2) (ai (au (aB Gk (au (bu tU (ai (ao 2) aG))) (ao 3))) aG)))) [some (.f,Gz nY ap),some (.f,eN nY ps),some (.d,dG N),some (.f,.int (k:Int)),t4]=.ok ((.f,o.getD .non),[some (.f,Gz nY ap),some (.f,eN nY ps),some (.d,G2),some (.f,.int (k:Int)),t4]):=by
  generalize dG N=G1 at QJ hc ⊢;generalize eN nY ps=NE at hc ⊢;generalize Gz nY ap=CE at hc ⊢;rw[CM (o0:=.var 0) (o1:=.var 1) (o2:=.val (.int n.1)) (e:=[some (.f,CE),some (.f,NE),some (.d,G1),some (.f,.int (k:Int)),t4]) (ow:=.d) (d0:=G1) (ds:=[CE,NE,.int n.1]) (by simp only[pv,seval,op,QJ,J5]) rfl rfl rfl hc (by
   show(aE .f (o.getD .non)&&aE .d G2)=true;rw[cf,cl];rfl)]
  rfl
 rw[ax (env':=[some (.f,Gz nY ap),some (.f,eN nY ps),some (.d,G2),some (.f,.int (k:Int)),some (.f,o.getD .non)]) (by
  generalize dG N=G1 at e1 ⊢;generalize eN nY ps=NE at e1 ⊢;generalize Gz nY ap=CE at e1 ⊢;rw[KC,e1,Gs];rfl)]
 generalize eN nY ps=NE;generalize Gz nY ap=CE;cases o with
 |some d=>
  obtain⟨ds,rfl⟩:=sh d rfl;dsimp only;rw[GW];simp only[pv,seval,op,xV,TY]
 |none=>
  dsimp only;rw[ax (env':=[some (.f,CE),some (.f,NE),some (.d,G2),some (.f,.int (k:Int)),some (.f,.non)]) (by simp only[pv,seval,op,k7,S3,fP])];simp only[pv,seval,op,Uk,Up]
theorem CO(N:List Gt):jN [dG N]=.ok (.f,.int (N.length:Int)):=by
 show Res.ok (O.f,D.int (((N.map fun n=>D.int n.1).length:Nat):Int))=_;rw[bH]
section
variable{nY:LNN}{ps:List Pl}{ap:List Gi}{f k:Nat}{N N':List Gt}{n:Gt}{d:D}
theorem iz(h:N[k]?=none):heldO nY ps ap (f+1) k N=(none,N):=by rw[heldO,h]
theorem ml(h:N[k]?=some n)(hm:aU nY ps ap n nY N=(some d,N')):heldO nY ps ap (f+1) k N=(some d,N'):=by
 rw[heldO,h];dsimp only;rw[hm]
theorem kn(h:N[k]?=some n)(hm:aU nY ps ap n nY N=(none,N')):heldO nY ps ap (f+1) k N=heldO nY ps ap f (k+1) N':=by
 rw[heldO,h];dsimp only;rw[hm]
end
theorem held_w{nY:LNN}{ps:List Pl}{ap:List Gi}(c:Nc nY ps ap):∀(f F k:Nat) (N:List Gt),Iv N->k<=N.length->13<=f+k->f<=F->∀t4:Option R,
  match(heldO nY ps ap f k N).1 with
  |some d=>cZ (GJ (aB Ju (ao 3) (au (bu jN (ai (ao 2) aG))))) d8 F [some (.f,Gz nY ap),some (.f,eN nY ps),some (.d,dG N),some (.f,.int (k:Int)),t4]=.ok (.rt (.f,d))
  |none=>∃u4,cZ (GJ (aB Ju (ao 3) (au (bu jN (ai (ao 2) aG))))) d8 F [some (.f,Gz nY ap),some (.f,eN nY ps),some (.d,dG N),some (.f,.int (k:Int)),t4]=.ok (.nx [some (.f,Gz nY ap),some (.f,eN nY ps),some (.d,dG (heldO nY ps ap f k N).2),some (.f,.int ((heldO nY ps ap f k N).2.length:Int)),u4])
 | 0,F,k,N,i,hk,hf,_,t4=>by
  have:=i.le;lia
 |f+1,0,k,N,i,hk,hf,hF,t4=>by lia
 |f+1,F+1,k,N,i,hk,hf,hF,t4=>by
  have hlen:=CO N;by_cases Gy:k<N.length
  ·have J8:N[k]?=some N[k]:=nR Gy;have h1:=CN c N i k N[k] J8 t4;have MV:=i.wl k _ J8;have gr:=iy (nY:=nY) (ps:=ps) c.ab nY i (n:=N[k]) (by lia);have hc:(GJ (aB Ju (ao 3) (au (bu jN (ai (ao 2) aG))))) [some (.f,Gz nY ap),some (.f,eN nY ps),some (.d,dG N),some (.f,.int (k:Int)),t4]=.ok (true,[some (.f,Gz nY ap),some (.f,eN nY ps),some (.d,dG N),some (.f,.int (k:Int)),t4]):=by
    have:(k:Int)<(N.length:Int):=by lia
    generalize dG N=G1 at hlen ⊢;generalize eN nY ps=NE;generalize Gz nY ap=CE;simp only[pv,seval,op,hlen,this,Tr]
   cases hg:aU nY ps ap N[k] nY N with
   |mk o N'=>
    rw[hg]at h1 gr;cases o with
    |some d=>
     rw[ml J8 hg];dsimp only at h1 ⊢;rw[dP,hc,Gs];dsimp only;rw[Rb rfl,h1,Gs]
    |none=>
     rw[kn J8 hg];dsimp only at h1 gr ⊢;have hl:=gr.le;have ih:=held_w c f F (k+1) N' gr.iv (by lia) (by lia) (by lia) (some (.f,.non));cases hgs:(heldO nY ps ap f (k+1) N').1 with
     |some d=>
      rw[hgs]at ih;dsimp only at ih ⊢;rw[dP,hc,Gs];dsimp only;rw[Rb rfl,h1,Gs];exact ih
     |none=>
      rw[hgs]at ih;dsimp only at ih ⊢;obtain⟨w4,ih⟩:=ih;refine⟨w4,?_⟩;rw[dP,hc,Gs];dsimp only;rw[Rb rfl,h1,Gs];exact ih
  ·have J8:N[k]?=none:=List.getElem?_eq_none (by lia);have ek:k=N.length:=by lia
   rw[iz J8];dsimp only;refine⟨t4,?_⟩;have hc:(GJ (aB Ju (ao 3) (au (bu jN (ai (ao 2) aG))))) [some (.f,Gz nY ap),some (.f,eN nY ps),some (.d,dG N),some (.f,.int (k:Int)),t4]=.ok (false,[some (.f,Gz nY ap),some (.f,eN nY ps),some (.d,dG N),some (.f,.int (k:Int)),t4]):=by
    have:¬ (k:Int)<(N.length:Int):=by lia
    generalize dG N=G1 at hlen ⊢;generalize eN nY ps=NE;generalize Gz nY ap=CE;simp only[pv,seval,op,hlen,this,SV]
   rw[dP,hc,Gs];dsimp only;rw[Rg Rc,ek]
def N0(ps:List Pl):List Gt:=[(0,ps.map (·.1),[])]
theorem QK(ps:List Pl):Iv (N0 ps):=by
 refine⟨?_,fun n hn=>?_,fun k n hk=>?_⟩
 ·show[(0:Int)].Nodup;exact Rx.mpr ⟨Se,SM⟩
 ·rw[nS hn];exact⟨Wy 0,(by decide:(0:Int)<12)⟩
 ·cases k with
  |zero=>
   cases hk;exact Q8 _
  |succ k=>simp[N0]at hk
abbrev walk(nY:LNN)(ps:List Pl)(ap:List Gi):So:=heldO nY ps ap 13 0 (N0 ps)
def mk(N:List Gt)(s:Int):List Int:=((N.find? fun z=>z.1==s).map (·.2.1)).getD []
theorem CP{N:List Gt}{s:Int}{n:Gt}(h:(N.find? fun z=>z.1==s)=some n):mk N s=n.2.1:=by
 unfold mk;rw[h];rfl
theorem qu{N:List Gt}{s:Int}(h:s∈N.map (·.1)):∃n,(N.find? fun z=>z.1==s)=some n:=by
 cases hf:N.find? fun z=>z.1==s with
 |none=>
  rw[List.find?_eq_none]at hf;obtain⟨z,hz,e⟩:=oz h;exact absurd (RO.mpr e) (hf z hz)
 |some n=>exact⟨n,rfl⟩
def gj(l:List (List Int)):D:=.tup [.str [115,97,109,101],.lst (l.map eM)]
theorem CQ(N:List Gt)(k:Nat)(all:∀s:Nat,s<k->(s:Int)∈N.map (·.1)):cO (aD 0) eW (aB Gk (au (aB J3 (ao 1) (ao 0))) (au (aI (.int 0)))) ((List.range k).map fun(s:Nat)=>D.int (s:Int)) [none,some (.f,dG N)]=.ok (((List.range k).map fun(s:Nat)=>mk N (s:Int)).map eM):=by
 rw[bN (r:=fun s:Nat=>eM (mk N (s:Int))) (fun env=>∃t,env=[t,some (.f,dG N)]) (List.range k) ?_ _ ⟨none,rfl⟩]
 ·rw[Rq];rfl
 ·rintro s hs env ⟨t,rfl⟩;obtain⟨n,hn⟩:=qu (all s (RL.mp hs));have hd:=C9 hn;unfold vG at hd;rw[CP hn];generalize dG N=G1 at hd ⊢;exact⟨[some (.f,.int (s:Int)),some (.f,G1)],rfl,.f,[some (.f,.int (s:Int)),some (.f,G1)],by simp only[pv,seval,op,hd,M7],_,rfl⟩
theorem CS{nY:LNN}{ps:List Pl}{ap:List Gi}(c:Nc nY ps ap)(Kb:0<=aR ap/\aR ap<=12)(h0:(walk nY ps ap).1=none)(all:(walk nY ps ap).1=none->∀s:Nat,s<(aR ap).toNat->(s:Int)∈(walk nY ps ap).2.map (·.1)):
  gv [Gz nY ap,eN nY ps]=.ok (.t [.f,.l .f],gj ((List.range (aR ap).toNat).map fun(s:Nat)=>mk (walk nY ps ap).2 (s:Int))):=by
 have Hy:=c.pl;have IW:=c.al;have QL:=z8 nY ps (by lia);have fm:=kh (ps.map (·.1));have M8:=o5 nY ap (by lia);have hw:=held_w c 13 100000 0 (N0 ps) (QK ps) (RM _) (by lia) (by lia) none;have Iu:Jj (.tup (nY.map D.str)) (.tup (nY.map D.str))=.ok (.f,.bl false):=j9 _ (by rw[plainD];exact f9 _ _);have Of:Gk (Gz nY ap) (.int 0)=.ok (.f,.tup (nY.map D.str)):=rfl;have Og:Gk (eN nY ps) (.int 0)=.ok (.f,.tup (nY.map D.str)):=rfl;unfold gv xK;rw[bq (h:=by rfl)];rw[ax (env':=[some (.f,Gz nY ap),some (.f,eN nY ps),none,none,none]) (by
  generalize eN nY ps=NE at Og ⊢;generalize Gz nY ap=CE at Of ⊢;simp only[pv,↓reduceIte,Nat.reduceAdd,Nat.reduceLT,Nat.reduceLeDiff,Nat.reduceEqDiff,op,Of,Og,Iu,fP])]
 rw[ax (env':=[some (.f,Gz nY ap),some (.f,eN nY ps),some (.d,dG (N0 ps)),none,none]) (by
  generalize eN nY ps=NE at QL ⊢;generalize Gz nY ap=CE;simp only[pv,↓reduceIte,Nat.reduceAdd,Nat.reduceLT,Nat.reduceLeDiff,Nat.reduceEqDiff,op,QL,fm];rfl)]
 rw[ax (env':=[some (.f,Gz nY ap),some (.f,eN nY ps),some (.d,dG (N0 ps)),some (.f,.int ((0:Nat):Int)),none]) (by
  generalize dG (N0 ps)=G0;simp only[pv,↓reduceIte,Nat.reduceAdd,Nat.reduceLT,Nat.reduceLeDiff,Nat.reduceEqDiff,op];rfl)]
 unfold walk at all h0 ⊢;cases JO:(heldO nY ps ap 13 0 (N0 ps)).1 with
 |some d=>rw[JO]at h0;cases h0
 |none=>
  rw[JO]at hw;obtain⟨u4,hw⟩:=hw;have OX:=CQ (heldO nY ps ap 13 0 (N0 ps)).2 (aR ap).toNat (all JO)
  rw[ax (env':=_) (by
   unfold p7;exact hw)]
  unfold nJ;have QM:(((List.range (aR ap).toNat).map fun(s:Nat)=>mk (heldO nY ps ap 13 0 (N0 ps)).2 (s:Int)).map eM).length<=sizeLine:=bA (by
   rw[bH,bH,Rr];lia)
  generalize ((List.range (aR ap).toNat).map fun(s:Nat)=>mk (heldO nY ps ap 13 0 (N0 ps)).2 (s:Int))=RR at OX QM ⊢;generalize dG (heldO nY ps ap 13 0 (N0 ps)).2=G2 at OX ⊢;generalize eN nY ps=NE;generalize Gz nY ap=CE at M8 ⊢;have hr:=FD (aR ap) Kb.1 (by lia) (au (eZ bZ (ai (ao 0) aG))) [some (.f,CE),some (.f,NE),some (.d,G2),some (.f,.int ((heldO nY ps ap 13 0 (N0 ps)).2.length:Int)),u4] [some (.f,CE),some (.f,NE),some (.d,G2),some (.f,.int ((heldO nY ps ap 13 0 (N0 ps)).2.length:Int)),u4] (.val (.int (aR ap))) (by simp only[pv,↓reduceIte,Nat.reduceAdd,Nat.reduceLT,Nat.reduceLeDiff,Nat.reduceEqDiff,op,M8]) rfl;generalize dt (au (eZ bZ (ai (ao 0) aG)))=IT at hr ⊢;generalize (aB Gk (au (aB J3 (ao 1) (ao 0))) (au (aI (.int 0))))=GG at OX ⊢;simp only[pv,↓reduceIte,Nat.reduceAdd,Nat.reduceLT,Nat.reduceLeDiff,Nat.reduceEqDiff,op,uz,hr,OX,QM];rfl
theorem iA{ap:List Gi}{x s:Int}{mv:List Nat}:s∈jk ap x mv<->((x,mv,s):Gi)∈ap:=by
 unfold jk;rw[RW];constructor
 ·rintro⟨a,ha,e⟩;obtain⟨h1,h2⟩:=S8.mp ha;rw[Rh,RO,RO]at h2;obtain⟨a1,a2,a3⟩:=a;obtain⟨e1,e2⟩:=h2;cases e1;cases e2;cases e;exact h1
 ·intro h;exact⟨(x,mv,s),S8.mpr ⟨h,by simp⟩,rfl⟩
theorem w5{N:List Gt}{s:Int}{m:List Int}{w:LNN}(h:(cA N s m w).1=none):s∈(cA N s m w).2.map (·.1):=by
 unfold cA kl at h ⊢;cases hf:N.find? (uP s m) with
 |some n=>
  rw[hf]at h;cases h
 |none=>
  rw[hf]at h;dsimp only at h ⊢;cases hs:N.find? fun n=>n.1==s with
  |none=>
   dsimp only;rw[Rw];exact Q5 _ (Ry.mpr rfl)
  |some n=>
   rw[hs]at h;dsimp only at h ⊢;by_cases hm:n.2.1=m
   ·rw[Rb hm];have h1:=List.find?_some hs;have h1:n.1=s:=by simpa using h1
    exact RW.mpr ⟨n,List.mem_of_find?_eq_some hs,h1⟩
   ·rw[Rg hm]at h;cases h
theorem Gr.up{N N':List Gt}{o:Option D}(g:Gr N N' o){s:Int}(h:s∈N.map (·.1)):s∈N'.map (·.1):=by
 obtain⟨m,e⟩:=g.ex;rw[e,Rw];exact Q9 _ h
theorem oj(m:List Int)(w:LNN):∀(ss:List Int) (N:List Gt),Iv N->(∀s∈ss,0<=s/\s<12)->w.length<=N.length->(bV m w ss N).1=none->∀s∈ss,s∈(bV m w ss N).2.map (·.1)
 |[],N,_,_,_,_=>fun _ h=>nomatch h
 |s::ss,N,i,hs,hw,h=>by
  have gr:=me i (hs s Q2) m hw;have gh:=w5 (N:=N) (s:=s) (m:=m) (w:=w);unfold bV at h ⊢;cases hg:cA N s m w with
  |mk o N'=>
   rw[hg]at gr gh h;cases o with
   |some d=>cases h
   |none=>
    dsimp only at gr gh h ⊢;have g2:=mf m w ss gr.iv (fun x hx=>hs x (Q7 _ hx)) (RB hw gr.le);have ih:=oj m w ss N' gr.iv (fun x hx=>hs x (Q7 _ hx)) (RB hw gr.le) h;intro x hx;rcases Ri.mp hx with e|hx
    ·rw[e];exact g2.up (gh rfl)
    ·exact ih x hx
theorem Al{ap:List Gi}(hb:∀a∈ap,0<=a.2.2/\a.2.2<12){x:Int}{mv:List Nat}:∀s∈jk ap x mv,0<=s/\s<12:=fun s hs=>hb _ (iA.mp hs)
theorem om{nY:LNN}{ps:List Pl}{ap:List Gi}(hb:∀a∈ap,0<=a.2.2/\a.2.2<12){n:Gt}:∀(l:LNN) (N:List Gt),Iv N->n.2.2.length+1<=N.length->(aU nY ps ap n l N).1=none->∀mv∈l,∀s∈jk ap n.1 mv,s∈(aU nY ps ap n l N).2.map (·.1)
 |[],N,_,_,_=>fun _ h=>nomatch h
 |mv::l,N,i,hw,h=>by
  have gr:=o9 (nY:=nY) (ps:=ps) hb mv i hw;have mh:(dE nY ps ap n mv N).1=none->∀s∈jk ap n.1 mv,s∈(dE nY ps ap n mv N).2.map (·.1):=fun h=>by
   unfold dE at h ⊢;have hg:=Al hb (x:=n.1) (mv:=mv);cases hf:cb (nY.idxOf mv) (n.2.1.zip ps) with
   |none=>
    rw[hf]at h;cases hgs:jk ap n.1 mv with
    |nil=>exact fun _ h=>nomatch h
    |cons s ss=>rw[hgs]at h;cases h
   |some t=>
    rw[hf]at h;cases hgs:jk ap n.1 mv with
    |nil=>rw[hgs]at h;cases h
    |cons s ss=>
     rw[hgs]at h hg;exact oj t (n.2.2++[mv]) (s::ss) N i hg (by rw[mn];exact hw) h
  unfold aU at h ⊢;cases hg:dE nY ps ap n mv N with
  |mk o N'=>
   rw[hg]at gr mh h;cases o with
   |some d=>cases h
   |none=>
    dsimp only at gr mh h ⊢;have g2:=iy (nY:=nY) (ps:=ps) hb l gr.iv (n:=n) (RB hw gr.le);have ih:=om hb l N' gr.iv (RB hw gr.le) h;intro x hx s hs;rcases Ri.mp hx with e|hx
    ·rw[e]at hs;exact g2.up (mh rfl s hs)
    ·exact ih x hx s hs
def Cl(nY:LNN)(ap:List Gi)(N:List Gt)(k:Nat):Prop:=∀(j:Nat) (n:Gt),j<k->N[j]?=some n->∀mv∈nY,∀s∈jk ap n.1 mv,s∈N.map (·.1)
theorem qw{nY:LNN}{ps:List Pl}{ap:List Gi}(hb:∀a∈ap,0<=a.2.2/\a.2.2<12):∀(f k:Nat) (N:List Gt),Iv N->k<=N.length->13<=f+k->Cl nY ap N k->(heldO nY ps ap f k N).1=none->Gr N (heldO nY ps ap f k N).2 none/\Cl nY ap (heldO nY ps ap f k N).2 (heldO nY ps ap f k N).2.length
 | 0,k,N,i,hk,hf,_,_=>by
  have:=i.le;lia
 |f+1,k,N,i,hk,hf,cl,h=>by
  by_cases Gy:k<N.length
  ·have J8:N[k]?=some N[k]:=nR Gy;have MV:=i.wl k _ J8;have gr:=iy (nY:=nY) (ps:=ps) hb nY i (n:=N[k]) (by lia);have mh:=om (nY:=nY) (ps:=ps) hb (n:=N[k]) nY N i (by lia);cases hg:aU nY ps ap N[k] nY N with
   |mk o N'=>
    rw[hg]at gr mh;cases o with
    |some d=>rw[ml J8 hg]at h;cases h
    |none=>
     rw[kn J8 hg]at h ⊢;dsimp only at gr mh;have hl:=gr.le;obtain⟨more,em⟩:=gr.ex;have cl':Cl nY ap N' (k+1):=fun j n hj hn mv KI s hs=>by
      have P6:N[j]?=some n:=by rw[em,List.getElem?_append_left (by lia)]at hn;exact hn
      by_cases ej:j=k
      ·subst ej;rw[J8]at P6;cases P6;exact mh rfl mv KI s hs
      ·exact gr.up (cl j n (by lia) P6 mv KI s hs)
     obtain⟨g2,c2⟩:=qw hb f (k+1) N' gr.iv (by lia) (by lia) cl' h;exact⟨gr.trans g2,c2⟩
  ·have J8:N[k]?=none:=List.getElem?_eq_none (by lia);have ek:k=N.length:=by lia
   rw[iz J8];exact⟨Gr.refl i,ek▸cl⟩
section
variable{P:Int->Prop}
theorem CT{N:List Gt}{s:Int}{m:List Int}{w:LNN}(h:∀n∈N,P n.1)(hs:P s):∀n∈(cA N s m w).2,P n.1:=by
 unfold cA kl;cases N.find? (uP s m) with
 |some n=>exact h
 |none=>
  dsimp only;cases N.find? fun n=>n.1==s with
  |none=>
   intro n hn;rcases vg hn with hn|hn
   ·exact h n hn
   ·rw[nS hn];exact hs
  |some n=>
   dsimp only;by_cases hm:n.2.1=m
   ·rw[Rb hm];exact h
   ·rw[Rg hm];exact h
theorem uV(m:List Int)(w:LNN):∀(ss:List Int) (N:List Gt),(∀n∈N,P n.1)->(∀s∈ss,P s)->∀n∈(bV m w ss N).2,P n.1
 |[],N,h,_=>h
 |s::ss,N,h,hs=>by
  have g:=CT (m:=m) (w:=w) h (hs s Q2);unfold bV;cases hg:cA N s m w with
  |mk o N'=>
   rw[hg]at g;cases o with
   |some d=>exact g
   |none=>exact uV m w ss N' g fun x hx=>hs x (Q7 _ hx)
theorem uW{nY:LNN}{ps:List Pl}{ap:List Gi}(ha:∀a∈ap,P a.2.2){n:Gt}:∀(l:LNN) (N:List Gt),(∀n∈N,P n.1)->∀n'∈(aU nY ps ap n l N).2,P n'.1
 |[],N,h=>h
 |mv::l,N,h=>by
  have g:∀n'∈(dE nY ps ap n mv N).2,P n'.1:=by
   unfold dE;split
   ·exact h
   ·exact h
   ·exact h
   ·rename_i t s ss _ e;exact uV t _ (s::ss) N h fun x hx=>ha _ (iA.mp (by rw[e];exact hx))
  unfold aU;cases hg:dE nY ps ap n mv N with
  |mk o N'=>
   rw[hg]at g;cases o with
   |some d=>exact g
   |none=>exact uW ha l N' g
theorem xY{nY:LNN}{ps:List Pl}{ap:List Gi}(ha:∀a∈ap,P a.2.2):∀(f k:Nat) (N:List Gt),(∀n∈N,P n.1)->∀n∈(heldO nY ps ap f k N).2,P n.1
 | 0,k,N,h=>h
 |f+1,k,N,h=>by
  cases hk:N[k]? with
  |none=>rw[iz hk];exact h
  |some n=>
   have g:=uW (nY:=nY) (ps:=ps) ha (n:=n) nY N h;cases hg:aU nY ps ap n nY N with
   |mk o N'=>
    rw[hg]at g;cases o with
    |some d=>rw[ml hk hg];exact g
    |none=>rw[kn hk hg];exact xY ha f (k+1) N' g
end
theorem walk_all{nY:LNN}{ps:List Pl}{ap:List Gi}{mZ:Nat}(r:Ra nY ap mZ)(h:(walk nY ps ap).1=none):
  (walk nY ps ap).2.length<=12/\((walk nY ps ap).2.length:Int)=aR ap/\∀s:Nat,s<(walk nY ps ap).2.length->(s:Int)∈(walk nY ps ap).2.map (·.1):=by
 have hm:=r.mm;have hb:∀a∈ap,0<=a.2.2/\a.2.2<12:=fun a ha=>by
  have:=r.bd a ha;lia
 have Kb:=ke hm.1 r.bd;obtain⟨g,cl⟩:=qw (nY:=nY) (ps:=ps) hb 13 0 (N0 ps) (QK ps) (RM _) (by lia) (fun j n hj=>by lia) h;have kp:=xY (P:=fun s=>0<=s/\s<aR ap) (nY:=nY) (ps:=ps) (ap:=ap) (fun a ha=>⟨(hb a ha).1,(nW ha).2⟩) 13 0 (N0 ps) (fun n hn=>by
  rw[nS hn];exact⟨Wy 0,by show(0:Int)<_;lia⟩)
 unfold walk at h ⊢;generalize heldO nY ps ap 13 0 (N0 ps)=W at h g cl kp ⊢;have z0:(0:Int)∈W.2.map (·.1):=g.up (Ry.mpr rfl);obtain⟨f,rc⟩:=r.rc;have kk:∀q j:Nat,f j=q->j<mZ->(j:Int)∈W.2.map (·.1):=by
  intro q;induction q using Nat.strongRecOn with
  |_ q ih=>
   intro j hq hj;cases j with
   |zero=>exact z0
   |succ j=>
    obtain⟨a,ha,e1,b,hbj,e2⟩:=rc (j+1) (by lia) hj;have hbd:=(r.bd a ha).1;obtain⟨n,hn,en⟩:=oz (ih (f b) (by lia) b rfl (by lia));obtain⟨x,hx,ex⟩:=Ue hn;have:=cl x n hx (by rw[nR hx,ex]) a.2.1 (r.nm a ha) a.2.2 (iA.mpr (by rw[en,<-e2];exact ha));rw[e1]at this;exact this
 have key:∀j:Nat,j<mZ->(j:Int)∈W.2.map (·.1):=fun j hj=>kk (f j) j rfl hj
 have len:(W.2.length:Int)=aR ap:=by
  have l1:W.2.length<=(aR ap).toNat:=by
   have:=l8 (aR ap).toNat g.iv.nd (fun x hx=>by
    obtain⟨n,hn,e⟩:=oz hx;rw[<-e];have:=kp n hn;lia)
   rwa [bH]at this
  have l2:(aR ap).toNat<=W.2.length:=by
   have:=o8 ((List.range (aR ap).toNat).map fun(s:Nat)=>(s:Int)) (W.2.map (·.1)) (dC _ _ fun i j _ _ e=>by lia) (fun x hx=>by
    obtain⟨s,hs,e⟩:=oz hx;rw[<-e];exact key s (by have:=RL.mp hs;lia))
   rwa [bH,Rr,bH]at this
  lia
 exact⟨g.iv.le,len,fun s hs=>key s (by lia)⟩
def Ow(S:List (List Int))(N:List Gt):Prop:=∀n∈N,∃j:Nat,n.1=(j:Int)/\S[j]?=some n.2.1
theorem w6{S:List (List Int)}(nd:S.Nodup){N:List Gt}(o:Ow S N){j:Nat}{t:List Int}(hj:S[j]?=some t)(w:LNN):(cA N (j:Int) t w).1=none/\Ow S (cA N (j:Int) t w).2:=by
 have hf:N.find? (uP (j:Int) t)=none:=by
  rw[List.find?_eq_none];intro n hn h;unfold uP at h;rw[Rh,Ro]at h;obtain⟨i,e1,e2⟩:=o n hn;rw[h.2]at e2;obtain⟨h1,h2⟩:=oy e2;obtain⟨h3,h4⟩:=oy hj;have:i=j:=by
   have pw:=Th.mp nd;rcases Nat.lt_trichotomy i j with hl|hl|hl
   ·exact absurd (h2.trans h4.symm) (pw i j h1 h3 hl)
   ·exact hl
   ·exact absurd (h4.trans h2.symm) (pw j i h3 h1 hl)
  rw[e1,this]at h;simp at h
 unfold cA kl;rw[hf];dsimp only;cases hs:N.find? fun n=>n.1==(j:Int) with
 |none=>
  refine⟨rfl,fun n hn=>?_⟩;rcases vg hn with hn|hn
  ·exact o n hn
  ·rw[nS hn];exact⟨j,rfl,hj⟩
 |some n=>
  dsimp only;have h1:=List.find?_some hs;have h1:n.1=(j:Int):=by simpa using h1
  obtain⟨i,e1,e2⟩:=o n (List.mem_of_find?_eq_some hs);have:i=j:=by lia
  rw[this,hj]at e2;have e3:n.2.1=t:=(Rt e2).symm;rw[Rb e3];exact⟨rfl,o⟩
theorem oq{S:List (List Int)}(nd:S.Nodup){t:List Int}(w:LNN):∀(ss:List Int) (N:List Gt),Ow S N->(∀s∈ss,∃j:Nat,s=(j:Int)/\S[j]?=some t)->(bV t w ss N).1=none/\Ow S (bV t w ss N).2
 |[],N,o,_=>⟨rfl,o⟩
 |s::ss,N,o,h=>by
  obtain⟨j,e,hj⟩:=h s Q2;subst e;obtain⟨g1,g2⟩:=w6 nd o hj w;unfold bV;cases hg:cA N (j:Int) t w with
  |mk q N'=>
   rw[hg]at g1 g2;dsimp only at g1;subst g1;exact oq nd w ss N' g2 fun x hx=>h x (Q7 _ hx)
structure Or(nY:LNN)(ps:List Pl)(S:List (List Int))(ap:List Gi):Prop where
 nd:S.Nodup
 z:S[0]?=some (ps.map (·.1))
 ab:∀(x s:Int) (mv:List Nat),((x,mv,s):Gi)∈ap->∃i j:Nat,x=(i:Int)/\s=(j:Int)/\∃a b,S[i]?=some a/\S[j]?=some b/\cb (nY.idxOf mv) (a.zip ps)=some b
 fu:∀(i:Nat) (mv:List Nat) (a t:List Int),mv∈nY->S[i]?=some a->cb (nY.idxOf mv) (a.zip ps)=some t->∃m:Nat,(((i:Int),mv,(m:Int)):Gi)∈ap
theorem w9{nY:LNN}{ps:List Pl}{S:List (List Int)}{ap:List Gi}(r:Or nY ps S ap){n:Gt}(hn:∃j:Nat,n.1=(j:Int)/\S[j]?=some n.2.1)(mv:List Nat)(hm:mv∈nY){N:List Gt}(o:Ow S N):(dE nY ps ap n mv N).1=none/\Ow S (dE nY ps ap n mv N).2:=by
 obtain⟨i,e1,e2⟩:=hn;have ar:∀s∈jk ap n.1 mv,∃(j:Nat) (t:List Int),s=(j:Int)/\S[j]?=some t/\cb (nY.idxOf mv) (n.2.1.zip ps)=some t:=fun s hs=>by
  obtain⟨i',j,h1,h2,a,b,h3,h4,h5⟩:=r.ab _ _ _ (iA.mp hs);have:i'=i:=by lia
  rw[this,e2]at h3;rw[<-Rt h3]at h5;exact⟨j,b,h2,h4,h5⟩
 unfold dE;cases hf:cb (nY.idxOf mv) (n.2.1.zip ps) with
 |none=>
  cases hg:jk ap n.1 mv with
  |nil=>exact⟨rfl,o⟩
  |cons s ss=>
   exfalso;rw[hg,hf]at ar;obtain⟨j,t,_,_,h⟩:=ar s Q2;cases h
 |some t=>
  cases hg:jk ap n.1 mv with
  |nil=>
   exfalso;obtain⟨m,hm⟩:=r.fu i mv n.2.1 t hm e2 hf;have:=iA.mpr hm;rw[<-e1,hg]at this;cases this
  |cons s ss=>
   rw[hg,hf]at ar;refine oq r.nd _ (s::ss) N o fun x hx=>?_
   obtain⟨j,t',h1,h2,h3⟩:=ar x hx;rw[<-Rt h3]at h2;exact⟨j,h1,h2⟩
theorem ko{nY:LNN}{ps:List Pl}{S:List (List Int)}{ap:List Gi}(r:Or nY ps S ap){n:Gt}(hn:∃j:Nat,n.1=(j:Int)/\S[j]?=some n.2.1):∀(l:LNN),(∀mv∈l,mv∈nY)->∀N,Ow S N->(aU nY ps ap n l N).1=none/\Ow S (aU nY ps ap n l N).2
 |[],_,N,o=>⟨rfl,o⟩
 |mv::l,hl,N,o=>by
  obtain⟨g1,g2⟩:=w9 r hn mv (hl mv Q2) o;unfold aU;cases hg:dE nY ps ap n mv N with
  |mk q N'=>
   rw[hg]at g1 g2;dsimp only at g1;subst g1;exact ko r hn l (fun x hx=>hl x (Q7 _ hx)) N' g2
theorem qx{nY:LNN}{ps:List Pl}{S:List (List Int)}{ap:List Gi}(r:Or nY ps S ap):∀(f k:Nat) (N:List Gt),Ow S N->(heldO nY ps ap f k N).1=none
 | 0,k,N,o=>rfl
 |f+1,k,N,o=>by
  cases hk:N[k]? with
  |none=>rw[iz hk]
  |some n=>
   obtain⟨g1,g2⟩:=ko r (o n (Rz hk)) nY (fun _ h=>h) N o;cases hg:aU nY ps ap n nY N with
   |mk q N'=>
    rw[hg]at g1 g2;dsimp only at g1;subst g1;rw[kn hk hg];exact qx r f (k+1) N' g2
theorem qy{nY:LNN}{ps:List Pl}{S:List (List Int)}{ap:List Gi}(r:Or nY ps S ap):(walk nY ps ap).1=none:=
 qx r 13 0 (N0 ps) fun n hn=>by
  rw[nS hn];exact⟨0,rfl,r.z⟩
theorem CU{nY:LNN}{ps:List Pl}{r:Rn}(hn:nY.length<=3)(e:iw nY ps=some r):Or nY ps r.1 (bD cN r.2):=by
 have h:=kj (ps:=ps) hn;rw[e]at h;obtain⟨⟨m,rm⟩,fu,_⟩:=h;refine⟨rm.nd,rm.z,fun x s mv h=>?_,fun i mv a t hm hs hf=>?_⟩
 ·obtain⟨_,i,j,_,h1,h2,a,b,h3,h4,h5⟩:=rm.ab _ ((c8 cN).mp h);exact⟨i,j,h1,h2,a,b,h3,h4,h5⟩
 ·obtain⟨k,hk,e⟩:=Ue hm;obtain⟨m,h1,h2⟩:=fu i k (.inl (oy hs).1) mv (by rw[nR hk,e]) a t hs hf;exact⟨m,(c8 cN).mpr h2⟩
structure Pm(n:Nat)(E I:Nat->Nat):Prop where
 z:E 0=0
 e:∀i,i<n->E i<n/\I (E i)=i
 i:∀i,i<n->I i<n/\E (I i)=i
theorem Pm.inv{n:Nat}{E I:Nat->Nat}(p:Pm n E I)(h:0<n):Pm n I E:=⟨by
 have:=(p.e 0 h).2;rw[p.z]at this;exact this,p.i,p.e⟩
section
variable{nY:LNN}{P:List Pl}{S:List (List Int)}{ap HN:List Gi}{n:Nat}{E I:Nat->Nat}
structure An(n:Nat)(E:Nat->Nat)(ap HN:List Gi):Prop where
 bd:∀a∈ap,(0<=a.1/\a.1<(n:Int))/\0<=a.2.2/\a.2.2<(n:Int)
 bd':∀a∈HN,(0<=a.1/\a.1<(n:Int))/\0<=a.2.2/\a.2.2<(n:Int)
 iff:∀(i j:Nat) (mv:List Nat),i<n->j<n->((((i:Int),mv,(j:Int)):Gi)∈ap<->(((E i:Nat):Int),mv,((E j:Nat):Int))∈HN)
theorem Or.perm(o:Or nY P S ap)(p:Pm n E I)(a:An n E ap HN)(hn:0<n)(hS:∀j,j<n->∃s,S[j]?=some s):Or nY P ((List.range n).map fun t=>S.getD (I t) []) HN:=by
 have at_:∀t,t<n->((List.range n).map fun t=>S.getD (I t) [])[t]?=some (S.getD (I t) []):=fun t ht=>by
  rw[List.getElem?_map,List.getElem?_range ht];rfl
 have gd:∀t,t<n->S[I t]?=some (S.getD (I t) []):=fun t ht=>by
  obtain⟨s,hs⟩:=hS (I t) (p.i t ht).1;rw[List.getD_eq_getElem?_getD,hs];rfl
 refine⟨?_,?_,fun x s mv hm=>?_,fun i mv b t KI hi hf=>?_⟩
 ·refine dC _ _ fun i j hi hj e=>?_
  have g1:=gd i hi;have g2:=gd j hj;rw[e]at g1;obtain⟨l1,h1⟩:=oy g1;obtain⟨l2,h2⟩:=oy g2;have pw:=Th.mp o.nd;have:I i=I j:=by
   rcases Nat.lt_trichotomy (I i) (I j) with hl|hl|hl
   ·exact absurd (h1.trans h2.symm) (pw _ _ l1 l2 hl)
   ·exact hl
   ·exact absurd (h2.trans h1.symm) (pw _ _ l2 l1 hl)
  rw[<-(p.i i hi).2,<-(p.i j hj).2,this]
 ·rw[at_ 0 hn,(p.inv hn).z,<-o.z,List.getD_eq_getElem?_getD,o.z];rfl
 ·have b:=a.bd' _ hm;dsimp only at b;obtain⟨i,rfl⟩:=RE b.1.1;obtain⟨j,rfl⟩:=RE b.2.1;have hi:i<n:=by lia
  have hj:j<n:=by lia
  have hm':=(a.iff (I i) (I j) mv (p.i i hi).1 (p.i j hj).1).mpr (by rw[(p.i i hi).2,(p.i j hj).2];exact hm);obtain⟨i',j',e1,e2,u,v,hu,hv,hf⟩:=o.ab _ _ _ hm';have:i'=I i:=by lia
  subst this;have:j'=I j:=by lia
  subst this;rw[gd i hi]at hu;rw[gd j hj]at hv;refine⟨i,j,rfl,rfl,_,_,at_ i hi,at_ j hj,?_⟩;rw[Rt hu,Rt hv];exact hf
 ·have KR:=(oy hi).1;rw[bH,Rr]at KR;rw[at_ i KR]at hi;have g:=gd i KR;rw[Rt hi]at g;obtain⟨m,hm⟩:=o.fu (I i) mv b t KI g hf;have bd:=a.bd _ hm;dsimp only at bd;have:=(a.iff (I i) m mv (p.i i KR).1 (by lia)).mp hm;rw[(p.i i KR).2]at this;exact⟨E m,this⟩
theorem Ra.perm{mZ:Nat}(r:Ra nY ap mZ)(p:Pm mZ E I)(a:An mZ E ap HN)(hl:HN.length<=60)(nm:∀a∈HN,a.2.1∈nY):Ra nY HN mZ:=by
 have hm:=r.mm;refine⟨r.mm,hl,a.bd',nm,?_⟩;obtain⟨f,rc⟩:=r.rc;refine⟨fun t=>f (I t),fun t h1 h2=>?_⟩;have h0:1<=I t:=by
  have:=(p.i t h2).2;by_cases h:I t=0
  ·rw[h,p.z]at this;lia
  ·lia
 obtain⟨⟨a1,mv,a2⟩,ha,e1,b,hb,e2⟩:=rc (I t) h0 (p.i t h2).1;dsimp only at e1 e2;subst e1;subst e2;have bd:=(r.bd _ ha).1;dsimp only at bd;have QN:b<mZ:=by lia
 have:=(a.iff b (I t) mv QN (p.i t h2).1).mp ha;rw[(p.i t h2).2]at this;refine⟨_,this,rfl,E b,?_,rfl⟩;show f (I (E b))<f (I t);rw[(p.e b QN).2];exact hb
end
theorem held_ow{nY:LNN}{ps:List Pl}{S:List (List Int)}{ap:List Gi}(r:Or nY ps S ap):∀(f k:Nat) (N:List Gt),Ow S N->Ow S (heldO nY ps ap f k N).2
 | 0,k,N,o=>o
 |f+1,k,N,o=>by
  cases hk:N[k]? with
  |none=>rw[iz hk];exact o
  |some n=>
   obtain⟨g1,g2⟩:=ko r (o n (Rz hk)) nY (fun _ h=>h) N o;cases hg:aU nY ps ap n nY N with
   |mk q N'=>
    rw[hg]at g1 g2;dsimp only at g1;subst g1;rw[kn hk hg];exact held_ow r f (k+1) N' g2
theorem uX{nY:LNN}{ap:List Gi}{mZ:Nat}(r:Ra nY ap mZ):aR ap=(mZ:Int):=by
 have hm:=r.mm;have Kb:=ke hm.1 r.bd;by_cases h1:mZ=1
 ·lia
 ·obtain⟨f,rc⟩:=r.rc;obtain⟨a,ha,e,_⟩:=rc (mZ-1) (by lia) (by lia);have:=(nW ha).2;lia
theorem rE{nY:LNN}{ps:List Pl}{S:List (List Int)}{ap:List Gi}(o:Or nY ps S ap)(r:Ra nY ap S.length):((List.range (aR ap).toNat).map fun(s:Nat)=>mk (walk nY ps ap).2 (s:Int))=S:=by
 have hw:=qy o;have ow:=held_ow o 13 0 (N0 ps) fun n hn=>by
  rw[nS hn];exact⟨0,rfl,o.z⟩
 obtain⟨_,w2,w3⟩:=walk_all r hw;rw[uX r]at w2 ⊢;rw[RP];apply Td;intro i;by_cases hi:i<S.length
 ·rw[List.getElem?_map,List.getElem?_range hi,Option.map_some,nR hi];obtain⟨n,hn⟩:=qu (w3 i (by lia));rw[CP hn];have h1:=List.find?_some hn;have h1:n.1=(i:Int):=by simpa using h1
  obtain⟨j,e1,e2⟩:=ow n (List.mem_of_find?_eq_some hn);have:j=i:=by lia
  subst this;rw[nR hi]at e2;exact e2.symm
 ·rw[List.getElem?_eq_none (by rw[bH,Rr];lia),List.getElem?_eq_none (by lia)]
theorem Ra.nc{nY:LNN}{ps:List Pl}{ap:List Gi}{mZ:Nat}(r:Ra nY ap mZ)(hl:ps.length<=100)(hp:∀q∈ps,Il q nY.length):Nc nY ps ap:=⟨hl,hp,r.len,fun a ha=>by
 have:=r.bd a ha;have:=r.mm;lia⟩
theorem Am{nY:LNN}{ps:List Pl}{S:List (List Int)}{ap:List Gi}(hl:ps.length<=100)(po:∀q∈ps,Il q nY.length)(o:Or nY ps S ap)(ra:Ra nY ap S.length):gv [Gz nY ap,eN nY ps]=.ok (.t [.f,.l .f],gj S):=by
 have hm:=ra.mm;have Kb:=ke hm.1 ra.bd;have hh:=CS (ra.nc (ps:=ps) hl po) ⟨by lia,by lia⟩ (qy o) fun h s hs=>(walk_all ra h).2.2 s (by have:=(walk_all ra h).2.1;lia)
 rw[rE o ra]at hh;exact hh
def e0(c tn t:Nat):Nat:=if t=0 then 0 else 1+(t-1+tn)%c
def i0(c tn t:Nat):Nat:=if t=0 then 0 else 1+(t-1+(c-tn))%c
def fl(b:Bool)(n t:Nat):Nat:=if b then(if t=0 then 0 else n-t) else t
theorem rF{x c:Nat}(h:x<2*c):x%c=if x<c then x else x-c:=by
 by_cases hx:x<c
 ·rw[Rb hx,Nat.mod_eq_of_lt hx]
 ·rw[Rg hx,Nat.mod_eq_sub_mod (by lia),Nat.mod_eq_of_lt (by lia)]
theorem ei{c tn t:Nat}(ht:t<c+1)(h:tn<c):e0 c tn t<c+1/\i0 c tn (e0 c tn t)=t:=by
 unfold e0 i0;by_cases h0:t=0
 ·rw[Rb h0,Rb rfl];lia
 ·rw[Rg h0,rF (x:=t-1+tn) (by lia)];by_cases h1:t-1+tn<c
  ·rw[Rb h1,Rg (by lia),rF (by lia)];split <;> lia
  ·rw[Rg h1,Rg (by lia),rF (by lia)];split <;> lia
theorem ie{c tn t:Nat}(ht:t<c+1)(h:tn<c):i0 c tn t<c+1/\e0 c tn (i0 c tn t)=t:=by
 unfold e0 i0;by_cases h0:t=0
 ·rw[Rb h0,Rb rfl];lia
 ·rw[Rg h0,rF (x:=t-1+(c-tn)) (by lia)];by_cases h1:t-1+(c-tn)<c
  ·rw[Rb h1,Rg (by lia),rF (by lia)];split <;> lia
  ·rw[Rg h1,Rg (by lia),rF (by lia)];split <;> lia
theorem ff{b:Bool}{n t:Nat}(h:t<n):fl b n t<n/\fl b n (fl b n t)=t:=by
 unfold fl;cases b with
 |false=>exact⟨h,rfl⟩
 |true=>
  rw[Rb rfl,Rb rfl];by_cases h0:t=0
  ·rw[Rb h0,Rb rfl];lia
  ·rw[Rg h0,Rg (by lia)];lia
theorem CV(b:Bool){c tn:Nat}(h:tn<c):Pm (c+1) (fun t=>fl b (c+1) (e0 c tn t)) (fun t=>i0 c tn (fl b (c+1) t)):=by
 refine⟨?_,fun t ht=>?_,fun t ht=>?_⟩
 ·show fl b (c+1) (e0 c tn 0)=0;cases b <;> rfl
 ·have h1:=ei ht h;have h2:=ff (b:=b) h1.1;exact⟨h2.1,by rw[h2.2];exact h1.2⟩
 ·have h1:=ff (b:=b) ht;have h2:=ie h1.1 h;exact⟨h2.1,by show fl b (c+1) (e0 c tn (i0 c tn (fl b (c+1) t)))=t;rw[h2.2];exact h1.2⟩
theorem CW(c tn:Nat)(hc:0<c):cO (aD 0) eW (aB cP (au (aI (.int 1))) (au (aB fY (au (aB cP (ao 0) (ao 1))) (au (aB mU (ao 2) (au (aI (.int 1)))))))) ((List.range c).map fun(k:Nat)=>D.int (k:Int)) [none,some (.f,.int (tn:Int)),some (.f,.int ((c+1:Nat):Int))]=.ok ((List.range c).map fun(k:Nat)=>D.int ((e0 c tn (k+1):Nat):Int)):=by
 refine bN (r:=fun k:Nat=>D.int ((e0 c tn (k+1):Nat):Int)) (fun env=>∃t,env=[t,some (.f,.int (tn:Int)),some (.f,.int ((c+1:Nat):Int))]) (List.range c) ?_ _ ⟨none,rfl⟩;rintro k _ env ⟨t,rfl⟩;refine⟨[some (.f,.int (k:Int)),some (.f,.int (tn:Int)),some (.f,.int ((c+1:Nat):Int))],rfl,.f,[some (.f,.int (k:Int)),some (.f,.int (tn:Int)),some (.f,.int ((c+1:Nat):Int))],?_,_,rfl⟩;have h1:((c+1:Nat):Int)-1=(c:Int):=by lia
 have h2:(0:Int)<(c:Int):=by lia
 have e:(1:Int)+((k:Int)+(tn:Int))%(c:Int)=((e0 c tn (k+1):Nat):Int):=by
  unfold e0;rw[Rg (by lia),Nat.add_sub_cancel,Uk,Int.natCast_emod,Uk];rfl
 rw[<-e];have hm:fY (.int ((k:Int)+(tn:Int))) (.int (c:Int))=.ok (.f,.int (((k:Int)+(tn:Int))%(c:Int))):=by rw[qf,Rb h2]
 simp only[pv,seval,op,h1,hm]
theorem CY(n:Nat)(l:List Nat)(hl:∀x∈l,x<=n):cO (aD 0) eW (aB mU (ao 1) (ao 0)) (l.map fun(k:Nat)=>D.int (k:Int)) [none,some (.f,.int (n:Int))]=.ok (l.map fun(k:Nat)=>D.int ((n-k:Nat):Int)):=by
 refine bN (r:=fun k:Nat=>D.int ((n-k:Nat):Int)) (fun env=>∃t,env=[t,some (.f,.int (n:Int))]) l ?_ _ ⟨none,rfl⟩;rintro k hk env ⟨t,rfl⟩;refine⟨[some (.f,.int (k:Int)),some (.f,.int (n:Int))],rfl,.f,[some (.f,.int (k:Int)),some (.f,.int (n:Int))],?_,_,rfl⟩;have:=hl k hk;have e:(n:Int)-(k:Int)=((n-k:Nat):Int):=by lia
 rw[<-e];simp only[pv,seval,op]
theorem CZ(n:Nat)(h1:1<=n)(h12:n<=12)(x:Int):∃E I,Pm n E I/\cT [.int (n:Int),.int x]=.ok (.l .f,.lst ((List.range n).map fun(t:Nat)=>D.int ((E t:Nat):Int))):=by
 unfold cT jY;by_cases hn:n=1
 ·subst hn;refine⟨id,id,⟨rfl,fun i h=>⟨h,rfl⟩,fun i h=>⟨h,rfl⟩⟩,?_⟩;rw[bq (h:=by rfl)];have he:(((1:Nat):Int)==1)=true:=rfl;simp only[pv,seval,op,he];rfl
 ·obtain⟨c,rfl⟩:∃c,n=c+1:=⟨n-1,by lia⟩
  have hc:0<c:=by lia
  have MQ:((c+1:Nat):Int)-1=(c:Int):=by lia
  have OB:(0:Int)<(c:Int):=by lia
  have b1:=Int.emod_nonneg x (show(c:Int)≠0 by lia);have b2:=VF x OB;obtain⟨tn,htn⟩:∃tn:Nat,x%(c:Int)=(tn:Int):=⟨(x%(c:Int)).toNat,by lia⟩
  have P7:tn<c:=by lia
  have hq:=CW c tn hc;have Iu:(((c+1:Nat):Int)==1)=false:=by
   rw[R3];lia
  have QQ:((List.range c).map fun(k:Nat)=>D.int ((e0 c tn (k+1):Nat):Int)).length<=sizeLine:=bA (by rw[bH,Rr];lia);have LQ:flatDs ((List.range c).map fun(k:Nat)=>D.int ((e0 c tn (k+1):Nat):Int))=true:=iu fun _=>rfl
  have QR:∀l:List D,l.length=c->cP (.lst [.int 0]) (.lst l)=.ok (.l .f,.lst (.int 0::l)):=fun l hl=>by
   rw[uy,Rb (line_le (by rw[RI];lia))];rfl
  have h3:=QR _ (show((List.range c).map fun(k:Nat)=>D.int ((e0 c tn (k+1):Nat):Int)).length=c by rw[bH,Rr]);have hE:∀f:Nat->Nat,f 0=0->(List.range (c+1)).map (fun(t:Nat)=>D.int ((f t:Nat):Int))=.int 0::(List.range c).map (fun(k:Nat)=>D.int ((f (k+1):Nat):Int)):=fun f h=>by
   rw[UW,eg,Rq,h];rfl
  refine⟨_,_,CV (x / 64%2==1) P7,?_⟩;rw[hE (fun t=>fl (x / 64%2==1) (c+1) (e0 c tn t)) (CV (x / 64%2==1) P7).z];have hm0:fY (.int x) (.int (c:Int))=.ok (.f,.int (tn:Int)):=by rw[qf,Rb OB,htn]
  have QU:e7 (.int x) (.int 64)=.ok (.f,.int (x / 64)):=by rw[uw,Rb (by decide)]
  have QV:fY (.int (x / 64)) (.int 2)=.ok (.f,.int (x / 64%2)):=by rw[qf,Rb (by decide)]
  rw[bq (h:=by rfl)];rw[ax (env':=[some (.f,.int ((c+1:Nat):Int)),some (.f,.int x),none,none]) (by simp only[pv,seval,op,Iu,fP])];rw[ax (env':=[some (.f,.int ((c+1:Nat):Int)),some (.f,.int x),some (.f,.int (tn:Int)),none]) (by simp only[pv,seval,op,MQ,hm0])];rw[ax (env':=[some (.f,.int ((c+1:Nat):Int)),some (.f,.int x),some (.f,.int (tn:Int)),some (.l .f,.lst (.int 0::(List.range c).map fun(k:Nat)=>D.int ((e0 c tn (k+1):Nat):Int)))]) (by
   generalize (aB cP (au (aI (.int 1))) (au (aB fY (au (aB cP (ao 0) (ao 1))) (au (aB mU (ao 2) (au (aI (.int 1))))))))=GG at hq ⊢;generalize (List.range c).map (fun(k:Nat)=>D.int ((e0 c tn (k+1):Nat):Int))=LL at hq QQ LQ h3 ⊢;simp only[pv,seval,op,MQ];rw[Rb (by lia)];simp only[pv,seval,op,RP,hq,QQ,LQ,h3])]
  cases hb:(x / 64%2==1) with
  |false=>
   rw[ax (env':=[some (.f,.int ((c+1:Nat):Int)),some (.f,.int x),some (.f,.int (tn:Int)),some (.l .f,.lst (.int 0::(List.range c).map fun(k:Nat)=>D.int ((e0 c tn (k+1):Nat):Int)))]) (by simp only[pv,seval,op,QU,QV,hb,fP])];simp only[pv,seval,op];rfl
  |true=>
   have hle:∀y∈(List.range c).map fun(k:Nat)=>e0 c tn (k+1),y<=c+1:=fun y hy=>by
    obtain⟨k,hk,rfl⟩:=oz hy;have:=ei (t:=k+1) (by have:=RL.mp hk;lia) P7;lia
   have h2:=CY (c+1) _ hle;rw[Rq,Rq]at h2;have e2:((List.range c).map fun(k:Nat)=>D.int ((e0 c tn (k+1):Nat):Int))=(List.range c).map ((fun(k:Nat)=>D.int (k:Int))∘fun(k:Nat)=>e0 c tn (k+1)):=rfl;have e3:((List.range c).map fun(k:Nat)=>D.int ((fl true (c+1) (e0 c tn (k+1)):Nat):Int))=(List.range c).map ((fun(k:Nat)=>D.int ((c+1-k:Nat):Int))∘fun(k:Nat)=>e0 c tn (k+1)):=by
    refine R5 fun k _=>?_
    show D.int ((fl true (c+1) (e0 c tn (k+1)):Nat):Int)=D.int ((c+1-e0 c tn (k+1):Nat):Int);unfold fl e0;rw[Rb rfl,Rg (by lia),Rg (by lia)]
   have M9:((List.range c).map ((fun(k:Nat)=>D.int ((c+1-k:Nat):Int))∘fun(k:Nat)=>e0 c tn (k+1))).length=c:=by rw[bH,Rr]
   have hm:((List.range c).map ((fun(k:Nat)=>D.int ((c+1-k:Nat):Int))∘fun(k:Nat)=>e0 c tn (k+1))).length<=sizeLine:=bA (by lia);have QX:flatDs ((List.range c).map ((fun(k:Nat)=>D.int ((c+1-k:Nat):Int))∘fun(k:Nat)=>e0 c tn (k+1)))=true:=iu fun _=>rfl
   have h4:=QR _ M9;rw[e3,e2];generalize (List.range c).map ((fun(k:Nat)=>D.int ((c+1-k:Nat):Int))∘fun(k:Nat)=>e0 c tn (k+1))=L2 at h2 hm QX h4 ⊢;generalize (List.range c).map ((fun(k:Nat)=>D.int (k:Int))∘fun(k:Nat)=>e0 c tn (k+1))=L1 at h2 ⊢;have KG:iC (D.int 0::L1) (some 1) none=L1:=wK (D.int 0::L1) 1;rw[ax (env':=[some (.f,.int ((c+1:Nat):Int)),some (.f,.int x),some (.f,.int (tn:Int)),some (.l .f,.lst (.int 0::L2))]) (by
    generalize (aB mU (ao 1) (ao 0))=GG at h2 ⊢;simp only[pv,seval,op,QU,QV,hb,KG,h2,hm,QX,h4])]
   simp only[pv,seval,op]
def JC(E:Nat->Nat)(a:Gi):Gi:=(((E a.1.toNat:Nat):Int),a.2.1,((E a.2.2.toNat:Nat):Int))
section
variable{nY:LNN}{ap:List Gi}{n:Nat}{E I:Nat->Nat}
theorem C0{r:Ra nY ap n}(p:Pm n E I):An n E ap (bD cN (ap.map (JC E))):=by
 refine⟨r.bd,fun a ha=>?_,fun i j mv hi hj=>?_⟩
 ·obtain⟨b,hb,e⟩:=oz ((c8 cN).mp ha);subst e;have bd:=r.bd b hb;have h1:=(p.e b.1.toNat (by lia)).1;have h2:=(p.e b.2.2.toNat (by lia)).1;unfold JC;dsimp only;lia
 ·rw[c8];constructor
  ·intro h;exact RW.mpr ⟨_,h,rfl⟩
  ·intro h;obtain⟨⟨x,m,y⟩,hb,e⟩:=oz h;have bd:=r.bd _ hb;dsimp only at bd;obtain⟨x,rfl⟩:=RE bd.1.1;obtain⟨y,rfl⟩:=RE bd.2.1;unfold JC at e;dsimp only at e;rw[RP,RP]at e;injection e with e1 e2;injection e2 with e2 e3;have e1:E x=E i:=by lia
   have e3:E y=E j:=by lia
   have hx:x=i:=by
    rw[<-(p.e x (by lia)).2,<-(p.e i hi).2,e1]
   have hy:y=j:=by
    rw[<-(p.e y (by lia)).2,<-(p.e j hj).2,e3]
   subst hx hy e2;exact hb
theorem Ep(r:Ra nY ap n)(p:Pm n E I):Ra nY (bD cN (ap.map (JC E))) n:=by
 refine r.perm p (C0 (r:=r) p) (by rw[ir,bH];exact r.len) fun a ha=>?_
 obtain⟨b,hb,e⟩:=oz ((c8 cN).mp ha);subst e;exact r.nm b hb
theorem uY(r:Ra nY ap n):cO (kx 3 (aQ (aD 0) (aQ (aD 1) (aQ (aD 2) d4)))) eW (gK (az (aB Gk (ao 3) (ao 0)) (az (aN 1) (az (aB Gk (ao 3) (ao 2)) bp)))) (ap.map eA) [none,none,none,some (.f,.lst ((List.range n).map fun(t:Nat)=>D.int ((E t:Nat):Int)))]=.ok ((ap.map (JC E)).map eA):=by
 rw[bN (r:=fun a:Gi=>eA (JC E a)) (fun env=>∃t u v,env=[t,u,v,some (.f,.lst ((List.range n).map fun(t:Nat)=>D.int ((E t:Nat):Int)))]) ap ?_ _ ⟨none,none,none,rfl⟩]
 ·rw[Rq];rfl
 ·rintro a ha env ⟨t,u,v,rfl⟩;have bd:=r.bd a ha;obtain⟨x,hx⟩:=RE bd.1.1;obtain⟨y,hy⟩:=RE bd.2.1;have at_:∀x:Nat,x<n->Ht ((List.range n).map fun(t:Nat)=>D.int ((E t:Nat):Int)) (x:Int)=some (.int ((E x:Nat):Int)):=fun x h=>e9 (by rw[List.getElem?_map,List.getElem?_range h];rfl)
  have a1:=at_ x (by lia);have a2:=at_ y (by lia);obtain⟨b,m,c⟩:=a;dsimp only at hx hy;subst hx hy;have et:JC E ((x:Int),m,(y:Int))=(((E x:Nat):Int),m,((E y:Nat):Int)):=rfl;rw[et];generalize (List.range n).map (fun(t:Nat)=>D.int ((E t:Nat):Int))=LL at a1 a2 ⊢;refine⟨[some (.f,.int (x:Int)),some (.f,.str m),some (.f,.int (y:Int)),some (.f,.lst LL)],by unfold eA;simp only[pv,seval],.f,[some (.f,.int (x:Int)),some (.f,.str m),some (.f,.int (y:Int)),some (.f,.lst LL)],?_,_,_,_,rfl⟩;unfold eA;simp only[pv,seval,op,a1,a2]
end
theorem plain_Pn(n:Nat)(l:List Pl):plainDs (n+2) (l.map eP)=true:=by
 induction l with
 |nil=>rfl
 |cons p l ih=>
  rw[eg,plainDs,ih,S1];unfold eP;rw[plainD,plainDs,plainDs,plainDs,plainD,plainD,dn,dn];rfl
theorem xa(n:Nat)(l:List Gi):plainDs (n+2) (l.map eA)=true:=by
 induction l with
 |nil=>rfl
 |cons a l ih=>
  rw[eg,plainDs,ih];rfl
theorem Ao(nY:LNN)(ps:List Pl):plainDs 38 [.tup (nY.map D.str),.lst (ps.map eP)]=true:=by
 rw[plainDs,plainDs,plainDs,S1,Rh];exact⟨by rw[plainD,f9],plain_Pn 35 ps⟩
theorem Ap(nY:LNN)(ap:List Gi):plainDs 38 [.tup (nY.map D.str),.lst (ap.map eA)]=true:=by
 rw[plainDs,plainDs,plainDs,S1,Rh];exact⟨by rw[plainD,f9],xa 35 ap⟩
theorem xb(nY:LNN)(ap:List Gi)(ps:List Pl):plainD 40 (.lst [Gz nY ap,eN nY ps])=true:=by
 show plainDs 39 [Gz nY ap,eN nY ps]=true;rw[plainDs,plainDs,plainDs,S1,Rh];exact⟨Ap nY ap,Ao nY ps⟩
theorem Aq(i:Int):cE [.int i]=.ok (.f,.bl true):=by
 unfold cE i9;rw[bq (h:=by rfl)];simp only[pv,seval,op,FF,FE];rfl
theorem xc(n:Nat)(l:List (List Int)):plainDs (n+1) (l.map eM)=true:=by
 induction l with
 |nil=>rfl
 |cons a l ih=>
  rw[eg,plainDs,ih,S1];unfold eM;rw[plainD,dn]
theorem FN{n:Nat}{E I:Nat->Nat}(p:Pm n E I){k:Nat}(hk:k<n):jS ((List.range n).map fun(t:Nat)=>D.int ((E t:Nat):Int)) [.int (k:Int)]=.ok (.f,.int ((I k:Nat):Int)):=by
 have e:(List.range n).map (fun(t:Nat)=>D.int ((E t:Nat):Int))=((List.range n).map fun(t:Nat)=>((E t:Nat):Int)).map D.int:=by rw[Rq];rfl
 have mem:(k:Int)∈(List.range n).map fun(t:Nat)=>((E t:Nat):Int):=RW.mpr ⟨I k,RL.mpr (p.i k hk).1,by rw[(p.i k hk).2]⟩
 have h:=EJ (e:=D.int) (fun a b=>by rw[F3];rfl) (fun l=>dn 40 l) (fun _=>rfl) ((List.range n).map fun(t:Nat)=>((E t:Nat):Int)) (k:Int) mem;rw[e,h];have lt:=TH (p:=fun x=>decide (x=(k:Int))) ⟨(k:Int),mem,RJ rfl⟩;have g:=T6 (p:=fun x=>decide (x=(k:Int))) (w:=lt);generalize ((List.range n).map fun(t:Nat)=>((E t:Nat):Int)).findIdx (fun x=>decide (x=(k:Int)))=j at lt g ⊢;rw[List.getElem_map,Uo,Ro]at g;rw[bH,Rr]at lt;have g:E j=k:=by lia
 have h2:=(p.e j lt).2;rw[g]at h2;rw[h2]
theorem C1(S:List (List Int)):cy [gj S,.lst (S.map eM)]=.ok (.f,.bl true):=by
 have Iu:Jj (gj S) (gj S)=.ok (.f,.bl false):=j9 _ (by
  unfold gj;show(true&&(plainDs 38 (S.map eM)&&true))=true;rw[xc 37 S];rfl)
 have Oh:ve "list" (.lst (S.map eM))=true:=rfl;have QY:=isT [.str [115,97,109,101],.lst (S.map eM)];have hne2:(!(((2:Nat):Int)==2))=false:=rfl;obtain⟨env',ef,t2,t3,ee⟩:=for_list (a:=aD 2) (g:=cW) (e:=eM) S (fun _ env=>∃t2 t3,env=[some (.f,gj S),some (.f,.lst (S.map eM)),t2,t3]) (by
  rintro k m env hk ⟨t2,t3,rfl⟩;have itm:=isT (m.map D.int);obtain⟨t,ef⟩:=wM (a:=aD 3) (g:=cV) (e:=D.int) m (fun t=>[some (.f,gj S),some (.f,.lst (S.map eM)),some (.f,eM m),t]) (by
   intro v _ t;refine⟨some (.f,.int v),rfl,?_⟩;unfold cV;simp only[pv,seval,op,Aq,S2,fP]) t3
  refine⟨[some (.f,gj S),some (.f,.lst (S.map eM)),some (.f,eM m),t3],by simp only[pv,seval],[some (.f,gj S),some (.f,.lst (S.map eM)),some (.f,eM m),t],?_,_,_,rfl⟩;unfold cW;rw[ax (env':=[some (.f,gj S),some (.f,.lst (S.map eM)),some (.f,eM m),t3]) (by
   unfold eM;simp only[pv,seval,op,itm,S2,fP])]
  unfold il;rw[JB];generalize dD (aD 3) cV=FL at ef ⊢;unfold eM at ef ⊢;simp only[pv,seval,op];exact ef) [some (.f,gj S),some (.f,.lst (S.map eM)),none,none] ⟨none,none,rfl⟩
 clear ee;unfold cy jZ;rw[bq (h:=by rfl)];rw[ax (env':=[some (.f,gj S),some (.f,.lst (S.map eM)),none,none]) (by
  unfold gj at Iu ⊢;generalize S.map eM=LL at Oh QY Iu ⊢;simp only[pv,seval,op,QY,Iu,hne2,Oh,S2,fP])]
 rw[ax (env':=env') (by
  unfold iq;rw[JB];generalize dD (aD 2) cW=FL at ef ⊢;unfold gj at ef ⊢;generalize S.map eM=LL at ef ⊢;simp only[pv,seval,op];exact ef)]
 unfold gC;simp only[pv,seval,op]
theorem Ar(l:List (List Int)):flatDs (l.map eM)=true:=by
 induction l with
 |nil=>rfl
 |cons a l ih=>rw[eg,flatDs,ih,kh];rfl
theorem xf{n:Nat}{E I:Nat->Nat}(p:Pm n E I)(S:List (List Int))(hS:S.length=n):cO (aD 0) eW (aB Gk (ao 1) (au (Ay jS (ao 2) (ai (ao 0) aG)))) ((List.range n).map fun(k:Nat)=>D.int (k:Int)) [none,some (.f,.lst (S.map eM)),some (.f,.lst ((List.range n).map fun(t:Nat)=>D.int ((E t:Nat):Int)))]=.ok (((List.range n).map fun t=>S.getD (I t) []).map eM):=by
 rw[bN (r:=fun k:Nat=>eM (S.getD (I k) [])) (fun env=>∃t,env=[t,some (.f,.lst (S.map eM)),some (.f,.lst ((List.range n).map fun(t:Nat)=>D.int ((E t:Nat):Int)))]) (List.range n) ?_ _ ⟨none,rfl⟩]
 ·rw[Rq];rfl
 ·rintro k hk env ⟨t,rfl⟩;have hk:=RL.mp hk;have hi:=FN p hk;have Gy:I k<S.length:=by rw[hS];exact(p.i k hk).1
  have J5:Ht (S.map eM) ((I k:Nat):Int)=some (eM (S.getD (I k) [])):=e9 (by rw[List.getElem?_map,List.getD_eq_getElem?_getD,nR Gy];rfl);generalize (List.range n).map (fun(t:Nat)=>D.int ((E t:Nat):Int))=LL at hi ⊢;generalize S.map eM=MM at J5 ⊢;refine⟨[some (.f,.int (k:Int)),some (.f,.lst MM),some (.f,.lst LL)],rfl,.f,[some (.f,.int (k:Int)),some (.f,.lst MM),some (.f,.lst LL)],?_,_,rfl⟩;simp only[pv,seval,op,uB,hi,J5]
theorem As(f g:FX)(env:PV.Env):eLst2 f g env=Res.bnd (f env) (f:=⟨fun p=>Res.bnd (g p.2) (f:=⟨fun q=>match p.1.1,q.1.1 with
 | .t [.f,.l .f],.t [.f,.l .f]=>.ok ((.l (.t [.f,.l .f]),.lst [p.1.2,q.1.2]),q.2)
 |_,_=>.bad⟩)⟩):=id rfl
theorem uZ(ns:List Int)(h63:ns.length<=63):∃o,zw [.lst (ns.map D.int)]=.ok (o,.bl true):=by
 obtain⟨nY,ps,r,n,h9,en⟩:=Ek ns 2;have en:cS [.lst (ns.map D.int),.int 2]=.ok (.f,eN nY ps):=en;have hp9:=n.p9;have n3:=n.n3;have er:=xQ nY n.n3 ps (by lia) n.po;rw[n.e]at er;have er:br [eN nY ps,.int 8]=.ok (.f,.tup [.lst ((bD cN r.2).map eA),.lst (r.1.map eM)]):=er;have ra:=(CC n3 n.e).sort;have P8:=ra.mm;have MQ:=k8 ns 1;have M6:=l9 (cell ns 1) 5 (by decide) (by decide);obtain⟨E,I,pm,ee⟩:=CZ r.1.length P8.1 P8.2 (uG (cell ns 1) 5);have ra':=Ep ra pm;have o:=CU n3 n.e;have o':=o.perm pm (C0 (r:=ra) pm) (by lia) fun j hj=>⟨_,nR hj⟩
 have hh:=Am (by lia) n.po o' (by rw[bH,Rr];exact ra');have OY:=C1 ((List.range r.1.length).map fun t=>r.1.getD (I t) []);have Na:=xf pm r.1 rfl;have Oi:=uY (E:=E) ra;have hlen:((((bD cN r.2).map (JC E)).map eA)).length<=sizeLine:=bA (by
  have:=ra.len;rw[bH,bH];lia)
 have OZ:=zV ((bD cN r.2).map (JC E));have M8:=uF ((bD cN r.2).map (JC E)) (by
  have:=ra.len;rw[bH];lia)
 have QZ:flatDs ((List.range r.1.length).map fun(t:Nat)=>D.int ((E t:Nat):Int))=true:=iu fun _=>rfl
 have P9:=Ar ((List.range r.1.length).map fun t=>r.1.getD (I t) []);have OH:(((List.range r.1.length).map fun t=>r.1.getD (I t) []).map eM).length<=sizeLine:=bA (by
  rw[bH,bH,Rr];lia)
 have hnn:flatD (.tup (nY.map D.str))=true:=by
  rw[cu];exact PV.flat_strs nY
 have OW:∀(x y:List D),flatDs [.lst x,.lst y]=false:=fun _ _=>rfl
 have hft2:∀(x:D) (y:List D),flatDs [x,.lst y]=false:=fun x y=>by
  rw[flatDs,flatDs,flatD,Uq,Us]
 have hph:=xb nY (bD cN ((bD cN r.2).map (JC E))) ps;have Iu:=j9 _ hph;have M9:(r.1.map eM).length=r.1.length:=bH _;have MQ:aF [.lst (ns.map D.int),.int 1]=.ok (.f,.int (cell ns 1)):=MQ;have Q0:(((List.range r.1.length).map fun t=>r.1.getD (I t) []).map eM).all (aE .f)=true:=by rw[jr];exact P9
 have hr1:=P8.2;unfold gj at hh OY;rw[show eN nY ps=.tup [.tup (nY.map D.str),.lst (ps.map eP)] from rfl]at en er hh Iu;rw[show Gz nY (bD cN ((bD cN r.2).map (JC E)))=.tup [.tup (nY.map D.str),.lst ((bD cN ((bD cN r.2).map (JC E))).map eA)] from rfl]at hh Iu;refine⟨.f,?_⟩;unfold zw B3;rw[bq (h:=by rfl)];generalize ((List.range r.1.length).map fun t=>r.1.getD (I t) []).map eM=DU at hh OY Na P9 OH Q0;generalize ps.map eP=PP at en er hh Iu;generalize (bD cN ((bD cN r.2).map (JC E))).map eA=A2 at M8 hh Iu;generalize ((bD cN r.2).map (JC E)).map eA=A1 at Oi hlen OZ M8;generalize (bD cN r.2).map eA=AA at er Oi;generalize (List.range r.1.length).map (fun(t:Nat)=>D.int ((E t:Nat):Int))=EE at ee Oi QZ Na;generalize uG (cell ns 1) 5=mx at M6 ee;generalize cell ns 1=c1 at MQ M6;generalize r.1.map eM=MM at er M9 Na;generalize r.1.length=rl at ee M9 Na hr1;generalize D.tup (nY.map D.str)=NN at *;rw[ax (env':=[some (.f,.lst (ns.map D.int)),some (.f,D.tup [NN,.lst PP]),none,none,none,none,none,none,none,none]) (by
  simp only[pv,↓reduceIte,Nat.reduceAdd,Nat.reduceLT,Nat.reduceLeDiff,Nat.reduceEqDiff,op,en,hft2,C7,C8,fP])]
 rw[ax (env':=[some (.f,.lst (ns.map D.int)),some (.f,D.tup [NN,.lst PP]),some (.f,.lst AA),some (.f,.lst MM),none,none,none,none,none,none]) (by
  simp only[pv,↓reduceIte,Nat.reduceAdd,Nat.reduceLT,Nat.reduceLeDiff,Nat.reduceEqDiff,op,er,OW,C7,C8,fP])]
 rw[ax (env':=[some (.f,.lst (ns.map D.int)),some (.f,D.tup [NN,.lst PP]),some (.f,.lst AA),some (.f,.lst MM),some (.l .f,.lst EE),none,none,none,none,none]) (by
  simp only[pv,↓reduceIte,Nat.reduceAdd,Nat.reduceLT,Nat.reduceLeDiff,Nat.reduceEqDiff,op,M9,MQ,M6,ee,QZ])]
 rw[ax (env':=[some (.f,.lst (ns.map D.int)),some (.f,D.tup [NN,.lst PP]),some (.f,.lst AA),some (.f,.lst MM),some (.l .f,.lst EE),some (.f,D.tup [NN,.lst A2]),none,none,none,none]) (by
  generalize (gK (az (aB Gk (ao 3) (ao 0)) (az (aN 1) (az (aB Gk (ao 3) (ao 2)) bp))))=GG at Oi ⊢;simp only[pv,↓reduceIte,Nat.reduceAdd,Nat.reduceLT,Nat.reduceLeDiff,Nat.reduceEqDiff,op,Oi,hlen,OZ,M8])]
 rw[ax (env':=[some (.f,.lst (ns.map D.int)),some (.f,D.tup [NN,.lst PP]),some (.f,.lst AA),some (.f,.lst MM),some (.l .f,.lst EE),some (.f,D.tup [NN,.lst A2]),some (.l .f,.lst DU),none,none,none]) (by
  generalize (aB Gk (ao 1) (au (Ay jS (ao 2) (ai (ao 0) aG))))=GG at Na ⊢;simp only[pv,↓reduceIte,Nat.reduceAdd,Nat.reduceLT,Nat.reduceLeDiff,Nat.reduceEqDiff,op,M9];rw[Rb (by lia)];simp only[pv,↓reduceIte,Nat.reduceAdd,Nat.reduceLT,Nat.reduceLeDiff,Nat.reduceEqDiff,op,RP,Na,OH,P9])]
 rw[ax (env':=[some (.f,.lst (ns.map D.int)),some (.f,D.tup [NN,.lst PP]),some (.f,.lst AA),some (.f,.lst MM),some (.l .f,.lst EE),some (.f,D.tup [NN,.lst A2]),some (.l .f,.lst DU),some (.l (.t [.f,.l .f]),.lst [D.tup [NN,.lst A2],D.tup [NN,.lst PP]]),none,none]) (by
  simp only[pv,↓reduceIte,Nat.reduceAdd,Nat.reduceLT,Nat.reduceLeDiff,Nat.reduceEqDiff,op,As,uz])]
 have hcr:aE (.t [.f,.l .f]) (.tup [.str [115,97,109,101],.lst DU])=true:=by
  rw[aE,iT,iT,iT,aE,aE,Q0];rfl
 have hX:∀t8 t9:Option R,ud gv 7 0 1 [some (.f,.lst (ns.map D.int)),some (.f,D.tup [NN,.lst PP]),some (.f,.lst AA),some (.f,.lst MM),some (.l .f,.lst EE),some (.f,D.tup [NN,.lst A2]),some (.l .f,.lst DU),some (.l (.t [.f,.l .f]),.lst [D.tup [NN,.lst A2],D.tup [NN,.lst PP]]),t8,t9]=.ok ((.t [.f,.l .f],.tup [.str [115,97,109,101],.lst DU]),[some (.f,.lst (ns.map D.int)),some (.f,D.tup [NN,.lst PP]),some (.f,.lst AA),some (.f,.lst MM),some (.l .f,.lst EE),some (.f,D.tup [NN,.lst A2]),some (.l .f,.lst DU),some (.l (.t [.f,.l .f]),.lst [D.tup [NN,.lst A2],D.tup [NN,.lst PP]]),t8,t9]):=fun t8 t9=>by
  show((gv [D.tup [NN,.lst A2],D.tup [NN,.lst PP]]).bind fun r=>Res.ok (r,if aE r.1 r.2 then([some (.f,.lst (ns.map D.int)),some (.f,D.tup [NN,.lst PP]),some (.f,.lst AA),some (.f,.lst MM),some (.l .f,.lst EE),some (.f,D.tup [NN,.lst A2]),some (.l .f,.lst DU),some (.l (.t [.f,.l .f]),.lst [D.tup [NN,.lst A2],D.tup [NN,.lst PP]]),t8,t9]:PV.Env) else([some (.f,.lst (ns.map D.int)),some (.f,D.tup [NN,.lst PP]),some (.f,.lst AA),some (.f,.lst MM),some (.l .f,.lst EE),some (.f,D.tup [NN,.lst A2]),some (.l .f,.lst DU),some (.l (.t [.f,.l .f]),.lst [D.tup [NN,.lst A2],D.tup [NN,.lst PP]]),t8,t9]:PV.Env).map frz))=_;rw[hh];show Res.ok (_,if aE (.t [.f,.l .f]) (.tup [.str [115,97,109,101],.lst DU])=true then _ else _)=_;rw[Rb hcr]
 rw[ax (env':=[some (.f,.lst (ns.map D.int)),some (.f,D.tup [NN,.lst PP]),some (.f,.lst AA),some (.f,.lst MM),some (.l .f,.lst EE),some (.f,D.tup [NN,.lst A2]),some (.l .f,.lst DU),some (.l (.t [.f,.l .f]),.lst [D.tup [NN,.lst A2],D.tup [NN,.lst PP]]),some (.t [.f,.l .f],.tup [.str [115,97,109,101],.lst DU]),none]) (by
  have h1:=hX none none;simp only[pv,↓reduceIte,Nat.reduceAdd,Nat.reduceLT,Nat.reduceLeDiff,Nat.reduceEqDiff,h1])]
 rw[ax (env':=[some (.f,.lst (ns.map D.int)),some (.f,D.tup [NN,.lst PP]),some (.f,.lst AA),some (.f,.lst MM),some (.l .f,.lst EE),some (.f,D.tup [NN,.lst A2]),some (.l .f,.lst DU),some (.l (.t [.f,.l .f]),.lst [D.tup [NN,.lst A2],D.tup [NN,.lst PP]]),some (.t [.f,.l .f],.tup [.str [115,97,109,101],.lst DU]),none]) (by
  simp only[pv,↓reduceIte,Nat.reduceAdd,Nat.reduceLT,Nat.reduceLeDiff,Nat.reduceEqDiff,op,OY,Iu,S2,fP])]
 rw[ax (env':=[some (.f,.lst (ns.map D.int)),some (.f,D.tup [NN,.lst PP]),some (.f,.lst AA),some (.f,.lst MM),some (.l .f,.lst EE),some (.f,D.tup [NN,.lst A2]),some (.l .f,.lst DU),some (.l (.t [.f,.l .f]),.lst [D.tup [NN,.lst A2],D.tup [NN,.lst PP]]),some (.t [.f,.l .f],.tup [.str [115,97,109,101],.lst []]),none]) (by
  simp only[pv,↓reduceIte,Nat.reduceAdd,Nat.reduceLT,Nat.reduceLeDiff,Nat.reduceEqDiff,op,wI])]
 rw[ax (env':=[some (.f,.lst (ns.map D.int)),some (.f,D.tup [NN,.lst PP]),some (.f,.lst AA),some (.f,.lst MM),some (.l .f,.lst EE),some (.f,D.tup [NN,.lst A2]),some (.l .f,.lst DU),some (.l (.t [.f,.l .f]),.lst [D.tup [NN,.lst A2],D.tup [NN,.lst PP]]),some (.t [.f,.l .f],.tup [.str [115,97,109,101],.lst []]),some (.t [.f,.l .f],.tup [.str [115,97,109,101],.lst DU])]) (by
  have h1:=hX (some (.t [.f,.l .f],.tup [.str [115,97,109,101],.lst []])) none;simp only[pv,↓reduceIte,Nat.reduceAdd,Nat.reduceLT,Nat.reduceLeDiff,Nat.reduceEqDiff,h1])]
 have c0:q5 7 0 [some (.f,.lst (ns.map D.int)),some (.f,D.tup [NN,.lst PP]),some (.f,.lst AA),some (.f,.lst MM),some (.l .f,.lst EE),some (.f,D.tup [NN,.lst A2]),some (.l .f,.lst DU),some (.l (.t [.f,.l .f]),.lst [D.tup [NN,.lst A2],D.tup [NN,.lst PP]]),some (.t [.f,.l .f],.tup [.str [115,97,109,101],.lst []]),some (.t [.f,.l .f],.tup [.str [115,97,109,101],.lst DU])]=.ok ((.f,.non),[some (.f,.lst (ns.map D.int)),some (.f,D.tup [NN,.lst PP]),some (.f,.lst AA),some (.f,.lst MM),some (.l .f,.lst EE),some (.f,D.tup [NN,.lst A2]),some (.l .f,.lst DU),some (.l (.t [.f,.l .f]),.lst [.tup [NN,.lst []],D.tup [NN,.lst PP]]),some (.t [.f,.l .f],.tup [.str [115,97,109,101],.lst []]),some (.t [.f,.l .f],.tup [.str [115,97,109,101],.lst DU])]):=id rfl;have c1:q5 7 1 [some (.f,.lst (ns.map D.int)),some (.f,D.tup [NN,.lst PP]),some (.f,.lst AA),some (.f,.lst MM),some (.l .f,.lst EE),some (.f,D.tup [NN,.lst A2]),some (.l .f,.lst DU),some (.l (.t [.f,.l .f]),.lst [.tup [NN,.lst []],D.tup [NN,.lst PP]]),some (.t [.f,.l .f],.tup [.str [115,97,109,101],.lst []]),some (.t [.f,.l .f],.tup [.str [115,97,109,101],.lst DU])]=.ok ((.f,.non),[some (.f,.lst (ns.map D.int)),some (.f,D.tup [NN,.lst PP]),some (.f,.lst AA),some (.f,.lst MM),some (.l .f,.lst EE),some (.f,D.tup [NN,.lst A2]),some (.l .f,.lst DU),some (.l (.t [.f,.l .f]),.lst [.tup [NN,.lst []],.tup [NN,.lst []]]),some (.t [.f,.l .f],.tup [.str [115,97,109,101],.lst []]),some (.t [.f,.l .f],.tup [.str [115,97,109,101],.lst DU])]):=id rfl;rw[ax (by rw[IK,c0,Gs]),ax (by rw[IK,c1,Gs])];simp only[pv,↓reduceIte,Nat.reduceAdd,Nat.reduceLT,Nat.reduceLeDiff,Nat.reduceEqDiff,op,OY]
end LW
namespace FIN
open PySem PySem.Spec PyProof.Rows L2 NX PV LW
theorem C2{l:PySem.W.OpenLaw}{w:World}{K:W.Frag}{h:Heap}{mg:Str->Option Value}{fa f:Addr}{od an:Option Addr}{sl:Array (Option Value)}{oc kV dc pm cd ct:Value}(X:K.In h)(G:h.Ns mainGlobals mg)(OZ:mg "law" = some (.ref fa))
  (aL:PySem.W.nsIn K mainGlobals "law" = some (some (.ref f))) (lL:K.lookup f=some ⟨oc,od,.func (PySem.W.fnOf "law" "law" (dQ l6) (cv l6) (defScope l6) .none kV dc pm an cd ct),sl⟩) (cL:PySem.W.codeIn K cd "law" = true) (kL:PySem.W.keepIn K (.ref f)=true)
  (Hk:Def K mg "states_of" gR) (HW:Def K mg "goes_to" j3) (GI:Def K mg "first_marking" dB) (Im:Def K mg "can_go" lU) (IL:Def K mg "moved" oT) (JD:Def K mg "give" uo) (HX:Def K mg "look_at" j4) (JE:Def K mg "held" ur) (GQ:Def K mg "_law_cell_at" dW) (Hc:Def K mg "_law_mixed" fI) (Hd:Def K mg "_law_names" fJ) (Hl:Def K mg "_law_step" gS) (HE:Def K mg "_law_run" iO) (Hm:Def K mg "_law_fold" gT) (He:Def K mg "_law_place" fK) (GX:Def K mg "_law_scaled" eQ) (GY:Def K mg "_law_places" eR) (Hf:Def K mg "_law_moves" fL) (HF:Def K mg "_law_net" iP) (Hg:Def K mg "_law_whole" fM) (Hn:Def K mg "_law_ends" gU) (Ho:Def K mg "_law_told" gW)
  (IY:PySem.W.nsIn K mainGlobals "all" = some none) (Ik:PySem.W.nsIn K mainGlobals "bool" = some none) (Jb:PySem.W.nsIn K mainGlobals "int" = some none) (F9:PySem.W.nsIn K mainGlobals "isinstance" = some none) (Gu:PySem.W.nsIn K mainGlobals "len" = some none) (GV:PySem.W.nsIn K mainGlobals "list" = some none) (HL:PySem.W.nsIn K mainGlobals "max" = some none) (Gh:PySem.W.nsIn K mainGlobals "range" = some none) (Gx:PySem.W.nsIn K mainGlobals "sorted" = some none) (F6:PySem.W.nsIn K mainGlobals "tuple" = some none) (HM:PySem.W.nsIn K mainGlobals "zip" = some none):
  ∃fd:FuncData,(∀(s:Shared) (v:Value),BindsTo s fd ⟨[v],[]⟩ [("_law_script",v)])/\∀base:Heap,K.In base->base.Ns mainGlobals mg->FnOk l.prog w K mg base JU 5 fa fd ["_law_script"] (we K):=by
 have e:=OZ.symm.trans (PySem.W.mg_of X G aL);cases e;have F:=xn (st:=l6) lL cL kL;have Oj:=RQ X G IY;have y_bool:=RQ X G Ik;have Ol:=RQ X G Jb;have HP:=RQ X G F9;have Io:=RQ X G Gu;have JF:=RQ X G GV;have LU:=RQ X G HL;have Hs:=RQ X G Gh;have Ip:=RQ X G Gx;have GU:=RQ X G F6;have KJ:=RQ X G HM;refine⟨PySem.W.fnOf "law" "law" (dQ l6) (cv l6) (defScope l6) .none kV dc pm an cd ct,fun s v=>.of_eq rfl,fun base KB GB=>?_⟩;have Jd:Ct l.prog w K mg base "states_of" 1 (spF K bZ):=nL Hk LU;have J9:Ct l.prog w K mg base "goes_to" 1 (spF K d7):=rh HW;have Ib:Ct l.prog w K mg base "first_marking" 1 (spF K bG):=ji GI GU;have KL:Ct l.prog w K mg base "can_go" 1 (spF K f7):=um Im Oj KJ;have LG:Ct l.prog w K mg base "moved" 2 (spF K iN):=wz IL KL GU KJ;have uR:Ct l.prog w K mg base "give" 1 (spM K (.d) jV):=zx JD;have Ka:Ct l.prog w K mg base "look_at" 3 (spJ 2 K (.d) c6):=rj HX uR J9 LG Io;have MR:Ct l.prog w K mg base "held" 4 (spF K gv):=zy JE Ib Ka Jd Io JF Hs;have GR:Ct l.prog w K mg base "_law_cell_at" 1 (spF K aF):=j7 GQ Io;have GL:Ct l.prog w K mg base "_law_mixed" 1 (spF K aS):=lV Hc;have IM:Ct l.prog w K mg base "_law_names" 2 (spF K cB):=lW Hd GL Hs Ip;have Je:Ct l.prog w K mg base "_law_step" 1 (spF K cx):=nN Hl GU KJ;have Iq:Ct l.prog w K mg base "_law_run" 2 (spF K br):=oU HE Je Io Ip GU;have Jf:Ct l.prog w K mg base "_law_fold" 2 (spF K cR):=nO Hm GL;have IP:Ct l.prog w K mg base "_law_place" 2 (spF K cC):=lX He GL LU Hs;have IB:Ct l.prog w K mg base "_law_scaled" 1 (spF K bL):=kz GX GU;have IC:Ct l.prog w K mg base "_law_places" 3 (spF K b9):=kA GY GR Jf IP IB Hs;have IQ:Ct l.prog w K mg base "_law_moves" 3 (spF K cD):=lY Hf GR IM GU;have JG:Ct l.prog w K mg base "_law_net" 4 (spF K cS):=oV HF IQ IC Iq Io GU;have IS:Ct l.prog w K mg base "_law_whole" 1 (spF K cE):=l5 Hg y_bool Ol HP;have Jg:Ct l.prog w K mg base "_law_ends" 1 (spF K cT):=nP Hn Hs;have Jh:Ct l.prog w K mg base "_law_told" 2 (spF K cy):=nQ Ho IS HP Io JF GU;exact(B5 F GR Jg GL JG Iq Jh MR Io JF Hs Ip).imp (BL uZ)
end FIN
def PySem.W.Fast.tw17904279142942598616:=0
def PySem.W.Fast.tw12299465237865695996:=0
def PySem.W.Fast.tw14822499600689247869:=0
def PySem.W.Fast.tw14837528334168888417:=0
def PySem.W.Fast.tw801568173194148532:=0
def PySem.W.Fast.tw8709129034414014330:=0
def PySem.W.Fast.tw16540466433023883995:=0
def PySem.W.Fast.tw7910140679966811586:=0
def PySem.W.Fast.tw9078282956416092779:=0
def PySem.W.Fast.tw16190086509504196163:=0
def PySem.W.Fast.tw13045303026523234344:=0
def PySem.W.Fast.tw18146722681162249191:=0
def PySem.W.Fast.tw7349419860160326602:=0
def PySem.W.Fast.tw5771633811069021255:=0
def PySem.W.Fast.tw5459894740008535766:=0
def PySem.W.Fast.tw15374826416584778501:=0
def PySem.W.Fast.tw13618043319530444327:=0
def PySem.W.Fast.tw6553939529658249509:=0
def PySem.W.Fast.tw17661136236787853934:=0
def PySem.W.Fast.tw14809321011343963395:=0
def PySem.W.Fast.tw12811279360692253546:=0
def PySem.W.Fast.tw13907327222433608270:=0
def PySem.W.Fast.tw2770006130410464373:=0
def PySem.W.Fast.tw3385247562682464844:=0
def PySem.W.Fast.tw52976885658465313:=0
def PySem.W.Fast.tw11745558047291493653:=0
def PySem.W.Fast.tw1196403939091703071:=0
def PySem.W.Fast.tw15246054423300648839:=0
open PySem PySem.W PyProof.Rows
set_option maxRecDepth 100000 in
set_option maxHeartbeats 0 in
theorem PySem.Challenge.cw_netfinder_k25_runs_held_holds : PySem.Challenge.rw_netfinder_k25_runs_held.Holds := by
  w_on; o_law; k_head; (case hw => w_witness2)
  k_fill
  refine PV.walk (l := PySem.Challenge.rw_netfinder_k25_runs_held) (k := 5) (x := "_law_script") rfl rfl ⟨rfl, by decide, by decide⟩ (fun w h Y => PySem.W.kIn_of Y) ?F
  case F =>
    intro w mg fa h KX G Nn
    refine' FIN.C2 KX G Nn ?aL ?lL ?cL ?kL ?Hk ?HW ?GI ?Im ?IL ?JD ?HX ?JE ?GQ ?Hc ?Hd ?Hl ?HE ?Hm ?He ?GX ?GY ?Hf ?HF ?Hg ?Hn ?Ho ?IY ?Ik ?Jb ?F9 ?Gu ?GV ?HL ?Gh ?Gx ?F6 ?HM
    (case aL => k_is); (case lL => k_is); (case cL => k_is); (case kL => k_is)
    (case Hk => (refine' PV.cj KX G ?a ?l ?c ?k; (case a => k_is); (case l => k_is); (case c => k_is); (case k => k_is)))
    (case HW => (refine' PV.cj KX G ?a ?l ?c ?k; (case a => k_is); (case l => k_is); (case c => k_is); (case k => k_is)))
    (case GI => (refine' PV.cj KX G ?a ?l ?c ?k; (case a => k_is); (case l => k_is); (case c => k_is); (case k => k_is)))
    (case Im => (refine' PV.cj KX G ?a ?l ?c ?k; (case a => k_is); (case l => k_is); (case c => k_is); (case k => k_is)))
    (case IL => (refine' PV.cj KX G ?a ?l ?c ?k; (case a => k_is); (case l => k_is); (case c => k_is); (case k => k_is)))
    (case JD => (refine' PV.cj KX G ?a ?l ?c ?k; (case a => k_is); (case l => k_is); (case c => k_is); (case k => k_is)))
    (case HX => (refine' PV.cj KX G ?a ?l ?c ?k; (case a => k_is); (case l => k_is); (case c => k_is); (case k => k_is)))
    (case JE => (refine' PV.cj KX G ?a ?l ?c ?k; (case a => k_is); (case l => k_is); (case c => k_is); (case k => k_is)))
    (case GQ => (refine' PV.cj KX G ?a ?l ?c ?k; (case a => k_is); (case l => k_is); (case c => k_is); (case k => k_is)))
    (case Hc => (refine' PV.cj KX G ?a ?l ?c ?k; (case a => k_is); (case l => k_is); (case c => k_is); (case k => k_is)))
    (case Hd => (refine' PV.cj KX G ?a ?l ?c ?k; (case a => k_is); (case l => k_is); (case c => k_is); (case k => k_is)))
    (case Hl => (refine' PV.cj KX G ?a ?l ?c ?k; (case a => k_is); (case l => k_is); (case c => k_is); (case k => k_is)))
    (case HE => (refine' PV.cj KX G ?a ?l ?c ?k; (case a => k_is); (case l => k_is); (case c => k_is); (case k => k_is)))
    (case Hm => (refine' PV.cj KX G ?a ?l ?c ?k; (case a => k_is); (case l => k_is); (case c => k_is); (case k => k_is)))
    (case He => (refine' PV.cj KX G ?a ?l ?c ?k; (case a => k_is); (case l => k_is); (case c => k_is); (case k => k_is)))
    (case GX => (refine' PV.cj KX G ?a ?l ?c ?k; (case a => k_is); (case l => k_is); (case c => k_is); (case k => k_is)))
    (case GY => (refine' PV.cj KX G ?a ?l ?c ?k; (case a => k_is); (case l => k_is); (case c => k_is); (case k => k_is)))
    (case Hf => (refine' PV.cj KX G ?a ?l ?c ?k; (case a => k_is); (case l => k_is); (case c => k_is); (case k => k_is)))
    (case HF => (refine' PV.cj KX G ?a ?l ?c ?k; (case a => k_is); (case l => k_is); (case c => k_is); (case k => k_is)))
    (case Hg => (refine' PV.cj KX G ?a ?l ?c ?k; (case a => k_is); (case l => k_is); (case c => k_is); (case k => k_is)))
    (case Hn => (refine' PV.cj KX G ?a ?l ?c ?k; (case a => k_is); (case l => k_is); (case c => k_is); (case k => k_is)))
    (case Ho => (refine' PV.cj KX G ?a ?l ?c ?k; (case a => k_is); (case l => k_is); (case c => k_is); (case k => k_is)))
    (case IY => k_is)
    (case Ik => k_is)
    (case Jb => k_is)
    (case F9 => k_is)
    (case Gu => k_is)
    (case GV => k_is)
    (case HL => k_is)
    (case Gh => k_is)
    (case Gx => k_is)
    (case F6 => k_is)
    (case HM => k_is)
