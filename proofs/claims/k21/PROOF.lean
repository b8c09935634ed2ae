import PyProof.Rows.All
import Wide.All
import OpenK.AllK
import Wide.FinOn
import Lean
import PyProof.EqAt
import PyProof.EqKinds
import PyProof.TupleCall
import PySem.Challenge.RW_netfinder_k21_runs_of_places_apart
set_option Elab.async false
set_option linter.all false
set_option maxRecDepth 100000
set_option compiler.extract_closed false
set_option bootstrap.genMatcherCode false
noncomputable section
theorem Zz{a b:Prop}(x:a)(y:b):a∧b:=⟨x,y⟩
def Po:=@PySem.wpAny_bind
def Pp:=@PySem.wpAny_pure
def Pq:=@List.mem_cons_self
def Pr:=@List.length_map
def Pt:=@Bool.false_ne_true
def Pu:=@List.size_toArray
def Pw:=@Array.length_toList
def Px:=@List.mem_cons_of_mem
def Py:=@Nat.le_refl
def Pz:=@List.length_range
def PB:=@List.mem_append_right
def PD:=@List.length_cons
def PF:=@if_pos
def PH:=@PySem.Heap.lt_size
def PJ:=@List.mem_cons
def PK:=@Nat.lt_of_lt_of_le
def PL:=@Bool.and_eq_true
def PM:=@if_neg
def PN:=@decide_eq_false
def PQ:=@decide_eq_true_eq
def PR:=@decide_eq_true
def PU:=@List.mem_range
def PY:=@List.map_cons
def PZ:=@Option.some.inj
def P0:=@List.mem_append_left
def P1:=@Nat.ne_of_lt
def P2:=@List.map_map
def P4:=@Bool.false_eq_true
def P5:=@List.append_nil
def P6:=@List.map_append
def P7:=@List.all_eq_true
def P8:=@Bool.eq_iff_iff
def P9:=@Option.map_eq_some_iff
def Qa:=@Array.getD_eq_getD_getElem?
def Qb:=@List.length_append
def Qc:=@Nat.le_trans
def Qd:=@List.mem_append
def Qe:=@List.length_take
def Qf:=@List.mem_of_getElem?
def Qg:=@Nat.zero_le
def Qh:=@List.map_congr_left
def Qi:=@beq_self_eq_true
def Qj:=@List.length_singleton
def Qk:=@Int.toNat_natCast
def Ql:=@beq_iff_eq
def Qm:=@List.mem_singleton
def Qn:=@decide_eq_false_iff_not
def Qo:=@List.nodup_cons
def Qp:=@List.append_assoc
def Qq:=@List.nodup_append
def Qr:=@Array.getElem_toList
def Qs:=@PySem.sizeLine_eq
def Qt:=@congrArg
def Qu:=@List.zip_cons_cons
def Qv:=@Bool.not_true
def Qw:=@PySem.W.mg_none_of
def Qx:=@Option.isSome_iff_exists
def Qy:=@if_false
def Qz:=@PySem.PassesOwn.never
def QA:=@PySem.wpAny_call_entry
def QB:=@PySem.wpAny_mono
def QC:=@PySem.wpAny_newObj_type
def QD:=@List.mem_map
def QF:=@List.foldl_cons
def QH:=@PySem.wpAny_holding
def QJ:=@List.eq_nil_of_length_eq_zero
def QK:=@List.lookup_cons
def QL:=@List.all_map
def QM:=@PySem.wpAny_field
def QN:=@List.pairwise_cons
def QQ:=@Nat.lt_succ_self
def QR:=@PySem.wpAny_truthy_bool
def QU:=@PyProof.Rows.slot_tuple_getitem
def QV:=@List.replicate_succ
def QY:=@of_decide_eq_true
def QZ:=@Nat.lt_irrefl
def Q0:=@PySem.Heap.size_push
def Q1:=@PySem.wpAny_seqItems
def Q2:=@Classical.byContradiction
def Q3:=@List.mem_iff_getElem?
def Q4:=@PySem.wpAny_Call_Name_kw
def Q5:=@List.filterMap_cons_some
def Q6:=@PySem.wpAny_typeNameOfWhole_keyiter
def Q7:=@PySem.F.slot_dict_keyiterator_next
def Q8:=@Nat.zero_add
def Q9:=@PyProof.Rows.F.plain_set_update_loop
def Ra:=@PySem.wpAny_pyIter_list
def Rb:=@List.flatten_cons
def Rc:=@PyProof.Rows.callWith_type1
def Rf:=@PySem.mem_of_lookup
def Rg:=@if_true
def Rh:=@PySem.Heap.SameBut.update
def Ri:=@PyProof.Rows.KeyOrd.kle_refl
def Rj:=@PySem.W.kia_one
def Rk:=@List.idxOf_lt_length_of_mem
def Rl:=@List.take_of_length_le
def Rm:=@PySem.F.slot_tuple_iterator_next
def Rn:=@PySem.wpAny_pyIter_tuple
def Ro:=@List.map_nil
def Rp:=@PySem.wpAny_setField_rec
def Rq:=@Nat.eq_zero_or_pos
def Rr:=@List.mem_iff_getElem
def Rt:=@Ne.symm
def Ru:=@PySem.wpAny_passesOwn
def Rv:=@List.range_succ
def Rw:=@List.filterMap_cons_none
def Rx:=@List.pairwise_map
def Ry:=@PySem.F.slot_tuple_index
def Rz:=@beq_eq_false_iff_ne
def RA:=@List.filterMap_cons
def RB:=@List.cons.inj
def RC:=@Option.bind_eq_some_iff
def RD:=@Int.eq_ofNat_of_zero_le
def RE:=@PySem.wpAny_execs_cons
def RF:=@List.length_drop
def RG:=@List.getElem_mem
def RH:=@PySem.wpAny_forIn_list
def RI:=@List.any_eq_true
def RJ:=@Int.mul_le_mul_of_nonneg_left
def RK:=@List.nodup_nil
def RL:=@Bool.not_false
def RM:=@Bool.and_false
def RN:=@List.getElem_range
def RO:=@List.of_mem_zip
def RP:=@PySem.wpAny_typeOf
def RQ:=@Nat.le_succ
def RS:=@List.length_nil
def RT:=@List.length_zip
def RU:=@List.ext_getElem?
def RV:=@PySem.wpAny_setState_of
def RW:=@List.findIdx_cons
def RX:=@List.flatMap_cons
def RY:=@List.nodup_iff_pairwise_ne
def RZ:=@PySem.Calls.evalArgs_plain
def R0:=@Array.mem_toList_iff
def R1:=@PySem.Calls.call_function_entry
def R3:=@PyProof.Rows.F.entry_set_update_loop
def R4:=@List.not_mem_nil
def R5:=@List.getElem_map
def R6:=@List.mem_flatMap
def R7:=@PySem.F.args_tuple_add_2
def R8:=@PySem.F.type_tuple_index
def R9:=@Int.mul_zero
def Sa:=@List.mem_filter
def Sb:=@PySem.wpAny_execs_nil
def Sd:=@List.mem_filterMap
def Se:=@PySem.F.entry_tuple_add
def Sf:=@List.length_set
def Sg:=@Nat.lt_of_le_of_lt
def Sh:=@PySem.Obj.data_mapFields
def Si:=@PySem.tupleKind_room_in1
def Sj:=@List.take_succ_eq_append_getElem
def Sk:=@PySem.F.slot_tuple_add
def Sl:=@PySem.Calls.callWith_builtin
def Sm:=@bne_self_eq_false
def Sn:=@PyProof.Rows.KeyOrd.kle_of_klt
def So:=@PySem.wpAny_dictEntries
def Sq:=@PySem.codeAny_mono
def Sr:=@List.filterMap_append
def Ss:=@PySem.F.args_dict_keyiterator_next_1
def Su:=@PyProof.Rows.KeyOrd.kle_trans
def Sv:=@PySem.F.entry_dict_keyiterator_next
def Sw:=@List.range'_succ
def Sy:=@List.flatMap_def
def Sz:=@PySem.wpAny_updateSeq_pair
def SA:=@List.pairwise_append
def SD:=@List.mem_of_mem_take
def SE:=@PySem.Paired.length
def SF:=@PySem.F.args_tuple_iterator_next_1
def SG:=@PySem.W.mg_of
def SH:=@Bool.and_self
def SI:=@List.all_cons
def SJ:=@PySem.W.hideAll_get
def SK:=@Nat.add_le_add_left
def SM:=@List.toList_toArray
def SN:=@List.forIn_cons
def SO:=@PySem.F.entry_tuple_iterator_next
def SQ:=@PySem.F.slot_zip_next
def SR:=@Option.map_some
def SU:=@PySem.Calls.Name_function_global
def SV:=@List.perm_append_singleton
def SW:=@List.any_map
def SX:=@Option.isSome_none
def SY:=@Bool.false_and
def S1:=@List.drop_zero
def S2:=@PySem.wpAny_setField
def S3:=@List.pairwise_iff_getElem
def S4:=@List.drop_eq_getElem_cons
def S5:=@List.take_sublist
def S6:=@PySem.wpAny_comprehension_free
def S7:=@Nat.lt_succ_of_lt
def S8:=@Option.isSome_map
def S9:=@PySem.AutoSeq1.sub_tuple_tuple
def Ta:=@List.zip_nil_left
def Tc:=@List.length_erase_of_mem
def Td:=@PySem.SetTable.toList_insertAt
def Te:=@PySem.wpAny_onRaise
def Tf:=@PySem.wpAny_attempt
def Tg:=@List.not_lt
def Th:=@List.filter_cons_of_neg
def Ti:=@List.filter_cons_of_pos
def Tj:=@List.sum_cons
def Tn:=@List.getElem_inj
def To:=@PySem.noFill_tuple_add
def Tp:=@Option.getD_none
def Tq:=@Option.getD_some
def Tr:=@Nat.le_add_right
def Ts:=@List.cons_append
def Tt:=@List.ext_getElem
def Tu:=@PySem.W.cellsFrom_some
def TB:=@List.length_pos_of_mem
def TC:=@List.Perm.append_right
def TF:=@List.drop_eq_nil_of_le
def TH:=@Nat.le_of_lt
def TK:=@PySem.concat_meets
def TL:=@Bool.or_eq_true
def TN:=@PySem.wpAny_dictEpoch
def TR:=@Nat.mul_comm
def TU:=@Array.mem_of_getElem?
def TV:=@List.take_append_drop
def TY:=@List.nil_append
def T1:=@PySem.codeAny_builtin
def T3:=@List.Perm.append_left
def T4:=@List.perm_append_comm
def T5:=@List.set_set
def T6:=@List.length_filter_le
def T7:=@PySem.typeIs_str
def T8:=@PySem.typeIs_int
def Ua:=@List.mem_erase_of_ne
def Ub:=@List.mem_of_mem_drop
def Ud:=@List.range_eq_range'
def Ue:=@List.forIn_nil
def Ug:=@Int.mul_one
def Ui:=@PySem.wpAny_letGo
def Uk:=@List.take_succ_cons
def Ul:=@List.drop_succ_cons
def Uq:=@Array.append_assoc
def Ur:=@PySem.W.of_hideAll
def Ut:=@PySem.W.callWith_K
def Uu:=@PySem.seq_tuple_add
def Uw:=@PySem.wpAny_standAt
def Uy:=@PySem.wpAny_newList
def Uz:=@of_decide_eq_false
def UA:=@List.any_cons
def UB:=@Int.emod_lt_of_pos
def UC:=@Array.forIn_toList
def UD:=@Bool.and_true
def UE:=@PySem.call_int_int
def UG:=@List.map_take
def UM:=@PySem.wpAny_rule
def UU:=@Nat.ne_of_gt
def UY:=@Nat.add_comm
def UZ:=@Nat.add_zero
def U0:=@Nat.lt_or_ge
def Vi:=@or_false
def Vt:=@Nat.add_mul
def Vv:=@decide_true
def Wb:=@Nat.mod_lt
def Wf:=@bne_iff_ne
def WD:=@eq_true
namespace L2
open PySem PySem.Spec PyProof.Rows
def IsTupN(h:Heap)(a:Addr)(items:Array Value):Prop:=∃o,h.get? a=some o/\o.cls=.type "tuple"/\(∃n,o.data=.seq items n)/\o.dict=none
theorem IsTupN.tup{h:Heap}{a:Addr}{items:Array Value}(p:IsTupN h a items):IsTup h a items:=by
 obtain⟨o,e,c,n,_⟩:=p;exact⟨o,e,c,n⟩
theorem IsTupN.new(h:Heap)(items:Array Value):IsTupN (h.push {cls:=.type "tuple",data:=.seq items}) h.objs.size items:=⟨_,Heap.get?_push_size _ rfl,rfl,⟨_,rfl⟩,rfl⟩
abbrev Key:=Sum Int Str
def o8:Key->Value->Bool
 | .inl k,v=>Value.isInt k v
 | .inr x,v=>Value.isStrOf x v
def Du(w:World):Key->Int
 | .inl k=>hashInt k
 | .inr x=>hashStr w x
theorem bE:∀{k:Key}{v:Value},o8 k v=true->(∃i t,k=Sum.inl i/\v=Value.int i t)\/(∃x t,k=Sum.inr x/\v=Value.str x t)
 | .inl i,v,h=>by
  obtain⟨t,e⟩:=Value.isInt_shape (k:=i) (v:=v) h;exact .inl ⟨i,t,rfl,e⟩
 | .inr x,v,h=>by
  obtain⟨t,e⟩:=Value.isStrOf_shape (x:=x) (v:=v) h;exact .inr ⟨x,t,rfl,e⟩
theorem qa(i:Int)(t:Tok):o8 (.inl i) (.int i t)=true:=by simp[o8,Value.isInt]
theorem qb(x:Str)(t:Tok):o8 (.inr x) (.str x t)=true:=by simp[o8,Value.isStrOf]
theorem yU(a b:Int):decide ((Sum.inl a:Key)=Sum.inl b)=(a==b):=by
 by_cases e:a=b
 ·subst e;simp
 ·have h:¬ (Sum.inl a:Key)=Sum.inl b:=fun q=>e (Sum.inl.inj q)
  rw[PN h];exact(Rz.mpr e).symm
theorem yV(a b:Str):decide ((Sum.inr a:Key)=Sum.inr b)=decide (a=b):=by
 by_cases e:a=b
 ·subst e;simp
 ·have h:¬ (Sum.inr a:Key)=Sum.inr b:=fun q=>e (Sum.inr.inj q)
  rw[PN h,PN e]
theorem yW(a:Int)(b:Str):decide ((Sum.inl a:Key)=Sum.inr b)=false:=PN (fun q=>nomatch q)
theorem yX(a:Str)(b:Int):decide ((Sum.inr a:Key)=Sum.inl b)=false:=PN (fun q=>nomatch q)
noncomputable def mixKind(prog:Program)(w:World):PySem.KeyKind prog w Key where
 is:=o8
 hash:=Du w
 inj:=fun v a b ha hb=>by
  rcases bE ha with⟨i,t,rfl,rfl⟩|⟨x,t,rfl,rfl⟩
  ·rcases bE hb with⟨j,u,rfl,e⟩|⟨y,u,rfl,e⟩
   ·injection e with e1 _;rw[e1]
   ·exact nomatch e
  ·rcases bE hb with⟨j,u,rfl,e⟩|⟨y,u,rfl,e⟩
   ·exact nomatch e
   ·injection e with e1 _;rw[e1]
 byValue:=fun k v h=>by
  rcases bE h with⟨i,t,rfl,rfl⟩|⟨x,t,rfl,rfl⟩ <;> rfl
 pyHash:=fun hv h=>by
  rcases bE hv with⟨i,t,rfl,rfl⟩|⟨x,t,rfl,rfl⟩
  ·exact wpAny_pyHash_int h
  ·exact wpAny_pyHash_str h
 eqBool:=fun hu hv h=>by
  rcases bE hu with⟨i,t,rfl,rfl⟩|⟨x,t,rfl,rfl⟩
  ·rcases bE hv with⟨j,u,rfl,rfl⟩|⟨y,u,rfl,rfl⟩
   ·rw[yU]at h;exact wpAny_eqBool_int h
   ·rw[yW]at h;exact SeqAt.EqAt.int_str i t y u _ _ _ _ h
  ·rcases bE hv with⟨j,u,rfl,rfl⟩|⟨y,u,rfl,rfl⟩
   ·rw[yX]at h;exact SeqAt.EqAt.str_int x t j u _ _ _ _ h
   ·rw[yV]at h;exact wpAny_eqBool_str h
 «strs»:=fun k x t v h=>by
  rcases bE h with⟨i,u,rfl,e⟩|⟨y,u,rfl,e⟩
  ·exact nomatch e
  ·injection e with e1 _;subst e1;cases v <;> rfl
theorem mE(prog:Program)(w:World)(i:Int)(t:Tok):(mixKind prog w).is (.inl i) (.int i t)=true:=qa i t
theorem mF(prog:Program)(w:World)(x:Str)(t:Tok):(mixKind prog w).is (.inr x) (.str x t)=true:=qb x t
inductive V where
 |non|bl (b:Bool)|int (i:Int)|str (x:Str)|byt (b:Array UInt8)|flt (b:UInt64)|ref (a:Addr)|ty (n:String)
 deriving DecidableEq
noncomputable def RelV:V->Value->Prop
 | .non,u=>u=Value.none
 | .bl b,u=>u=Value.bool b
 | .int i,u=>∃t,u=Value.int i t
 | .str x,u=>∃t,u=Value.str x t
 | .byt b,u=>∃t,u=Value.bytes b t
 | .flt b,u=>∃t,u=Value.float b t
 | .ref a,u=>u=Value.ref a
 | .ty n,u=>u=Value.type n
abbrev Vals:List V->List Value->Prop:=Paired RelV
theorem Vals.length{xs:List V}{us:List Value}(r:Vals xs us):xs.length=us.length:=SE r
theorem Vals.get:∀{xs:List V}{us:List Value}{i:Nat}{x:V},Vals xs us->xs[i]?=some x->∃u,us[i]?=some u/\RelV x u
 |_,_,_,_,.nil,e=>by simp at e
 |_,_,0,_,.cons r _,e=>by simp at e;subst e;exact⟨_,rfl,r⟩
 |_,_,i+1,x,.cons _ t,e=>by
  obtain⟨u,h1,h2⟩:=Vals.get (i:=i) (x:=x) t (by simpa using e);exact⟨u,by simpa using h1,h2⟩
theorem Vals.set{x:V}{u:Value}(r:RelV x u):∀{xs:List V}{us:List Value}(i:Nat),Vals xs us->Vals (xs.set i x) (us.set i u)
 |_,_,_,.nil=>.nil
 |_,_,0,.cons _ t=>.cons r t
 |_,_,i+1,.cons q t=>.cons q (Vals.set r i t)
theorem Vals.append:∀{xs ys:List V}{us ws:List Value},Vals xs us->Vals ys ws->Vals (xs++ys) (us++ws)
 |_,_,_,_,.nil,s=>s
 |_,_,_,_,.cons r t,s=>.cons r (Vals.append t s)
theorem Vals.take:∀{xs:List V}{us:List Value}(n:Nat),Vals xs us->Vals (xs.take n) (us.take n)
 |_,_,0,_=>.nil
 |_,_,_+1,.nil=>.nil
 |_,_,n+1,.cons r t=>.cons r (Vals.take n t)
theorem Vals.drop:∀{xs:List V}{us:List Value}(n:Nat),Vals xs us->Vals (xs.drop n) (us.drop n)
 |_,_,0,r=>r
 |_,_,_+1,.nil=>.nil
 |_,_,n+1,.cons _ t=>Vals.drop n t
theorem Vals.none_of:∀{xs:List V}{us:List Value}{i:Nat},Vals xs us->xs[i]?=none->us[i]?=none:=fun{xs us i} r e=>by
 have h1:=r.length;have h2:xs.length<=i:=List.getElem?_eq_none_iff.mp e;exact List.getElem?_eq_none_iff.mpr (by lia)
def RelO:Option V->Option Value->Prop
 |some v,some u=>RelV v u
 |none,none=>True
 |_,_=>False
def KV{κ:Type}:List (κ×V)->List (κ×Value)->Prop:=Paired fun(p:κ×V) (q:κ×Value)=>p.1=q.1/\RelV p.2 q.2
def kV:Key->V
 | .inl i=>.int i
 | .inr x=>.str x
inductive HO where
 |lst (xs:List V)
 |tup (xs:List V)
 |dK (kvs:List (Key×V))|dT (kvs:List (List Key×V))
 |set (S:Int->Bool) (n:Nat)
 |ins (C dx:Addr) (fs:List (Str×V))
 |own (x:Addr)
 |xd (fs:List (Str×V))
 |met (f x:Addr)
 |rng (lo hi:Int)
 |frz (o:Obj) (u:HO)
 |tbl (ps:Array Value)
 |ext (φ:Heap->Prop)
abbrev Hp:=Addr->Option HO
def upd(H:Hp)(a:Addr)(o:HO):Hp:=fun b=>if b=a then some o else H b
theorem br{H:Hp}{a:Addr}{o:HO}:upd H a o a=some o:=by unfold upd;rw[PF rfl]
theorem aB{H:Hp}{a b:Addr}{o:HO}(h:b≠a):upd H a o b=H b:=by unfold upd;rw[PM h]
theorem yY{H:Hp}{a b:Addr}{o u:HO}(h:H a=some o)(h':H b=some u)(d:o≠u):a≠b:=by
 intro e;subst e;rw[h]at h';exact d (PZ h')
theorem aN{H:Hp}{a b:Addr}{o:HO}(h:H a=some o)(h':H b=none):a≠b:=by
 intro e;subst e;rw[h]at h';cases h'
section
variable(P:Program)(w:World)
noncomputable def ObjOk(H:Hp)(h:Heap)(a:Addr):HO->Prop
 | .lst xs=>xs.length<=sizeLine/\∃(Er:List Value) (n:Nat),Vals xs Er/\h.get? a=some {cls:=.type "list",data:=.seq Er.toArray n}
 | .tup xs=>xs.length<=sizeLine/\∃Er:List Value,Vals xs Er/\IsTupN h a Er.toArray
 | .dK kvs=>kvs.length<=sizeLine/\(a==sysModules)=false/\∃vs,KV kvs vs/\h.DictOf (mixKind P w) a vs
 | .dT kvs=>kvs.length<=sizeLine/\(a==sysModules)=false/\∃xs:List (List Key×Addr×Value),
   Paired (fun(p:List Key×V) (q:List Key×Addr×Value)=>p.1=q.1/\H q.2.1=some (.tup (p.1.map kV))/\RelV p.2 q.2.2) kvs xs/\
   ∃o es ep,h.get? a=some o/\o.ExactDict/\o.data=.dict es ep/\es.toList=xs.map (entryOfKey (tupleKind (mixKind P w)))/\(xs.map (·.1)).Nodup
 | .set S n=>h.SetOf (intKind P w) a S n
 | .ins C dx fs=>H dx=some (.own a)/\fs.length<=1000/\dx≠a/\h.get? a=some (PySem.W.instObj C dx)/\
   ∃mA,h.Ns1 dx mA/\(∀f,RelO (fs.lookup f) (mA f))/\PySem.Within mA (fs.map (·.1))
 | .own _=>∃o,h.get? a=some o
 | .xd fs=>∃mA,h.Ns1 a mA/\∀f,RelO (fs.lookup f) (mA f)
 | .rng lo hi=>∃t u v,h.get? a=some {cls:=.type "range",data:=.fields #[.int lo t,.int hi u,.int 1 v]}
 | .frz o u=>h.get? a=some o/\ObjOk H h a u
 | .tbl ps=>h.get? a=some {cls:=.none,data:=.fields ps}
 | .met f x=>h.get? a=some (PySem.W.methodObj (.ref f) (.ref x))
 | .ext φ=>φ h/\(∃o,h.get? a=some o)/\∀h1 h2:Heap,φ h1->(∀o,h1.get? a=some o->h2.get? a=some o)->φ h2
def HOk(H:Hp)(h:Heap):Prop:=∀a o,H a=some o->ObjOk P w H h a o
end
section
variable{P:Program}{w:World}{H H':Hp}{h h':Heap}{a:Addr}{o:HO}
theorem ObjOk.lt(x:ObjOk P w H h a o):a<h.objs.size:=by
 cases o with
 |lst xs=>obtain⟨_,_,_,_,e⟩:=x;exact PH e
 |tup xs=>obtain⟨_,_,_,p⟩:=x;exact p.tup.lt
 |dK kvs=>obtain⟨_,_,_,_,o,_,_,e,_⟩:=x;exact PH e
 |dT kvs=>obtain⟨_,_,_,_,o,_,_,e,_⟩:=x;exact PH e
 |set S n=>obtain⟨o,_,_,_,e,_⟩:=x;exact PH e
 |ins C dx fs=>obtain⟨_,_,_,e,_⟩:=x;exact PH e
 |own y=>obtain⟨_,e⟩:=x;exact PH e
 |xd fs=>obtain⟨_,⟨_,_,_,e,_⟩,_⟩:=x;exact PH e
 |rng lo hi=>obtain⟨_,_,_,e⟩:=x;exact PH e
 |frz ob u=>obtain⟨e,_⟩:=x;exact PH e
 |tbl ps=>exact PH (show h.get? a=some _ from x)
 |met f y=>exact PH (show h.get? a=some _ from x)
 |ext φ=>obtain⟨_,⟨_,e⟩,_⟩:=x;exact PH e
theorem Paired.mapP{α β:Type}{F G:α->β->Prop}:∀{l₁:List α}{l₂:List β},Paired F l₁ l₂->(∀a b,F a b->G a b)->Paired G l₁ l₂
 |_,_,.nil,_=>.nil
 |_,_,.cons r t,f=>.cons (f _ _ r) (Paired.mapP t f)
theorem ObjOk.stay(x:ObjOk P w H h a o)(k:∀b u,(b=a\/H b=some (.own a))->h.get? b=some u->h'.get? b=some u)
  (ho:∀b,H b=some (.own a)->H' b=some (.own a)) (ht:∀b xs,H b=some (.tup xs)->H' b=some (.tup xs)):ObjOk P w H' h' a o:=by
 induction o with
 |lst xs=>obtain⟨z,Er,n,r,e⟩:=x;exact⟨z,Er,n,r,k _ _ (.inl rfl) e⟩
 |tup xs=>obtain⟨z,Er,r,ob,e,c⟩:=x;exact⟨z,Er,r,ob,k _ _ (.inl rfl) e,c⟩
 |dK kvs=>obtain⟨z,y,vs,r,ob,es,ep,e,c⟩:=x;exact⟨z,y,vs,r,ob,es,ep,k _ _ (.inl rfl) e,c⟩
 |dT kvs=>
  obtain⟨z,y,xs,r,ob,es,ep,e,c⟩:=x;exact⟨z,y,xs,Paired.mapP r fun p q z=>⟨z.1,ht _ _ z.2.1,z.2.2⟩,ob,es,ep,k _ _ (.inl rfl) e,c⟩
 |set S n=>obtain⟨ob,es,ep,t,e,c⟩:=x;exact⟨ob,es,ep,t,k _ _ (.inl rfl) e,c⟩
 |ins C dx fs=>
  obtain⟨d,z,ne,e,mA,⟨od,es,ep,e2,c⟩,r⟩:=x;exact⟨ho _ d,z,ne,k _ _ (.inl rfl) e,mA,⟨od,es,ep,k _ _ (.inr d) e2,c⟩,r⟩
 |own y=>obtain⟨ob,e⟩:=x;exact⟨ob,k _ _ (.inl rfl) e⟩
 |xd fs=>obtain⟨mA,⟨od,es,ep,e,c⟩,r⟩:=x;exact⟨mA,⟨od,es,ep,k _ _ (.inl rfl) e,c⟩,r⟩
 |rng lo hi=>obtain⟨t,u,v,e⟩:=x;exact⟨t,u,v,k _ _ (.inl rfl) e⟩
 |frz ob u ih=>obtain⟨e,q⟩:=x;exact⟨k _ _ (.inl rfl) e,ih q⟩
 |tbl ps=>
  have e:h.get? a=some {cls:=.none,data:=.fields ps}:=x;show h'.get? a=some {cls:=.none,data:=.fields ps};exact k a _ (.inl rfl) e
 |met f y=>
  have e:h.get? a=some (PySem.W.methodObj (.ref f) (.ref y)):=x;show h'.get? a=some (PySem.W.methodObj (.ref f) (.ref y));exact k a _ (.inl rfl) e
 |ext φ=>obtain⟨p,⟨o,e⟩,st⟩:=x;exact⟨st _ _ p fun o q=>k _ _ (.inl rfl) q,⟨o,k _ _ (.inl rfl) e⟩,st⟩
theorem HOk.lt(x:HOk P w H h)(e:H a=some o):a<h.objs.size:=(x a o e).lt
theorem HOk.fresh(x:HOk P w H h)(e:h.objs.size<=a):H a=none:=by
 cases q:H a with
 |none=>rfl
 |some u=>exact absurd (PK (x.lt q) e) (QZ _)
theorem HOk.kept(x:HOk P w H h)(k:∀b u,h.get? b=some u->h'.get? b=some u):HOk P w H h':=fun a o e=>
 (x a o e).stay (fun b u _ q=>k b u q) (fun _ q=>q) fun _ _ q=>q
theorem HOk.laid(x:HOk P w H h)(k:∀b u,h.get? b=some u->h'.get? b=some u)(hp:h.objs.size<=a)(new:ObjOk P w (upd H a o) h' a o):HOk P w (upd H a o) h':=fun b u e=>by
 have hn:=x.fresh hp;by_cases hb:b=a
 ·subst hb;rw[br]at e;cases e;exact new
 ·rw[aB hb]at e;exact(x b u e).stay (fun c v _ q=>k c v q) (fun c q=>by rw[aB (aN q hn)];exact q) fun c xs q=>by rw[aB (aN q hn)];exact q
end
def Rd(H:Hp)(a:Addr)(u:HO):Prop:=H a=some u\/∃o,H a=some (.frz o u)
theorem Rd.ok{P:Program}{w:World}{H:Hp}{h:Heap}{a:Addr}{u:HO}(r:Rd H a u)(x:HOk P w H h):ObjOk P w H h a u:=by
 rcases r with r|⟨o,r⟩
 ·exact x a u r
 ·obtain⟨_,q⟩:=x a _ r;exact q
def Mj:Option HO->Prop
 |some (.lst _)=>True
 |some (.dK _)=>True
 |some (.dT _)=>True
 |some (.set _ _)=>True
 |some (.ins _ _ _)=>True
 |some (.ext _)=>True
 |_=>False
section
variable{P:Program}{w:World}{H:Hp}{h h':Heap}{x e:Addr}{o':HO}
theorem HOk.write(ok:HOk P w H h)(mu:Mj (H x))(he:e=x\/H e=some (.own x))(k:∀b u,b≠e->h.get? b=some u->h'.get? b=some u)(LN:∃u,h'.get? e=some u)
  (new:ObjOk P w (upd H x o') h' x o'):HOk P w (upd H x o') h':=fun b u q=>by
 have Im:∀c y,H c=some (.own y)->c≠x:=fun c y r z=>by subst z;rw[r]at mu;exact mu
 have ntup:∀c xs,H c=some (.tup xs)->c≠x:=fun c xs r z=>by subst z;rw[r]at mu;exact mu
 by_cases hb:b=x
 ·subst hb;rw[br]at q;cases q;exact new
 ·rw[aB hb]at q;by_cases hbe:b=e
  ·have q':H b=some (.own x):=by
    rcases he with z|z
    ·exact absurd (hbe.trans z) hb
    ·rw[hbe];exact z
   rw[q]at q';cases q';obtain⟨v,hv⟩:=LN;exact⟨v,by rw[hbe];exact hv⟩
  ·refine(ok b u q).stay (fun c v hc r=>k c v ?_ r) (fun c r=>by rw[aB (Im c b r)];exact r) fun c xs r=>by rw[aB (ntup c xs r)];exact r
   rcases hc with rfl|hc
   ·exact hbe
   ·rintro rfl;rcases he with z|z
    ·exact Im c b hc z
    ·rw[hc]at z;cases z;exact hb rfl
end
structure Un(fs ex:List Addr)(H H':Hp)(h h':Heap):Prop where
 keep:∀b o,h.get? b=some o->H b=none->b∉fs->b∉ex->h'.get? b=some o
 slot:∀b o,h.get? b=some o->H b=none->b∈fs->b∉ex->∃sl,h'.get? b=some {o with slots:=sl}
 free:∀b o,h.get? b=some o->H b=none->b∉ex->H' b=none
 there:∀b o,h.get? b=some o->b∉ex->∃o',h'.get? b=some o'
 tups:∀b xs,H b=some (.tup xs)->H' b=some (.tup xs)
 frzs:∀b o u,H b=some (.frz o u)->H' b=some (.frz o u)
 tbls:∀b ps,H b=some (.tbl ps)->∃more,H' b=some (.tbl (ps++more))
section
variable{fs fs' ex ex':List Addr}{H H1 H2:Hp}{h h1 h2 h':Heap}{a x e:Addr}{o:HO}
theorem Un.any(u:Un fs ex H H1 h h1){b:Addr}{ob:Obj}(q:h.get? b=some ob)(n:H b=none)(hx:b∉ex):∃sl,h1.get? b=some {ob with slots:=sl}:=by
 by_cases hb:b∈fs
 ·exact u.slot b ob q n hb hx
 ·exact⟨ob.slots,u.keep b ob q n hb hx⟩
theorem Un.trans(a:Un fs ex H H1 h h1)(b:Un fs ex H1 H2 h1 h2):Un fs ex H H2 h h2 where
 keep:=fun c ob q n hc hx=>b.keep c ob (a.keep c ob q n hc hx) (a.free c ob q n hx) hc hx
 slot:=fun c ob q n hc hx=>by
  obtain⟨sl,e1⟩:=a.slot c ob q n hc hx;obtain⟨NJ,e2⟩:=b.slot c _ e1 (a.free c ob q n hx) hc hx;exact⟨NJ,e2⟩
 free:=fun c ob q n hx=>by
  obtain⟨o',e1⟩:=a.there c ob q hx;exact b.free c o' e1 (a.free c ob q n hx) hx
 there:=fun c ob q hx=>by
  obtain⟨o',e1⟩:=a.there c ob q hx;exact b.there c o' e1 hx
 tups:=fun c xs q=>b.tups c xs (a.tups c xs q)
 frzs:=fun c ob xs q=>b.frzs c ob xs (a.frzs c ob xs q)
 tbls:=fun c ps q=>by
  obtain⟨m1,e1⟩:=a.tbls c ps q;obtain⟨m2,e2⟩:=b.tbls c _ e1;exact⟨m1++m2,by rw[e2,Uq]⟩
theorem Un.kept(k:∀b u,h.get? b=some u->h'.get? b=some u):Un fs ex H H h h':=
 ⟨fun b ob q _ _ _=>k b ob q,fun b ob q _ _ _=>⟨ob.slots,k b ob q⟩,fun _ _ _ n _=>n,fun b ob q _=>⟨ob,k b ob q⟩,fun _ _ q=>q,fun _ _ _ q=>q,fun _ ps q=>⟨#[],by rw[q];simp⟩⟩
theorem Un.refl:Un fs ex H H h h:=Un.kept fun _ _ q=>q
theorem Un.laid(k:∀b u,h.get? b=some u->h'.get? b=some u)(hp:h.objs.size<=a)(hn:H a=none):Un fs ex H (upd H a o) h h' where
 keep:=fun b u q _ _ _=>k b u q
 slot:=fun b u q _ _ _=>⟨u.slots,k b u q⟩
 free:=fun b u q n _=>by rw[aB (P1 (PK (PH q) hp))];exact n
 there:=fun b u q _=>⟨u,k b u q⟩
 tups:=fun b xs q=>by rw[aB (aN q hn)];exact q
 frzs:=fun b u xs q=>by rw[aB (aN q hn)];exact q
 tbls:=fun b ps q=>⟨#[],by rw[aB (aN q hn),q];simp⟩
theorem Un.write(mu:Mj (H x))(he:e=x\/H e=some (.own x))(k:∀b u,b≠e->h.get? b=some u->h'.get? b=some u)(LN:∃u,h'.get? e=some u):Un fs ex H (upd H x o) h h':=by
 have hx:∀b,H b=none->b≠x:=fun b n z=>by subst z;rw[n]at mu;exact mu
 have hb:∀b,H b=none->b≠e:=fun b n z=>by
  subst z;rcases he with r|r
  ·exact hx b n r
  ·rw[n]at r;cases r
 have hm:∀b u,H b=some u->¬ Mj (some u)->b≠x:=fun b u q nm z=>by subst z;rw[q]at mu;exact nm mu
 refine⟨fun b u q n _ _=>k b u (hb b n) q,fun b u q n _ _=>⟨u.slots,k b u (hb b n) q⟩,fun b u q n _=>by rw[aB (hx b n)];exact n,fun b u q _=>?_,
  fun b xs q=>by rw[aB (hm b _ q fun z=>z)];exact q,fun b u xs q=>by rw[aB (hm b _ q fun z=>z)];exact q,fun b ps q=>⟨#[],by rw[aB (hm b _ q fun z=>z),q];simp⟩⟩
 by_cases hbe:b=e
 ·subst hbe;exact LN
 ·exact⟨u,k b u hbe q⟩
end
def trk(h:Heap)(H:Hp):List Addr:=(List.range h.objs.size).filter fun a=>(H a).isSome
def tV(h:Heap)(H:Hp):Heap:=PySem.W.hideAll h (trk h H)
theorem qc(h:Heap)(H:Hp):(tV h H).objs.size=h.objs.size:=PySem.W.hideAll_size _ _
theorem tW{h:Heap}{H:Hp}{b:Addr}{o:Obj}(e:h.get? b=some o)(n:H b=none):(tV h H).get? b=some o:=
 SJ _ e fun hm=>by
  have q:(H b).isSome=true:=(Sa.mp hm).2;rw[n]at q;simp at q
theorem wH{h:Heap}{H:Hp}{b:Addr}{o:Obj}(e:(tV h H).get? b=some o):h.get? b=some o/\H b=none:=by
 have e':h.get? b=some o:=Ur (trk h H) e;refine⟨e',?_⟩;cases q:H b with
 |none=>rfl
 |some x=>
  have hm:b∈trk h H:=Sa.mpr ⟨PU.mpr (PH e'),by simp[q]⟩;have z:(tV h H).get? b=none:=PySem.W.hideAll_none (trk h H) hm;rw[z]at e;cases e
def wI(g h:Heap)(L:Addr):List (Addr×Obj):=(List.range h.objs.size).filterMap fun a=>if a=L\/(g.get? a).isSome=true then none else(h.get? a).map fun o=>(a,o)
def bT(g h:Heap)(L d:Addr):List (Addr×Obj):=(wI g h L).filter fun p=>decide (p.1≠d)
structure Mod(K:W.Frag)(mg:Str->Option Value)(base:Heap):Prop where
 kin:K.In base
 glob:base.Ns mainGlobals mg
 blt:∃mb,base.Ns builtinsNs mb/\∀x:Str,x≠"__name__"->mb x=bootBuiltins x
 nolimit:base.NoLimit
structure Cx where
 prog:Program
 w:World
 K:W.Frag
 mg:Str->Option Value
 base:Heap
 A:Around
 N:List Str
 s₀:Shared
 H₀:Hp
 env:Env
 outer:List Env
 stack:List Env
 ex:List Addr
 fn:Str->Bool
 calm:Bool
 pn:List (Addr×Obj)
 xe:Value->Shared->Prop
def F8(l:List Env):List Addr:=l.filterMap (·.frame)
abbrev Cx.fs(X:Cx):List Addr:=F8 X.outer
def NK(sc:Scope)(x:Str):Prop:=sc.names.lookup x=some .local\/sc.names.lookup x=some .cell\/sc.names.lookup x=some .free
def Loc(sc:Scope)(x:Str):Prop:=sc.names.lookup x=some .local\/sc.names.lookup x=some .cell
def Dg(sc:Scope)(x:Str):Bool:=match sc.names.lookup x with
 |some .local=>true
 |some .cell=>true
 |_=>false
theorem lo{sc:Scope}{x:Str}(h:Dg sc x=true):Loc sc x:=by
 unfold Dg at h;split at h
 ·exact .inl (by assumption)
 ·exact .inr (by assumption)
 ·cases h

def Dv(env:Env)(h:Heap)(m:Str->Option Value)(x:Str)(u:Value):Prop:=
 (env.kindOf x=some .local/\m x=some u)\/((env.kindOf x=some .cell\/env.kindOf x=some .free)/\∃c,env.cells.lookup x=some c/\h.IsCell c (some u))
structure Cx.Ok(X:Cx):Prop where
 mod:Mod X.K X.mg X.base
 kind:X.env.scope.kind=.function
 glob:X.env.globals=mainGlobals
 blt:X.env.builtins=builtinsNs
 above:X.s₀.heap.objs.size<=X.env.locals
 inj:∀x y c,X.env.cells.lookup x=some c->X.env.cells.lookup y=some c->x=y
 has:∀x,(X.env.kindOf x=some .cell\/X.env.kindOf x=some .free)->∃c,X.env.cells.lookup x=some c
 cab:∀x c,X.fn x=true->X.env.cells.lookup x=some c->X.s₀.heap.objs.size<=c
 hd:X.calm=true->X.A.handled=none
 frames:X.A.frames=some X.stack
 stk:X.stack=X.outer\/(X.stack=X.env::X.outer/\X.env.frame=some X.env.locals)
 exf:∀b∈X.ex,b≠X.env.locals/\∀x c,X.env.cells.lookup x=some c->c≠b
 bs:∀b o,X.base.get? b=some o->X.s₀.heap.get? b=some o/\X.H₀ b=none
 bsz:X.base.objs.size<=X.s₀.heap.objs.size
 noex:∀b o,X.base.get? b=some o->b∉X.ex
 exfs:∀b∈X.ex,b∉X.fs
 funs:X.s₀.heap.FunFrames X.base X.outer
 frf:∀b∈X.fs,X.H₀ b=none
structure Inv(X:Cx)(pi:List (Addr×Obj))(σ:List (Option V))(H:Hp)(s:Shared):Prop where
 ok:X.Ok
 os:s.os=X.s₀.os
 bare:AllBare s.gens
 base:Un X.fs X.ex X.H₀ H X.s₀.heap s.heap
 loc:∃m,s.heap.Ns X.env.locals m/\∀(i:Nat) (x:Str) (v:V),X.N[i]?=some x->σ[i]?=some (some v)->NK X.env.scope x->∃u,RelV v u/\Dv X.env s.heap m x u
 cell:∀x c,X.env.cells.lookup x=some c->∃v,s.heap.IsCell c v
 free:H X.env.locals=none
 freeC:∀x c,X.env.cells.lookup x=some c->H c=none
 pin:∀p∈X.pn++pi,s.heap.get? p.1=some p.2/\H p.1=none/\p.1≠X.env.locals/\p.1∉X.fs/\∀v,p.2.data≠.cell v
 hok:HOk X.prog X.w H s.heap
 len:σ.length=X.N.length
section
variable{X:Cx}{pi:List (Addr×Obj)}{σ:List (Option V)}{H H':Hp}{s:Shared}{h':Heap}
theorem Cx.Ok.nofr(ok:X.Ok){b:Addr}{o:Obj}(e:X.base.get? b=some o):b∉X.fs:=fun hb=>by
 have:=(ok.funs.mem hb).1;rw[e]at this;cases this
theorem Inv.bs(I:Inv X pi σ H s):∀b o,X.base.get? b=some o->s.heap.get? b=some o/\H b=none:=fun b o e=>
 ⟨I.base.keep b o (I.ok.bs b o e).1 (I.ok.bs b o e).2 (I.ok.nofr e) (I.ok.noex b o e),I.base.free b o (I.ok.bs b o e).1 (I.ok.bs b o e).2 (I.ok.noex b o e)⟩
theorem Inv.bk(I:Inv X pi σ H s):∀b o,X.base.get? b=some o->s.heap.get? b=some o:=fun b o e=>(I.bs b o e).1
theorem Inv.mod(I:Inv X pi σ H s):Mod X.K X.mg X.base:=I.ok.mod
theorem Inv.kIn(I:Inv X pi σ H s):X.K.In s.heap:=I.ok.mod.kin.keeps I.bk
theorem Inv.lt(I:Inv X pi σ H s):X.env.locals<s.heap.objs.size:=let⟨_,hn,_⟩:=I.loc;hn.lt
theorem Inv.sz(I:Inv X pi σ H s):X.s₀.heap.objs.size<=s.heap.objs.size:=Qc I.ok.above (TH I.lt)
theorem Inv.nofs(I:Inv X pi σ H s){a:Addr}(h:s.heap.objs.size<=a):a∉X.fs:=fun hb=>by
 obtain⟨_,o,ho,_⟩:=I.ok.funs.mem hb;exact absurd (PK (PH ho) (Qc I.sz h)) (QZ _)
theorem Inv.cne(I:Inv X pi σ H s):∀x c,X.env.cells.lookup x=some c->c≠X.env.locals:=fun x c e z=>by
 obtain⟨v,o,ho,hd⟩:=I.cell x c e;obtain⟨m,⟨o',es,ep,Hn,IE,_⟩,_⟩:=I.loc;rw[z,Hn]at ho;cases ho;rw[IE]at hd;cases hd
theorem Inv.funs(I:Inv X pi σ H s):s.heap.FunFrames X.base X.outer:=by
 have all:∀(l:List Env),(∀b∈F8 l,b∈X.fs)->X.s₀.heap.FunFrames X.base l->s.heap.FunFrames X.base l:=by
  intro l;induction l with
  |nil=>intro _ _;trivial
  |cons env r ih=>
   intro hs hl;obtain⟨hk,⟨L,o,hf,hn,ho,hd⟩,hr⟩:=hl;have hL:L∈X.fs:=hs L (by unfold F8;rw[RA,hf];exact Pq);obtain⟨sl,e⟩:=I.base.slot L o ho (I.ok.frf L hL) hL fun z=>I.ok.exfs L z hL
   exact⟨hk,⟨L,_,hf,hn,e,hd⟩,ih (fun b hb=>hs b (by unfold F8;rw[RA,hf];exact Px _ hb)) hr⟩
 exact all X.outer (fun _ hb=>hb) I.ok.funs
theorem Inv.stack(I:Inv X pi σ H s):s.heap.FunFrames X.base X.stack:=by
 rcases I.ok.stk with e|⟨e,hf⟩
 ·rw[e];exact I.funs
 ·rw[e];obtain⟨m,hn,_⟩:=I.loc;refine .cons (by rw[I.ok.kind];decide) hf hn ?_ I.funs;exact Heap.get?_none_of_le (Qc I.ok.bsz I.ok.above)
theorem Inv.stkSub(I:Inv X pi σ H s):∀b∈F8 X.stack,b∈X.env.locals::X.fs:=fun b hb=>by
 rcases I.ok.stk with e|⟨e,hf⟩
 ·rw[e]at hb;exact Px _ hb
 ·rw[e]at hb;unfold F8 at hb;rw[RA,hf]at hb;exact hb
theorem Inv.stkFree(I:Inv X pi σ H s):∀b∈F8 X.stack,H b=none:=fun b hb=>by
 rcases PJ.mp (I.stkSub b hb) with e|hb
 ·rw[e];exact I.free
 ·obtain⟨_,o,ho,_⟩:=I.ok.funs.mem hb;exact I.base.free b o ho (I.ok.frf b hb) fun z=>I.ok.exfs b z hb
theorem Inv.step{g':Array GenState}{t':Nat}{d':Drawn}{ch:List Addr}(I:Inv X pi σ H s)
  (Jq:∀b∈ch,(b∈X.ex\/X.s₀.heap.objs.size<=b)/\b≠X.env.locals/\(∀x c,X.env.cells.lookup x=some c->c≠b)/\∀p∈X.pn++pi,p.1≠b)
  (keep:∀b o,b≠X.env.locals->b∉X.fs->b∉ch->s.heap.get? b=some o->H b=none->h'.get? b=some o)
  (slot:∀b o,b≠X.env.locals->b∈X.fs->b∉ch->s.heap.get? b=some o->H b=none->∃sl,h'.get? b=some {o with slots:=sl}) (free:∀b o,b∉ch->s.heap.get? b=some o->H b=none->H' b=none)
  (there:∀b o,b∉ch->s.heap.get? b=some o->∃o',h'.get? b=some o')
  (tups:∀b xs,H b=some (.tup xs)->H' b=some (.tup xs)) (frzs:∀b o u,H b=some (.frz o u)->H' b=some (.frz o u)) (tbls:∀b ps,H b=some (.tbl ps)->∃more,H' b=some (.tbl (ps++more)))
  (ns:∀m,s.heap.Ns X.env.locals m->h'.Ns X.env.locals m) (hok:HOk X.prog X.w H' h') (hg:AllBare g'):
  Inv X pi σ H' {s with heap:=h',gens:=g',drawn:=d',toks:=t'}:=by
 have OC:∀b o,X.s₀.heap.get? b=some o->b≠X.env.locals:=fun b o e=>P1 (PK (PH e) I.ok.above)
 have Ni:∀b o,X.s₀.heap.get? b=some o->b∉X.ex->b∉ch:=fun b o e hx hb=>by
  rcases(Jq b hb).1 with z|z
  ·exact hx z
  ·exact absurd (PK (PH e) z) (QZ _)
 have cellK:∀x c,X.env.cells.lookup x=some c->∀v,s.heap.IsCell c v->h'.IsCell c v:=fun x c e v ED=>by
  obtain⟨o,ho,hd⟩:=ED;have Mk:c∉ch:=fun z=>(Jq c z).2.2.1 x c e rfl
  by_cases hc:c∈X.fs
  ·obtain⟨sl,q⟩:=slot c o (I.cne x c e) hc Mk ho (I.freeC x c e);exact⟨_,q,hd⟩
  ·exact⟨o,keep c o (I.cne x c e) hc Mk ho (I.freeC x c e),hd⟩
 refine⟨I.ok,I.os,hg,⟨fun b o e n hb hx=>?_,fun b o e n hb hx=>?_,fun b o e n hx=>?_,fun b o e hx=>?_,fun b xs e=>tups b xs (I.base.tups b xs e),fun b o xs e=>frzs b o xs (I.base.frzs b o xs e),fun b ps e=>?_⟩,?_,fun x c e=>?_,?_,fun x c e=>?_,fun p hp=>?_,hok,I.len⟩
 ·exact keep b o (OC b o e) hb (Ni b o e hx) (I.base.keep b o e n hb hx) (I.base.free b o e n hx)
 ·obtain⟨sl,e1⟩:=I.base.slot b o e n hb hx;obtain⟨NJ,e2⟩:=slot b _ (OC b o e) hb (Ni b o e hx) e1 (I.base.free b o e n hx);exact⟨NJ,e2⟩
 ·obtain⟨o',e1⟩:=I.base.there b o e hx;exact free b o' (Ni b o e hx) e1 (I.base.free b o e n hx)
 ·obtain⟨o',e1⟩:=I.base.there b o e hx;exact there b o' (Ni b o e hx) e1
 ·obtain⟨m1,e1⟩:=I.base.tbls b ps e;obtain⟨m2,e2⟩:=tbls b _ e1;exact⟨m1++m2,by rw[e2,Uq]⟩
 ·obtain⟨m,hn,hl⟩:=I.loc;refine⟨m,ns m hn,fun i x v e1 e2 e3=>?_⟩;obtain⟨u,r,l⟩:=hl i x v e1 e2 e3;refine⟨u,r,?_⟩;rcases l with l|⟨k,c,e,z⟩
  ·exact .inl l
  ·exact .inr ⟨k,c,e,cellK x c e _ z⟩
 ·obtain⟨v,z⟩:=I.cell x c e;exact⟨v,cellK x c e v z⟩
 ·obtain⟨m,⟨o,_,_,ho,_⟩,_⟩:=I.loc;exact free _ o (fun z=>(Jq _ z).2.1 rfl) ho I.free
 ·obtain⟨v,o,ho,hd⟩:=I.cell x c e;exact free c o (fun z=>(Jq c z).2.2.1 x c e rfl) ho (I.freeC x c e)
 ·obtain⟨e,n,ne,nf,d⟩:=I.pin p hp;have Mk:p.1∉ch:=fun z=>(Jq p.1 z).2.2.2 p hp rfl
  exact⟨keep p.1 p.2 ne nf Mk e n,free p.1 p.2 Mk e n,ne,nf,d⟩
theorem Inv.un{t':Nat}(I:Inv X pi σ H s)(u:Un X.fs [] H H' s.heap h')(hok:HOk X.prog X.w H' h'):Inv X pi σ H' {s with heap:=h',toks:=t'}:=by
 obtain⟨m,⟨o,es,ep,ho,r⟩,_⟩:=id I.loc;obtain⟨sl,hL⟩:=u.any ho I.free (by simp);exact I.step (g':=s.gens) (d':=s.drawn) (ch:=[]) (fun _ z=>nomatch z) (fun b o _ hb _ e n=>u.keep b o e n hb (by simp)) (fun b o _ hb _ e n=>u.slot b o e n hb (by simp)) (fun b o _ e n=>u.free b o e n (by simp)) (fun b o _ e=>u.there b o e (by simp)) u.tups u.frzs u.tbls (fun m' hm=>by
  obtain⟨o',KO,NL,Hn,r'⟩:=hm;rw[ho]at Hn;cases Hn;exact⟨_,KO,NL,hL,r'⟩) hok I.bare
theorem Inv.call{g':Array GenState}{t':Nat}{d':Drawn}{ch:List Addr}(I:Inv X pi σ H s)(u:Un (F8 X.stack) ch H H' s.heap h')(hok:HOk X.prog X.w H' h')(hg:AllBare g')
  (Jq:∀b∈ch,(b∈X.ex\/X.s₀.heap.objs.size<=b)/\b≠X.env.locals/\(∀x c,X.env.cells.lookup x=some c->c≠b)/\∀p∈X.pn++pi,p.1≠b):
  Inv X pi σ H' {s with heap:=h',gens:=g',drawn:=d',toks:=t'}:=by
 obtain⟨m,⟨o,es,ep,ho,r⟩,_⟩:=id I.loc;obtain⟨sl,hL⟩:=u.any ho I.free fun z=>(Jq _ z).2.1 rfl
 exact I.step (ch:=ch) Jq (fun b o hL hb hc e n=>u.keep b o e n (fun z=>(PJ.mp (I.stkSub b z)).elim hL hb) hc) (fun b o _ _ hc e n=>u.any e n hc) (fun b o hc e n=>u.free b o e n hc) (fun b o hc e=>u.there b o e hc) u.tups u.frzs u.tbls (fun m' hm=>by
  obtain⟨o',KO,NL,Hn,r'⟩:=hm;rw[ho]at Hn;cases Hn;exact⟨_,KO,NL,hL,r'⟩) hok hg
theorem Inv.turned{t':Nat}{it:Addr}(I:Inv X pi σ H s)(k:∀b o,b≠it->s.heap.get? b=some o->h'.get? b=some o)(hn:H it=none)(hL:it≠X.env.locals)
  (h1:it∈X.ex\/X.s₀.heap.objs.size<=it) (h2:∀x c,X.env.cells.lookup x=some c->c≠it) (h3:∀p∈X.pn++pi,p.1≠it):Inv X pi σ H {s with heap:=h',toks:=t'}:=by
 have OD:∀b u,H b=some u->b≠it:=fun b u e z=>by rw[z,hn]at e;cases e
 refine I.step (g':=s.gens) (d':=s.drawn) (ch:=[it]) (fun b hb=>?_) (fun b o _ _ hc e _=>k b o (fun z=>hc (by simp[z])) e) (fun b o _ _ hc e _=>⟨o.slots,k b o (fun z=>hc (by simp[z])) e⟩) (fun _ _ _ _ n=>n)
  (fun b o hc e=>⟨o,k b o (fun z=>hc (by simp[z])) e⟩) (fun _ _ e=>e) (fun _ _ _ e=>e) (fun b ps e=>⟨#[],by rw[e];simp⟩) (fun m hm=>?_) (fun b u e=>?_) I.bare
 ·have e:b=it:=by simpa using hb
  subst e;exact⟨h1,hL,h2,h3⟩
 ·obtain⟨o,es,ep,ho,r⟩:=hm;exact⟨o,es,ep,k _ o (Rt hL) ho,r⟩
 ·refine(I.hok b u e).stay (fun c v hc q=>k c v ?_ q) (fun _ q=>q) fun _ _ q=>q
  rcases hc with z|z
  ·rw[z];exact OD b u e
  ·exact OD c _ z
theorem Inv.tok(I:Inv X pi σ H s)(t:Nat):Inv X pi σ H {s with toks:=t}:=I.un (h':=s.heap) (t':=t) Un.refl I.hok
theorem Inv.kept{t':Nat}(I:Inv X pi σ H s)(k:∀b u,s.heap.get? b=some u->h'.get? b=some u):Inv X pi σ H {s with heap:=h',toks:=t'}:=I.un (Un.kept k) (I.hok.kept k)
theorem Inv.laid{a:Addr}{o:HO}{t':Nat}(I:Inv X pi σ H s)(k:∀b u,s.heap.get? b=some u->h'.get? b=some u)(hp:s.heap.objs.size<=a)(new:ObjOk X.prog X.w (upd H a o) h' a o):
  Inv X pi σ (upd H a o) {s with heap:=h',toks:=t'}:=I.un (Un.laid k hp (I.hok.fresh hp)) (I.hok.laid k hp new)
theorem Inv.write{x e:Addr}{o:HO}{t':Nat}(I:Inv X pi σ H s)(mu:Mj (H x))(he:e=x\/H e=some (.own x))(k:∀b u,b≠e->s.heap.get? b=some u->h'.get? b=some u)(LN:∃u,h'.get? e=some u)
  (new:ObjOk X.prog X.w (upd H x o) h' x o):Inv X pi σ (upd H x o) {s with heap:=h',toks:=t'}:=I.un (Un.write mu he k LN) (I.hok.write mu he k LN new)
theorem Inv.pins_of{Ks:List (Addr×Obj)}(I:Inv X pi σ H s)(h:∀p∈Ks,s.heap.get? p.1=some p.2/\H p.1=none/\p.1≠X.env.locals/\p.1∉X.fs/\∀v,p.2.data≠.cell v):Inv X Ks σ H s:=
 ⟨I.ok,I.os,I.bare,I.base,I.loc,I.cell,I.free,I.freeC,fun p hp=>(Qd.mp hp).elim (fun z=>I.pin p (P0 _ z)) (h p),I.hok,I.len⟩
theorem nG{N:List Str}(hN:N.Nodup){i j:Nat}{x:Str}(a:N[i]?=some x)(b:N[j]?=some x):i=j:=by
 obtain⟨h1,e1⟩:=List.getElem?_eq_some_iff.mp a;obtain⟨h2,e2⟩:=List.getElem?_eq_some_iff.mp b;exact(Tn hN).mp (e1.trans e2.symm)
theorem kO{M:Model}{A:Around}{E:Value->Shared->Prop}{i:Nat}{x:Str}{v:V}{u:Value}{Q:Unit->Shared->Prop}(I:Inv X pi σ H s)(hN:X.N.Nodup)(hi:X.N[i]?=some x)(hx:Loc X.env.scope x)(r:RelV v u)
  (h:∀s',Inv X pi (σ.set i (some v)) H s'->(∃a,Heap.SameBut a s.heap s'.heap/\(a=X.env.locals\/X.env.cells.lookup x=some a))->Q () s') (hf:X.fn x=true\/X.env.scope.names.lookup x=some .local:=by first|exact .inl rfl|exact .inr rfl|assumption):wpAny M A (storeName X.env x u) Q E s:=by
 obtain⟨m,hn,hl⟩:=id I.loc;have hcls:(X.env.scope.kind==.class||(X.env.scope.kind==.module&&X.env.locals != X.env.globals))=false:=by rw[I.ok.kind];rfl
 have hiσ:i<σ.length:=by rw[I.len];exact(List.getElem?_eq_some_iff.mp hi).1
 have cne:=I.cne;have tracked:∀{a:Addr}{h':Heap},(∃o,s.heap.get? a=some o/\H a=none)->Heap.SameBut a s.heap h'->HOk X.prog X.w H h':=fun{a h'} ha hs b ob e=>by
  obtain⟨_,_,Kt⟩:=ha;refine(I.hok b ob e).stay (fun c w' hc q=>(hs.2 c ?_).trans q) (fun _ q=>q) fun _ _ q=>q
  rintro rfl;rcases hc with rfl|hc
  ·rw[Kt]at e;cases e
  ·rw[Kt]at hc;cases hc
 rcases hx with hk|hk
 ·refine wpAny_storeName_local hk hn (fun h' hn' hs=>?_) hcls;obtain⟨oL,_,_,hoL,_⟩:=id hn;refine h _ ⟨I.ok,I.os,I.bare,⟨fun b o e n hb hx=>?_,fun b o e n hb hx=>?_,I.base.free,fun b o e hx=>?_,I.base.tups,I.base.frzs,I.base.tbls⟩,⟨_,hn',fun j y v' e1 e2 e3=>?_⟩,fun y c e=>?_,I.free,I.freeC,fun p hp=>?_,tracked ⟨oL,hoL,I.free⟩ hs,by simpa using I.len⟩ ⟨_,hs,.inl rfl⟩
  ·exact(hs.2 b (P1 (PK (PH e) I.ok.above))).trans (I.base.keep b o e n hb hx)
  ·obtain⟨sl,e1⟩:=I.base.slot b o e n hb hx;exact⟨sl,(hs.2 b (P1 (PK (PH e) I.ok.above))).trans e1⟩
  ·obtain⟨o',e1⟩:=I.base.there b o e hx;exact⟨o',(hs.2 b (P1 (PK (PH e) I.ok.above))).trans e1⟩
  ·by_cases hj:j=i
   ·subst hj;rw[hi]at e1;cases e1;rw[List.getElem?_set_self hiσ]at e2;cases e2;exact⟨u,r,.inl ⟨hk,by simp⟩⟩
   ·rw[List.getElem?_set_ne (Rt hj)]at e2;obtain⟨u',r',q⟩:=hl j y v' e1 e2 e3;refine⟨u',r',?_⟩;rcases q with⟨k,e⟩|⟨k,c,e,z⟩
    ·refine .inl ⟨k,?_⟩;have:y≠x:=fun e=>hj (nG hN e1 (e▸hi))
     simp[this,e]
    ·exact .inr ⟨k,c,e,z.sameBut hs (cne y c e)⟩
  ·obtain⟨w',z⟩:=I.cell y c e;exact⟨w',z.sameBut hs (cne y c e)⟩
  ·obtain⟨e,n,ne,nf,d⟩:=I.pin p hp;exact⟨(hs.2 p.1 ne).trans e,n,ne,nf,d⟩
 ·have JB:X.fn x=true:=by
   rcases hf with z|z
   ·exact z
   ·rw[z]at hk;cases hk
  obtain⟨c,hc⟩:=I.ok.has x (.inl hk);obtain⟨w',z⟩:=I.cell x c hc;refine wpAny_storeName_cell I.ok.kind hk hc z (fun h' JC hs=>?_);obtain⟨oc,OE,hocd⟩:=id z;refine h {s with heap:=h'} ⟨I.ok,I.os,I.bare,⟨fun b o e n hb hx=>?_,fun b o e n hb hx=>?_,I.base.free,fun b o e hx=>?_,I.base.tups,I.base.frzs,I.base.tbls⟩,⟨m,hn.sameBut hs (Rt (cne x c hc)),fun j y v' e1 e2 e3=>?_⟩,fun y c' e=>?_,I.free,I.freeC,fun p hp=>?_,tracked ⟨oc,OE,I.freeC x c hc⟩ hs,by simpa using I.len⟩ ⟨c,hs,.inr hc⟩
  ·exact(hs.2 b (P1 (PK (PH e) (I.ok.cab x c JB hc)))).trans (I.base.keep b o e n hb hx)
  ·obtain⟨sl,e1⟩:=I.base.slot b o e n hb hx;exact⟨sl,(hs.2 b (P1 (PK (PH e) (I.ok.cab x c JB hc)))).trans e1⟩
  ·obtain⟨o',e1⟩:=I.base.there b o e hx;exact⟨o',(hs.2 b (P1 (PK (PH e) (I.ok.cab x c JB hc)))).trans e1⟩
  ·by_cases hj:j=i
   ·subst hj;rw[hi]at e1;cases e1;rw[List.getElem?_set_self hiσ]at e2;cases e2;exact⟨u,r,.inr ⟨.inl hk,c,hc,JC⟩⟩
   ·rw[List.getElem?_set_ne (Rt hj)]at e2;obtain⟨u',r',q⟩:=hl j y v' e1 e2 e3;refine⟨u',r',?_⟩;rcases q with q|⟨k,c',e,z'⟩
    ·exact .inl q
    ·refine .inr ⟨k,c',e,z'.sameBut hs ?_⟩;rintro rfl;exact hj (nG hN e1 (I.ok.inj _ _ _ e hc▸hi))
  ·by_cases hcc:c'=c
   ·subst hcc;exact⟨_,JC⟩
   ·obtain⟨w2,z2⟩:=I.cell y c' e;exact⟨w2,z2.sameBut hs hcc⟩
  ·obtain⟨e,n,ne,nf,d⟩:=I.pin p hp;refine⟨(hs.2 p.1 ?_).trans e,n,ne,nf,d⟩;intro q;rw[q,OE]at e;have q':oc=p.2:=PZ e;exact d w' (by rw[<-q'];exact hocd)
theorem nH{M:Model}{A:Around}{E:Value->Shared->Prop}{i:Nat}{x:Str}{v:V}{u:Value}{Q:Unit->Shared->Prop}(I:Inv X pi σ H s)(hN:X.N.Nodup)(hi:X.N[i]?=some x)(hx:Loc X.env.scope x)(r:RelV v u)
  (h:∀s',Inv X pi (σ.set i (some v)) H s'->Q () s') (hf:X.fn x=true\/X.env.scope.names.lookup x=some .local:=by first|exact .inl rfl|exact .inr rfl|assumption):wpAny M A (storeName X.env x u) Q E s:=
 kO I hN hi hx r (fun s' I' _=>h s' I') hf
theorem Inv.call'{s':Shared}{ch:List Addr}(I:Inv X pi σ H s)(ho:s'.os=s.os)(u:Un (F8 X.stack) ch H H' s.heap s'.heap)(hok:HOk X.prog X.w H' s'.heap)(hg:AllBare s'.gens)
  (Jq:∀b∈ch,(b∈X.ex\/X.s₀.heap.objs.size<=b)/\b≠X.env.locals/\(∀x c,X.env.cells.lookup x=some c->c≠b)/\∀p∈X.pn++pi,p.1≠b):Inv X pi σ H' s':=by
 obtain⟨h',g',d',t',o'⟩:=s';have e:o'=s.os:=ho;subst e;exact I.call (g':=g') (t':=t') (d':=d') u hok hg Jq
end
abbrev XK:=Value->Option Addr->Hp->Prop
abbrev St:=List (Option V)
abbrev VK:=V->Hp->Prop
abbrev TE:=St->Hp->VK->Prop
abbrev TT:=St->Hp->(Bool->Hp->Prop)->Prop
abbrev TA:=St->Hp->(List V->Hp->Prop)->Prop
structure Ends where
 nx:St->Hp->Prop
 rt:VK
 bk:St->Hp->Prop:=fun _ _=>False
 ct:St->Hp->Prop:=fun _ _=>False
abbrev TS:=Ends->St->Hp->Prop
def EP(X:Cx)(pi:List (Addr×Obj))(σ:St)(Q:VK)(u:Value)(s':Shared):Prop:=∃v H',Inv X pi σ H' s'/\RelV v u/\Q v H'
def TP(X:Cx)(pi:List (Addr×Obj))(σ:St)(Q:Bool->Hp->Prop)(b:Bool)(s':Shared):Prop:=∃H',Inv X pi σ H' s'/\Q b H'
def AP(X:Cx)(pi:List (Addr×Obj))(σ:St)(Q:List V->Hp->Prop)(us:List Value)(s':Shared):Prop:=∃vs H',Inv X pi σ H' s'/\Vals vs us/\Q vs H'
def SP(X:Cx)(pi:List (Addr×Obj))(D:Ends)(f:Flow)(s':Shared):Prop:=
 match f with
 | .next=>∃σ' H',Inv X pi σ' H' s'/\D.nx σ' H'
 | .brk=>∃σ' H',Inv X pi σ' H' s'/\D.bk σ' H'
 | .cont=>∃σ' H',Inv X pi σ' H' s'/\D.ct σ' H'
 | .ret u=>∃v σ' H',Inv X pi σ' H' s'/\RelV v u/\D.rt v H'
def PE(X:Cx)(e:Expr)(t:TE):Prop:=
 ∀(pi:List (Addr×Obj)) (s:Shared) (σ:St) (H:Hp) (Q:VK),Inv X pi σ H s->t σ H Q->wpAny (model X.prog X.w) X.A (eval e X.env) (EP X pi σ Q) X.xe s
def PT(X:Cx)(e:Expr)(t:TT):Prop:=
 ∀(pi:List (Addr×Obj)) (s:Shared) (σ:St) (H:Hp) (Q:Bool->Hp->Prop),Inv X pi σ H s->t σ H Q->wpAny (model X.prog X.w) X.A (isTrue e X.env (eval e X.env)) (TP X pi σ Q) X.xe s
def PW(X:Cx)(e:Expr)(t:TT):Prop:=
 ∀(whole:Sem Value) (pi:List (Addr×Obj)) (s:Shared) (σ:St) (H:Hp) (Q:Bool->Hp->Prop),Inv X pi σ H s->t σ H Q->wpAny (model X.prog X.w) X.A (isTrue e X.env whole) (TP X pi σ Q) X.xe s
theorem PW.pt{X:Cx}{e:Expr}{t:TT}(h:PW X e t):PT X e t:=h _
def PA(X:Cx)(es:List Expr)(t:TA):Prop:=
 ∀(pos:Pos) (pi:List (Addr×Obj)) (s:Shared) (σ:St) (H:Hp) (Q:List V->Hp->Prop),Inv X pi σ H s->t σ H Q->wpAny (model X.prog X.w) X.A (spliced (backTo pos (starEach es X.env))) (AP X pi σ Q) X.xe s
def PS(X:Cx)(st:Stmt)(t:TS):Prop:=
 ∀(pi:List (Addr×Obj)) (s:Shared) (σ:St) (H:Hp) (D:Ends),Inv X pi σ H s->t D σ H->wpAny (model X.prog X.w) X.A (exec st X.env) (SP X pi D) X.xe s
def PSs(X:Cx)(st:List Stmt)(t:TS):Prop:=
 ∀(pi:List (Addr×Obj)) (s:Shared) (σ:St) (H:Hp) (D:Ends),Inv X pi σ H s->t D σ H->wpAny (model X.prog X.w) X.A (execs st X.env) (SP X pi D) X.xe s
theorem EG{α:Type}{t:Sem α}{Q Q':α->Shared->Prop}{M:Model}{A:Around}{E:Value->Shared->Prop}{s:Shared}(h:wpAny M A t Q E s)(hQ:∀a s,Q a s->Q' a s):wpAny M A t Q' E s:=QB h hQ fun _ _ x=>x
section
variable{X:Cx}
theorem bin{a b:Expr}{ta tb:TE}(ha:PE X a ta)(hb:PE X b tb){pi:List (Addr×Obj)}{s:Shared}{σ:St}{H:Hp}{R:V->V->Hp->Prop}(I:Inv X pi σ H s)(h:ta σ H fun x H1=>tb σ H1 fun y H2=>R x y H2)
  {α:Type}{Q:α->Shared->Prop}{f:Value->Value->Sem α}
  (hf:∀v u s2 x y H2,Inv X pi σ H2 s2->RelV x v->RelV y u->R x y H2->wpAny (model X.prog X.w) X.A (f v u) Q X.xe s2):
  wpAny (model X.prog X.w) X.A (eval a X.env) (fun v s₁=>wpAny (model X.prog X.w) X.A (eval b X.env) (fun u s₂=>wpAny (model X.prog X.w) X.A (f v u) Q X.xe s₂) X.xe s₁) X.xe s:=by
 refine EG (ha pi s σ H _ I h) fun v s1 EM=>?_
 obtain⟨x,H1,I1,r1,q1⟩:=EM;refine EG (hb pi s1 σ H1 _ I1 q1) fun u s2 EM=>?_
 obtain⟨y,H2,I2,r2,q2⟩:=EM;exact hf v u s2 x y H2 I2 r1 r2 q2
def tY(i:Nat):TE:=fun σ H Q=>∃v,σ[i]?=some (some v)/\Q v H
def tC(v:V):TE:=fun _ H Q=>Q v H
theorem yZ{i:Nat}{x:Str}{pos:Pos}(hN:X.N[i]?=some x)(hv:NK X.env.scope x)(hd:(x==("__debug__" : Str))=false:=by decide)(HJ:(x==("__classdict__" : Str))=false:=by decide):PE X (.Name x pos) (tY i):=by
 intro pi s σ H Q I h;obtain⟨v,e,h⟩:=h;obtain⟨m,hn,hl⟩:=I.loc;obtain⟨u,r,l⟩:=hl i x v hN e hv;have fin:EP X pi σ Q u s:=⟨v,H,I,r,h⟩
 rcases l with⟨hk,hm⟩|⟨hk,c,hc,E4⟩
 ·exact wpAny_Name (wpAny_loadName_local I.ok.kind hk hn hm fin) hd
 ·rcases hk with hk|hk
  ·exact wpAny_Name (wpAny_loadName_cell I.ok.kind hk hc E4 fin) hd
  ·exact wpAny_Name (wpAny_loadName_free I.ok.kind hk hc E4 fin HJ) hd
theorem y0{i j pos}:PE X (.Constant (.int i) j pos) (tC (.int i)):=fun _ _ _ H _ I h=>wpAny_Constant_int ⟨.int i,H,I.tok _,⟨_,rfl⟩,h⟩
theorem BQ{b j pos}:PE X (.Constant (.bool b) j pos) (tC (.bl b)):=fun _ _ _ H _ I h=>Constant_bool ⟨.bl b,H,I,rfl,h⟩
theorem y1{j pos}:PE X (.Constant .none j pos) (tC .non):=fun _ _ _ H _ I h=>Constant_none ⟨.non,H,I,rfl,h⟩
theorem y3{x j pos}:PE X (.Constant (.str x) j pos) (tC (.str x)):=fun _ _ _ H _ I h=>Calls.Constant_str ⟨.str x,H,I.tok _,⟨_,rfl⟩,h⟩
def Gl(X:Cx)(x:Str):Prop:=X.env.kindOf x=some .globalImplicit
theorem ig{E:Value->Shared->Prop}{pi:List (Addr×Obj)}{s:Shared}{σ:St}{H:Hp}{x:Str}{u:Value}{pos:Pos}{Q:Value->Shared->Prop}(I:Inv X pi σ H s)(hg:Gl X x)(hm:X.mg x=some u)(h:Q u s)
  (hd:(x==("__debug__" : Str))=false:=by decide):wpAny (model X.prog X.w) X.A (eval (.Name x pos) X.env) Q E s:=
 SU I.ok.kind hg (Calls.loadGlobal_global (by rw[I.ok.glob];exact I.mod.glob.keeps I.bk) hm h) hd
theorem ij{E:Value->Shared->Prop}{pi:List (Addr×Obj)}{s:Shared}{σ:St}{H:Hp}{x:Str}{u:Value}{pos:Pos}{Q:Value->Shared->Prop}(I:Inv X pi σ H s)(hg:Gl X x)(hm:X.mg x=none)(hv:bootBuiltins x=some u)(h:Q u s)
  (hn:x≠"__name__":=by decide) (hd:(x==("__debug__" : Str))=false:=by decide):wpAny (model X.prog X.w) X.A (eval (.Name x pos) X.env) Q E s:=by
 obtain⟨mb,h1,h2⟩:=I.mod.blt;exact SU I.ok.kind hg (Calls.loadGlobal_builtin (by rw[I.ok.glob];exact I.mod.glob.keeps I.bk) hm (by rw[I.ok.blt];exact h1.keeps I.bk) ((h2 x hn).trans hv) h) hd
theorem wJ{x:Str}{v:V}{u:Value}{pos:Pos}(hg:Gl X x)(hm:X.mg x=some u)(r:RelV v u)(hd:(x==("__debug__" : Str))=false:=by decide):PE X (.Name x pos) (tC v):=
 fun _ _ _ H _ I h=>ig I hg hm ⟨v,H,I,r,h⟩ hd
theorem wK{x:Str}{v:V}{u:Value}{pos:Pos}(hg:Gl X x)(hm:X.mg x=none)(hv:bootBuiltins x=some u)(r:RelV v u)(hn:x≠"__name__":=by decide)(hd:(x==("__debug__" : Str))=false:=by decide):PE X (.Name x pos) (tC v):=
 fun _ _ _ H _ I h=>ij I hg hm hv ⟨v,H,I,r,h⟩ hn hd
variable{a b:Expr}{ta tb:TE}{pos:Pos}
def PC(X:Cx)(op:CmpOp)(a b:Expr)(t:TE):Prop:=
 ∀(pi:List (Addr×Obj)) (s:Shared) (σ:St) (H:Hp) (Q:VK),Inv X pi σ H s->t σ H Q->
  wpAny (model X.prog X.w) X.A (eval a X.env) (fun v s₁=>wpAny (model X.prog X.w) X.A (eval b X.env) (fun u s₂=>wpAny (model X.prog X.w) X.A (compareOp op v u) (EP X pi σ Q) X.xe s₂) X.xe s₁) X.xe s
theorem tZ(b:Expr){op:CmpOp}(h:op≠.In)(h2:op≠.NotIn):behindInMarks op b=false:=by
 have e1:(op==CmpOp.In)=false:=by cases op <;> first|rfl|exact absurd rfl h
 have e2:(op==CmpOp.NotIn)=false:=by cases op <;> first|rfl|exact absurd rfl h2
 cases b <;> simp[behindInMarks,e1,e2]
def tB(t:TE):TT:=fun σ H Q=>t σ H fun x H1=>∃c,x=.bl c/\Q c H1
theorem Dh{op:CmpOp}{t:TE}(h:PC X op a b t)(h1:behindInMarks op b=false:=by first|exact tZ _ (by decide) (by decide)|rfl):PT X (.Compare a [op] [b] pos) (tB t):=by
 intro pi s σ H Q I hw;refine wpAny_isTrue_Compare1 (EG (h pi s σ H _ I hw) fun v s1 h1=>EG h1 fun u s2 h2=>EG h2 fun c s3 ⟨x,H1,I1,r1,q1⟩=>?_) h1;obtain⟨d,rfl,q⟩:=q1;cases r1;exact QR ⟨H1,I1,q⟩
theorem y4{e:Expr}{t:TE}(h:PE X e t)(he:∀whole,isTrue e X.env whole=(do let v <-whole;standAt e.pos;holding [v] (truthy v)):=by intro _;rfl):PT X e (tB t):=by
 intro pi s σ H Q I hw;refine isTrue_plain (EG (h pi s σ H _ I hw) fun v s1 ⟨x,H1,I1,r1,q1⟩=>?_) (he _);obtain⟨d,rfl,q⟩:=q1;cases r1;exact QR ⟨H1,I1,q⟩
variable{tA Nj:TT}{bT:List Expr}
def Dw(t u:TT):TT:=fun σ H Q=>t σ H fun c H1=>if c=true then u σ H1 Q else Q false H1
def tOr(t u:TT):TT:=fun σ H Q=>t σ H fun c H1=>if c=true then Q true H1 else u σ H1 Q
def Dx(t:TT):TT:=fun σ H Q=>t σ H fun c H1=>Q (!c) H1
theorem wL(ha:PT X a tA):PW X (.BoolOp .And [a] pos) tA:=by
 intro wh pi s σ H Q I h;refine isTrue_and (EG (ha pi s σ H Q I h) fun c s1 e=>?_);cases c with
 |true=>exact isTrue_and_nil e
 |false=>exact e
theorem y6(ha:PT X a tA):PW X (.BoolOp .Or [a] pos) tA:=by
 intro wh pi s σ H Q I h;refine isTrue_or (EG (ha pi s σ H Q I h) fun c s1 e=>?_);cases c with
 |false=>exact isTrue_or_nil e
 |true=>exact e
theorem y7(ha:PT X a tA)(hb:PW X (.BoolOp .And (b::bT) pos) Nj):PW X (.BoolOp .And (a::b::bT) pos) (Dw tA Nj):=by
 intro wh pi s σ H Q I h;refine isTrue_and (EG (ha pi s σ H _ I h) fun c s1 EM=>?_);obtain⟨H1,I1,q1⟩:=EM;cases c with
 |true=>exact hb wh pi s1 σ H1 Q I1 q1
 |false=>exact⟨H1,I1,q1⟩
theorem BR(ha:PT X a tA)(hb:PW X (.BoolOp .Or (b::bT) pos) Nj):PW X (.BoolOp .Or (a::b::bT) pos) (tOr tA Nj):=by
 intro wh pi s σ H Q I h;refine isTrue_or (EG (ha pi s σ H _ I h) fun c s1 EM=>?_);obtain⟨H1,I1,q1⟩:=EM;cases c with
 |true=>exact⟨H1,I1,q1⟩
 |false=>exact hb wh pi s1 σ H1 Q I1 q1
theorem y8(ha:PT X a tA):PT X (.UnaryOp .Not a pos) (Dx tA):=by
 intro pi s σ H Q I h;exact isTrue_not (ha pi s σ H (fun c H1=>Q (!c) H1) I h)
def BS(ta tb:TE):TE:=fun σ H Q=>ta σ H fun x H1=>∃c,x=.bl c/\if c=true then tb σ H1 Q else Q (.bl false) H1
def BU(ta:TE):TE:=fun σ H Q=>ta σ H fun x H1=>∃c,x=.bl c/\Q (.bl (!c)) H1
theorem y9{op}{t:TE}(h:PE X a t):PE X (.BoolOp op [a] pos) t:=fun pi s σ H Q I hw=>BoolOp_one (h pi s σ H Q I hw)
theorem za(ha:PE X a ta)(hb:PE X (.BoolOp .And (b::bT) pos) tb):PE X (.BoolOp .And (a::b::bT) pos) (BS ta tb):=by
 intro pi s σ H Q I h;refine BoolOp_and (EG (ha pi s σ H _ I h) fun v s1 EM=>?_);obtain⟨x,H1,I1,r1,q1⟩:=EM;obtain⟨c,rfl,q1⟩:=q1;cases r1;refine QR ?_;cases c with
 |true=>exact hb pi s1 σ H1 Q I1 q1
 |false=>exact⟨.bl false,H1,I1,rfl,q1⟩
theorem zb(ha:PE X a ta):PE X (.UnaryOp .Not a pos) (BU ta):=by
 intro pi s σ H Q I h;refine UnaryOp_ (EG (ha pi s σ H _ I h) fun v s1 EM=>?_);obtain⟨x,H1,I1,r1,q1⟩:=EM;obtain⟨c,rfl,q1⟩:=q1;cases r1;exact not_of (QR ⟨.bl (!c),H1,I1,rfl,q1⟩)
end
def SqL(K:W.Frag)(H:Hp)(a:Addr)(xs:List V):Prop:=
 Rd H a (.lst xs)\/
  ∃(o:Obj) (Er:Array Value) (n:Nat),K.lookup a=some o/\o.cls=.type "list"/\o.dict=none/\o.data=.seq Er n/\Er.size<=sizeLine/\Vals xs Er.toList
def SqT(K:W.Frag)(H:Hp)(a:Addr)(xs:List V):Prop:=
 Rd H a (.tup xs)\/
  ∃(o:Obj) (Er:Array Value) (n:Nat),K.lookup a=some o/\o.cls=.type "tuple"/\o.dict=none/\o.data=.seq Er n/\Er.size<=sizeLine/\Vals xs Er.toList
def Dy:Value->Option V
 | .none=>some .non
 | .bool b=>some (.bl b)
 | .int i _=>some (.int i)
 | .str x _=>some (.str x)
 | .bytes b _=>some (.byt b)
 | .float b _=>some (.flt b)
 | .ref a=>some (.ref a)
 | .type n=>some (.ty n)
 |_=>none
theorem RelV.abs{x:V}{u:Value}(r:RelV x u):Dy u=some x:=by
 cases x with
 |non=>cases r;rfl
 |bl _=>cases r;rfl
 |int _=>obtain⟨t,rfl⟩:=r;rfl
 |str _=>obtain⟨t,rfl⟩:=r;rfl
 |byt _=>obtain⟨t,rfl⟩:=r;rfl
 |flt _=>obtain⟨t,rfl⟩:=r;rfl
 |ref _=>cases r;rfl
 |ty _=>cases r;rfl
theorem RelV.inj{x y:V}{u:Value}(r:RelV x u)(q:RelV y u):x=y:=PZ (r.abs.symm.trans q.abs)
theorem Vals.inj:∀{xs ys:List V}{us:List Value},Vals xs us->Vals ys us->xs=ys
 |_,_,_,.nil,.nil=>rfl
 |_,_,_,.cons r t,.cons r' t'=>by rw[r.inj r',Vals.inj t t']
section
variable{X:Cx}{pi:List (Addr×Obj)}{σ:St}{H:Hp}{s:Shared}{a:Addr}{xs ys:List V}
theorem SqL.of{K:W.Frag}(h:H a=some (.lst xs)):SqL K H a xs:=.inl (.inl h)
theorem SqT.of{K:W.Frag}(h:H a=some (.tup xs)):SqT K H a xs:=.inl (.inl h)
theorem Inv.list(I:Inv X pi σ H s)(h:SqL X.K H a xs):∃Er:List Value,Vals xs Er/\PlainL s.heap a Er.toArray/\xs.length<=sizeLine:=by
 rcases h with h|⟨o,Er,n,hk,hc,hd,hs,hz,r⟩
 ·obtain⟨z,Er,n,r,e⟩:=h.ok I.hok;exact⟨Er,r,⟨_,n,e,rfl,rfl,rfl⟩,z⟩
 ·refine⟨Er.toList,r,⟨o,n,I.kIn a o hk,hc,hd,by simpa using hs⟩,?_⟩;have e:=r.length;simp only[Pw]at e;lia
theorem Inv.tupleN(I:Inv X pi σ H s)(h:SqT X.K H a xs):∃Er:List Value,Vals xs Er/\IsTupN s.heap a Er.toArray/\xs.length<=sizeLine:=by
 rcases h with h|⟨o,Er,n,hk,hc,hdn,hs,hz,r⟩
 ·obtain⟨z,Er,r,p⟩:=h.ok I.hok;exact⟨Er,r,p,z⟩
 ·refine⟨Er.toList,r,⟨o,I.kIn a o hk,hc,⟨n,by simpa using hs⟩,hdn⟩,?_⟩;have e:=r.length;simp only[Pw]at e;lia
theorem Inv.tuple(I:Inv X pi σ H s)(h:SqT X.K H a xs):∃Er:List Value,Vals xs Er/\IsTup s.heap a Er.toArray/\xs.length<=sizeLine:=by
 obtain⟨Er,r,p,z⟩:=I.tupleN h;exact⟨Er,r,p.tup,z⟩
theorem Inv.list_inj(I:Inv X pi σ H s)(h:SqL X.K H a xs)(h':SqL X.K H a ys):xs=ys:=by
 obtain⟨Er,r,⟨o,n,e,_,_,d⟩,_⟩:=I.list h;obtain⟨its',r',⟨o',n',e',_,_,d'⟩,_⟩:=I.list h';rw[e]at e';cases e';rw[d]at d';injection d' with d1 _;have:Er=its':=by simpa using Qt Array.toList d1
 subst this;exact r.inj r'
theorem Inv.tuple_inj(I:Inv X pi σ H s)(h:SqT X.K H a xs)(h':SqT X.K H a ys):xs=ys:=by
 obtain⟨Er,r,⟨o,e,_,n,d⟩,_⟩:=I.tuple h;obtain⟨its',r',⟨o',e',_,n',d'⟩,_⟩:=I.tuple h';rw[e]at e';cases e';rw[d]at d';injection d' with d1 _;have:Er=its':=by simpa using Qt Array.toList d1
 subst this;exact r.inj r'
end
abbrev Cx.wish(X:Cx)(E:Value->Shared->Prop):Cx:={X with xe:=E}
abbrev Cx.nox(X:Cx):Cx:=X.wish fun _ _=>False
theorem Cx.Ok.wish{X:Cx}(ok:X.Ok)(E:Value->Shared->Prop):(X.wish E).Ok:=
 ⟨ok.mod,ok.kind,ok.glob,ok.blt,ok.above,ok.inj,ok.has,ok.cab,ok.hd,ok.frames,ok.stk,ok.exf,ok.bs,ok.bsz,ok.noex,ok.exfs,ok.funs,ok.frf⟩
theorem Cx.Ok.unwish{X:Cx}{E:Value->Shared->Prop}(ok:(X.wish E).Ok):X.Ok:=
 ⟨ok.mod,ok.kind,ok.glob,ok.blt,ok.above,ok.inj,ok.has,ok.cab,ok.hd,ok.frames,ok.stk,ok.exf,ok.bs,ok.bsz,ok.noex,ok.exfs,ok.funs,ok.frf⟩
section
variable{X:Cx}{pi:List (Addr×Obj)}{σ:St}{H:Hp}{s:Shared}{E:Value->Shared->Prop}
theorem Inv.wish(I:Inv X pi σ H s)(E:Value->Shared->Prop):Inv (X.wish E) pi σ H s:=⟨I.ok.wish E,I.os,I.bare,I.base,I.loc,I.cell,I.free,I.freeC,I.pin,I.hok,I.len⟩
theorem Inv.unwish(I:Inv (X.wish E) pi σ H s):Inv X pi σ H s:=⟨I.ok.unwish,I.os,I.bare,I.base,I.loc,I.cell,I.free,I.freeC,I.pin,I.hok,I.len⟩
theorem SP.unwish{D:Ends}{f:Flow}{s':Shared}(h:SP (X.wish E) pi D f s'):SP X pi D f s':=by
 cases f with
 |next=>obtain⟨σ',H',I,q⟩:=h;exact⟨σ',H',I.unwish,q⟩
 |brk=>obtain⟨σ',H',I,q⟩:=h;exact⟨σ',H',I.unwish,q⟩
 |cont=>obtain⟨σ',H',I,q⟩:=h;exact⟨σ',H',I.unwish,q⟩
 |ret u=>obtain⟨v,σ',H',I,r,q⟩:=h;exact⟨v,σ',H',I.unwish,r,q⟩
theorem PT.nox{e:Expr}{t:TT}(h:PT X.nox e t):PT X e t:=fun pi s σ H Q I hw=>
 QB (h pi s σ H Q (I.wish _) hw) (fun _ _ ⟨H',I',q⟩=>⟨H',I'.unwish,q⟩) fun _ _ z=>False.elim z
theorem PSs.nox{st:List Stmt}{t:TS}(h:PSs X.nox st t):PSs X st t:=fun pi s σ H D I hw=>
 QB (h pi s σ H D (I.wish _) hw) (fun _ _ q=>q.unwish) fun _ _ z=>False.elim z
end
section
variable{X:Cx}{st:Stmt}{bT:List Stmt}{t u:TS}{e:Expr}{te:TE}{pos:Pos}
def BV:TS:=fun D σ H=>D.nx σ H
def Dz(t u:TS):TS:=fun D σ H=>t {D with nx:=u D} σ H
theorem wM:PSs X [] BV:=fun _ _ σ H _ I h=>Sb ⟨σ,H,I,h⟩
theorem t8(h1:PS X st t)(h2:PSs X bT u):PSs X (st::bT) (Dz t u):=by
 intro pi s σ H D I h;refine RE (EG (h1 pi s σ H {D with nx:=u D} I h) fun f s1 q=>?_);cases f with
 |next=>
  obtain⟨σ',H',I',q⟩:=q;exact h2 pi s1 σ' H' D I' q
 |ret v=>exact q
 |brk=>exact q
 |cont=>exact q
theorem wN(h1:PS X st t):PSs X [st] t:=by
 intro pi s σ H D I h;refine RE (EG (h1 pi s σ H D I h) fun f s1 q=>?_);cases f with
 |next=>exact Sb q
 |ret v=>exact q
 |brk=>exact q
 |cont=>exact q
theorem Inv.quiet{pi:List (Addr×Obj)}{σ:St}{H:Hp}{s:Shared}(I:Inv X pi σ H s):interactive X.env=false:=by simp[interactive,I.ok.kind]
def BW(te:TE):TS:=fun D σ H=>te σ H fun _ H1=>D.nx σ H1
theorem wO(he:PE X e te)(hs:swapsWith e none pos.line X.env=pure false:=by rfl):PS X (.Expr e pos) (BW te):=by
 intro pi s σ H D I h;exact wpAny_Expr_any (EG (he pi s σ H _ I h) fun v s1 ⟨x,H1,I1,r1,q1⟩=>⟨σ,H1,I1,q1⟩) I.quiet hs
def DA(te:TE):TS:=fun D σ H=>te σ H D.rt
theorem ze(he:PE X e te):PS X (.Return (some e) pos) (DA te):=by
 intro pi s σ H D I h;exact wpAny_Return_some (EG (he pi s σ H _ I h) fun v s1 ⟨x,H1,I1,r1,q1⟩=>⟨x,σ,H1,I1,r1,q1⟩)
def DB(c:TT)(t u:TS):TS:=fun D σ H=>c σ H fun b H1=>if b=true then t D σ H1 else u D σ H1
theorem BX{c:Expr}{a b:List Stmt}{tc:TT}(hc:PT X c tc)(ha:PSs X a t)(hb:PSs X b u):PS X (.If c a b pos) (DB tc t u):=by
 intro pi s σ H D I h;refine wpAny_If (EG (hc pi s σ H _ I h) fun d s1 EM=>?_);obtain⟨H1,I1,q1⟩:=EM;cases d with
 |true=>exact ha pi s1 σ H1 D I1 q1
 |false=>exact hb pi s1 σ H1 D I1 q1
def zf:TS:=fun _ _ _=>False
theorem ua:PS X st zf:=fun _ _ _ _ _ _ h=>h.elim
end
abbrev TG:=V->St->Hp->(St->Hp->Prop)->Prop
abbrev Ku:=List V->St->Hp->(St->Hp->Prop)->Prop
def PG(X:Cx)(target:Expr)(t:TG):Prop:=
 ∀(pi:List (Addr×Obj)) (s:Shared) (σ:St) (H:Hp) (v:V) (u:Value) (Q:St->Hp->Prop),Inv X pi σ H s->RelV v u->t v σ H Q->
  wpAny (model X.prog X.w) X.A (assign target X.env u) (fun _ s'=>∃σ' H',Inv X pi σ' H' s'/\Q σ' H') X.xe s
def KP(X:Cx)(ts:List Expr)(t:Ku):Prop:=
 ∀(pi:List (Addr×Obj)) (s:Shared) (σ:St) (H:Hp) (vs:List V) (us:List Value) (Q:St->Hp->Prop),Inv X pi σ H s->Vals vs us->t vs σ H Q->
  wpAny (model X.prog X.w) X.A (assignInOrder ((assignEach ts X.env).map (·.2)) us) (fun _ s'=>∃σ' H',Inv X pi σ' H' s'/\Q σ' H') X.xe s
abbrev DD:=V->V->V->Hp->(Hp->Prop)->Prop
def DE(X:Cx)(t:DD):Prop:=
 ∀(pi:List (Addr×Obj)) (s:Shared) (σ:St) (H:Hp) (o i v:V) (ov iv u:Value) (Q:Hp->Prop),Inv X pi σ H s->RelV o ov->RelV i iv->RelV v u->t o i v H Q->
  wpAny (model X.prog X.w) X.A (setItem ov iv u) (fun _ s'=>∃H',Inv X pi σ H' s'/\Q H') X.xe s
section
variable{X:Cx}{pos:Pos}
def zg(i:Nat):TG:=fun v σ H Q=>Q (σ.set i (some v)) H
theorem wQ{i:Nat}{x:Str}(hN:X.N.Nodup)(hi:X.N[i]?=some x)(hx:Loc X.env.scope x)(hf:X.fn x=true\/X.env.scope.names.lookup x=some .local:=by first|exact .inl rfl|exact .inr rfl|assumption):PG X (.Name x pos) (zg i):=by
 intro pi s σ H v u Q I r h;exact wpAny_assign_Name (nH I hN hi hx r (fun s' I'=>⟨_,H,I',h⟩) hf)
def DF:Ku:=fun vs σ H Q=>vs=[]/\Q σ H
def BY(t:TG)(u:Ku):Ku:=fun vs σ H Q=>∃v r,vs=v::r/\t v σ H fun σ' H'=>u r σ' H' Q
theorem wR:KP X [] DF:=by
 intro pi s σ H vs us Q I r h;obtain⟨e,h⟩:=h;subst e;cases r;exact assignInOrder_nil ⟨σ,H,I,h⟩
theorem ub{e:Expr}{es:List Expr}{t:TG}{u:Ku}(h1:PG X e t)(h2:KP X es u)
  (hs:(assignEach (e::es) X.env).map (·.2)=assign e X.env::(assignEach es X.env).map (·.2):=by rfl):KP X (e::es) (BY t u):=by
 intro pi s σ H vs us Q I r h;obtain⟨v,vr,e1,h⟩:=h;subst e1;cases r with
 |cons r rr=>
  rw[hs];refine assignInOrder_cons (EG (h1 pi s σ H _ _ _ I r h) fun _ s1 EM=>?_);obtain⟨σ1,H1,I1,q1⟩:=EM;exact h2 pi s1 σ1 H1 _ _ Q I1 rr q1
def DG(K:W.Frag)(n:Nat)(t:Ku):TG:=fun v σ H Q=>∃a xs,v=.ref a/\SqT K H a xs/\xs.length=n/\t xs σ H Q
theorem zh{es:List Expr}{k:Nat}{t:Ku}{n:Nat}(hc:X.calm=true)(h:KP X es t)
  (hn:(assignEach es X.env).length=n:=by rfl) (Jr:(assignEach es X.env).findIdx? (·.1)=none:=by rfl):PG X (.Tuple es k pos) (DG X.K n t):=by
 intro pi s σ H v u Q I r hw;obtain⟨a,xs,e1,hq,hl,hw⟩:=hw;subst e1;cases r;obtain⟨Er,rv,ht,hz⟩:=I.tuple hq;refine assign_Tuple_tuple (I.ok.hd hc) ht (by simp[hn,<-hl,rv.length]) Jr fun h' hx=>?_
 have I1:Inv X pi σ H {s with heap:=h'}:=I.kept (t':=s.toks) fun b o e=>hx b o (P1 (PH e)) e
 exact h pi _ σ H xs _ Q I1 (by simpa using rv) hw
def Di(te:TE)(g:TG):TS:=fun D σ H=>te σ H fun x H1=>g x σ H1 D.nx
theorem zi{tg e:Expr}{te:TE}{g:TG}(he:PE X e te)(hg:PG X tg g)(hs:swapsWithSole [tg] e pos.line X.env=pure false:=by rfl)(hw:swappedStores [tg] e X.env=pure none:=by rfl)
  (h1:(assignEach [tg] X.env).map (·.2)=[assign tg X.env]:=by rfl):PS X (.Assign [tg] e pos) (Di te g):=by
 intro pi s σ H D I h;refine wpAny_Assign_stores (EG (he pi s σ H _ I h) fun v s1 ⟨x,H1,I1,r1,q1⟩=>?_) hs hw;rw[h1];exact EG (hg pi s1 σ H1 x v _ I1 r1 q1) fun _ s2 q=>q
theorem zj{i:Nat}{x:Str}{e:Expr}{te:TE}{pos':Pos}(hN:X.N.Nodup)(hi:X.N[i]?=some x)(hx:Loc X.env.scope x)(he:PE X e te)(hs:swapsWith e (some (.Name x pos')) pos.line X.env=pure false:=by rfl)(hf:X.fn x=true\/X.env.scope.names.lookup x=some .local:=by first|exact .inl rfl|exact .inr rfl|assumption):
  PS X (.Assign [.Name x pos'] e pos) (Di te (zg i)):=by
 intro pi s σ H D I h;refine wpAny_Assign_Name (EG (he pi s σ H _ I h) fun v s1 ⟨y,H1,I1,r1,q1⟩=>?_) hs;exact nH I1 hN hi hx r1 (fun s2 I2=>⟨_,H1,I2,q1⟩) hf
end
section
variable{X:Cx}{pos:Pos}
def zk(c:TT)(tb:TS):TS:=fun D σ H=>∃W:Nat->St->Hp->Prop,(∃m,W m σ H)/\∀m σ H,W m σ H->
 c σ H fun b H1=>if b=true then ∃N:St->Hp->Prop,(∀σ' H',N σ' H'->∃m',m'<m/\W m' σ' H')/\tb {D with nx:=N,ct:=N,bk:=D.nx} σ H1 else D.nx σ H1
theorem uc{c:Expr}{body:List Stmt}{tc:TT}{tb:TS}(hp:PassesOwn (model X.prog X.w) X.A X.env X.xe)(hc:PT X c tc)(hb:PSs X body tb):PS X (.While c body [] pos) (zk tc tb):=by
 intro pi s σ H D I h;obtain⟨W,⟨m0,w0⟩,turn⟩:=h;refine wpAny_While (codeAny_whileLoop (fun n s'=>∃σ' H',Inv X pi σ' H' s'/\W n σ' H') ?_ m0 ⟨σ,H,I,w0⟩);rintro n s1 ⟨σ1,H1,I1,w1⟩;refine Ru hp (EG (hc pi s1 σ1 H1 _ I1 (turn n σ1 H1 w1)) fun b s2 EM=>?_);obtain⟨H2,I2,q2⟩:=EM;cases b with
 |true=>
  obtain⟨N,hN,q2⟩:=q2;rw[PF rfl];refine Ru hp (EG (hb pi s2 σ1 H2 _ I2 q2) fun f s3 q3=>?_);cases f with
  |next=>
   obtain⟨σ3,H3,I3,n3⟩:=q3;obtain⟨m',hm,w3⟩:=hN σ3 H3 n3;exact⟨m',hm,σ3,H3,I3,w3⟩
  |cont=>
   obtain⟨σ3,H3,I3,n3⟩:=q3;obtain⟨m',hm,w3⟩:=hN σ3 H3 n3;exact⟨m',hm,σ3,H3,I3,w3⟩
  |brk=>exact q3
  |ret v=>exact q3
 |false=>
  rw[PM Pt];exact Sb ⟨σ1,H2,I2,q2⟩
end
structure It where
 go:Nat->Hp->Prop
 yld:Nat->Hp->V->Hp->Prop
 stop:Nat->Hp->Prop
def p7(X:Cx)(pi:List (Addr×Obj))(H:Hp)(b:Addr):Prop:=
 H b=none/\b≠X.env.locals/\b∉X.fs/\(b∈X.ex\/X.s₀.heap.objs.size<=b)/\(∀x c,X.env.cells.lookup x=some c->c≠b)/\∀p∈X.pn++pi,p.1≠b
theorem Inv.fpOk{X:Cx}{pi:List (Addr×Obj)}{σ:St}{H H':Hp}{s:Shared}{b:Addr}(I:Inv X pi σ H s)(hb:s.heap.objs.size<=b)(hn:H' b=none):p7 X pi H' b:=by
 refine⟨hn,UU (PK I.lt hb),I.nofs hb,.inr (Qc I.sz hb),fun x c e z=>?_,fun p hp z=>?_⟩
 ·obtain⟨v,q⟩:=I.cell x c e;exact absurd (PK q.lt (by rw[z];exact hb)) (QZ _)
 ·exact absurd (PK (PH (I.pin p hp).1) (by rw[z];exact hb)) (QZ _)
structure Turn(P:Program)(w:World)(K:W.Frag)(tg:Expr)(J:It)(fp:List Addr)(it:Addr)(tn:Nat->Heap->Prop):Prop where
 mem:it∈fp
 obj:∀i h,tn i h->∀b∈fp,∃o,h.get? b=some o/\∀v,o.data≠.cell v
 keep:∀i h h',tn i h->(∀b∈fp,∀o,h.get? b=some o->h'.get? b=some o)->tn i h'
 item:∀(X:Cx),X.prog=P->X.w=w->X.K=K->X.calm=true->∀(i:Nat) (pi:List (Addr×Obj)) (s:Shared) (σ:St) (H:Hp) (E:Value->Shared->Prop),Inv X pi σ H s->(∀b∈fp,p7 X pi H b)->tn i s.heap->J.go i H->
  wpAny (model P w) X.A (pyNext (.ref it)) (fun r s1=>∃u,r=some u/\
   wpAny (model P w) X.A (letOwnedTupleGo tg (.ref it) u) (fun _ s2=>∃x H',Inv X pi σ H' s2/\RelV x u/\J.yld i H x H'/\tn (i+1) s2.heap/\∀b∈fp,H' b=none) E s1) E s
 done:∀(X:Cx),X.prog=P->X.w=w->X.K=K->X.calm=true->∀(i:Nat) (pi:List (Addr×Obj)) (s:Shared) (σ:St) (H:Hp) (E:Value->Shared->Prop),Inv X pi σ H s->(∀b∈fp,p7 X pi H b)->tn i s.heap->J.stop i H->
  wpAny (model P w) X.A (pyNext (.ref it)) (fun r s1=>r=none/\Inv X pi σ H s1) E s
 self:∀(A:Around) (i:Nat) (s:Shared) (Q:Value->Shared->Prop) (E:Value->Shared->Prop),tn i s.heap->Q (.ref it) s->wpAny (model P w) A (pyIter (.ref it)) Q E s
abbrev TI:=St->Hp->(It->Hp->Prop)->Prop
def OF(X:Cx)(pi:List (Addr×Obj))(σ:St)(tg:Expr)(R:It->Hp->Prop)(Nk:Value)(s2:Shared):Prop:=
 ∃(it:Addr) (fp:List Addr) (tn:Nat->Heap->Prop) (J:It) (H':Hp),Nk=.ref it/\Inv X pi σ H' s2/\Turn X.prog X.w X.K tg J fp it tn/\tn 0 s2.heap/\(∀b∈fp,p7 X pi H' b)/\R J H'
def PI(X:Cx)(tg iter:Expr)(wi:TI):Prop:=
 ∀(pi:List (Addr×Obj)) (s:Shared) (σ:St) (H:Hp) (R:It->Hp->Prop),Inv X pi σ H s->wi σ H R->
  wpAny (model X.prog X.w) X.A (eval iter X.env) (fun v s1=>wpAny (model X.prog X.w) X.A (pyIter v) (OF X pi σ tg R) X.xe s1) X.xe s
theorem ud {M : Model} {A : Around} {E : Value -> Shared -> Prop} {s : Shared} {tg : Expr} {it : Addr} {u : Value} {o : Obj} {n : String} {vs : Array Value} {Q : Unit -> Shared -> Prop} (ho : s.heap.get? it = some o) (hc : o.cls = .type n) (hd : o.data = .fields vs)
    (hn : ["enumerate", "zip", "dict_itemiterator", "dict_reverseitemiterator", "odict_iterator", "itertools.zip_longest", "itertools.pairwise"].contains n = false) (hQ : Q () s) : wpAny M A (letOwnedTupleGo tg (.ref it) u) Q E s := by
  unfold letOwnedTupleGo
  cases tg <;> first
    | exact Pp hQ
    | (cases u <;> first
        | exact Pp hQ
        | (refine Po (wpAny_load ho ?_)
           rw [hc, hd]
           show wpAny M A (if (["enumerate", "zip", "dict_itemiterator", "dict_reverseitemiterator", "odict_iterator", "itertools.zip_longest", "itertools.pairwise"].contains n && vs[0]? == some (rawInt _)) = true then _ else _) Q E s
           rw [PM (by intro h; rw [hn, SY] at h; cases h)]
           exact Pp hQ))
def LO(K:W.Frag)(a:Addr):It:=
 ⟨fun i H=>∃xs x,SqL K H a xs/\xs[i]?=some x,fun i H x H'=>H'=H/\∀xs,SqL K H a xs->xs[i]?=some x,fun i H=>∃xs,SqL K H a xs/\xs.length<=i⟩
def NM(K:W.Frag)(a:Addr):It:=
 ⟨fun i H=>∃xs x,SqT K H a xs/\xs[i]?=some x,fun i H x H'=>H'=H/\∀xs,SqT K H a xs->xs[i]?=some x,fun i H=>∃xs,SqT K H a xs/\xs.length<=i⟩
def Nl(lo:Int)(n:Nat):It:=⟨fun i _=>i<n,fun i H x H'=>H'=H/\x=.int (lo+i),fun i _=>n<=i⟩
theorem qe{P:Program}{w:World}{K:W.Frag}{tg:Expr}(a it:Addr):Turn P w K tg (LO K a) [it] it (fun i h=>h.IsListIter it a i) where
 mem:=by simp
 obj:=fun i h st b hb=>by
  have e:b=it:=by simpa using hb
  subst e;obtain⟨o,e,c,d⟩:=st;exact⟨o,e,fun v z=>by rw[d]at z;cases z⟩
 keep:=fun i h h' st k=>st.at fun o e=>k it (by simp) o e
 item:=by
  intro X hP hw hK hc i pi s σ H E I hf st hg;subst hP hw hK;obtain⟨xs,x,hq,hx⟩:=hg;obtain⟨Er,rv,p,hz⟩:=I.list hq;obtain⟨u,hu,ru⟩:=rv.get hx;obtain⟨f0,f1,f2,f3,f4,f5⟩:=hf it (by simp);refine wpAny_pyNext_list_item st p.isList (x:=u) (by simpa using hu) fun h' Hc sb=>?_
  have I1:Inv X pi σ H {s with heap:=h'}:=I.turned (t':=s.toks) (fun b o hb e=>(sb.2 b hb).trans e) f0 f1 f3 f4 f5;obtain⟨o,e,c,d⟩:=id Hc;exact⟨u,rfl,ud (s:={s with heap:=h'}) e c d (by decide) ⟨x,H,I1,ru,⟨rfl,fun ys hy=>by rw[I.list_inj hy hq];exact hx⟩,Hc,fun b hb=>(hf b hb).1⟩⟩
 done:=by
  intro X hP hw hK hc i pi s σ H E I hf st hg;subst hP hw hK;obtain⟨xs,hq,hx⟩:=hg;obtain⟨Er,rv,p,hz⟩:=I.list hq;obtain⟨f0,f1,f2,f3,f4,f5⟩:=hf it (by simp);have hl:=rv.length;exact wpAny_pyNext_list_end (I.ok.hd hc) st p.isList (by simp;lia) fun h' eb=>⟨rfl,I.turned (t':=s.toks) (fun b o hb e=>eb b o hb e) f0 f1 f3 f4 f5⟩
 self:=fun _ _ _ _ _ st h=>wpAny_pyIter_listiter st h
theorem o9{P:Program}{w:World}{K:W.Frag}{tg:Expr}(a it:Addr):Turn P w K tg (NM K a) [it] it (fun i h=>h.IsTupleIter it a i) where
 mem:=by simp
 obj:=fun i h st b hb=>by
  have e:b=it:=by simpa using hb
  subst e;obtain⟨o,e,c,d⟩:=st;exact⟨o,e,fun v z=>by rw[d]at z;cases z⟩
 keep:=fun i h h' st k=>st.at fun o e=>k it (by simp) o e
 item:=by
  intro X hP hw hK hc i pi s σ H E I hf st hg;subst hP hw hK;obtain⟨xs,x,hq,hx⟩:=hg;obtain⟨Er,rv,p,hz⟩:=I.tuple hq;obtain⟨u,hu,ru⟩:=rv.get hx;obtain⟨f0,f1,f2,f3,f4,f5⟩:=hf it (by simp);refine wpAny_pyNext_tuple_item st (show s.heap.IsTuple a Er.toArray from p) (x:=u) (by simpa using hu) fun h' Hc sb=>?_
  have I1:Inv X pi σ H {s with heap:=h'}:=I.turned (t':=s.toks) (fun b o hb e=>(sb.2 b hb).trans e) f0 f1 f3 f4 f5;obtain⟨o,e,c,d⟩:=id Hc;exact⟨u,rfl,ud (s:={s with heap:=h'}) e c d (by decide) ⟨x,H,I1,ru,⟨rfl,fun ys hy=>by rw[I.tuple_inj hy hq];exact hx⟩,Hc,fun b hb=>(hf b hb).1⟩⟩
 done:=by
  intro X hP hw hK hc i pi s σ H E I hf st hg;subst hP hw hK;obtain⟨xs,hq,hx⟩:=hg;obtain⟨Er,rv,p,hz⟩:=I.tuple hq;obtain⟨f0,f1,f2,f3,f4,f5⟩:=hf it (by simp);have hl:=rv.length;exact wpAny_pyNext_tuple_end (I.ok.hd hc) st (show s.heap.IsTuple a Er.toArray from p) (by simp;lia) fun h' eb=>⟨rfl,I.turned (t':=s.toks) (fun b o hb e=>eb b o hb e) f0 f1 f3 f4 f5⟩
 self:=fun _ _ _ _ _ st h=>wpAny_pyIter_tupleiter st h
theorem pb{P:Program}{w:World}{K:W.Frag}{tg:Expr}(it:Addr)(lo:Int)(n:Nat):Turn P w K tg (Nl lo n) [it] it (fun i h=>IsRangeIter h it (lo+(i:Nat)*1) ((n:Int)-(i:Nat)) 1) where
 mem:=by simp
 obj:=fun i h st b hb=>by
  have e:b=it:=by simpa using hb
  subst e;exact⟨_,st,fun v z=>by
   have z':Data.fields _=Data.cell v:=z;cases z'⟩
 keep:=fun i h h' st k=>k it (by simp) _ st
 item:=by
  intro X hP hw hK hc i pi s σ H E I hf st hg;subst hP hw hK;obtain⟨f0,f1,f2,f3,f4,f5⟩:=hf it (by simp);have W:=Walks.range (prog:=X.prog) (w:=X.w) (I.ok.hd hc) it lo 1 n;refine W.item i s _ _ hg st fun v h' tk hv Hc kk=>?_
  obtain⟨t,rfl⟩:=hv;have I1:Inv X pi σ H {s with heap:=h',toks:=tk}:=I.turned (fun b o hb e=>kk b o (by simpa using hb) e) f0 f1 f3 f4 f5;refine⟨_,rfl,ud (s:={s with heap:=h',toks:=tk}) (n:="range_iterator") Hc rfl rfl (by decide) ⟨.int (lo+i),H,I1,⟨t,?_⟩,⟨rfl,rfl⟩,Hc,fun b hb=>(hf b hb).1⟩⟩;rw[Ug]
 done:=by
  intro X hP hw hK hc i pi s σ H E I hf st hg;subst hP hw hK;obtain⟨f0,f1,f2,f3,f4,f5⟩:=hf it (by simp);exact wpAny_pyNext_range_end (I.ok.hd hc) st (by have:n<=i:=hg;lia) fun h' eb=>⟨rfl,I.turned (t':=s.toks) (fun b o hb e=>eb b o hb e) f0 f1 f3 f4 f5⟩
 self:=fun _ _ _ _ _ st h=>wpAny_pyIter_rangeiter st h
section
variable{X:Cx}{tg:Expr}
def BZ(K:W.Frag)(tl:TE):TI:=fun σ H R=>tl σ H fun x H1=>∃a,x=.ref a/\(∃xs,SqL K H1 a xs)/\R (LO K a) H1
def DH(K:W.Frag)(tl:TE):TI:=fun σ H R=>tl σ H fun x H1=>∃a,x=.ref a/\(∃xs,SqT K H1 a xs)/\R (NM K a) H1
theorem qf{l:Expr}{tl:TE}(hl:PE X l tl):PI X tg l (BZ X.K tl):=by
 intro pi s σ H R I h;refine EG (hl pi s σ H _ I h) fun v s1 EM=>?_
 obtain⟨x,H1,I1,r1,q1⟩:=EM;obtain⟨a,e,⟨xs,hq⟩,q⟩:=q1;subst e;cases r1;obtain⟨Er,rv,p,hz⟩:=I1.list hq;refine Ra p.isList ?_;refine⟨s1.heap.objs.size,[s1.heap.objs.size],_,_,H1,rfl,I1.kept (t':=s1.toks) fun b o e=>Heap.get?_push_of_some _ e,qe a _,⟨_,Heap.get?_push_size _ rfl,rfl,rfl⟩,fun b hb=>?_,q⟩;have e:b=s1.heap.objs.size:=by simpa using hb
 subst e;exact I1.fpOk (Py _) (I1.hok.fresh (Py _))
theorem zl{l:Expr}{tl:TE}(hl:PE X l tl):PI X tg l (DH X.K tl):=by
 intro pi s σ H R I h;refine EG (hl pi s σ H _ I h) fun v s1 EM=>?_
 obtain⟨x,H1,I1,r1,q1⟩:=EM;obtain⟨a,e,⟨xs,hq⟩,q⟩:=q1;subst e;cases r1;obtain⟨Er,rv,p,hz⟩:=I1.tuple hq;refine Rn (show s1.heap.IsTuple a Er.toArray from p) ?_;refine⟨s1.heap.objs.size,[s1.heap.objs.size],_,_,H1,rfl,I1.kept (t':=s1.toks) fun b o e=>Heap.get?_push_of_some _ e,o9 a _,⟨_,Heap.get?_push_size _ rfl,rfl,rfl⟩,fun b hb=>?_,q⟩;have e:b=s1.heap.objs.size:=by simpa using hb
 subst e;exact I1.fpOk (Py _) (I1.hok.fresh (Py _))
theorem ue{pi:List (Addr×Obj)}{σ:St}{H:Hp}{s:Shared}{R:It->Hp->Prop}{E:Value->Shared->Prop}{lo hi:Int}{t u v:Tok}{tk:Nat}(I:Inv X pi σ H s)(h1:-(2 ^ 62)<=lo)(h2:lo<2 ^ 62)(h3:-(2 ^ 62)<=hi)(h4:hi<2 ^ 62)
  (q:R (Nl lo (hi-lo).toNat) H):wpAny (model X.prog X.w) X.A (pyIter (.ref s.heap.objs.size)) (OF X pi σ tg R) E {s with heap:=s.heap.push {cls:=.type "range",data:=.fields #[.int lo t,.int hi u,.int 1 v]},toks:=tk}:=by
 refine wpAny_pyIter_range (IsRange.new ..) (small_one h1 h2 h3 h4) ?_;have I1:Inv X pi σ H {s with heap:=s.heap.push {cls:=.type "range",data:=.fields #[.int lo t,.int hi u,.int 1 v]},toks:=tk}:=I.kept fun b o e=>Heap.get?_push_of_some _ e
 refine⟨(s.heap.push {cls:=.type "range",data:=.fields #[.int lo t,.int hi u,.int 1 v]}).objs.size,[(s.heap.push {cls:=.type "range",data:=.fields #[.int lo t,.int hi u,.int 1 v]}).objs.size],_,_,H,rfl,
  I1.kept (t':=tk) fun b o e=>Heap.get?_push_of_some _ e,pb _ lo (hi-lo).toNat,?_,fun b hb=>?_,q⟩
 ·have e1:lo+((0:Nat):Int)*1=lo:=by simp
  have e2:(((hi-lo).toNat:Nat):Int)-((0:Nat):Int)=Builtin.Range.rangeSize lo hi 1:=by rw[rangeSize_one];split <;> lia
  show IsRangeIter _ _ (lo+((0:Nat):Int)*1) ((((hi-lo).toNat:Nat):Int)-((0:Nat):Int)) 1;rw[e1,e2];exact Heap.get?_push_size _ rfl
 ·have e:b=(s.heap.push {cls:=.type "range",data:=.fields #[.int lo t,.int hi u,.int 1 v]}).objs.size:=by simpa using hb
  subst e;exact I1.fpOk (Py _) (I1.hok.fresh (Py _))
def B0(ta:TA):TI:=fun σ H R=>ta σ H fun vs H1=>∃j:Int,vs=[.int j]/\-(2 ^ 62)<=j/\j<2 ^ 62/\R (Nl 0 j.toNat) H1
theorem qg{a:Expr}{ta:TA}{p pos:Pos}(hg:Gl X "range")(hm:X.mg "range" = none)(ha:PA X [a] ta)(hs:starEach [a] X.env=[(false,eval a X.env)]:=by rfl):PI X tg (.Call (.Name "range" p) [a] [] pos) (B0 ta):=by
 intro pi s σ H R I h;refine Call_ (ij I hg hm boot_range (Rc (EG (ha pos pi s σ H _ I h) fun us s1 ⟨vs,H1,I1,r1,q1⟩=>?_) hs rfl));obtain⟨j,e,q1,q2,q⟩:=q1;subst e;cases r1 with
 |cons r rr=>
  cases rr;obtain⟨t,rfl⟩:=r;exact call_range_1 (ue I1 (by lia) (by lia) q1 q2 (by simpa using q))
noncomputable def DI(wi:TI)(g:TG)(tb:TS):TS:=fun D σ H=>wi σ H fun J H1=>∃W:Nat->Nat->St->Hp->Prop,(∃m,W 0 m σ H1)/\∀i m σ H,W i m σ H->
 (J.stop i H/\D.nx σ H)\/(J.go i H/\∃N:St->Hp->Prop,(∀σ' H',N σ' H'->∃m',m'<m/\W (i+1) m' σ' H')/\∀x H',J.yld i H x H'->g x σ H' fun σ2 H2=>tb {D with nx:=N,ct:=N,bk:=D.nx} σ2 H2)
def kP(fp:List Addr)(h:Heap):List (Addr×Obj):=fp.filterMap fun b=>(h.get? b).map fun o=>(b,o)
theorem eB{fp:List Addr}{h:Heap}{b:Addr}{o:Obj}(hb:b∈fp)(e:h.get? b=some o):(b,o)∈kP fp h:=Sd.mpr ⟨b,hb,by rw[e];rfl⟩
theorem qh{fp:List Addr}{h:Heap}{p:Addr×Obj}(hp:p∈kP fp h):p.1∈fp/\h.get? p.1=some p.2:=by
 obtain⟨b,hb,e⟩:=Sd.mp hp;cases q:h.get? b with
 |none=>rw[q]at e;cases e
 |some o=>
  rw[q]at e;have e':(b,o)=p:=PZ e;subst e';exact⟨hb,q⟩
theorem Inv.pinned{pi:List (Addr×Obj)}{σ:St}{H:Hp}{s:Shared}{fp:List Addr}(I:Inv X pi σ H s)(hf:∀b∈fp,p7 X pi H b)(ho:∀b∈fp,∃o,s.heap.get? b=some o/\∀v,o.data≠.cell v):Inv X (pi++kP fp s.heap) σ H s:=
 I.pins_of fun p hp=>(Qd.mp hp).elim (fun z=>I.pin p (PB _ z)) fun z=>by
  obtain⟨hb,e⟩:=qh z;obtain⟨f0,f1,f2,_⟩:=hf p.1 hb;obtain⟨o,e',d⟩:=ho p.1 hb;rw[e]at e';cases e';exact⟨e,f0,f1,f2,d⟩
theorem Inv.unpinned{pi pl:List (Addr×Obj)}{σ:St}{H:Hp}{s:Shared}(I:Inv X (pi++pl) σ H s):Inv X pi σ H s:=I.pins_of fun p hp=>I.pin p (PB _ (P0 _ hp))
theorem zm{iter:Expr}{body:List Stmt}{wi:TI}{g:TG}{tb:TS}{pos:Pos}(hp:PassesOwn (model X.prog X.w) X.A X.env X.xe)(hc:X.calm=true)(hi:PI X tg iter wi)(hg:PG X tg g)(hb:PSs X body tb)
  (hs:∀x,foldedSetIterable iter X.env x=pure x:=by intro _;rfl):PS X (.For tg iter body [] pos) (DI wi g tb):=by
 intro pi s σ H D I h;refine wpAny_For (EG (hi pi s σ H _ I h) fun v s1 h1=>EG h1 fun Nk s2 h2=>?_) hs;obtain⟨it,fp,tn,J,H2,e,I2,T,Ez,f2,W,⟨m0,w0⟩,turn⟩:=h2;subst e;have HK:∀{H':Hp},(∀b∈fp,H' b=none)->∀b∈fp,p7 X pi H' b:=fun hn b hb=>⟨hn b hb,(f2 b hb).2⟩
 refine codeAny_forLoop_any (fun n s'=>∃i σ' H',Inv X pi σ' H' s'/\tn i s'.heap/\(∀b∈fp,H' b=none)/\W i n σ' H') ?_ m0 ⟨0,σ,H2,I2,Ez,fun b hb=>(f2 b hb).1,w0⟩;rintro n s3 ⟨i,σ3,H3,I3,E2,Ml,w3⟩;rcases turn i n σ3 H3 w3 with⟨stop,qn⟩|⟨go,N,hN,step⟩
 ·refine Ru hp (EG (T.done X rfl rfl rfl hc i pi s3 σ3 H3 X.xe I3 (HK Ml) E2 stop) fun r s4 EM=>?_);obtain⟨hr,I4⟩:=EM;subst hr;exact Sb ⟨σ3,H3,I4,qn⟩
 ·refine Ru hp (EG (T.item X rfl rfl rfl hc i pi s3 σ3 H3 X.xe I3 (HK Ml) E2 go) fun r s4 EM=>?_);obtain⟨u,hr,h4⟩:=EM;subst hr;refine Ru hp (EG h4 fun _ s5 EM=>?_);obtain⟨x,H5,I5,r5,y5,Gy,NO⟩:=EM;have NP:=I5.pinned (HK NO) (T.obj _ _ Gy);refine Ru hp (EG (hg _ s5 σ3 H5 x u _ NP r5 (step x H5 y5)) fun _ s6 EM=>?_);obtain⟨σ6,H6,I6,q6⟩:=EM;refine Ru hp (EG (hb _ s6 σ6 H6 _ I6 q6) fun f s7 q7=>?_);have again:∀{σ7:St}{H7:Hp},Inv X (pi++kP fp s5.heap) σ7 H7 s7->N σ7 H7->∃m,m<n/\∃i σ' H',Inv X pi σ' H' s7/\tn i s7.heap/\(∀b∈fp,H' b=none)/\W i m σ' H':=fun{σ7 H7} I7 n7=>by
   obtain⟨m',hm,w7⟩:=hN σ7 H7 n7;refine⟨m',hm,i+1,σ7,H7,I7.unpinned,T.keep _ _ _ Gy fun b hb o e=>(I7.pin (b,o) (PB _ (PB _ (eB hb e)))).1,fun b hb=>?_,w7⟩;obtain⟨o,e,d⟩:=T.obj _ _ Gy b hb;exact(I7.pin (b,o) (PB _ (PB _ (eB hb e)))).2.1
  cases f with
  |next=>obtain⟨σ7,H7,I7,n7⟩:=q7;exact again I7 n7
  |cont=>obtain⟨σ7,H7,I7,n7⟩:=q7;exact again I7 n7
  |brk=>obtain⟨σ7,H7,I7,q7⟩:=q7;exact⟨σ7,H7,I7.unpinned,q7⟩
  |ret v=>obtain⟨x7,σ7,H7,I7,r7,q7⟩:=q7;exact⟨x7,σ7,H7,I7.unpinned,r7,q7⟩
end
theorem for_list{K:W.Frag}{a:Addr}{xs:List V}{g:TG}{tb:TS}{D:Ends}{σ:St}{H:Hp}(Pv:Nat->St->Hp->Prop)(h0:Pv 0 σ H)(hl:∀i σ H,i<=xs.length->Pv i σ H->SqL K H a xs)
  (hs:∀i x σ H,xs[i]?=some x->Pv i σ H->g x σ H fun σ2 H2=>tb {D with nx:=Pv (i+1),ct:=Pv (i+1),bk:=D.nx} σ2 H2) (hd:∀σ H,Pv xs.length σ H->D.nx σ H):
  ∃W:Nat->Nat->St->Hp->Prop,(∃m,W 0 m σ H)/\∀i m σ H,W i m σ H->
   ((LO K a).stop i H/\D.nx σ H)\/((LO K a).go i H/\∃N:St->Hp->Prop,(∀σ' H',N σ' H'->∃m',m'<m/\W (i+1) m' σ' H')/\∀x H',(LO K a).yld i H x H'->g x σ H' fun σ2 H2=>tb {D with nx:=N,ct:=N,bk:=D.nx} σ2 H2):=by
 refine⟨fun i m σ H=>m=xs.length-i/\i<=xs.length/\Pv i σ H,⟨xs.length,by simp,Qg _,h0⟩,?_⟩;rintro i m σ H ⟨rfl,hi,p⟩;have q:=hl i σ H hi p;by_cases E9:i<xs.length
 ·refine .inr ⟨⟨xs,xs[i],q,by simp[E9]⟩,Pv (i+1),fun σ' H' p'=>⟨xs.length-(i+1),by lia,rfl,E9,p'⟩,fun x H' y=>?_⟩;obtain⟨e,y⟩:=y;subst e;exact hs i x σ _ (y xs q) p
 ·have e:i=xs.length:=by lia
  subst e;exact .inl ⟨⟨xs,q,Py _⟩,hd σ H p⟩
abbrev R2:=V->V->Hp->VK->Prop
def EX(X:Cx)(f:Value->Value->Sem Value)(r:R2):Prop:=
 ∀(pi:List (Addr×Obj)) (s:Shared) (σ:St) (H:Hp) (x y:V) (v u:Value) (Q:VK),Inv X pi σ H s->RelV x v->RelV y u->r x y H Q->
  wpAny (model X.prog X.w) X.A (f v u) (EP X pi σ Q) X.xe s
def dr(X:Cx)(f:Value)(r:List V->Hp->VK->Prop):Prop:=
 ∀(pi:List (Addr×Obj)) (s:Shared) (σ:St) (H:Hp) (xs:List V) (us:List Value) (Q:VK),Inv X pi σ H s->Vals xs us->r xs H Q->
  wpAny (model X.prog X.w) X.A (call f us) (EP X pi σ Q) X.xe s
def LP(r:R2)(ta tb:TE):TE:=fun σ H Q=>ta σ H fun x H1=>tb σ H1 fun y H2=>r x y H2 Q
def rI(C:Int->Int->Prop)(g:Int->Int->V):R2:=fun x y H Q=>∃i j,x=.int i/\y=.int j/\C i j/\Q (g i j) H
def Kv(g:Int->Int->V):R2:=fun x y H Q=>∃i j,x=.int i/\y=.int j/\Q (g i j) H
section
variable{X:Cx}{a b c:Expr}{ta tb tc:TE}{pos:Pos}
theorem B1(ha:PE X a ta)(hb:PE X b tb){pi:List (Addr×Obj)}{s:Shared}{σ:St}{H:Hp}{R:V->V->Hp->Prop}(I:Inv X pi σ H s)
  (h:ta σ H fun x H1=>tb σ H1 fun y H2=>R x y H2) {Q:Value->Shared->Prop}{f:Value->Value->Sem Value}
  (hf:∀v u s2 x y H2,Inv X pi σ H2 s2->RelV x v->RelV y u->R x y H2->wpAny (model X.prog X.w) X.A (f v u) Q X.xe s2):
  wpAny (model X.prog X.w) X.A (eval a X.env) (fun v s₁=>wpAny (model X.prog X.w) X.A (eval b X.env) (fun u s₂=>wpAny (model X.prog X.w) X.A (f v u) Q X.xe s₂) X.xe s₁) X.xe s:=by
 refine EG (ha pi s σ H _ I h) fun v s1 EM=>?_
 obtain⟨x,H1,I1,r1,q1⟩:=EM;refine EG (hb pi s1 σ H1 _ I1 q1) fun u s2 EM=>?_
 obtain⟨y,H2,I2,r2,q2⟩:=EM;exact hf v u s2 x y H2 I2 r1 r2 q2
theorem B2{op:Operator}{r:R2}(ho:EX X (binaryOp op) r)(ha:PE X a ta)(hb:PE X b tb):PE X (.BinOp a op b pos) (LP r ta tb):=by
 intro pi s σ H Q I h;exact wpAny_BinOp (B1 ha hb I h fun v u s2 x y H2 I2 rx ry q=>ho pi s2 σ H2 x y v u Q I2 rx ry q)
theorem Mm{f:Value->Value->Sem Value}{C:Int->Int->Prop}{g:Int->Int->Int}
  (rule:∀(i j:Int) (t u:Tok) (s:Shared) (Q:Value->Shared->Prop) (E:Value->Shared->Prop),C i j->Q (.int (g i j) s.toks) {s with toks:=s.toks+1}->wpAny (model X.prog X.w) X.A (f (.int i t) (.int j u)) Q E s):
  EX X f (rI C fun i j=>.int (g i j)):=by
 intro pi s σ H x y v u Q I rx ry h;obtain⟨i,j,rfl,rfl,hc,q⟩:=h;obtain⟨t,rfl⟩:=rx;obtain⟨t',rfl⟩:=ry;exact rule i j t t' s _ _ hc ⟨.int (g i j),H,I.tok _,⟨_,rfl⟩,q⟩
theorem Dj{f:Value->Value->Sem Value}{g:Int->Int->Int}
  (rule:∀(i j:Int) (t u:Tok) (s:Shared) (Q:Value->Shared->Prop) (E:Value->Shared->Prop),Q (.int (g i j) s.toks) {s with toks:=s.toks+1}->wpAny (model X.prog X.w) X.A (f (.int i t) (.int j u)) Q E s):
  EX X f (Kv fun i j=>.int (g i j)):=by
 intro pi s σ H x y v u Q I rx ry h;obtain⟨i,j,rfl,rfl,q⟩:=h;obtain⟨t,rfl⟩:=rx;obtain⟨t',rfl⟩:=ry;exact rule i j t t' s _ _ ⟨.int (g i j),H,I.tok _,⟨_,rfl⟩,q⟩
theorem BE{f:Value->Value->Sem Value}{g:Int->Int->Bool}
  (rule:∀(i j:Int) (t u:Tok) (s:Shared) (Q:Value->Shared->Prop) (E:Value->Shared->Prop),Q (.bool (g i j)) s->wpAny (model X.prog X.w) X.A (f (.int i t) (.int j u)) Q E s):
  EX X f (Kv fun i j=>.bl (g i j)):=by
 intro pi s σ H x y v u Q I rx ry h;obtain⟨i,j,rfl,rfl,q⟩:=h;obtain⟨t,rfl⟩:=rx;obtain⟨t',rfl⟩:=ry;exact rule i j t t' s _ _ ⟨.bl (g i j),H,I,rfl,q⟩
def DJ(i j:Int):Prop:=0<j/\j<1073741824
def DK(i j:Int):Prop:=0<=j/\j<=1000000/\i.natAbs<2 ^ 64
def CMul(i j:Int):Prop:=(-(2 ^ 64)<i/\i<2 ^ 64)\/(-(2 ^ 64)<j/\j<2 ^ 64)
theorem CMul.ok{i j:Int}(h:CMul i j):IntMulOk i j:=by
 rcases h with⟨h1,h2⟩|⟨h1,h2⟩
 ·exact .of_left (intBits_le_64 h1 h2)
 ·exact .of_right (intBits_le_64 h1 h2)
theorem zo:EX X (binaryOp .Add) (Kv fun i j=>.int (i+j)):=Dj fun _ _ _ _ _ _ _ q=>add_int q
theorem zp:EX X (binaryOp .Sub) (Kv fun i j=>.int (i-j)):=Dj fun _ _ _ _ _ _ _ q=>sub_int q
theorem zq:EX X (binaryOp .Mult) (rI CMul fun i j=>.int (i*j)):=Mm fun _ _ _ _ _ _ _ hc q=>mul_int q hc.ok
theorem wU:EX X (binaryOp .FloorDiv) (rI DJ fun i j=>.int (i / j)):=Mm fun i j _ _ _ _ _ hc q=>by
 have h1:(0:Int)<j:=hc.1;have h2:j<1073741824:=hc.2;exact floordiv_int (by lia) (by rw[Int.fdiv_eq_ediv_of_nonneg i (by lia)];exact q) (.inl (PyProof.noPylong_small (by lia)))
theorem zr:EX X (binaryOp .Mod) (rI (fun _ j=>0<j) fun i j=>.int (i%j)):=Mm fun i j _ _ _ _ _ hc q=>by
 have h1:(0:Int)<j:=hc;exact mod_int' (by lia) (by rw[Int.fmod_eq_emod_of_nonneg i (by lia)];exact q)
theorem zt:EX X (binaryOp .Pow) (rI DK fun i j=>.int (i ^ j.toNat)):=Mm fun _ _ _ _ _ _ _ hc q=>pow_int_small hc.1 hc.2.1 hc.2.2 q
end
section
variable{X:Cx}{a b c:Expr}{ta tb tc:TE}{pos:Pos}
theorem nJ{pi:List (Addr×Obj)}{σ:St}{H:Hp}{s:Shared}{Q:VK}{k k':Bool}(I:Inv X pi σ H s)(q:Q (.bl k) H)(e:k=k'):EP X pi σ Q (.bool k') s:=by
 subst e;exact⟨.bl k,H,I,rfl,q⟩
theorem B3:EX X (compareOp .Lt) (Kv fun i j=>.bl (decide (i<j))):=BE fun _ _ _ _ _ _ _ q=>lt_int q
theorem B4:EX X (compareOp .LtE) (Kv fun i j=>.bl (decide (i<=j))):=BE fun _ _ _ _ _ _ _ q=>le_int q
theorem B5:EX X (compareOp .Gt) (Kv fun i j=>.bl (decide (j<i))):=BE fun _ _ _ _ _ _ _ q=>gt_int q
theorem B6:EX X (compareOp .GtE) (Kv fun i j=>.bl (decide (j<=i))):=BE fun _ _ _ _ _ _ _ q=>ge_int q
theorem qi:EX X (compareOp .Lt) (fun x y H Q=>∃i j,x=.str i/\y=.str j/\Q (.bl (decide (i.cps.toList<j.cps.toList))) H):=by
 intro pi s σ H x y v u Q I rx ry h;obtain⟨i,j,rfl,rfl,q⟩:=h;obtain⟨t,rfl⟩:=rx;obtain⟨t',rfl⟩:=ry;exact lt_str (nJ I q rfl)
theorem qj:EX X (compareOp .In) (fun x y H Q=>∃i j,x=.str i/\y=.str j/\Q (.bl (!(Builtin.Str.occurrences j i 0 j.length 1).isEmpty)) H):=by
 intro pi s σ H x y v u Q I rx ry h;obtain⟨i,j,rfl,rfl,q⟩:=h;obtain⟨t,rfl⟩:=rx;obtain⟨t',rfl⟩:=ry;exact in_str (nJ I q rfl)
theorem kQ:EX X (compareOp .NotIn) (fun x y H Q=>∃i j,x=.str i/\y=.str j/\Q (.bl (!(!(Builtin.Str.occurrences j i 0 j.length 1).isEmpty))) H):=by
 intro pi s σ H x y v u Q I rx ry h;obtain⟨i,j,rfl,rfl,q⟩:=h;obtain⟨t,rfl⟩:=rx;obtain⟨t',rfl⟩:=ry;exact notIn_str (nJ I q rfl)
theorem bB(b:Expr){op:CmpOp}(h:op≠.In:=by decide)(h2:op≠.NotIn:=by decide):behindInMarks op b=false:=by
 have e1:(op==CmpOp.In)=false:=by cases op <;> first|rfl|exact absurd rfl h
 have e2:(op==CmpOp.NotIn)=false:=by cases op <;> first|rfl|exact absurd rfl h2
 cases b <;> simp[behindInMarks,e1,e2]
theorem qk{op:CmpOp}{r:R2}(ho:EX X (compareOp op) r)(ha:PE X a ta)(hb:PE X b tb)(hm:behindInMarks op b=false):PE X (.Compare a [op] [b] pos) (LP r ta tb):=by
 intro pi s σ H Q I h;exact wpAny_Compare1 (B1 ha hb I h fun v u s2 x y H2 I2 rx ry q=>ho pi s2 σ H2 x y v u Q I2 rx ry q) hm
def zu(t:TE):TT:=fun σ H Q=>t σ H fun x H'=>∃k,x=.bl k/\Q k H'
theorem ql{op:CmpOp}{r:R2}(ho:EX X (compareOp op) r)(ha:PE X a ta)(hb:PE X b tb)(hm:behindInMarks op b=false):PT X (.Compare a [op] [b] pos) (zu (LP r ta tb)):=by
 intro pi s σ H Q I h;refine wpAny_isTrue_Compare1 (EG (ha pi s σ H _ I h) fun v s1 ⟨x,H1,I1,r1,q1⟩=>EG (hb pi s1 σ H1 _ I1 q1) fun u s2 ⟨y,H2,I2,r2,q2⟩=>
  EG (ho pi s2 σ H2 x y v u _ I2 r1 r2 q2) fun c s3 ⟨z,H3,I3,r3,k,e,q3⟩=>?_) hm
 subst e;cases r3;exact QR ⟨H3,I3,q3⟩
def vK(r r':R2)(ta tb tc:TE):TE:=fun σ H Q=>ta σ H fun x H1=>tb σ H1 fun y H2=>r x y H2 fun z H3=>∃k,z=.bl k/\
 (if k=true then tc σ H3 fun w' H4=>r' y w' H4 Q else Q (.bl false) H3)
theorem uf{op Js:CmpOp}{r r':R2}(ho:EX X (compareOp op) r)(Hn:EX X (compareOp Js) r')(ha:PE X a ta)(hb:PE X b tb)(hc:PE X c tc)
  (hm:lastMarks [op,Js] [b,c]=false:=by with_unfolding_all rfl):PT X (.Compare a [op,Js] [b,c] pos) (zu (vK r r' ta tb tc)):=by
 intro pi s σ H Q I h;refine isTrue_chain (EG (ha pi s σ H _ I h) fun v s1 ⟨x,H1,I1,r1,q1⟩=>test_link (EG (hb pi s1 σ H1 _ I1 q1) fun u s2 ⟨y,H2,I2,r2,q2⟩=>
  EG (ho pi s2 σ H2 x y v u _ I2 r1 r2 q2) fun d s3 ⟨z,H3,I3,r3,k,e,q3⟩=>?_)) hm
 subst e;cases r3;refine QR ?_;cases k with
 |false=>
  obtain⟨k',e',q'⟩:=q3;cases e';exact ite_ff ⟨H3,I3,q'⟩
 |true=>
  refine ite_tt (test_last (EG (hc pi s3 σ H3 _ I3 q3) fun w' s4 ⟨z',H4,I4,r4,q4⟩=>EG (Hn pi s4 σ H4 y z' u w' _ I4 r2 r4 q4) fun d' s5 EM=>?_));obtain⟨z2,H5,I5,r5,k2,e2,q5⟩:=EM;subst e2;cases r5;exact QR ⟨H5,I5,q5⟩
theorem jr:(sizeLine:Nat)<2 ^ 63:=by rw[Qs];decide
theorem pd:EX X (binaryOp .Add) (fun x y H Q=>∃i j,x=.str i/\y=.str j/\i.length+j.length<=sizeLine/\Q (.str (i++j)) H):=by
 intro pi s σ H x y v u Q I rx ry h;obtain⟨i,j,rfl,rfl,hz,q⟩:=h;obtain⟨t,rfl⟩:=rx;obtain⟨t',rfl⟩:=ry;exact add_str (fun t' tk=>⟨.str (i++j),H,I.tok _,⟨_,rfl⟩,q⟩) hz
theorem fN{x:V}{us:List Value}(r:Vals [x] us):∃u,us=[u]/\RelV x u:=by
 cases r with
 |cons r1 r2=>cases r2;exact⟨_,rfl,r1⟩
theorem zv{x y:V}{us:List Value}(r:Vals [x,y] us):∃u w',us=[u,w']/\RelV x u/\RelV y w':=by
 cases r with
 |cons r1 r2=>
  cases r2 with
  |cons r3 r4=>cases r4;exact⟨_,_,rfl,r1,r3⟩
end
section
variable{prog:Program}{w:World}{A:Around}{E:Value->Shared->Prop}{s:Shared}{K:W.Frag}{x dx C f:Addr}{mA:Str->Option Value}{name:Str}{v:Value}
end
theorem RelO.some_of{v:V}{o:Option Value}(r:RelO (some v) o):∃u,o=some u/\RelV v u:=by
 cases o with
 |none=>exact(show False from r).elim
 |some u=>exact⟨u,rfl,r⟩
theorem RelO.none_of{o:Option Value}(r:RelO none o):o=none:=by
 cases o with
 |none=>rfl
 |some u=>exact(show False from r).elim
section
variable{P:Program}{w:World}{H H':Hp}{h h':Heap}{a C dx:Addr}{fs fs':List (Str×V)}
end
structure Cls(K:W.Frag)(C:Addr):Prop where
 pg:PySem.W.plainGet K C Str.empty=true
 hd:PySem.W.hasDictIn K C=true
 po:PySem.W.plainOver K C=true
 sa:PySem.W.findIn K (.ref C) "__setattr__" = some (some (.builtin "object.__setattr__"))
theorem Cls.get{K:W.Frag}{C:Addr}(c:Cls K C)(f:Str):PySem.W.plainGet K C f=true:=c.pg
section
variable{X:Cx}{pi:List (Addr×Obj)}{σ:St}{H:Hp}{s:Shared}{a C dx:Addr}{fs:List (Str×V)}{f:Str}{v:V}{A:Around}{E:Value->Shared->Prop}
end
section
variable{X:Cx}{o e value:Expr}{f:Str}{pos pos' KQ:Pos}{ta tv:TE}
end
section
variable{X:Cx}{pi:List (Addr×Obj)}{σ:St}{H:Hp}{s:Shared}{A:Around}{E:Value->Shared->Prop}{Q:Value->Shared->Prop}{c:Value}{b:Bool}
end
structure Room(k:Nat)(A:Around):Prop where
 hd:A.handled=none
 dp:A.depth+3*k+5<recursionLimit
 un:A.units+16*k+200<cLine
theorem Room.mono{j k:Nat}{A:Around}(r:Room k A)(h:j<=k):Room j A:=⟨r.hd,by have:=r.dp;lia,by have:=r.un;lia⟩
theorem Room.m{j k:Nat}{A:Around}(r:Room k A)(h:j<=k:=by decide):Room j A:=r.mono h
theorem Room.deeper{k:Nat}{A:Around}(r:Room (k+1) A)(env:Env):Room k (A.deeper env):=
 ⟨r.hd,by have:=r.dp;show A.depth+1+3*k+5<_;lia,by have:=r.un;show A.units+3+16*k+200<_;lia⟩
theorem Room.depth{k:Nat}{A:Around}(r:Room k A):A.depth<recursionLimit:=by have:=r.dp;lia
theorem Room.units{k:Nat}{A:Around}(r:Room k A):A.units+64<cLine:=by have:=r.un;lia
theorem Room.units0{k:Nat}{A:Around}(r:Room k A):A.units<cLine:=by have:=r.un;lia
def DL:TA:=fun _ H Q=>Q [] H
def B7(ta:TE)(tr:TA):TA:=fun σ H Q=>ta σ H fun x H1=>tr σ H1 fun xs H2=>Q (x::xs) H2
section
variable{X:Cx}{e:Expr}{es:List Expr}{te:TE}{t:TA}{pos:Pos}
theorem qm:PA X [] DL:=fun _ _ _ _ H Q I h=>Calls.spliced_nil ⟨[],H,I,.nil,h⟩
theorem jH(ha:PE X e te)(hr:PA X es t)(hs:starEach (e::es) X.env=(false,eval e X.env)::starEach es X.env:=by rfl):PA X (e::es) (B7 te t):=by
 intro pos pi s σ H Q I h;rw[hs];show wpAny _ _ (spliced ((false,eval e X.env)::backTo pos (starEach es X.env))) _ _ s;refine Calls.spliced_cons (EG (ha pi s σ H _ I h) fun u s1 EM=>?_);obtain⟨x,H1,I1,r1,q1⟩:=EM;exact EG (hr pos pi s1 σ H1 _ I1 q1) fun us s2 ⟨xs,H2,I2,r2,q2⟩=>⟨x::xs,H2,I2,.cons r1 r2,q2⟩
def DM(t:TA):TE:=fun σ H Q=>t σ H fun xs H1=>xs.length<=sizeLine/\∀p,H1 p=none->Q (.ref p) (upd H1 p (.tup xs))
def DN(t:TA):TE:=fun σ H Q=>t σ H fun xs H1=>xs.length<=sizeLine/\∀p,H1 p=none->Q (.ref p) (upd H1 p (.lst xs))
theorem zw{x1}(h:PA X es t):PE X (.Tuple es x1 pos) (DM t):=by
 intro pi s σ H Q I hq;refine wpAny_Tuple_spliced (EG (h pos pi s σ H _ I hq) fun us s1 ⟨xs,H1,I1,r,z,q⟩=>⟨by rw[<-r.length];exact z,?_⟩);have hf:H1 s1.heap.objs.size=none:=I1.hok.fresh (Py _);refine⟨.ref s1.heap.objs.size,upd H1 s1.heap.objs.size (.tup xs),I1.laid (t':=s1.toks) (fun b u e=>Heap.get?_push_of_some _ e) (Py _) ?_,rfl,q _ hf⟩;exact⟨z,us,r,⟨_,Heap.get?_push_size _ rfl,rfl,⟨_,rfl⟩,rfl⟩⟩
theorem zx(h:PA X es t):PE X (.List es pos) (DN t):=by
 intro pi s σ H Q I hq;refine wpAny_List_spliced (EG (h pos pi s σ H _ I hq) fun us s1 ⟨xs,H1,I1,r,z,q⟩=>⟨by rw[<-r.length];exact z,?_⟩);have hf:H1 s1.heap.objs.size=none:=I1.hok.fresh (Py _);refine⟨.ref s1.heap.objs.size,upd H1 s1.heap.objs.size (.lst xs),I1.laid (t':=s1.toks) (fun b u e=>Heap.get?_push_of_some _ e) (Py _) ?_,rfl,q _ hf⟩;exact⟨z,us,0,r,Heap.get?_push_size _ rfl⟩
end
abbrev Sp:=List V->Hp->VK->XK->Prop
abbrev Io:=List Env->Hp->Shared->XK->Value->Shared->Prop
structure Env0(P:Program)(w:World)(K:W.Frag)(mg:Str->Option Value)(base:Heap)(A:Around)(outer:List Env)(s:Shared)(H:Hp):Prop where
 frames:A.frames=some outer
 mod:Mod K mg base
 bs:∀b o,base.get? b=some o->s.heap.get? b=some o/\H b=none
 bsz:base.objs.size<=s.heap.objs.size
 funs:s.heap.FunFrames base outer
 frf:∀b∈F8 outer,H b=none
 hok:HOk P w H s.heap
 bare:AllBare s.gens
def CE(outer:List Env)(P:Program)(w:World)(H:Hp)(s:Shared)(Q:VK)(u:Value)(s':Shared):Prop:=
 ∃v H',s'.os=s.os/\AllBare s'.gens/\Un (F8 outer) [] H H' s.heap s'.heap/\HOk P w H' s'.heap/\RelV v u/\Q v H'
def CR(CX:Io)(outer:List Env)(P:Program)(w:World)(H:Hp)(s:Shared)(Q:VK)(E:XK)(r:Result)(s':Shared):Prop:=
 match r with
 | .ok (.ret u)=>CE outer P w H s Q u s'
 | .ok _=>False
 | .error e=>CX outer H s E e s'
structure FnOk(P:Program)(w:World)(K:W.Frag)(mg:Str->Option Value)(base:Heap)(CX:Io)(k:Nat)(f:Addr)(fd:FuncData)(ps:List Str)(sp:Sp):Prop where
 len:∀vs H Q E,sp vs H Q E->vs.length=ps.length
 run:∀(A:Around) (outer:List Env) (s:Shared) (H:Hp) (args:Args) (us:List Value) (vs:List V) (Q:VK) (E:XK),Room k A->Env0 P w K mg base A outer s H->BindsTo s fd args (ps.zip us)->Vals vs us->sp vs H Q E->
  codeAny (model P w) A (.call (.ref f) args) (CR CX outer P w H s Q E) s
theorem FnOk.imp{P:Program}{w:World}{K:W.Frag}{mg:Str->Option Value}{base:Heap}{CX:Io}{k:Nat}{f:Addr}{fd:FuncData}{ps:List Str}{sp OG:Sp}(F:FnOk P w K mg base CX k f fd ps sp)
  (h:∀vs H Q E,OG vs H Q E->sp vs H Q E):FnOk P w K mg base CX k f fd ps OG:=
 ⟨fun vs H Q E q=>F.len vs H Q E (h _ _ _ _ q),fun A outer s H args us vs Q E hr he hb hv hs=>F.run A outer s H args us vs Q E hr he hb hv (h _ _ _ _ hs)⟩
section
variable{X:Cx}{pi:List (Addr×Obj)}{σ:St}{H:Hp}{s s':Shared}
theorem Inv.env0(I:Inv X pi σ H s):Env0 X.prog X.w X.K X.mg X.base X.A X.stack s H:=
 ⟨I.ok.frames,I.ok.mod,I.bs,Qc I.ok.bsz I.sz,I.stack,I.stkFree,I.hok,I.bare⟩
theorem Inv.after{Q:VK}{u:Value}(I:Inv X pi σ H s)(h:CE X.stack X.prog X.w H s Q u s'):EP X pi σ Q u s':=by
 obtain⟨v,H',os,bare,un,hok,r,q⟩:=h;obtain⟨hh,g,d,t,NQ⟩:=s';obtain rfl:NQ=s.os:=os;exact⟨v,H',I.call (h':=hh) (g':=g) (d':=d) (t':=t) (ch:=[]) un hok bare (fun b z=>absurd z (by simp)),r,q⟩
end
def tCall(sp:Sp)(Kw:List V)(E:XK)(t:TA):TE:=fun σ H Q=>t σ H fun vs H1=>sp (vs++Kw) H1 Q E
def Binds(K:W.Frag)(fd:FuncData)(ps:List Str)(ds:List Value):Prop:=
 ∀(s:Shared) (us:List Value),K.In s.heap->(us++ds).length=ps.length->BindsTo s fd ⟨us,[]⟩ (ps.zip (us++ds))
theorem Binds.all{K:W.Frag}{fd:FuncData}{ps:List Str}(h:∀us:List Value,us.length=ps.length->bindArgs fd ⟨us,[]⟩=pure (ps.zip us)):Binds K fd ps []:=fun s us _ hl=>by
 rw[P5]at hl ⊢;exact .of_eq (h us hl)
def qo(CX:Io)(X:Cx)(E:XK):Prop:=∀(pi:List (Addr×Obj)) (σ:St) (H:Hp) (s:Shared) (e:Value) (s':Shared),Inv X pi σ H s->CX X.stack H s E e s'->X.xe e s'
section
variable{X:Cx}{CX:Io}{k:Nat}{f C:Addr}{fd:FuncData}{ps:List Str}{sp:Sp}{Kw:List V}{ds:List Value}{E:XK}{x m:Str}{p pos apos:Pos}{e o:Expr}{es:List Expr}{ta:TE}{t:TA}
theorem zy{pi:List (Addr×Obj)}{σ:St}{H:Hp}{s:Shared}{Q:VK}{us:List Value}{vs:List V}(F:FnOk X.prog X.w X.K X.mg X.base CX k f fd ps sp)(hr:Room k X.A)(hb:Binds X.K fd ps ds)(hd:Vals Kw ds)(hx:qo CX X E)
  (I:Inv X pi σ H s) (r:Vals vs us) (h:sp (vs++Kw) H Q E):wpAny (model X.prog X.w) X.A (call (.ref f) us) (EP X pi σ Q) X.xe s:=by
 have r2:Vals (vs++Kw) (us++ds):=r.append hd;have hl:(us++ds).length=ps.length:=by rw[<-r2.length];exact F.len _ _ _ _ h
 refine wpAny_call (Sq (F.run X.A X.stack s H ⟨us,[]⟩ (us++ds) (vs++Kw) Q E hr I.env0 (hb s us I.kIn hl) r2 h) fun r s' hq=>?_);cases r with
 |error e=>exact hx pi σ H s e s' I hq
 |ok fl=>
  cases fl with
  |ret u=>exact I.after hq
  |next=>exact False.elim hq
  |brk=>exact False.elim hq
  |cont=>exact False.elim hq
theorem wV(F:FnOk X.prog X.w X.K X.mg X.base CX k f fd ps sp)(hr:Room k X.A)(hg:Gl X x)(hm:X.mg x=some (.ref f))(hk:PySem.W.keepIn X.K (.ref f)=true)(hb:Binds X.K fd ps ds)(hd:Vals Kw ds)(hx:qo CX X E)
  (ha:PA X (e::es) t) (Fl:(x==("__debug__" : Str))=false:=by decide) (he:starEach (e::es) X.env=(false,eval e X.env)::starEach es X.env:=by rfl) (Fc:(backTo pos (starEach es X.env)).any (·.1)=false:=by rfl):
  PE X (.Call (.Name x p) (e::es) [] pos) (tCall sp Kw E t):=by
 intro pi s σ H Q I h;refine Q4 (ig I hg hm ?_ Fl);refine Ut (h₀:=X.base) I.ok.mod.kin hk (EG (ha pos pi s σ H _ I h) fun us s1 ⟨vs,H1,I1,r,q⟩=>⟨I1.kIn,?_⟩) he Fc;exact zy F hr hb hd hx I1 r q
end
section
variable{X:Cx}{CX:Io}{k:Nat}{f C:Addr}{fd:FuncData}{ps ks:List Str}{sp:Sp}{E:XK}{x m:Str}{p pos apos Mn:Pos}{e o:Expr}{es:List Expr}{kws:List Keyword}{te ta:TE}{t tk:TA}{nm:Option Str}
variable{g:List Value->List Value->List Value}{gV:List V->List V->List V}
end
structure FnScope(N P:List Str)(sc:Scope):Prop where
 kind:sc.kind=.function
 co:sc.isCoroutine=false
 gen:sc.isGenerator=false
 nd:N.Nodup
 pre:N.take P.length=P
 par:∀x∈P,sc.names.lookup x=some .local\/sc.names.lookup x=some .cell
 nofree:∀y∈sc.names,y.2≠.free
theorem fs{N P:List Str}{sc:Scope}(a:sc.kind=.function:=by rfl)(b:sc.isCoroutine=false:=by rfl)(c:sc.isGenerator=false:=by rfl)(d:N.Nodup:=by decide +kernel)(e:N.take P.length=P:=by rfl)(f:∀x∈P,sc.names.lookup x=some .local\/sc.names.lookup x=some .cell:=by decide +kernel)(g:∀y∈sc.names,y.2≠.free:=by decide +kernel):FnScope N P sc:=⟨a,b,c,d,e,f,g⟩
theorem kR{kindOf:Str->Option NameKind}{x:Str}:∀{binds:List (Str×Value)}{m:Str->Option Value},(∀v,(x,v)∉binds)->bindL kindOf binds m x=m x
 |[],_,_=>rfl
 |(n,v)::r,m,h=>by
  unfold bindL;rw[kR fun w hw=>h w (Px _ hw)];split
  ·have:x≠n:=by rintro rfl;exact h v Pq
   simp[this]
  ·rfl
theorem kS{kindOf:Str->Option NameKind}{x:Str}:∀{binds:List (Str×Value)}{m:Str->Option Value},(∀v,(x,v)∉binds)->bindC kindOf binds m x=m x
 |[],_,_=>rfl
 |(n,v)::r,m,h=>by
  unfold bindC;rw[kS fun w hw=>h w (Px _ hw)];split
  ·rfl
  ·have:x≠n:=by rintro rfl;exact h v Pq
   simp[this]
theorem kU{kindOf:Str->Option NameKind}{x:Str}{v:Value}:∀{P:List Str}{vs:List Value}{i:Nat}{m:Str->Option Value},P.Nodup->P[i]?=some x->vs[i]?=some v->kindOf x=some .local->
  bindL kindOf (P.zip vs) m x=some v
 |[],_,_,_,_,h,_,_=>by simp at h
 |_::_,[],_,_,_,_,h,_=>by simp at h
 |p::P,w::vs,0,m,nd,h1,h2,hk=>by
  simp at h1 h2;subst h1;subst h2;show bindL kindOf ((p,w)::P.zip vs) m p=_;unfold bindL;rw[kR fun v hv=>(Qo.mp nd).1 (RO hv).1,PF hk];simp
 |p::P,w::vs,i+1,m,nd,h1,h2,hk=>by
  show bindL kindOf ((p,w)::P.zip vs) m x=_;unfold bindL;exact kU (i:=i) (Qo.mp nd).2 (by simpa using h1) (by simpa using h2) hk
theorem kW{kindOf:Str->Option NameKind}{x:Str}{v:Value}:∀{P:List Str}{vs:List Value}{i:Nat}{m:Str->Option Value},P.Nodup->P[i]?=some x->vs[i]?=some v->kindOf x≠some .local->
  bindC kindOf (P.zip vs) m x=some v
 |[],_,_,_,_,h,_,_=>by simp at h
 |_::_,[],_,_,_,_,h,_=>by simp at h
 |p::P,w::vs,0,m,nd,h1,h2,hk=>by
  simp at h1 h2;subst h1;subst h2;show bindC kindOf ((p,w)::P.zip vs) m p=_;unfold bindC;rw[kS fun v hv=>(Qo.mp nd).1 (RO hv).1,PM hk];simp
 |p::P,w::vs,i+1,m,nd,h1,h2,hk=>by
  show bindC kindOf ((p,w)::P.zip vs) m x=_;unfold bindC;exact kW (i:=i) (Qo.mp nd).2 (by simpa using h1) (by simpa using h2) hk
def gR(N:List Str)(vs:List V):St:=vs.map some++List.replicate (N.length-vs.length) none
noncomputable def qp(CX:Io)(P:Program)(w:World)(K:W.Frag)(mg:Str->Option Value)(base:Heap)(N:List Str)(qual:Str)(scope:Scope)(f:Addr)(cd:Value)(A:Around)(outer:List Env)(s:Shared)(H:Hp)(E:XK):Cx where
 prog:=P
 w:=w
 K:=K
 mg:=mg
 base:=base
 A:=A.deeper (envOfC qual scope s.heap.objs.size f cd)
 N:=N
 s₀:=s
 H₀:=H
 env:=envOfC qual scope s.heap.objs.size f cd
 outer:=outer
 stack:=envOfC qual scope s.heap.objs.size f cd::outer
 ex:=[]
 calm:=true
 fn:=fun _=>true
 pn:=[]
 xe:=fun e s'=>wpAny (model P w) (A.deeper (envOfC qual scope s.heap.objs.size f cd)) (leaving (envOfC qual scope s.heap.objs.size f cd) e) (fun _ NR=>CX outer H s E e NR) (fun e' NR=>CX outer H s E e' NR) s'
theorem nK{sc:Scope}{n:Nat}{x:Str}(h:sc.names.lookup x=some .cell):∃c,(cellsFrom n sc.names []).lookup x=some c:=by
 have q:=Tu sc.names n [] (.inl h);exact Qx.mp q
theorem qq{CX:Io}{P:Program}{w:World}{K:W.Frag}{mg:Str->Option Value}{base:Heap}{N ps:List Str}{qual:Str}{scope:Scope}{f:Addr}{cd:Value}{A:Around}{outer:List Env}{s s1:Shared}{H:Hp}{E:XK}{us:List Value}{vs:List V}
  (S:FnScope N ps scope) (hd:A.handled=none) (e0:Env0 P w K mg base A outer s H) (hl:vs.length=ps.length) (r:Vals vs us)
  (x:InCallC s s.heap.objs.size (bindL (envOfC qual scope s.heap.objs.size f cd).kindOf (ps.zip us) fun _=>none) (cellsFrom (s.heap.objs.size+1) scope.names []) (bindC (envOfC qual scope s.heap.objs.size f cd).kindOf (ps.zip us) fun _=>none) s1):
  Inv (qp CX P w K mg base N qual scope f cd A outer s H E) [] (gR N vs) H s1:=by
 have Fc:ps.length<=N.length:=by have:=Qt List.length S.pre;rw[Qe]at this;lia
 obtain⟨h1,tk,rfl,hk⟩:=x.done;have Mo:∀b:Addr,b∉(qp CX P w K mg base N qual scope f cd A outer s H E).ex:=fun b z=>absurd (show b∈([]:List Addr) from z) (by simp)
 refine⟨⟨e0.mod,S.kind,rfl,rfl,Py _,fun y z c h1 h2=>?_,fun y hy=>?_,fun y c _ h=>?_,fun _=>hd,Around.frames_deeper e0.frames,.inr ⟨rfl,rfl⟩,fun b z=>absurd z (Mo b),e0.bs,e0.bsz,fun b _ _=>Mo b,fun b z=>absurd z (Mo b),e0.funs,e0.frf⟩,
  rfl,e0.bare,Un.kept hk,⟨_,x.toInCall.ns,fun i y v h1 h2 h3=>?_⟩,fun y c h=>⟨_,x.cell y c h⟩,e0.hok.fresh (Py _),fun y c h=>?_,fun p hp=>absurd (show p∈([]:List (Addr×Obj)) from hp) (by simp),e0.hok.kept hk,?_⟩
 ·exact name_of_addr x.apart (Rf h1) (Rf h2)
 ·have hy:scope.names.lookup y=some .cell\/scope.names.lookup y=some .free:=hy;rcases hy with hy|hy
  ·exact nK hy
  ·exact absurd rfl (S.nofree _ (Rf hy))
 ·exact TH (x.above y c (Rf h))
 ·have hi:i<vs.length:=by
   unfold gR at h2;by_cases hi:i<vs.length
   ·exact hi
   ·rw[List.getElem?_append_right (by simpa using hi)]at h2;rw[List.getElem?_replicate]at h2;split at h2 <;> cases h2
  have ha:vs[i]?=some v:=by
   unfold gR at h2;rw[List.getElem?_append_left (by simpa using hi),List.getElem?_map]at h2;cases e:vs[i]? with
   |none=>rw[e]at h2;cases h2
   |some a=>rw[e]at h2;cases h2;rfl
  obtain⟨u,hu,rv⟩:=r.get ha;have hp:ps[i]?=some y:=by
   rw[<-S.pre,List.getElem?_take_of_lt (by lia)];exact h1
  have OH:ps.Nodup:=by rw[<-S.pre];exact S.nd.sublist (S5 _ _)
  refine⟨u,rv,?_⟩;rcases S.par y (Qf hp) with k|k
  ·exact .inl ⟨k,kU OH hp hu k⟩
  ·obtain⟨c,e⟩:=nK (n:=s.heap.objs.size+1) k;refine .inr ⟨.inl k,c,e,?_⟩;have q:=x.cell y c e;rw[kW OH hp hu (by show scope.names.lookup y≠_;rw[k];decide)]at q;exact q
 ·exact e0.hok.fresh (TH (x.above y c (Rf h)))
 ·unfold gR;show _=N.length;rw[Qb,Pr,List.length_replicate];lia
theorem zH{CX:Io}{P:Program}{w:World}{K:W.Frag}{mg:Str->Option Value}{base:Heap}{k:Nat}{f:Addr}{name qual:Str}{params:Arguments}{body:List Stmt}{scope:Scope}{dV kV doc pm EV ct oc:Value}{an od:Option Addr}
  {Ip:Array (Option Value)}{N ps:List Str}{sp:Sp}(lk:K.lookup f=some ⟨oc,od,.func (PySem.W.fnOf name qual params body scope dV kV doc pm an EV ct),Ip⟩) (HJ:PySem.W.codeIn K EV qual=true) (S:FnScope N ps scope)
  (len:∀vs H Q E,sp vs H Q E->vs.length=ps.length)
  (Ht:∀(A:Around) (outer:List Env) (s:Shared) (H:Hp) (vs:List V) (Q:VK) (E:XK),Room k (A.deeper (envOfC qual scope s.heap.objs.size f EV))->sp vs H Q E->
   ∃t,PSs (qp CX P w K mg base N qual scope f EV A outer s H E) body t/\t {nx:=fun _ H'=>Q .non H',rt:=Q} (gR N vs) H):
  FnOk P w K mg base CX (k+1) f (PySem.W.fnOf name qual params body scope dV kV doc pm an EV ct) ps sp:=by
 refine⟨len,fun A outer s H args us vs Q E hr e0 hb r Jt=>?_⟩;have hl:=len _ _ _ _ Jt;have KX:K.In s.heap:=e0.mod.kin.keeps fun b o e=>(e0.bs b o e).1
 have lim:s.heap.NoLimit:=e0.mod.nolimit.keeps fun b o e=>(e0.bs b o e).1
 have Gz:∀y∈ps.zip us,scope.names.lookup y.1=some .local\/(scope.names.lookup y.1=some .cell/\((cellsFrom (s.heap.objs.size+1) scope.names []).lookup y.1).isSome=true):=fun ED hy=>by
  obtain⟨n,v⟩:=ED;rcases S.par n (RO hy).1 with q|q
  ·exact .inl q
  ·exact .inr ⟨q,Tu _ _ _ (.inl q)⟩
 refine codeAny_call_function hr.depth (KX _ _ lk) rfl S.co S.gen rfl (PySem.W.codeRec_of KX HJ) (hb _ _ _ _ ?_);refine wpAny_newFunctionEnv_cells S.kind Gz fun env he s1 x=>?_
 subst he;refine⟨lim.keeps x.toInCall.keep,codeAny_func ?_⟩;obtain⟨t,ht,hq⟩:=Ht A outer s H vs Q E (hr.deeper _) Jt;have I:Inv (qp CX P w K mg base N qual scope f EV A outer s H E) [] (gR N vs) H s1:=qq S hr.hd e0 hl r x;refine QB (ht [] s1 (gR N vs) H _ I hq) (fun fl s' hs=>?_) fun e s' hs=>hs
 have fin:∀{σ':St}{H':Hp}{v:V}{u:Value},Inv (qp CX P w K mg base N qual scope f EV A outer s H E) [] σ' H' s'->RelV v u->Q v H'->CE outer P w H s Q u s':=
  fun{σ' H' v u} J rv q=>⟨v,H',J.os,J.bare,J.base,J.hok,rv,q⟩
 cases fl with
 |ret u=>
  obtain⟨v,σ',H',J,rv,q⟩:=hs;exact fin J rv q
 |next=>
  obtain⟨σ',H',J,q⟩:=hs;exact fin (v:=V.non) (u:=Value.none) J rfl q
 |brk=>
  obtain⟨_,_,_,q⟩:=hs;exact False.elim q
 |cont=>
  obtain⟨_,_,_,q⟩:=hs;exact False.elim q
section
variable{X:Cx}{x:Str}{p pos:Pos}{e:Expr}{es:List Expr}{t:TA}{id T:String}{r:List V->Hp->VK->Prop}
def NT(r:List V->Hp->VK->Prop)(t:TA):TE:=fun σ H Q=>t σ H fun vs H1=>r vs H1 Q
theorem nL(hc:dr X (.builtin id) r)(hg:Gl X x)(hm:X.mg x=none)(hv:bootBuiltins x=some (.builtin id))(ha:PA X (e::es) t)(hn:x≠"__name__":=by decide)(Fl:(x==("__debug__" : Str))=false:=by decide)
  (he:starEach (e::es) X.env=(false,eval e X.env)::starEach es X.env:=by rfl) (Fc:(backTo pos (starEach es X.env)).any (·.1)=false:=by rfl):PE X (.Call (.Name x p) (e::es) [] pos) (NT r t):=by
 intro pi s σ H Q I h;refine Q4 (ij I hg hm hv ?_ hn Fl);exact PyProof.Rows.callWith_builtin1 (EG (ha pos pi s σ H _ I h) fun us s1 ⟨vs,H1,I1,r1,q1⟩=>hc pi s1 σ H1 vs us Q I1 r1 q1) he Fc
theorem qr(hc:dr X (.type T) r)(hg:Gl X x)(hm:X.mg x=none)(hv:bootBuiltins x=some (.type T))(ha:PA X (e::es) t)(hn:x≠"__name__":=by decide)(Fl:(x==("__debug__" : Str))=false:=by decide)
  (he:starEach (e::es) X.env=(false,eval e X.env)::starEach es X.env:=by rfl) (Fc:(backTo pos (starEach es X.env)).any (·.1)=false:=by rfl):PE X (.Call (.Name x p) (e::es) [] pos) (NT r t):=by
 intro pi s σ H Q I h;refine Q4 (ij I hg hm hv ?_ hn Fl);exact Rc (EG (ha pos pi s σ H _ I h) fun us s1 ⟨vs,H1,I1,r1,q1⟩=>hc pi s1 σ H1 vs us Q I1 r1 q1) he Fc
end
end L2
namespace HT
open PySem PyProof.Rows
section
open PySem.SeqAt
open PySem.AutoSeq1 (wpAny_loadPart')
open PySem.MeetsSeq PySem.MeetsSeq2 PySem.MeetsSeq3
end
section
variable{prog:Program}{w:World}{A:Around}{E:Value->Shared->Prop}{s:Shared}
theorem wW{t b:Addr}{vs ws:List Value}{Q:Value->Shared->Prop}(ht:IsTup s.heap t vs.toArray)(hb:IsTup s.heap b ws.toArray)(hv:vs≠[])
  (h1:ws=[]->Q (.ref t) s) (h2:ws≠[]->Q (.ref s.heap.objs.size) {s with heap:=s.heap.push {cls:=.type "tuple",data:=.seq (vs++ws).toArray}})
  (hsz:vs.length+ws.length<=sizeLine):wpAny (model prog w) A (binaryOp .Add (.ref t) (.ref b)) Q E s:=by
 obtain⟨⟨cls,dd,data,sl⟩,ho,hc,n,hd⟩:=id ht;obtain⟨⟨JD,Ib,data2,Ic⟩,Fx,GP,n2,hd2⟩:=id hb;simp only at hc hd GP hd2;subst hc hd GP hd2;have e:vs.toArray++ws.toArray=(vs++ws).toArray:=by simp
 by_cases hw:ws=[]
 ·exact TK ⟨_,ho,rfl⟩ ⟨_,Fx,rfl⟩ To Uu Sk Se (R7 _ _)
   (tuple_addW1 t b vs.toArray ws.toArray n n2 dd Ib sl Ic (by simpa using hv) (by simp[hw])) ⟨ho,Fx,h1 hw⟩
 ·refine TK ⟨_,ho,rfl⟩ ⟨_,Fx,rfl⟩ To Uu Sk Se (R7 _ _)
   (tuple_addW2 t b vs.toArray ws.toArray n n2 dd Ib sl Ic (by simpa using hv) (by simpa using hw) (by rw[Pu,Pu];exact hsz)) ⟨ho,Fx,?_⟩
  rw[e];exact h2 hw
def sIx(n d:Nat):Option Int->Nat
 |none=>d
 |some v=>if v<0 then(v+(n:Int)).toNat else min v.toNat n
theorem nM(n d:Nat):sIx n d none=d:=rfl
theorem qu(n d k:Nat):sIx n d (some (k:Int))=min k n:=by
 show(if(k:Int)<0 then((k:Int)+(n:Int)).toNat else min (k:Int).toNat n)=min k n;rw[PM (by lia),Qk]
theorem qv(n d:Nat)(hd:d<=n)(o:Option Int):sIx n d o<=n:=by
 cases o with
 |none=>exact hd
 |some v=>
  show(if v<0 then(v+(n:Int)).toNat else min v.toNat n)<=n;by_cases hv:v<0
  ·rw[PF hv];lia
  ·rw[PM hv];exact Nat.min_le_right _ _
theorem qw(v:Int)(n d:Nat):(if v<0 then max (v+(n:Int)) 0 else min v (n:Int))=((sIx n d (some v):Nat):Int):=by
 show(if v<0 then max (v+(n:Int)) 0 else min v (n:Int))=(((if v<0 then(v+(n:Int)).toNat else min v.toNat n):Nat):Int)
 by_cases hv:v<0
 ·simp only[PF hv];lia
 ·simp only[PM hv];lia
theorem pe(lo hi:Option Int)(n:Nat):Builtin.Slice.sliceAdjust lo hi 1 (n:Int)=(((sIx n 0 lo:Nat):Int),((sIx n n hi:Nat):Int)):=by
 have h1:¬ ((1:Int)<0):=by lia
 unfold Builtin.Slice.sliceAdjust;simp only[h1,Qy];refine Prod.ext ?_ ?_
 ·cases lo with
  |none=>rfl
  |some v=>exact qw v n 0
 ·cases hi with
  |none=>rfl
  |some v=>exact qw v n n
theorem pf(i j:Nat):Builtin.Slice.slicePlaces (i:Int) (j:Int) 1=j-i:=by
 unfold Builtin.Slice.slicePlaces;have h1:(1:Int)>0:=by lia
 simp only[h1,Rg,Int.ediv_one];split <;> lia
theorem jt{v:Value}{o:Option Int}{Q:Option Int->Shared->Prop}(p:IsPart v o)(h:Q o s):wpAny (model prog w) A (Builtin.Slice.slicePartIndex v) Q E s:=by
 cases p with
 |none=>exact slicePart_none h
 |int i t=>exact slicePart_int h
theorem dF{sl:Addr}{vl vu:Value}{lo hi:Option Int}{n:Nat}{Q:Int×Int×Nat->Shared->Prop}(hs:s.heap.IsSliceOf sl vl vu .none)(pl:IsPart vl lo)(pu:IsPart vu hi)
  (h:Q (((sIx n 0 lo:Nat):Int),1,sIx n n hi-sIx n 0 lo) s):wpAny (model prog w) A (Builtin.Slice.sliceApplied (.ref sl) (pure (n:Int))) Q E s:=by
 obtain⟨os,JE,Nm,JF⟩:=id hs;unfold Builtin.Slice.sliceApplied Builtin.Slice.sliceFields;refine Po (Po (QM JE JF (x:=vl) rfl (Po (QM JE JF (x:=vu) rfl (Po (QM JE JF (x:=.none) rfl (Pp ?_)))))));refine Po (slicePart_none ?_);show wpAny _ _ (if((1:Int)==0)=true then _ else _) _ _ s;rw[PM (by decide)];refine Po (jt pl (Po (jt pu (Po (Pp ?_)))));show wpAny _ _ (match Builtin.Slice.sliceAdjust lo hi 1 (n:Int) with|(lo,hi)=>pure (lo,(1:Int),Builtin.Slice.slicePlaces lo hi 1)) _ _ s;rw[pe lo hi n];show wpAny _ _ (pure (((sIx n 0 lo:Nat):Int),(1:Int),Builtin.Slice.slicePlaces ((sIx n 0 lo:Nat):Int) ((sIx n n hi:Nat):Int) 1)) _ _ s;rw[pf];exact Pp h
theorem ug(xs:Array Value)(i k:Nat):((List.range k).filterMap fun(m:Nat)=>xs[((i:Int)+(m:Int)*1).toNat]?).toArray=((xs.toList.drop i).take k).toArray:=by
 have e:(fun(m:Nat)=>xs[((i:Int)+(m:Int)*1).toNat]?)=fun m=>xs[i+m]?:=by
  funext m
  have:((i:Int)+(m:Int)*1).toNat=i+m:=by lia
  rw[this]
 rw[e];have:=pick_run xs i k;rw[List.filterMap_map]at this;have e2:((fun x=>xs[x]?)∘fun x=>i+x)=fun m=>xs[i+m]?:=rfl
 rw[e2]at this;rw[this]
theorem gu{t sl:Addr}{items:Array Value}{vl vu:Value}{lo hi:Option Int}{Q:Value->Shared->Prop}(ht:IsTup s.heap t items)(hs:s.heap.IsSliceOf sl vl vu .none)(pl:IsPart vl lo)(pu:IsPart vu hi)
  (hw:¬ (sIx items.size 0 lo=0/\sIx items.size items.size hi=items.size))
  (h:Q (.ref s.heap.objs.size) {s with heap:=s.heap.push {cls:=.type "tuple",data:=.seq ((items.toList.drop (sIx items.size 0 lo)).take (sIx items.size items.size hi-sIx items.size 0 lo)).toArray}})
  (hsz:items.size<=sizeLine):wpAny (model prog w) A (getItem (.ref t) (.ref sl)) Q E s:=by
 have Ie:sizeOk (.seq ((items.toList.drop (sIx items.size 0 lo)).take (sIx items.size items.size hi-sIx items.size 0 lo)).toArray):=by
  show((items.toList.drop (sIx items.size 0 lo)).take (sIx items.size items.size hi-sIx items.size 0 lo)).toArray.size<=sizeLine;rw[Pu,Qe,RF,Pw];lia
 have hj:sIx items.size items.size hi<=items.size:=qv _ _ (Py _) hi;obtain⟨os,JE,Nm,JF⟩:=id hs;have NU:s.TypeIs (.ref sl) "slice":=⟨os,JE,Nm⟩
 unfold getItem;try with_reducible refine QH ?_
 first|refine Po (Pp ?_)|skip
 refine Po (wpAny_sequenceKey ht.typeIs (by decide) ?_);refine Po (wpAny_callSpecial?_slot (name:=Str.ofString "__getitem__") ht.typeIs QU
  (QA QU ht.typeIs entry_tuple_getitem ?_ (args_tuple_getitem _ _)))
 show wpAny _ _ (Builtin.Tuple.tupleItemsOf (.ref t) >>= _) _ _ s;refine Po (tupleItemsOf_ ht ?_);refine Po (RP NU ?_);rw[PF (by decide)];refine Po (dF hs pl pu ?_);have Kx:¬ ((((sIx items.size 0 lo:Nat):Int)==0&&(1:Int)==1&&(sIx items.size items.size hi-sIx items.size 0 lo)==items.size)=true):=by
  intro q;rw[PL,PL]at q;have q1:((sIx items.size 0 lo:Nat):Int)=0:=eq_of_beq q.1.1;have q2:sIx items.size items.size hi-sIx items.size 0 lo=items.size:=eq_of_beq q.2;exact hw ⟨by lia,by lia⟩
 show wpAny _ _ (if(((sIx items.size 0 lo:Nat):Int)==0&&(1:Int)==1&&(sIx items.size items.size hi-sIx items.size 0 lo)==items.size)=true then _ else _) _ _ s;rw[PM Kx,ug];first
  |exact Po (m:=Builtin.Tuple.tupleExact _) (QC (Pp ⟨_,rfl,Pp h⟩) Ie)
  |exact Po (m:=Builtin.Tuple.tupleExact _) (QC (Po (Pp (Pp ⟨_,rfl,Pp h⟩))) Ie)
  |exact Po (Po (m:=Builtin.Tuple.tupleExact _) (QC (Pp (Pp ⟨_,rfl,Pp h⟩)) Ie))
  |exact Po (Po (m:=Builtin.Tuple.tupleExact _) (QC (Pp ⟨_,rfl,Pp h⟩) Ie))
end
end HT
namespace L2
open PySem PySem.Spec PyProof.Rows
abbrev TO:=St->Hp->(Option Int->Hp->Prop)->Prop
def PO(X:Cx)(e:Option Expr)(t:TO):Prop:=
 ∀(pi:List (Addr×Obj)) (s:Shared) (σ:St) (H:Hp) (Q:Option Int->Hp->Prop),Inv X pi σ H s->t σ H Q->
  wpAny (model X.prog X.w) X.A (evalPart e X.env) (fun u s'=>∃o H',Inv X pi σ H' s'/\IsPart u o/\Q o H') X.xe s
def wX:TO:=fun _ H Q=>Q none H
def B8(t:TE):TO:=fun σ H Q=>t σ H fun x H1=>∃i,x=.int i/\Q (some i) H1
section
variable{X:Cx}{e:Expr}{te:TE}{lo hi:Option Expr}{tl th:TO}{pos p2:Pos}
theorem wY:PO X none wX:=by
 intro pi s σ H Q I h;rw[evalPart_none];exact Pp ⟨none,H,I,.none,h⟩
theorem wZ(h:PE X e te):PO X (some e) (B8 te):=by
 intro pi s σ H Q I hw;rw[evalPart_some];refine EG (h pi s σ H _ I hw) fun u s1 EM=>?_
 obtain⟨x,H1,I1,r1,q1⟩:=EM;obtain⟨i,rfl,q⟩:=q1;obtain⟨t,rfl⟩:=r1;exact⟨some i,H1,I1,.int i t,q⟩
def KR(X:Cx)(r:V->Option Int->Option Int->Hp->VK->Prop):Prop:=
 ∀(pi:List (Addr×Obj)) (s:Shared) (σ:St) (H:Hp) (x:V) (v vl vu:Value) (lo hi:Option Int) (sl:Addr) (Q:VK),Inv X pi σ H s->RelV x v->s.heap.IsSliceOf sl vl vu .none->IsPart vl lo->IsPart vu hi->r x lo hi H Q->
  ∃T id,typeLookup (.type T) "__getitem__" = pure (some (.builtin id))/\s.TypeIs v T/\wpAny (model X.prog X.w) X.A (getItem v (.ref sl)) (EP X pi σ Q) X.xe s
def tSl(r:V->Option Int->Option Int->Hp->VK->Prop)(te:TE)(tl th:TO):TE:=fun σ H Q=>te σ H fun x H1=>tl σ H1 fun l H2=>th σ H2 fun u H3=>r x l u H3 Q
theorem uh{r:V->Option Int->Option Int->Hp->VK->Prop}(hr:KR X r)(he:PE X e te)(hl:PO X lo tl)(hu:PO X hi th):PE X (.Subscript e (.Slice lo hi none p2) pos) (tSl r te tl th):=by
 intro pi s σ H Q I h;refine Subscript_ (EG (he pi s σ H _ I h) fun v s1 EM=>?_);obtain⟨x,H1,I1,r1,q1⟩:=EM;refine wpAny_Slice (EG (hl pi s1 σ H1 _ I1 q1) fun vl s2 ⟨l,H2,I2,pl,q2⟩=>EG (hu pi s2 σ H2 _ I2 q2) fun vu s3 EM=>?_);obtain⟨u,H3,I3,pu,q3⟩:=EM;rw[evalPart_none];refine Pp ?_;have I4:Inv X pi σ H3 {s3 with heap:=s3.heap.push {cls:=.type "slice",data:=.fields #[vl,vu,.none]}}:=I3.kept (t':=s3.toks) fun b ob q=>Heap.get?_push_of_some _ q
 obtain⟨T,id,hT,ht,hg⟩:=hr pi {s3 with heap:=s3.heap.push {cls:=.type "slice",data:=.fields #[vl,vu,.none]}} σ H3 x v vl vu l u s3.heap.objs.size Q I4 r1 (Heap.IsSliceOf.new ..) pl pu q3;show wpAny (model X.prog X.w) X.A (subscriptTail e (.Slice lo hi none p2) v (.ref s3.heap.objs.size)) (EP X pi σ Q) X.xe {s3 with heap:=s3.heap.push {cls:=.type "slice",data:=.fields #[vl,vu,.none]}};exact tail_any (ops:=[.ref s3.heap.objs.size,v]) ht hT hg (by with_unfolding_all rfl)
def vL(xs:List V)(lo hi:Option Int):List V:=(xs.drop (HT.sIx xs.length 0 lo)).take (HT.sIx xs.length xs.length hi-HT.sIx xs.length 0 lo)
theorem ik(xs:List V)(lo hi:Option Int):(vL xs lo hi).length<=xs.length:=by
 unfold vL;rw[Qe,RF];lia
def DO(K:W.Frag):V->Option Int->Option Int->Hp->VK->Prop:=fun x lo hi H Q=>∃a xs,x=.ref a/\SqT K H a xs/\
 ¬ (HT.sIx xs.length 0 lo=0/\HT.sIx xs.length xs.length hi=xs.length)/\∀p,H p=none->Q (.ref p) (upd H p (.tup (vL xs lo hi)))
theorem zI:KR X (DO X.K):=by
 intro pi s σ H x v vl vu lo hi sl Q I rx hs pl pu h;obtain⟨a,xs,rfl,hx,hw,q⟩:=h;cases rx;obtain⟨Er,r,ht,hz⟩:=I.tuple hx;have hlen:Er.toArray.size=xs.length:=by rw[Pu];exact r.length.symm
 refine⟨"tuple",_,PyProof.Rows.slot_tuple_getitem.lookup,ht.typeIs,?_⟩;refine HT.gu ht hs pl pu (by rw[hlen];exact hw) ?_ (by rw[hlen];exact hz);rw[hlen];refine⟨.ref s.heap.objs.size,_,I.laid (t':=s.toks) (o:=.tup (vL xs lo hi)) (fun b ob q=>Heap.get?_push_of_some _ q) (Py _) ?_,rfl,q _ (I.hok.fresh (Py _))⟩;exact⟨Qc (ik xs lo hi) hz,_,(r.drop (HT.sIx xs.length 0 lo)).take (HT.sIx xs.length xs.length hi-HT.sIx xs.length 0 lo),IsTupN.new _ _⟩
def B9(K:W.Frag):R2:=fun x y H Q=>∃a b xs ys,x=.ref a/\y=.ref b/\SqT K H a xs/\SqT K H b ys/\xs≠[]/\xs.length+ys.length<=sizeLine/\
 (ys=[]->Q (.ref a) H)/\(ys≠[]->∀p,H p=none->Q (.ref p) (upd H p (.tup (xs++ys))))
theorem Vals.nil_iff{xs:List V}{us:List Value}(r:Vals xs us):us=[]<->xs=[]:=by
 cases r with
 |nil=>simp
 |cons _ _=>simp
theorem w4:EX X (binaryOp .Add) (B9 X.K):=by
 intro pi s σ H x y v u Q I rx ry h;obtain⟨a,b,xs,ys,rfl,rfl,ha,hb,hx,hz,q1,q2⟩:=h;cases rx;cases ry;obtain⟨Er,r1,p1,_⟩:=I.tuple ha;obtain⟨HL,r2,p2,_⟩:=I.tuple hb;refine HT.wW p1 p2 (fun z=>hx (r1.nil_iff.mp z)) (fun z=>⟨.ref a,H,I,rfl,q1 (r2.nil_iff.mp z)⟩) (fun z=>?_) (by rw[<-r1.length,<-r2.length];exact hz);refine⟨.ref s.heap.objs.size,_,I.laid (t':=s.toks) (o:=.tup (xs++ys)) (fun b ob q=>Heap.get?_push_of_some _ q) (Py _) ?_,rfl,q2 (fun w=>z (r2.nil_iff.mpr w)) _ (I.hok.fresh (Py _))⟩;exact⟨by rw[Qb];exact hz,_,r1.append r2,IsTupN.new _ _⟩
end
def ixN(n:Nat)(i:Int):Option Nat:=if 0<=i then(if i<n then some i.toNat else none) else if -(n:Int)<=i then some (i+n).toNat else none
def Ft{α:Type}(xs:List α)(i:Int):Option α:=(ixN xs.length i).bind fun j=>xs[j]?
theorem qx{n:Nat}{i:Int}{j:Nat}(h:ixN n i=some j):seqIndex? i n=some j/\j<n/\-(n:Int)<=i/\i<n:=by
 unfold ixN at h;by_cases h0:0<=i
 ·rw[PF h0]at h;by_cases h1:i<n
  ·rw[PF h1]at h;have e:i.toNat=j:=PZ h;exact⟨by rw[seqIndex_of h0 h1,e],by lia,by lia,h1⟩
  ·rw[PM h1]at h;cases h
 ·rw[PM h0]at h;by_cases h1:-(n:Int)<=i
  ·rw[PF h1]at h;have e:(i+n).toNat=j:=PZ h;exact⟨by rw[seqIndex_neg (by lia) h1,e],by lia,h1,by lia⟩
  ·rw[PM h1]at h;cases h
theorem mG{α:Type}{xs:List α}{i:Int}{v:α}(h:Ft xs i=some v):∃j,seqIndex? i xs.length=some j/\xs[j]?=some v/\j<xs.length/\-(xs.length:Int)<=i/\i<xs.length:=by
 unfold Ft at h;cases e:ixN xs.length i with
 |none=>rw[e]at h;cases h
 |some j=>
  rw[e]at h;obtain⟨h1,h2,h3,h4⟩:=qx e;exact⟨j,h1,h,h2,h3,h4⟩
theorem dN{α:Type}{xs:List α}{j:Nat}{v:α}(h:xs[j]?=some v):Ft xs (j:Int)=some v:=by
 have hj:j<xs.length:=(List.getElem?_eq_some_iff.mp h).1;have e:ixN xs.length (j:Int)=some j:=by
  unfold ixN;rw[PF (by lia),PF (by lia)];simp
 unfold Ft;rw[e];exact h
def qy(b:Expr):Prop:=∀o i,subscripted b false o i=operate [o,i] (getItem o i)
def Mp(X:Cx)(r:R2):Prop:=
 ∀(value slice:Expr) (pi:List (Addr×Obj)) (s:Shared) (σ:St) (H:Hp) (x y:V) (v u:Value) (Q:VK),Inv X pi σ H s->RelV x v->RelV y u->r x y H Q->
  subscripted slice false v u=operate [v,u] (getItem v u)->wpAny (model X.prog X.w) X.A (subscriptTail value slice v u) (EP X pi σ Q) X.xe s
def LQ(X:Cx)(id:String)(r:V->List V->Hp->VK->Prop):Prop:=
 ∀(pi:List (Addr×Obj)) (s:Shared) (σ:St) (H:Hp) (x:V) (xs:List V) (v:Value) (us:List Value) (Q:VK),Inv X pi σ H s->RelV x v->Vals xs us->r x xs H Q->
  wpAny (model X.prog X.w) X.A (call (.builtin id) (v::us)) (EP X pi σ Q) X.xe s
section
variable{X:Cx}{a b:Expr}{ta tb:TE}{pos:Pos}
theorem Ca{r:R2}(hr:Mp X r)(ha:PE X a ta)(hb:PE X b tb)(hs:qy b):PE X (.Subscript a b pos) (LP r ta tb):=by
 intro pi s σ H Q I h;exact Subscript_ (B1 ha hb I h fun v u s2 x y H2 I2 rx ry q=>hr a b pi s2 σ H2 x y v u Q I2 rx ry q (hs _ _))
def DP(K:W.Frag):R2:=fun x y H Q=>∃p xs i v,x=.ref p/\y=.int i/\SqL K H p xs/\Ft xs i=some v/\Q v H
def DQ(K:W.Frag):R2:=fun x y H Q=>∃p xs i v,x=.ref p/\y=.int i/\SqT K H p xs/\Ft xs i=some v/\Q v H
def DR:R2:=fun x y H Q=>∃z i c,x=.str z/\y=.int i/\z.length<=sizeLine/\Ft z.cps.toList i=some c/\Q (.str ⟨#[c]⟩) H
theorem w5:Mp X (DP X.K):=by
 intro value slice pi s σ H x y v u Q I rx ry h hs;obtain⟨p,xs,i,z,rfl,rfl,hq,he,q⟩:=h;cases rx;obtain⟨t,rfl⟩:=ry;obtain⟨Er,r,pl,hz⟩:=I.list hq;obtain⟨j,h1,h2,h3,h4,h5⟩:=mG he;obtain⟨w,ew,Iq⟩:=r.get h2;have hl:=r.length;have hn:=jr;have fin:EP X pi σ Q w s:=⟨z,H,I,Iq,q⟩
 by_cases h0:0<=i
 ·have hj:i.toNat=j:=by
   rw[seqIndex_of h0 h5]at h1;exact PZ h1
  exact item_listR pl.isList h0 (by lia) (by rw[hj];simpa using ew) fin hs
 ·have hj:(i+(Er.toArray.size:Int)).toNat=j:=by
   rw[seqIndex_neg (by lia) h4]at h1;rw[Pu,<-hl];exact PZ h1
  exact subscriptTail_builtinR (x:=w) pl.isList.typeIs slot_list_getitem.lookup
   (wpAny_getItem_list_neg (Q:=fun r s'=>r=w/\EP X pi σ Q r s') pl.isList (by lia) (by rw[Pu] <;> lia) (by lia) (by rw[hj];simpa using ew) ⟨rfl,fin⟩) hs
theorem zJ:Mp X (DQ X.K):=by
 intro value slice pi s σ H x y v u Q I rx ry h hs;obtain⟨p,xs,i,z,rfl,rfl,hq,he,q⟩:=h;cases rx;obtain⟨t,rfl⟩:=ry;obtain⟨Er,r,pl,hz⟩:=I.tuple hq;obtain⟨j,h1,h2,h3,h4,h5⟩:=mG he;obtain⟨w,ew,Iq⟩:=r.get h2;have hl:=r.length;have hn:=jr;have fin:EP X pi σ Q w s:=⟨z,H,I,Iq,q⟩
 exact subscriptTail_builtinR (x:=w) pl.typeIs slot_tuple_getitem.lookup
  (getItem_tuple (j:=j) (Q:=fun r s'=>r=w/\EP X pi σ Q r s') pl (by lia) (by lia) (by rw[Pu,<-hl];exact h1) (by simpa using ew) ⟨rfl,fin⟩) hs
theorem zL:Mp X DR:=by
 intro value slice pi s σ H x y v u Q I rx ry h hs;obtain⟨z,i,c,rfl,rfl,hz,he,q⟩:=h;obtain⟨t,rfl⟩:=rx;obtain⟨t',rfl⟩:=ry;obtain⟨j,h1,h2,h3,h4,h5⟩:=mG he;have hl:z.cps.toList.length=z.length:=by simp[Str.length]
 rw[hl]at h1 h4 h5;have hn:=jr;exact tail_any (T7 s z t) slot_str_getitem.lookup (getItem_str (c:=c) (by
  have e1:decide (i < -(2 ^ 63:Int))=false:=PN (by lia);have e2:decide (i>=2 ^ 63)=false:=PN (by lia);rw[e1,e2,Bool.or_false]) (by rw[h1];simpa using h2) ⟨.str ⟨#[c]⟩,H,I.tok _,⟨_,rfl⟩,q⟩) hs
theorem ph(Er:List Value)(n j:Nat)(u:Value):Obj.mapSeq (·.setIfInBounds j u) {cls:=.type "list",data:=.seq Er.toArray n}={cls:=.type "list",data:=.seq (Er.set j u).toArray n}:=by
 simp[Obj.mapSeq]
theorem Inv.lst{pi:List (Addr×Obj)}{σ:St}{H:Hp}{s:Shared}{p:Addr}{xs:List V}(I:Inv X pi σ H s)(h:H p=some (.lst xs)):
  ∃(Er:List Value) (n:Nat),Vals xs Er/\s.heap.get? p=some {cls:=.type "list",data:=.seq Er.toArray n}/\xs.length<=sizeLine:=by
 obtain⟨z,Er,n,r,e⟩:=I.hok p _ h;exact⟨Er,n,r,e,z⟩
theorem Inv.lstUpd{pi:List (Addr×Obj)}{σ:St}{H:Hp}{s:Shared}{p:Addr}{xs ys:List V}{Er its':List Value}{n n':Nat}{f:Obj->Obj}(I:Inv X pi σ H s)(h:H p=some (.lst xs))
  (ho:s.heap.get? p=some {cls:=.type "list",data:=.seq Er.toArray n}) (hf:f {cls:=.type "list",data:=.seq Er.toArray n}={cls:=.type "list",data:=.seq its'.toArray n'}) (r:Vals ys its') (hz:ys.length<=sizeLine) (t:Nat):
  Inv X pi σ (upd H p (.lst ys)) {s with heap:=s.heap.update p f,toks:=t}:=by
 have e:(s.heap.update p f).get? p=some {cls:=.type "list",data:=.seq its'.toArray n'}:=by
  rw[Heap.get?_update_self f ho (by rw[hf] <;> rfl),hf]
 refine I.write (x:=p) (e:=p) (by rw[h];trivial) (.inl rfl) (fun b u hb q=>(Heap.get?_update_other _ _ (Rt hb)).trans q) ⟨_,e⟩ ?_;exact⟨hz,its',n',r,e⟩
def zM:V->V->V->Hp->(Hp->Prop)->Prop:=fun o i v H Q=>∃p xs k j,o=.ref p/\i=.int k/\H p=some (.lst xs)/\ixN xs.length k=some j/\Q (upd H p (.lst (xs.set j v)))
theorem uk:DE X zM:=by
 intro pi s σ H o i v ov iv u Q I ro ri rv h;obtain⟨p,xs,k,j,rfl,rfl,hp,hj,q⟩:=h;cases ro;obtain⟨t,rfl⟩:=ri;obtain⟨Er,n,r,ho,hz⟩:=I.lst hp;obtain⟨h1,h2,h3,h4⟩:=qx hj;have hl:=r.length;have hn:=jr;have I':Inv X pi σ (upd H p (.lst (xs.set j v))) {s with heap:=s.heap.update p (Obj.mapSeq (·.setIfInBounds j u))}:=
  I.lstUpd hp ho (ph Er n j u) (r.set rv j) (by rw[Sf];exact hz) s.toks
 by_cases h0:0<=k
 ·have hk:k.toNat=j:=by
   rw[seqIndex_of h0 h4]at h1;exact PZ h1
  exact PySem.W.ki_setAt ho h0 (by lia) (by rw[Pu,<-hl];exact h4) (by rw[hk];exact⟨_,I',q⟩)
 ·have hk:(k+(Er.toArray.size:Int)).toNat=j:=by
   rw[seqIndex_neg (by lia) h3]at h1;rw[Pu,<-hl];exact PZ h1
  exact PySem.W.ki_setBack ho (by lia) (by rw[Pu,<-hl];exact h3) (by lia) (by rw[hk];exact⟨_,I',q⟩)
theorem kX(lo hi:Option Int)(n:Nat):(sliceBounds lo hi none n).1=((HT.sIx n 0 lo:Nat):Int)/\(sliceBounds lo hi none n).2.1=((HT.sIx n n hi:Nat):Int)/\(sliceBounds lo hi none n).2.2=1:=by
 refine⟨?_,?_,rfl⟩
 ·cases lo with
  |none=>simp[sliceBounds,HT.sIx]
  |some i=>
   simp only[sliceBounds,HT.sIx,Tp,show(1:Int)>0 by decide,Rg];by_cases h:i<0
   ·simp only[h,Rg] <;> lia
   ·simp only[h,Qy] <;> lia
 ·cases hi with
  |none=>simp[sliceBounds,HT.sIx]
  |some i=>
   simp only[sliceBounds,HT.sIx,Tp,show(1:Int)>0 by decide,Rg];by_cases h:i<0
   ·simp only[h,Rg] <;> lia
   ·simp only[h,Qy] <;> lia
theorem jI(Er:List Value)(lo hi:Option Int):slicePick Er.toArray lo hi none=((Er.drop (HT.sIx Er.length 0 lo)).take (HT.sIx Er.length Er.length hi-HT.sIx Er.length 0 lo)).toArray:=by
 obtain⟨h1,h2,h3⟩:=kX lo hi Er.toArray.size;unfold slicePick;rw[h1,h2,h3];simp only[sliceRange_one,pick_run,Pu] <;> rfl
def DS(K:W.Frag):V->Option Int->Option Int->Hp->VK->Prop:=fun x lo hi H Q=>∃a xs,x=.ref a/\SqL K H a xs/\∀p,H p=none->Q (.ref p) (upd H p (.lst (vL xs lo hi)))
theorem w6:KR X (DS X.K):=by
 intro pi s σ H x v vl vu lo hi sl Q I rx hs pl pu h;obtain⟨a,xs,rfl,hx,q⟩:=h;cases rx;obtain⟨Er,r,ht,hz⟩:=I.list hx;have hlen:=r.length;refine⟨"list",_,slot_list_getitem.lookup,ht.isList.typeIs,?_⟩;refine wpAny_getItem_list_slice ht.isList hs pl pu .none (by simp) ?_ (by rw[Pu] <;> lia);rw[jI,<-hlen];refine⟨.ref s.heap.objs.size,_,I.laid (t':=s.toks) (o:=.lst (vL xs lo hi)) (fun b ob q=>Heap.get?_push_of_some _ q) (Py _) ?_,rfl,q _ (I.hok.fresh (Py _))⟩;exact⟨Qc (ik xs lo hi) hz,_,0,(r.drop (HT.sIx xs.length 0 lo)).take (HT.sIx xs.length xs.length hi-HT.sIx xs.length 0 lo),Heap.get?_push_size _ rfl⟩
def um:V->Bool
 | .non=>true
 | .bl _=>true
 | .int _=>true
 | .str _=>true
 |_=>false
def NV:V->V->Bool
 | .non,.non=>true
 | .bl a,.bl b=>a==b
 | .bl a,.int b=>(if a then 1 else 0)==b
 | .int a,.bl b=>a==(if b then 1 else 0)
 | .int a,.int b=>a==b
 | .str a,.str b=>a==b
 |_,_=>false
theorem vM{A:Around}{s:Shared}{y x:V}{u v:Value}(ry:RelV y u)(rx:RelV x v)(fy:um y=true)(fx:um x=true):SeqAt.EqAt A s u v (NV y x):=by
 cases y with
 |non=>
  cases ry;cases x with
  |non=>cases rx;exact SeqAt.EqAt.same _
  |bl b=>cases rx;exact SeqAt.EqAt.none_bool b
  |int b=>obtain⟨t,rfl⟩:=rx;exact SeqAt.EqAt.none_int b t
  |str b=>obtain⟨t,rfl⟩:=rx;exact SeqAt.EqAt.none_str b t
  |_=>exact absurd (show false=true from fx) Pt
 |bl a=>
  cases ry;cases x with
  |non=>cases rx;exact SeqAt.EqAt.bool_none a
  |bl b=>cases rx;exact SeqAt.EqAt.bool_bool a b
  |int b=>obtain⟨t,rfl⟩:=rx;exact SeqAt.EqAt.bool_int a b t
  |str b=>obtain⟨t,rfl⟩:=rx;exact SeqAt.EqAt.bool_str a b t
  |_=>exact absurd (show false=true from fx) Pt
 |int a=>
  obtain⟨t',rfl⟩:=ry;cases x with
  |non=>cases rx;exact SeqAt.EqAt.int_none a t'
  |bl b=>cases rx;exact SeqAt.EqAt.int_bool a t' b
  |int b=>obtain⟨t,rfl⟩:=rx;exact SeqAt.EqAt.int_int a t' b t
  |str b=>obtain⟨t,rfl⟩:=rx;exact SeqAt.EqAt.int_str a t' b t
  |_=>exact absurd (show false=true from fx) Pt
 |str a=>
  obtain⟨t',rfl⟩:=ry;cases x with
  |non=>cases rx;exact SeqAt.EqAt.str_none a t'
  |bl b=>cases rx;exact SeqAt.EqAt.str_bool a t' b
  |int b=>obtain⟨t,rfl⟩:=rx;exact SeqAt.EqAt.str_int a t' b t
  |str b=>obtain⟨t,rfl⟩:=rx;exact SeqAt.EqAt.str_str a t' b t
  |_=>exact absurd (show false=true from fx) Pt
 |_=>exact absurd (show false=true from fy) Pt
theorem gI:dr X (.builtin "len") (fun xs H Q=>∃p ys,xs=[.ref p]/\(SqL X.K H p ys\/SqT X.K H p ys)/\Q (.int ys.length) H):=by
 intro pi s σ H xs us Q I r h;obtain⟨p,ys,rfl,hq,q⟩:=h;obtain⟨u,rfl,rx⟩:=fN r;cases rx;have hn:=jr;rcases hq with hq|hq
 ·obtain⟨Er,r',pl,hz⟩:=I.list hq;have hlen:=r'.length;exact Calls.call_len_list pl.isList (by simp only[Pu] <;> lia) ⟨.int ys.length,H,I.tok _,⟨s.toks+1,by rw[Pu,hlen]⟩,q⟩
 ·obtain⟨Er,r',pl,hz⟩:=I.tuple hq;have hlen:=r'.length;exact len_tuple pl (by simp only[Pu] <;> lia) ⟨.int ys.length,H,I.tok _,⟨s.toks+1,by rw[Pu,hlen]⟩,q⟩
theorem kY:dr X (.builtin "len") (fun xs H Q=>∃z,xs=[.str z]/\z.length<=sizeLine/\Q (.int z.length) H):=by
 intro pi s σ H xs us Q I r h;obtain⟨z,rfl,hz,q⟩:=h;obtain⟨u,rfl,t,rfl⟩:=fN r;have hn:=jr;exact len_str (by lia) ⟨.int z.length,H,I.tok _,⟨_,rfl⟩,q⟩
theorem fO:dr X (.type "tuple") (fun xs H Q=>∃p ys,xs=[.ref p]/\((SqL X.K H p ys/\∀l,H l=none->Q (.ref l) (upd H l (.tup ys)))\/(SqT X.K H p ys/\Q (.ref p) H))):=by
 intro pi s σ H xs us Q I r h;obtain⟨p,ys,rfl,h⟩:=h;obtain⟨u,rfl,rx⟩:=fN r;cases rx;rcases h with⟨hq,q⟩|⟨hq,q⟩
 ·obtain⟨Er,r',pl,hz⟩:=I.list hq;have hlen:=r'.length;refine call_tuple_list pl.isList (fun h' kp=>?_) (by simp only[Pu] <;> lia);have I1:Inv X pi σ H {s with heap:=h'}:=I.kept (t':=s.toks) kp;have I2:Inv X pi σ (upd H h'.objs.size (.tup ys)) {s with heap:=h'.push {cls:=.type "tuple",data:=.seq Er.toArray}}:=
   I1.laid (t':=s.toks) (fun b o e=>Heap.get?_push_of_some _ e) (Py _) (show ObjOk X.prog X.w _ _ _ (.tup ys) from⟨hz,Er,r',IsTupN.new _ _⟩)
  exact⟨.ref h'.objs.size,_,I2,rfl,q _ (I1.hok.fresh (Py _))⟩
 ·obtain⟨Er,r',pl,hz⟩:=I.tuple hq;exact call_tuple_same pl ⟨.ref p,H,I,rfl,q⟩
def NW(K:W.Frag)(T:String)(x:V)(H:Hp):Prop:=match x with
 | .str _=>T = "str"
 | .int _=>T = "int"
 | .ref p=>(T = "list"/\∃xs,SqL K H p xs)\/(T = "tuple"/\∃o,K.lookup p=some o/\o.cls=.type "tuple"/\o.dict=none)\/
   (T = "dict"/\((∃kvs,H p=some (.dK kvs))\/∃kvs,H p=some (.dT kvs)))\/(T = "set"/\∃S n,H p=some (.set S n))
 |_=>False
theorem zN{pi:List (Addr×Obj)}{σ:St}{H:Hp}{s:Shared}{T:String}{x:V}{v:Value}(I:Inv X pi σ H s)(r:RelV x v)(ty:NW X.K T x H):
  s.TypeIs v T/\∀a,v=.ref a->∃ob,s.heap.get? a=some ob/\ob.dict=none:=by
 cases x with
 |str z=>
  obtain⟨t,rfl⟩:=r;cases(show T = "str" from ty);exact⟨T7 s z t,fun _ e=>nomatch e⟩
 |int i=>
  obtain⟨t,rfl⟩:=r;cases(show T = "int" from ty);exact⟨T8 s i t,fun _ e=>nomatch e⟩
 |ref p=>
  cases r;rcases ty with⟨rfl,xs,hq⟩|⟨rfl,o,hk,hc,hd⟩|⟨rfl,hk⟩|⟨rfl,S,n,hk⟩
  ·obtain⟨Er,_,pl,_⟩:=I.list hq;refine⟨pl.isList.typeIs,fun a e=>?_⟩;cases e;obtain⟨o,n,e,c,hd,_⟩:=pl;exact⟨o,e,hd⟩
  ·refine⟨⟨o,I.kIn p o hk,hc⟩,fun a e=>?_⟩;cases e;exact⟨o,I.kIn _ o hk,hd⟩
  ·have z:∃o,s.heap.get? p=some o/\o.ExactDict:=by
    rcases hk with⟨kvs,hk⟩|⟨kvs,hk⟩
    ·obtain⟨_,_,_,_,o,_,_,e,ex,_⟩:=I.hok p _ hk;exact⟨o,e,ex⟩
    ·obtain⟨_,_,_,_,o,_,_,e,ex,_⟩:=I.hok p _ hk;exact⟨o,e,ex⟩
   obtain⟨o,e,ex⟩:=z;refine⟨⟨o,e,ex.1⟩,fun a e2=>?_⟩;cases e2;exact⟨o,e,ex.2.1⟩
  ·obtain⟨o,_,_,_,e,ex,_⟩:=I.hok p _ hk;refine⟨⟨o,e,ex.1⟩,fun a e2=>?_⟩;cases e2;exact⟨o,e,ex.2.1⟩
 |_=>exact False.elim ty
def tBM(K:W.Frag)(T:String)(r:V->List V->Hp->VK->Prop)(to:TE)(t:TA):TE:=fun σ H Q=>to σ H fun x H1=>NW K T x H1/\t σ H1 fun xs H2=>r x xs H2 Q
variable{o e:Expr}{es:List Expr}{to:TE}{t:TA}{name:Str}{apos EH:Pos}{T id:String}{r:V->List V->Hp->VK->Prop}
theorem zO(pa:PlainAttrs T)(slot:Slot T name id)(JG:typeOf (.builtin id)=pure (.type "method_descriptor"))(hm:LQ X id r)(ho:PE X o to)(ha:PA X (e::es) t)
  (FN:attributeBase o name X.env (eval o X.env)=eval o X.env:=by rfl)
  (GQ:((backTo EH (starEach (e::es) X.env)).all (fun x=>!x.1)&&(backToKw EH (keywordEach [] X.env)).all (fun x=>x.1.isSome)
   && decide ((e::es).length+([]:List Keyword).length+(if([]:List Keyword).isEmpty then 0 else 1)<30))=true:=by rfl)
  (FQ:(apos.endLine==EH.line)=true:=by rfl) (hs:starEach (e::es) X.env=(false,eval e X.env)::starEach es X.env:=by rfl) (Fh:(backTo EH (starEach es X.env)).any (·.1)=false:=by rfl):
  PE X (.Call (.Attribute o name apos) (e::es) [] EH) (tBM X.K T r to t):=by
 intro pi s σ H Q I h;refine wpAny_Call_method_late FN GQ FQ rfl (EG (ho pi s σ H _ I h) fun v s1 EM=>?_);obtain⟨x,H1,I1,r1,ty,q1⟩:=EM;obtain⟨h1,h2⟩:=zN I1 r1 ty;refine⟨T,id,pa,slot,JG,h1,h2,?_⟩;have hA:=ha EH pi s1 σ H1 _ I1 q1;rw[hs]at hA ⊢;refine Sl (by show(false||(backTo EH (starEach es X.env)).any (·.1))=false;rw[Fh] <;> rfl) (RZ ?_);exact EG hA fun us s2 ⟨vs,H2,I2,r2,q2⟩=>hm pi s2 σ H2 x vs v us Q I2 r1 r2 q2
end
def MtM(X:Cx)(id:String)(r:V->List V->Hp->VK->Prop):Prop:=
 ∀(pi:List (Addr×Obj)) (s:Shared) (σ:St) (H:Hp) (x:V) (xs:List V) (v:Value) (us:List Value) (Q:VK),Inv X pi σ H s->RelV x v->Vals xs us->r x xs H Q->
  wpAny (model X.prog X.w) X.A (call (.builtin id) (v::us)) (EP X pi σ Q) X.xe s
theorem Vals.one:∀{x:V}{us:List Value},Vals [x] us->∃u,us=[u]/\RelV x u
 |_,_,.cons r .nil=>⟨_,rfl,r⟩
theorem Vals.rep{xs:List V}{us:List Value}(h:Vals xs us):∀k:Nat,Vals (List.replicate k xs).flatten (List.replicate k us).flatten
 | 0=>.nil
 |k+1=>by
  rw[QV,QV,Rb,Rb];exact Vals.append h (Vals.rep h k)
theorem kZ(Er:List Value):∀(k:Nat) (acc:List Value),
  List.foldl (fun x1 x2=>x1++x2) acc.toArray (List.replicate k Er.toArray)=(acc++(List.replicate k Er).flatten).toArray
 | 0,acc=>by simp
 |k+1,acc=>by
  have e:acc.toArray++Er.toArray=(acc++Er).toArray:=by simp
  have e2:(acc++Er)++(List.replicate k Er).flatten=acc++(List.replicate (k+1) Er).flatten:=by
   rw[QV,Rb,Qp]
  rw[<-e2,<-kZ Er k (acc++Er),<-e,QV,QF]
section
variable{X:Cx}{pi:List (Addr×Obj)}{σ:St}{H:Hp}{s:Shared}{l b:Addr}{xs ys zs:List V}
theorem Inv.lset{Er its':List Value}{n:Nat}{f:Array Value->Array Value}{t':Nat}(I:Inv X pi σ H s)(hH:H l=some (.lst xs))
  (e:s.heap.get? l=some {cls:=.type "list",data:=.seq Er.toArray n}) (hf:f Er.toArray=its'.toArray) (hv:Vals ys its') (hz:ys.length<=sizeLine):
  Inv X pi σ (upd H l (.lst ys)) {s with heap:=s.heap.update l (Obj.mapSeq f),toks:=t'}:=by
 have q:=PySem.IsL.update e f;rw[hf]at q;refine I.write (x:=l) (e:=l) (by rw[hH];exact trivial) (.inl rfl) (fun b' u hb hu=>(Heap.get?_update_other s.heap (Obj.mapSeq f) (Rt hb)).trans hu) ⟨_,q⟩ ?_;exact⟨hz,its',_,hv,q⟩
theorem Inv.lnew{Er:List Value}{t':Nat}(I:Inv X pi σ H s)(hv:Vals ys Er)(hz:ys.length<=sizeLine):
  Inv X pi σ (upd H s.heap.objs.size (.lst ys)) {s with heap:=s.heap.push {cls:=.type "list",data:=.seq Er.toArray},toks:=t'}:=
 I.laid (fun _ _ q=>Heap.get?_push_of_some _ q) (Py _) ⟨hz,Er,0,hv,Heap.get?_push_size _ rfl⟩
theorem Inv.fresh(I:Inv X pi σ H s):H s.heap.objs.size=none:=I.hok.fresh (Py _)
theorem Inv.lstM(I:Inv X pi σ H s)(hH:H l=some (.lst xs)):xs.length<=sizeLine/\∃(Er:List Value) (n:Nat),Vals xs Er/\xs.length=Er.length/\s.heap.get? l=some {cls:=.type "list",data:=.seq Er.toArray n}:=by
 obtain⟨z,Er,n,r,e⟩:=I.hok l _ hH;exact⟨z,Er,n,r,r.length,e⟩
theorem uo{n:Nat}(h:n<=sizeLine):Builtin.List.listTooLong n=false:=by
 unfold Builtin.List.listTooLong;exact PN (by lia)
end
section
variable{X:Cx}
def w9:V->List V->Hp->VK->Prop:=fun x vs H Q=>∃l xs y,x=.ref l/\vs=[y]/\H l=some (.lst xs)/\xs.length<sizeLine/\Q .non (upd H l (.lst (xs++[y])))
theorem k4:MtM X "list.append" w9:=by
 intro pi s σ H x vs v us Q I rx rv h;obtain⟨l,xs,y,rfl,rfl,hH,hz,q⟩:=h;cases rx;obtain⟨u,rfl,ru⟩:=rv.one;obtain⟨z,Er,n,r,hl,e⟩:=I.lstM hH;refine call_meets F.slot_list_append ⟨_,e,rfl⟩ F.entry_list_append (F.args_list_append_2 _ _) (PySem.list_append l Er.toArray n u (by rw[Pu];lia)) ⟨e,?_⟩;refine⟨.non,_,I.lset (its':=Er++[u]) hH e (by simp) (r.append (.cons ru .nil)) ?_,rfl,q⟩;rw[Qb,Qj];lia
theorem jJ{α:Type}(xs:List α)(k:Nat):(List.replicate k xs).flatten.length=k*xs.length:=by
 induction k with
 |zero=>simp
 |succ k ih=>rw[QV,Rb,Qb,ih,Nat.succ_mul,UY]
end
section
variable{prog:Program}{w:World}{A:Around}{E:Value->Shared->Prop}{s:Shared}
end
section
variable{X:Cx}
end
end L2
namespace Att
open PySem PySem.W PySem.Calls PyProof.Rows
theorem il{P:Params}{h:Heap}:∀(ns:List Int) (vs:List Value),WellAll P h vs (ns.map WData.int)->IntsAre vs ns:=by
 intro ns;induction ns with
 |nil=>
  intro vs w;rw[Ro]at w;cases w;exact .nil
 |cons n ns ih=>
  intro vs w;rw[PY]at w;cases w with
  |cons a b=>
   cases a;exact .cons _ _ (ih _ b)
theorem qz{l:OpenLaw}{n:Nat}(hn:l.most=some n){P:Params}{h:Heap}{args:List WData}{vals:List Value}
  (JH:l.row.toRowW.claim.pre args=true) (Nn:WellAll P h vals args):
  ∃a vs ns,vals=[Value.ref a]/\args=[WData.list (ns.map WData.int)]/\h.get? a=some {cls:=.type "list",data:=.seq vs.toArray}/\IntsAre vs ns/\ns.length<=n:=by
 have hsh:WShape.hasAll [] args [.list .int]=true:=(pre_splitW JH).1;have hc:l.pre.holds [] {args:=args}=true:=(pre_splitW JH).2;obtain⟨d,r,rfl,h1,h2⟩:=hasAllW_cons hsh;obtain rfl:=hasAllW_nil h2;obtain⟨xs,rfl,h3⟩:=hasW_list h1;obtain⟨ns,rfl⟩:=items_int h3;have hlen:ns.length<=n:=by
  unfold OpenLaw.pre at hc;have h4:(WTm.not (.lt (.lit (.int (n:Int))) (.len (.arg 0)))).holds [] {args:=[.list (ns.map .int)]}=true:=by
   have h4:=(holds_andW hc).1;rw[hn]at h4;exact h4
  have h5:=condW_of h4 (w_not (w_lt w_lit (w_len_list (w_arg rfl))));rw[Pr]at h5;refine Nat.le_of_not_lt fun q=>?_
  have q':(n:Int)<((ns.length:Nat):Int):=by lia
  first
   |(rw[PR q']at h5;exact absurd h5 (by decide))
   |(simp at h5;lia)
 cases Nn with
 |cons w1 w2=>
  cases w2;cases w1 with
  |list ho FR=>exact⟨_,_,ns,rfl,rfl,ho,il ns _ FR,hlen⟩
theorem qA(l:OpenLaw)(args:List WData):l.row.toRowW.claim.post args (.bool true) args=true:=
 postW_of (r:=l.row.toRowW) (X:=(true==true))
  (show WShape.has [] (.bool true) .bool=true by first|rfl|decide|simp[WShape.has,WShape.arms,WShape.armsAll])
  (show(WTm.eq .res (.lit (.bool true))).value [] {args:=args,res:=some (.bool true),after:=args}=some (.bool (true==true)) from w_eq_bool (w_res rfl) w_lit) rfl
theorem attach_call{l:OpenLaw}{n:Nat}{q:Program}{loose:List Str}{XP:(Str->Option Value)->Heap->Prop}{YP:World->Heap->Prop}{d:DefRec}
  (hn:l.most=some n) (Mq:d.params.defaults=[])
  (call:∀(w:World) (s₀ s₁:Shared) (mg mb:Str->Option Value) (fa:Addr) (o:Obj) (pm cd doc:Value) (a:Addr) (vs:List Value) (ns:List Int),
   Ground q loose [] XP w s₀ mg mb s₁.heap->YP w s₁.heap->
   s₁.heap.get? fa=some o->o.data=.func (docDef d.name d.params d.body d.scope pm cd doc)->s₁.heap.CodeRec cd d.name->mg d.name=some (.ref fa)->
   s₁.heap.get? a=some {cls:=.type "list",data:=.seq vs.toArray}->IntsAre vs ns->ns.length<=n->s₁.gens = #[]->
   codeAny (model l.prog w) callerA (.call (.ref fa) ⟨[.ref a],[]⟩) (fun r s'=>r=.ok (.ret (.bool true))/\OldK s₁.heap s'.heap/\s'.os=s₁.os/\AllBare s'.gens) s₁):
  WalkO q loose XP YP l.row.toRowW d [] (fun f vs=>PySem.call f vs):=by
 intro w s₀ s₁ mg mb G Y fa o pm cd doc dV kV ho hd HJ hD Mr hg args vals as JH Mt hrd Nn OI;obtain rfl:dV=.none:=Dflts.none hD Mq;obtain rfl:kV=.none:=Dflts.noKw hD;obtain⟨a,vs,ns,rfl,rfl,KS,hints,hlen⟩:=qz hn JH Nn;refine enter_call (Sq (call w s₀ s₁ mg mb fa o pm cd doc a vs ns G Y ho (fd_plain hd) HJ Mr KS hints hlen hg) fun r s' hq=>?_);obtain⟨rfl,h2,h3,h4⟩:=hq;exact⟨.inl ⟨.bool true,.bool true,[],rfl,fun _=>rfl,.bool true,qA l _,fun _=>⟨List.Pairwise.nil,fun _ hm=>(nomatch hm)⟩⟩,h2,h3,h4⟩
section
variable{prog:Program}{w:World}{A:Around}{E:Value->Shared->Prop}{s:Shared}{K:Frag}
end
end Att
namespace L2
open PySem PySem.Spec PyProof.Rows
theorem k7:∀{vs:List Value}{ns:List Int},IntsAre vs ns->Vals (ns.map V.int) vs
 |_,_,.nil=>.nil
 |_,_,.cons n t h=>.cons ⟨t,rfl⟩ (k7 h)
def Cb(H:Hp):Prop:=∀b,H b=none\/∃o xs,H b=some (.frz o (.lst xs))
theorem uq{P:Program}{w:World}{K:W.Frag}{mg mb:Str->Option Value}{CX:Io}{k:Nat}{fa a:Addr}{fd:FuncData}{x:Str}{sp:Sp}{s₁:Shared}{vs:List Value}{ns:List Int}
  (KX:K.In s₁.heap) (Np:s₁.heap.Ns mainGlobals mg) (hb:s₁.heap.Ns builtinsNs mb) (Mu:∀x:Str,x≠"__name__"->mb x=bootBuiltins x) (hlim:s₁.heap.NoLimit) (hg:s₁.gens = #[])
  (ha:s₁.heap.get? a=some {cls:=.type "list",data:=.seq vs.toArray}) (hi:IntsAre vs ns) (hl:ns.length<=sizeLine) (hr:Room k callerA)
  (F:∀base:Heap,K.In base->base.Ns mainGlobals mg->FnOk P w K mg base CX k fa fd [x] sp) (Mv:∀(s:Shared) (u:Value),BindsTo s fd ⟨[u],[]⟩ [(x,u)])
  (Jt:∀H:Hp,Cb H->SqL K H a (ns.map V.int)->sp [.ref a] H (fun v _=>v=.bl true) fun _ _ _=>False)
  (NY:∀H e s',CX [] H s₁ (fun _ _ _=>False) e s'->False):
  codeAny (model P w) callerA (.call (.ref fa) ⟨[.ref a],[]⟩) (fun r s'=>r=.ok (.ret (.bool true))/\OldK s₁.heap s'.heap/\s'.os=s₁.os/\AllBare s'.gens) s₁:=by
 have rv:=k7 hi;have lenV:=hi.length;have core:∀H:Hp,Cb H->SqL K H a (ns.map V.int)->HOk P w H s₁.heap->(∀b,H b≠none->b=a)->(H a≠none->K.lookup a=none)->
   codeAny (model P w) callerA (.call (.ref fa) ⟨[.ref a],[]⟩) (fun r s'=>r=.ok (.ret (.bool true))/\OldK s₁.heap s'.heap/\s'.os=s₁.os/\AllBare s'.gens) s₁:=by
  intro H hO hS hok hA hK;have Ig:∀{b:Addr}{o:Obj},s₁.heap.get? b=some o->H b=none->(tV s₁.heap H).get? b=some o:=fun e n=>tW e n
  have Mo:∀{b:Addr}{o:Obj}{es:Array DictEntry}{ep:Nat},s₁.heap.get? b=some o->o.data=.dict es ep->H b=none:=fun{b o es ep} e d=>by
   cases q:H b with
   |none=>rfl
   |some u=>
    have e':b=a:=hA b (by rw[q];simp);subst e';rw[ha]at e;cases e;have d':Data.seq vs.toArray _=Data.dict es ep:=d;cases d'
  have Nq:∀{b:Addr}{m:Str->Option Value},s₁.heap.Ns b m->(tV s₁.heap H).Ns b m:=fun{b m} ⟨o,es,ep,e,d,r⟩=>⟨o,es,ep,Ig e (Mo e d),d,r⟩
  have OJ:K.In (tV s₁.heap H):=fun b o e=>Ig (KX b o e) (by
   cases q:H b with
   |none=>rfl
   |some u=>
    have e':b=a:=hA b (by rw[q];simp);subst e';rw[hK (by rw[q];simp)]at e;cases e)
  have hM:Mod K mg (tV s₁.heap H):=⟨OJ,Nq Np,⟨mb,Nq hb,Mu⟩,let⟨mc,h1,h2⟩:=hlim;⟨mc,Nq h1,h2⟩⟩
  have e0:Env0 P w K mg (tV s₁.heap H) callerA [] s₁ H:=⟨rfl,hM,fun b o e=>wH e,Nat.le_of_eq (qc _ _),trivial,fun b hb=>absurd (show b∈([]:List Addr) from hb) (by simp),hok,.of_eq hg⟩
  refine Sq ((F _ OJ (Nq Np)).run callerA [] s₁ H ⟨[.ref a],[]⟩ [.ref a] [.ref a] _ _ hr e0 (Mv s₁ (.ref a)) (.cons rfl .nil) (Jt H hO hS)) fun r s' h=>?_
  cases r with
  |error e=>exact(NY H e s' h).elim
  |ok fl=>
   cases fl with
   |next=>exact False.elim h
   |brk=>exact False.elim h
   |cont=>exact False.elim h
   |ret u=>
    obtain⟨v,H',os,bare,un,hok',r',q⟩:=h;have q':v=.bl true:=q;subst q';obtain rfl:u=Value.bool true:=r';refine⟨rfl,OldK.of_keep fun b o e=>?_,os,bare⟩;cases q:H b with
    |none=>exact un.keep b o e q (by intro z;exact absurd (show b∈([]:List Addr) from z) (by simp)) (by simp)
    |some u=>
     rcases hO b with z|⟨ob,xs,z⟩
     ·rw[q]at z;cases z
     ·have z2:=un.frzs b ob _ z;obtain⟨e1,_⟩:=hok b _ z;obtain⟨e2,_⟩:=hok' b _ z2;rw[e]at e1;cases e1;exact e2
 cases hk:K.lookup a with
 |some o=>
  have e:=KX a o hk;rw[ha]at e;cases e;refine core (fun _=>none) (fun _=>.inl rfl) (.inr ⟨_,vs.toArray,_,hk,rfl,rfl,rfl,by rw[Pu,lenV];exact hl,by simpa using rv⟩) (fun b u z=>by have z':(none:Option HO)=some u:=z;cases z') (fun b z=>absurd rfl z) fun z=>absurd rfl z
 |none=>
  refine core (fun b=>if b=a then some (.frz {cls:=.type "list",data:=.seq vs.toArray} (.lst (ns.map V.int))) else none) (fun b=>?_) (.inl (.inr ⟨{cls:=.type "list",data:=.seq vs.toArray},PF rfl⟩)) (fun b u z=>?_) (fun b z=>?_) fun _=>hk
  ·by_cases hb:b=a
   ·exact .inr ⟨_,_,PF hb⟩
   ·exact .inl (PM hb)
  ·by_cases hb:b=a
   ·have z':=(PF hb).symm.trans z;cases z';subst hb;exact⟨ha,by rw[Pr];exact hl,vs,_,rv,ha⟩
   ·have z':=(PM hb).symm.trans z;cases z'
  ·by_cases hb:b=a
   ·exact hb
   ·exact absurd (PM hb) z
theorem xa{l:PySem.W.OpenLaw}{n k:Nat}{q:Program}{loose:List Str}{XP:(Str->Option Value)->Heap->Prop}{YP:World->Heap->Prop}{d:DefRec}{K:Params->W.Frag}{CX:World->Io}{sp:World->Sp}{x:Str}
  (hn:l.most=some n) (hn2:n<=sizeLine) (Mq:d.params.defaults=[]) (hr:Room k callerA)
  (hY:∀(w:World) (h:Heap),YP w h->(K w.params).In h)
  (F:∀(w:World) (mg:Str->Option Value) (fa:Addr) (h:Heap),(K w.params).In h->h.Ns mainGlobals mg->mg d.name=some (.ref fa)->
   ∃fd:FuncData,(∀(s:Shared) (u:Value),BindsTo s fd ⟨[u],[]⟩ [(x,u)])/\
    ∀base:Heap,(K w.params).In base->base.Ns mainGlobals mg->FnOk l.prog w (K w.params) mg base (CX w) k fa fd [x] (sp w))
  (Jt:∀(w:World) (H:Hp) (a:Addr) (ns:List Int),ns.length<=n->Cb H->SqL (K w.params) H a (ns.map V.int)->sp w [.ref a] H (fun v _=>v=.bl true) fun _ _ _=>False)
  (NY:∀(w:World) (H:Hp) (s:Shared) (e:Value) (s':Shared),CX w [] H s (fun _ _ _=>False) e s'->False):
  PySem.W.WalkO q loose XP YP l.row.toRowW d [] (fun f vs=>PySem.call f vs):=by
 refine Att.attach_call hn Mq fun w s₀ s₁ mg mb fa o pm cd doc a vs ns G Y ho hd HJ Mr KS hints hlen hg=>?_
 have KX:=hY w _ Y;obtain⟨fd,hb,hF⟩:=F w mg fa _ KX G.T.g Mr;exact uq KX G.T.g G.T.b G.T.builtins G.T.nolimit hg KS hints (Qc hlen hn2) hr hF hb (fun H hO hS=>Jt w H a ns hlen hO hS) fun H e s'=>NY w H s₁ e s'
def dt(s:Stmt):Arguments:=match s with
 | .FunctionDef _ a _ _ _ _ _ _ _ _=>a
 |_=>{posonlyargs:=[],args:=[],vararg:=none,kwonlyargs:=[],kw_defaults:=[],kwarg:=none,defaults:=[]}
def bY(s:Stmt):List Stmt:=match s with
 | .FunctionDef _ _ b _ _ _ _ _ _ _=>b
 |_=>[]
def defScope(s:Stmt):Scope:=match s with
 | .FunctionDef _ _ _ _ _ _ sc _ _ _=>sc
 |_=>{kind:=.function,names:=[],isGenerator:=false,isCoroutine:=false}
abbrev IM:Io:=fun _ _ _ _ _ _=>False
abbrev E0:XK:=fun _ _ _=>False
theorem Cc{X:Cx}:qo IM X E0:=fun _ _ _ _ _ _ _ h=>h.elim
structure Fun(K:W.Frag)(x qual:Str)(st:Stmt)(f:Addr)(fd:FuncData):Prop where
 ex:∃(oc:Value) (od:Option Addr) (kV doc pm:Value) (an:Option Addr) (EV ct:Value) (Ip:Array (Option Value)),
  fd=PySem.W.fnOf x qual (dt st) (bY st) (defScope st) .none kV doc pm an EV ct/\K.lookup f=some ⟨oc,od,.func fd,Ip⟩/\PySem.W.codeIn K EV qual=true
 kp:PySem.W.keepIn K (.ref f)=true
section
variable{P:Program}{w:World}{K:W.Frag}{mg:Str->Option Value}{base:Heap}
theorem Fun.ok{x qual:Str}{st:Stmt}{f:Addr}{fd:FuncData}{N ps:List Str}{k:Nat}{sp:Sp}(F:Fun K x qual st f fd)(S:FnScope N ps (defScope st))(len:∀vs H Q E,sp vs H Q E->vs.length=ps.length)
  (Ht:∀(EV:Value) (A:Around) (outer:List Env) (s:Shared) (H:Hp) (vs:List V) (Q:VK) (E:XK),Room k (A.deeper (envOfC qual (defScope st) s.heap.objs.size f EV))->sp vs H Q E->
   ∃t,PSs (qp IM P w K mg base N qual (defScope st) f EV A outer s H E).nox (bY st) t/\t {nx:=fun _ H'=>Q .non H',rt:=Q} (gR N vs) H):FnOk P w K mg base IM (k+1) f fd ps sp:=by
 obtain⟨oc,od,kV,doc,pm,an,EV,ct,Ip,rfl,lk,HJ⟩:=F.ex;refine zH lk HJ S len fun A outer s H vs Q E hr Jt=>?_
 obtain⟨t,h,q⟩:=Ht EV A outer s H vs Q E hr Jt;exact⟨t,h.nox,q⟩
theorem Fun.binds{x qual:Str}{st:Stmt}{f:Addr}{fd:FuncData}{ps:List Str}(F:Fun K x qual st f fd)
  (h:∀(kV doc pm:Value) (an:Option Addr) (EV ct:Value) (us:List Value),us.length=ps.length->bindArgs (PySem.W.fnOf x qual (dt st) (bY st) (defScope st) .none kV doc pm an EV ct) ⟨us,[]⟩=pure (ps.zip us)):Binds K fd ps []:=by
 obtain⟨oc,od,kV,doc,pm,an,EV,ct,Ip,rfl,lk,HJ⟩:=F.ex;exact .all (h kV doc pm an EV ct)
theorem vN{x qual:Str}{st:Stmt}{f:Addr}{oc:Value}{od an:Option Addr}{Ip:Array (Option Value)}{kV doc pm EV ct:Value}(l:K.lookup f=some ⟨oc,od,.func (PySem.W.fnOf x qual (dt st) (bY st) (defScope st) .none kV doc pm an EV ct),Ip⟩)
  (c:PySem.W.codeIn K EV qual=true) (k:PySem.W.keepIn K (.ref f)=true):Fun K x qual st f (PySem.W.fnOf x qual (dt st) (bY st) (defScope st) .none kV doc pm an EV ct):=⟨⟨oc,od,kV,doc,pm,an,EV,ct,Ip,rfl,l,c⟩,k⟩
end
theorem hu_of{A:Around}{k:Nat}(hr:Room k A):A.units+1<cLine:=Sg (SK (by decide:1<=64) _) hr.units
section
variable{X:Cx}
theorem pv(i:Nat){x:Str}{pos:Pos}(hN:X.N[i]?=some x:=by rfl)(hv:NK X.env.scope x:=by first|exact Or.inl rfl|exact Or.inr (Or.inl rfl)|exact Or.inr (Or.inr rfl))(hd:(x==("__debug__" : Str))=false:=by decide)
  (HJ:(x==("__classdict__" : Str))=false:=by decide):PE X (.Name x pos) (tY i):=yZ hN hv hd HJ
end
theorem iteF{A B:Prop}(h:B):if false=true then A else B:=by
 rw[PM Pt];exact h
theorem zP{A B:Prop}(h:A):if true=true then A else B:=by
 rw[PF rfl];exact h
def Same(H H':Hp):Prop:=∀b o,H b=some o->H' b=some o
theorem Same.refl(H:Hp):Same H H:=fun _ _ h=>h
theorem Same.trans{H H1 H2:Hp}(a:Same H H1)(b:Same H1 H2):Same H H2:=fun c o h=>b c o (a c o h)
theorem Same.free{H H':Hp}(e:Same H H'){l:Addr}(h:H' l=Option.none):H l=Option.none:=by
 cases q:H l with
 |none=>rfl
 |some o=>
  rw[e l o q]at h;cases h
end L2
set_option maxHeartbeats 4000000
namespace NX
open PySem PySem.Spec PyProof.Rows L2
section
variable{X:Cx}
theorem qB:EX X (compareOp .LtE) (fun x y H Q=>∃i j,x=.str i/\y=.str j/\Q (.bl (!decide (j.cps.toList<i.cps.toList))) H):=by
 intro pi s σ H x y v u Q I rx ry h;obtain⟨i,j,rfl,rfl,q⟩:=h;obtain⟨t,rfl⟩:=rx;obtain⟨t',rfl⟩:=ry;exact PySem.P.le_str (nJ I q rfl)
theorem ur(v:Int)(n:Nat):max (0:Int) (min (if v<0 then v+(n:Int) else v) (n:Int))=((HT.sIx n 0 (some v):Nat):Int):=by
 show _=(((if v<0 then(v+(n:Int)).toNat else min v.toNat n):Nat):Int)
 split <;> lia
theorem zQ(a b:Nat):sliceRange (a:Int) (b:Int) 1=(List.range (b-a)).map (fun k=>a+k):=by
 unfold sliceRange;rw[PF (by decide:(1:Int)>0)];by_cases E9:(a:Int)<b
 ·have e3:(((b:Int)-a+1-1) / 1).toNat=b-a:=by first|lia|(simp;done)|(simp;lia)
  simp only[E9,Rg,e3];refine Qh fun k _=>?_
  lia
 ·have:b-a=0:=by lia
  simp[E9,this]
theorem DT(lo hi:Option Int)(n:Nat):Builtin.Str.strSliceIndices lo hi 1 n=(List.range (HT.sIx n n hi-HT.sIx n 0 lo)).map (fun k=>HT.sIx n 0 lo+k):=by
 rw[<-zQ];unfold Builtin.Str.strSliceIndices;simp only[show(1:Int)>0 from by decide,Rg];cases lo with
 |none=>
  cases hi with
  |none=>rfl
  |some v=>exact Qt (fun z=>sliceRange 0 z 1) (ur v n)
 |some u=>
  cases hi with
  |none=>exact Qt (fun z=>sliceRange z (n:Int) 1) (ur u n)
  |some v=>exact(Qt (fun z=>sliceRange z _ 1) (ur u n)).trans (Qt (fun z=>sliceRange _ z 1) (ur v n))
def zR(xs:List Nat)(lo hi:Option Int):List Nat:=(xs.drop (HT.sIx xs.length 0 lo)).take (HT.sIx xs.length xs.length hi-HT.sIx xs.length 0 lo)
theorem vO{α:Type}(l:List α):∀(n a:Nat),a+n<=l.length->((List.range n).map (fun k=>a+k)).filterMap (l[·]?)=(l.drop a).take n
 | 0,_,_=>by simp
 |n+1,a,h=>by
  have E9:a+n<l.length:=by lia
  rw[Rv,P6,Sr,vO l n a (by lia),List.take_add_one,List.getElem?_drop];simp[List.getElem?_eq_getElem E9]
theorem qC(x:Str)(lo hi:Option Int):(Txt.slice x lo hi).cps.toList=zR x.cps.toList lo hi:=by
 have hl:x.cps.toList.length=x.length:=Pw;have ha:=HT.qv x.length 0 (Qg _) lo;have hb:=HT.qv x.length x.length (Py _) hi;unfold Txt.slice zR;rw[DT,hl];split
 ·rename_i h;have h2:HT.sIx x.length x.length hi-HT.sIx x.length 0 lo=x.length:=by simpa using h
  have ez:HT.sIx x.length 0 lo=0\/x.length=0:=by lia
  rcases ez with e|e
  ·rw[h2,e,S1,Rl (by lia)]
  ·have:x.cps.toList=[]:=QJ (by lia);rw[this];simp
 ·have hk:∀(f:List Nat),f.filterMap (x.cps[·]?)=f.filterMap (x.cps.toList[·]?):=fun f=>by
   congr 1
   funext i
   simp
  show(List.filterMap _ _).toArray.toList=_;rw[SM,hk];by_cases hle:HT.sIx x.length 0 lo<=HT.sIx x.length x.length hi
  ·rw[vO _ _ _ (by lia)]
  ·have e0:HT.sIx x.length x.length hi-HT.sIx x.length 0 lo=0:=by lia
   rw[e0];rfl
abbrev S(l:List Nat):Str:=⟨l.toArray⟩
theorem k8(x:Str):S x.cps.toList=x:=by cases x;simp[S]
theorem S_inj{a b:List Nat}(h:S a=S b):a=b:=by
 have:=Qt (fun z:Str=>z.cps.toList) h;simpa[S] using this
theorem ji(l:List Nat):(S l).length=l.length:=by simp[S,Str.length]
theorem bZ(l:List Nat):(S l).cps.toList=l:=by simp[S]
theorem Cd(a b:List Nat):S a++S b=S (a++b):=by
 rw[<-k8 (S a++S b),PySem.W.KT.app_list,bZ,bZ]
def DU:V->Option Int->Option Int->Hp->VK->Prop:=fun x lo hi H Q=>∃l,x=.str (S l)/\l.length<=sizeLine/\Q (.str (S (zR l lo hi))) H
theorem zS:KR X DU:=by
 intro pi s σ H x v vl vu lo hi sl Q I rx hs pl pu h;obtain⟨l,rfl,hz,q⟩:=h;obtain⟨t,rfl⟩:=rx;have hz':(S l).length<=sizeLine:=by rw[ji];exact hz
 have e:∀t' k,EP X pi σ Q (.str (Txt.slice (S l) lo hi) t') {s with toks:=k}:=fun t' k=>by
  refine⟨.str (S (zR l lo hi)),H,I.tok _,⟨t',?_⟩,q⟩;have e1:=qC (S l) lo hi;rw[bZ]at e1;rw[<-e1,k8]
 refine⟨"str",_,PySem.F.slot_str_getitem.lookup,T7 _ _ _,?_⟩;have key:∀(KU Nr:Option (Int×Tok)),partValue KU=vl->partValue Nr=vu->KU.map (·.1)=lo->Nr.map (·.1)=hi->
   wpAny (model X.prog X.w) X.A (getItem (.str (S l) t) (.ref sl)) (EP X pi σ Q) X.xe s:=by
  rintro KU Nr rfl rfl rfl rfl;exact wpAny_getItem_str_slice (l:=KU) (u:=Nr) (st:=none) hs rfl (post_val_or_str ⟨Qc (Txt.slice_le (S l) _ _) hz',fun t' k=>e t' k⟩)
 cases pl with
 |none=>
  cases pu with
  |none=>exact key none none rfl rfl rfl rfl
  |int j uj=>exact key none (some (j,uj)) rfl rfl rfl rfl
 |int i ui=>
  cases pu with
  |none=>exact key (some (i,ui)) none rfl rfl rfl rfl
  |int j uj=>exact key (some (i,ui)) (some (j,uj)) rfl rfl rfl rfl
theorem xb{xs:List V}{j:Nat}{x:V}(h:xs[j]?=some x):xs.getD j .non=x:=by rw[List.getD_eq_getElem?_getD,h];rfl
end
def Def(K:W.Frag)(mg:Str->Option Value)(x:Str)(st:Stmt):Prop:=∃f fd,Fun K x x st f fd/\mg x=some (.ref f)
def Ct(P:Program)(w:World)(K:W.Frag)(mg:Str->Option Value)(base:Heap)(x:Str)(k:Nat)(sp:Sp):Prop:=
 ∃f fd ps,FnOk P w K mg base IM k f fd ps sp/\mg x=some (.ref f)/\PySem.W.keepIn K (.ref f)=true/\Binds K fd ps []
section
variable{X:Cx}{e:Expr}{es:List Expr}{t:TA}{x:Str}{p pos:Pos}{k:Nat}{sp:Sp}
theorem Ce(C:Ct X.prog X.w X.K X.mg X.base x k sp)(hr:Room k X.A)(hg:Gl X x)(ha:PA X (e::es) t)(Fl:(x==("__debug__" : Str))=false:=by decide)
  (he:starEach (e::es) X.env=(false,eval e X.env)::starEach es X.env:=by rfl) (Fc:(backTo pos (starEach es X.env)).any (·.1)=false:=by rfl):
  PE X (.Call (.Name x p) (e::es) [] pos) (tCall sp [] E0 t):=by
 obtain⟨f,fd,ps,G,m,kp,b⟩:=C;exact wV G hr hg m kp b .nil Cc ha Fl he Fc
def Gi(mg:Str->Option Value)(x:Str)(n:Int):Prop:=∃t,mg x=some (.int n t)
theorem Cf{n:Int}(h:Gi X.mg x n)(hg:Gl X x)(hd:(x==("__debug__" : Str))=false:=by decide):PE X (.Name x p) (tC (.int n)):=by
 obtain⟨t,m⟩:=h;exact wJ hg m ⟨t,rfl⟩ hd
end
theorem bt_len:bootBuiltins "len" = some (.builtin "len"):=by decide +kernel
theorem jK:bootBuiltins "isinstance" = some (.builtin "isinstance"):=by decide +kernel
theorem qD:bootBuiltins "int" = some (.type "int"):=by decide +kernel
theorem du:bootBuiltins "tuple" = some (.type "tuple"):=by decide +kernel
theorem xc:bootBuiltins "bool" = some (.type "bool"):=by decide +kernel
theorem line_eq:sizeLine=16777216:=Qs
theorem flat_strs(a:List (List Nat)):(a.map fun l=>V.str (S l)).all um=true:=by
 rw[P7];intro v hv;obtain⟨l,_,rfl⟩:=QD.mp hv;rfl
section
variable{X:Cx}{e:Expr}{st:Stmt}
end
def clOf(scope:Scope)(env:Env):List (Str×Addr):=scope.names.foldl (fun cs y=>if y.2==NameKind.free then(y.1,(env.cells.lookup y.1).getD 0)::cs else cs) []
def fP(scope:Scope)(env:Env):Bool:=scope.names.all fun y=>y.2 != NameKind.free||env.kindOf y.1==some .cell||env.kindOf y.1==some .free
theorem eC(env:Env):∀(l:List (Str×NameKind)) (cs:List (Str×Addr)),(∀y∈l,y.2=.free->∃c,env.cells.lookup y.1=some c)->
  (forIn l cs fun(y:Str×NameKind) (r:List (Str×Addr))=>(do
   if y.2==NameKind.free then
    let a <-cellOf env y.1
    pure (ForInStep.yield ((y.1,a)::r))
   else pure (ForInStep.yield r):Sem (ForInStep (List (Str×Addr)))))=pure (l.foldl (fun cs y=>if y.2==NameKind.free then(y.1,(env.cells.lookup y.1).getD 0)::cs else cs) cs)
 |[],cs,_=>by simp
 |y::l,cs,h=>by
  rw[SN,QF];by_cases k:y.2=.free
  ·obtain⟨c,e⟩:=h y Pq k;have e2:cellOf env y.1=pure c:=by unfold cellOf;rw[e]
   simp only[k,Qi,Rg,e2,e,Tq,pure_bind];exact eC env l _ fun z hz=>h z (Px _ hz)
  ·have kb:(y.2==NameKind.free)=false:=by simpa using k
   simp only[kb,P4,Qy,pure_bind];exact eC env l _ fun z hz=>h z (Px _ hz)
theorem eW(env:Env)(x:Str)(c:Addr):∀(l:List (Str×NameKind)) (cs:List (Str×Addr)),(∀y∈l,y.2=.free->∃c,env.cells.lookup y.1=some c)->(cs.lookup x=some c->env.cells.lookup x=some c)->
  (l.foldl (fun cs y=>if y.2==NameKind.free then(y.1,(env.cells.lookup y.1).getD 0)::cs else cs) cs).lookup x=some c->env.cells.lookup x=some c
 |[],_,_,h,e=>h e
 |y::l,cs,hf,h,e=>by
  rw[QF]at e;refine eW env x c l _ (fun z hz=>hf z (Px _ hz)) (fun q=>?_) e;split at q
  ·rename_i k;have k:y.2=.free:=by simpa using k
   obtain⟨d,ed⟩:=hf y Pq k;rw[QK]at q;cases hx:x==y.1 with
   |true=>
    rw[hx]at q;have exy:x=y.1:=by simpa using hx
    rw[ed,Tq]at q;rw[exy,ed];exact q
   |false=>
    rw[hx]at q;exact h q
  ·exact h q
theorem iq(env:Env)(x:Str):∀(l:List (Str×NameKind)) (cs:List (Str×Addr)),((∃d,cs.lookup x=some d)\/(x,NameKind.free)∈l)->
  ∃d,(l.foldl (fun cs y=>if y.2==NameKind.free then(y.1,(env.cells.lookup y.1).getD 0)::cs else cs) cs).lookup x=some d
 |[],_,h=>by
  rcases h with h|h
  ·exact h
  ·cases h
 |y::l,cs,h=>by
  rw[QF];refine iq env x l _ ?_;rcases h with⟨d,h⟩|h
  ·refine .inl ?_;split
   ·rw[QK];cases hx:x==y.1 with
    |true=>exact⟨_,rfl⟩
    |false=>exact⟨d,h⟩
   ·exact⟨d,h⟩
  ·rcases PJ.mp h with h|h
   ·refine .inl ?_;rw[<-h];refine⟨(env.cells.lookup x).getD 0,?_⟩;show List.lookup x ((x,_)::cs)=_;rw[QK,Qi]
   ·exact .inr h
noncomputable def bH(X:Cx)(scope:Scope)(N:List Str)(C:Addr)(s:Shared)(H:Hp)(fp:List Addr)(pn:List (Addr×Obj)):Cx:=
 {X with N:=N,s₀:=s,H₀:=H,env:=compEnvC scope (clOf scope X.env) C X.env,outer:=X.stack,ex:=fp,fn:=fun _=>false,pn:=pn,xe:=fun _ _=>False}
def ju(ix:List (Option Nat))(σ:L2.St):L2.St:=ix.map fun i=>i.bind fun i=>(σ[i]?).bind id
noncomputable def xf(wi:TI)(ix:List (Option Nat))(g:TG)(tc:TT)(te:TE):TE:=fun σ H Q=>wi σ H fun J H1=>∀D,H1 D=none->∃W:Nat->Nat->L2.St->Hp->Prop,(∃m,W 0 m (ju ix σ) (upd H1 D (.lst [])))/\
 ∀i m σ1 H2,W i m σ1 H2->(J.stop i H2/\Q (.ref D) H2)\/(J.go i H2/\∀x H3,J.yld i H2 x H3->g x σ1 H3 fun σ2 H4=>tc σ2 H4 fun b H5=>if b=true then te σ2 H5 fun v H6=>
  ∃ys,H6 D=some (.lst ys)/\ys.length<sizeLine/\∃m',m'<m/\W (i+1) m' σ2 (upd H6 D (.lst (ys++[v]))) else ∃m',m'<m/\W (i+1) m' σ2 H5)
abbrev JI:Value->Shared->Prop:=fun _ _=>False
theorem LR{α:Type}{M:Model}{A:Around}{t:Sem α}{Q Q':α->Shared->Prop}{E:Value->Shared->Prop}{s:Shared}(h:wpAny M A t Q JI s)(k:∀a s,Q a s->Q' a s):wpAny M A t Q' E s:=QB h k fun _ _ z=>z.elim
theorem qE{prog:Program}{w:World}{A:Around}{R:Result->Shared->Prop}{s:Shared}{elt target iter:Expr}{ifs:List Expr}{scope:Scope}{pos:Pos}{it acc:Value}{env:Env}(I:Nat->Shared->Prop)
  (turn:∀n s,I n s->wpAny (model prog w) A (pyNext it) (fun r s₁=>match r with
   |none=>R (.ok .next) s₁
   |some v=>wpAny (model prog w) A (letOwnedTupleGo target it v) (fun _ s₂=>wpAny (model prog w) A (assign target env v) (fun _ s₃=>
     wpAny (model prog w) A (forIn ifs true fun c r=>if r=true then do let ok <-isTrue c env (eval c env);pure (ForInStep.yield ok) else pure (ForInStep.yield r)) (fun ok s₄=>
      if ok=true then wpAny (model prog w) A (eval elt env) (fun x s₅=>
       wpAny (model prog w) A (call (.builtin "list.append") [acc,x]) (fun _ s₆=>∃m,m<n/\I m s₆) JI s₅) JI s₄
      else ∃m,m<n/\I m s₄) JI s₃) JI s₂) JI s₁) JI s)
  (n:Nat) (h:I n s):codeAny (model prog w) A (.compLoop (.ListComp elt [⟨target,iter,ifs,0⟩] scope pos) 0 it acc env) R s:=by
 refine codeAny_loop rfl I (fun n s hI=>?_) n h;show wpAny _ A ((compTurn (.ListComp elt [⟨target,iter,ifs,0⟩] scope pos) 0 it acc env).onRaise (fun x=>do noteFrame x env;theTreesLotGoes x)) _ _ s;refine wpAny_noted ?_;rw[compTurn_list];refine Po (Uw (Po (LR (turn n s hI) fun r s₁ h₁=>?_)));cases r with
 |none=>exact Pp h₁
 |some v=>
  refine Po (LR h₁ fun _ s₂ h₂=>Po (LR h₂ fun _ s₃ h₃=>Po (LR h₃ fun ok s₄ h₄=>?_)));cases ok with
  |false=>exact Pp ⟨rfl,h₄⟩
  |true=>exact Po (Po (LR h₄ fun x s₅ h₅=>Po (LR h₅ fun _ s₆ h₆=>Pp (Pp ⟨rfl,h₆⟩))))
def LS(X:Cx)(ifs:List Expr)(t:TT):Prop:=
 ∀(pi:List (Addr×Obj)) (s:Shared) (σ:L2.St) (H:Hp) (Q:Bool->Hp->Prop),Inv X pi σ H s->t σ H Q->
  wpAny (model X.prog X.w) X.A (forIn ifs true fun c r=>if r=true then do let ok <-isTrue c X.env (eval c X.env);pure (ForInStep.yield ok) else pure (ForInStep.yield r)) (TP X pi σ Q) X.xe s
def DV:TT:=fun _ H Q=>Q true H
theorem xg{X:Cx}:LS X [] DV:=fun _ _ _ H _ I h=>wpAny_tests_nil ⟨H,I,h⟩
theorem xh{X:Cx}{c:Expr}{t:TT}(h:PT X c t):LS X [c] t:=fun pi s σ H Q I k=>wpAny_tests_one (h pi s σ H Q I k)
def vP(X:Cx)(scope:Scope)(N:List Str)(ix:List (Option Nat)):Bool:=
 N.length==ix.length&&(N.zip ix).all fun y=>match y.2 with
  |none=>true
  |some j=>X.N[j]?==some y.1&&scope.names.lookup y.1==some .free
theorem k9{scope:Scope}{env:Env}{x:Str}(h:scope.names.lookup x=some .free):(relabel scope env).names.lookup x=some .cell\/(relabel scope env).names.lookup x=some .free:=by
 unfold relabel;dsimp only;generalize scope.names=l at h;induction l with
 |nil=>cases h
 |cons y l ih=>
  obtain⟨n,k⟩:=y;rw[QK]at h;rw[PY];cases hx:x==n with
  |true=>
   rw[hx]at h;have hk:k=.free:=PZ h;subst hk;dsimp only;split
   ·exact .inl (by rw[QK,hx])
   ·exact .inr (by rw[QK,hx])
  |false=>
   rw[hx]at h;dsimp only;split
   ·rw[QK,hx];exact ih h
   ·rw[QK,hx];exact ih h
theorem lb{scope:Scope}{env:Env}{x:Str}(hc:∀y∈scope.names,y.2≠.cell)(h:(relabel scope env).names.lookup x=some .cell\/(relabel scope env).names.lookup x=some .free):(x,NameKind.free)∈scope.names:=by
 unfold relabel at h;dsimp only at h;generalize scope.names=l at h hc;induction l with
 |nil=>rcases h with h|h <;> cases h
 |cons y l ih=>
  obtain⟨n,k⟩:=y;rw[PY]at h;dsimp only at h;have nk:k≠.cell:=hc (n,k) Pq;have OK:=ih (hc:=fun z hz=>hc z (Px _ hz));by_cases cnd:(k==NameKind.free&&env.scope.kind==.function&&env.kindOf n==some .cell)=true
  ·rw[PF cnd,QK]at h;have kf:k=.free:=by
    have:(k==NameKind.free)=true:=by
     simp only[PL]at cnd;exact cnd.1.1
    simpa using this
   cases hx:x==n with
   |true=>
    have:x=n:=by simpa using hx
    rw[this,kf];exact Pq
   |false=>
    rw[hx]at h;exact Px _ (OK h)
  ·rw[PM cnd,QK]at h;cases hx:x==n with
   |true=>
    rw[hx]at h;have:x=n:=by simpa using hx
    rcases h with h|h
    ·exact absurd (PZ h) nk
    ·rw[this,<-PZ h];exact Pq
   |false=>
    rw[hx]at h;exact Px _ (OK h)
section
variable{X:Cx}{pi:List (Addr×Obj)}{σ:L2.St}{H:Hp}{s:Shared}{scope:Scope}{N:List Str}{ix:List (Option Nat)}{fp:List Addr}
theorem jL(ok:X.Ok)(hf:fP scope X.env=true):∀y∈scope.names,y.2=.free->∃c,X.env.cells.lookup y.1=some c:=fun y hy k=>by
 have:=P7.mp hf y hy;rw[k]at this;simp only[Sm,Bool.false_or,TL,Ql]at this;exact ok.has y.1 this
theorem ir(ok:X.Ok)(hf:fP scope X.env=true){x:Str}{c:Addr}(h:(clOf scope X.env).lookup x=some c):X.env.cells.lookup x=some c:=
 eW X.env x c scope.names [] (jL ok hf) (fun z=>nomatch z) h
theorem qF(ok:X.Ok)(hf:fP scope X.env=true){x:Str}(h:(x,NameKind.free)∈scope.names):∃c,(clOf scope X.env).lookup x=some c/\X.env.cells.lookup x=some c:=by
 obtain⟨c,e⟩:=iq X.env x scope.names [] (.inr h);exact⟨c,e,ir ok hf e⟩
theorem _root_.L2.Inv.block(I:Inv X pi σ H s)(hf:fP scope X.env=true)(hk:scope.kind=.function)(E4:∀y∈scope.names,y.2≠.cell)(Gh:vP X scope N ix=true)(fo:∀b∈fp,p7 X pi H b)(fin:∀b∈fp,∃o,s.heap.get? b=some o)
  {h1:Heap}{t1:Nat}{D C:Addr}(hD:D=s.heap.objs.size) (hC:C=s.heap.objs.size+1) (old:∀b o,s.heap.get? b=some o->h1.get? b=some o) {n:Nat}(acc:h1.get? D=some {cls:=.type "list",data:=.seq #[] n})
  {m:Str->Option Value}(ns:h1.Ns C m):Inv (bH X scope N C s H fp (X.pn++pi)) [] (ju ix σ) (upd H D (.lst [])) {s with heap:=h1,toks:=t1}:=by
 have HM:s.heap.objs.size<=C:=by rw[hC];exact RQ _
 have freshD:s.heap.objs.size<=D:=by rw[hD];exact Py _
 have nD:H D=none:=I.hok.fresh freshD;have DC:D≠C:=by rw[hD,hC];exact P1 (QQ _)
 have KW:∀b,H b=none->b≠D->upd H D (.lst []) b=none:=fun b n z=>by rw[aB z];exact n
 have LU:∀b o,s.heap.get? b=some o->b≠D:=fun b o e=>P1 (PK (PH e) freshD)
 have JJ:∀b o,s.heap.get? b=some o->b≠C:=fun b o e=>P1 (PK (PH e) HM)
 have cellAt:∀x c,(clOf scope X.env).lookup x=some c->∃v o,s.heap.get? c=some o/\o.data=.cell v:=fun x c e=>by
  obtain⟨v,o,ho,hd⟩:=I.cell x c (ir I.ok hf e);exact⟨v,o,ho,hd⟩
 have okY:(bH X scope N C s H fp (X.pn++pi)).Ok:=by
  refine⟨I.ok.mod,hk,I.ok.glob,I.ok.blt,HM,fun x y c e1 e2=>?_,fun x hx=>?_,fun x c z _=>?_,I.ok.hd,I.ok.frames,.inl rfl,fun b hb=>?_,I.bs,?_,fun b o e hb=>?_,fun b hb hs=>?_,I.stack,I.stkFree⟩
  ·exact I.ok.inj x y c (ir I.ok hf e1) (ir I.ok hf e2)
  ·obtain⟨c,e,_⟩:=qF I.ok hf (lb E4 hx);exact⟨c,e⟩
  ·exact absurd (show false=true from z) Pt
  ·obtain⟨f0,f1,f2,f3,f4,f5⟩:=fo b hb;refine⟨?_,fun x c e=>f4 x c (ir I.ok hf e)⟩;intro z;have z:b=C:=z;obtain⟨o,ho⟩:=fin b hb;exact JJ b o ho z
  ·exact Qc I.ok.bsz I.sz
  ·obtain⟨f0,f1,f2,f3,f4,f5⟩:=fo b hb;rcases f3 with q|q
   ·exact I.ok.noex b o e q
   ·exact absurd (PK (PH e) (Qc I.ok.bsz q)) (QZ _)
  ·obtain⟨f0,f1,f2,_⟩:=fo b hb;exact(PJ.mp (I.stkSub b hs)).elim f1 f2
 refine⟨okY,rfl,I.bare,Un.laid old freshD nD,⟨m,ns,fun i x v e1 e2 e3=>?_⟩,fun x c e=>?_,?_,fun x c e=>?_,fun p hp=>?_,I.hok.laid old freshD ⟨Qg _,[],n,.nil,acc⟩,?_⟩
 ·
  have e2:(ix.map fun i=>i.bind fun i=>(σ[i]?).bind id)[i]?=some (some v):=e2;have e1:N[i]?=some x:=e1;unfold vP at Gh;rw[PL]at Gh;rw[List.getElem?_map]at e2;cases q:ix[i]? with
  |none=>rw[q]at e2;cases e2
  |some o=>
   rw[q]at e2;have e2:(o.bind fun i=>(σ[i]?).bind id)=some v:=PZ e2;cases o with
   |none=>cases e2
   |some j=>
    have e2:(σ[j]?).bind id=some v:=e2;have hσ:σ[j]?=some (some v):=by
     cases w':σ[j]? with
     |none=>rw[w']at e2;cases e2
     |some y=>rw[w']at e2;exact Qt some e2
    have hz:(N.zip ix)[i]?=some (x,some j):=by
     rw[List.getElem?_zip_eq_some];exact⟨e1,q⟩
    have hy:=P7.mp Gh.2 _ (Qf hz);simp only[PL,Ql]at hy;have JK:(x,NameKind.free)∈scope.names:=Rf hy.2;obtain⟨c,c1,c2⟩:=qF I.ok hf JK;have KY:X.env.kindOf x=some .cell\/X.env.kindOf x=some .free:=by
     have:=P7.mp hf _ JK;simpa using this
    obtain⟨mo,Kx,OI⟩:=I.loc;obtain⟨u,r,l⟩:=OI j x v hy.1 hσ (.inr KY);refine⟨u,r,.inr ⟨k9 hy.2,c,c1,?_⟩⟩;rcases l with⟨k1,_⟩|⟨_,c',e',Hn⟩
    ·rcases KY with k2|k2 <;> (rw[k1]at k2;cases k2)
    ·rw[c2]at e';cases e';obtain⟨o,ho,hd⟩:=Hn;exact⟨o,old c o ho,hd⟩
 ·obtain⟨v,o,ho,hd⟩:=cellAt x c e;exact⟨v,o,old c o ho,hd⟩
 ·exact KW C (I.hok.fresh HM) (Rt DC)
 ·obtain⟨v,o,ho,hd⟩:=cellAt x c e;exact KW c (I.freeC x c (ir I.ok hf e)) (LU c o ho)
 ·have hp:p∈X.pn++pi:=by
   have:p∈(X.pn++pi)++[]:=hp
   rwa [P5]at this
  obtain⟨e,nn,ne,nf,d⟩:=I.pin p hp;refine⟨old _ _ e,KW _ nn (LU _ _ e),JJ _ _ e,fun z=>?_,d⟩;exact(PJ.mp (I.stkSub p.1 z)).elim ne nf
 ·unfold vP at Gh;rw[PL]at Gh;have:N.length=ix.length:=by simpa using Gh.1
  show(ix.map _).length=N.length;rw[Pr,this]
theorem _root_.L2.Inv.unblock{C:Addr}{σ1:L2.St}{H1:Hp}{s1:Shared}{h2:Heap}(I:Inv X pi σ H s)(fo:∀b∈fp,p7 X pi H b)(hC:s.heap.objs.size<=C)(J:Inv (bH X scope N C s H fp (X.pn++pi)) [] σ1 H1 s1)(hs:Heap.SameBut C s1.heap h2):
  Inv X pi σ H1 {s1 with heap:=h2}:=by
 have JJ:∀b o,s.heap.get? b=some o->b≠C:=fun b o e=>P1 (PK (PH e) hC)
 have bb:Un (F8 X.stack) fp H H1 s.heap s1.heap:=J.base;have jf:H1 C=none:=J.free;refine I.call' (s':={s1 with heap:=h2}) (ch:=fp) J.os ⟨fun b o e n hb hx=>?_,fun b o e n hb hx=>?_,bb.free,fun b o e hx=>?_,bb.tups,bb.frzs,bb.tbls⟩ (fun b ob e=>?_) J.bare fun b hb=>?_
 ·exact(hs.2 b (JJ b o e)).trans (bb.keep b o e n hb hx)
 ·obtain⟨sl,q⟩:=bb.slot b o e n hb hx;exact⟨sl,(hs.2 b (JJ b o e)).trans q⟩
 ·obtain⟨o',q⟩:=bb.there b o e hx;exact⟨o',(hs.2 b (JJ b o e)).trans q⟩
 ·refine(J.hok b ob e).stay (fun c w' hc q=>(hs.2 c ?_).trans q) (fun _ q=>q) fun _ _ q=>q
  rintro rfl;rcases hc with rfl|hc
  ·rw[jf]at e;cases e
  ·rw[jf]at hc;cases hc
 ·obtain⟨f0,f1,f2,f3,f4,f5⟩:=fo b hb;exact⟨f3,f1,f4,f5⟩
end
section
variable{X:Cx}{scope:Scope}{N:List Str}{ix:List (Option Nat)}{tg iter elt:Expr}{ifs:List Expr}{pos:Pos}{wi:TI}{g:TG}{tc:TT}{te:TE}
theorem jv{pi:List (Addr×Obj)}{σ:L2.St}{H2:Hp}{s2:Shared}{J:It}{fp:List Addr}{it:Addr}{tn:Nat->Heap->Prop}{Q:VK}{RR:Value->Addr->Result->Shared->Prop}{E:Value->Shared->Prop}
  (hc:X.calm=true) (I2:Inv X pi σ H2 s2) (T:Turn X.prog X.w X.K tg J fp it tn) (Ez:tn 0 s2.heap) (f2:∀b∈fp,p7 X pi H2 b)
  (hg:∀C s H fp pn,PG (bH X scope N C s H fp pn) tg g) (ht:∀C s H fp pn,LS (bH X scope N C s H fp pn) ifs tc) (he:∀C s H fp pn,PE (bH X scope N C s H fp pn) elt te)
  (hf:fP scope X.env=true) (hk:scope.kind=.function) (E4:∀y∈scope.names,y.2≠.cell) (Gh:vP X scope N ix=true)
  (q:∀D,H2 D=none->∃W:Nat->Nat->L2.St->Hp->Prop,(∃m,W 0 m (ju ix σ) (upd H2 D (.lst [])))/\
   ∀i m σ1 H3,W i m σ1 H3->(J.stop i H3/\Q (.ref D) H3)\/(J.go i H3/\∀x H4,J.yld i H3 x H4->g x σ1 H4 fun σ2 H5=>tc σ2 H5 fun b H6=>if b=true then te σ2 H6 fun v H7=>
    ∃ys,H7 D=some (.lst ys)/\ys.length<sizeLine/\∃m',m'<m/\W (i+1) m' σ2 (upd H7 D (.lst (ys++[v]))) else ∃m',m'<m/\W (i+1) m' σ2 H6))
  (hRR:∀(D C:Addr) (σ1:L2.St) (H1:Hp) (s1:Shared),s2.heap.objs.size<=C->Inv (bH X scope N C s2 H2 fp (X.pn++pi)) [] σ1 H1 s1->Q (.ref D) H1->RR (.ref D) C (.ok .next) s1):
  wpAny (model X.prog X.w) X.A (newList []) (fun acc s₃=>wpAny (model X.prog X.w) X.A (newFunctionEnv scope X.env.globals (clOf scope X.env) [] X.env.qual none .none (some X.env)) (fun Mw s₄=>
   codeAny (model X.prog X.w) X.A (.compStart (.ListComp elt [⟨tg,iter,ifs,0⟩] scope pos) 0 (.ref it) acc {Mw with scope:=relabel scope X.env}) (RR acc Mw.locals) s₄) E s₃) E s2:=by
 refine QC (wpAny_newFunctionEnv E4 (by intro y hy;simp at hy) (fun h₁ hns₁ hsb₁=>?_) hk);dsimp only at hns₁ hsb₁ ⊢;generalize hH2:s2.heap.push {cls:=.type "list",dict:=none,data:=.seq ([]:List Value).toArray}=HH at hns₁ hsb₁ ⊢;have hC:HH.objs.size=s2.heap.objs.size+1:=by rw[<-hH2,Q0]
 have hDC:s2.heap.objs.size≠HH.objs.size:=by rw[hC];exact P1 (QQ _)
 have Mx:s2.heap.objs.size<=HH.objs.size:=by rw[hC];exact RQ _
 have JJ:∀b o,s2.heap.get? b=some o->b≠HH.objs.size:=fun b o e=>P1 (PK (PH e) Mx)
 have old:∀b o,s2.heap.get? b=some o->h₁.get? b=some o:=fun b o e=>hsb₁.extBut b o (JJ b o e) (Heap.get?_push_of_some _ (hH2▸Heap.get?_push_of_some _ e))
 have JL:h₁.get? s2.heap.objs.size=some {cls:=.type "list",data:=.seq #[] 0}:=hsb₁.extBut _ _ hDC (Heap.get?_push_of_some _ (hH2▸Heap.get?_push_size _ rfl));obtain⟨W,⟨m0,w0⟩,turn⟩:=q s2.heap.objs.size (I2.hok.fresh (Py _));have fin:∀b∈fp,∃o,s2.heap.get? b=some o:=fun b hb=>let⟨o,e,_⟩:=T.obj 0 _ Ez b hb;⟨o,e⟩
 have HK:∀{H':Hp},(∀b∈fp,H' b=none)->∀b∈fp,p7 (bH X scope N HH.objs.size s2 H2 fp (X.pn++pi)) [] H' b:=fun{H'} hn b hb=>by
  obtain⟨f0,f1,ff,f3,f4,f5⟩:=f2 b hb;refine⟨hn b hb,?_,fun z=>?_,.inl hb,fun x c e=>f4 x c (ir I2.ok hf e),fun p hp=>?_⟩
  ·intro z;have z:b=HH.objs.size:=z;obtain⟨o,ho⟩:=fin b hb;exact JJ b o ho z
  ·exact(PJ.mp (I2.stkSub b z)).elim f1 ff
  ·have hp:p∈X.pn++pi:=by
    have:p∈(X.pn++pi)++[]:=hp
    rwa [P5]at this
   exact f5 p hp
 have loop:∀s₃:Shared,s₃={s2 with heap:=h₁,toks:=s2.toks+([]:List (Str×Value)).length}->
   codeAny (model X.prog X.w) X.A (.compLoop (.ListComp elt [⟨tg,iter,ifs,0⟩] scope pos) 0 (.ref it) (.ref s2.heap.objs.size) (compEnvC scope (clOf scope X.env) HH.objs.size X.env)) (RR (.ref s2.heap.objs.size) HH.objs.size) s₃:=by
  rintro s₃ rfl;refine qE (fun n s'=>∃i σ' H',Inv (bH X scope N HH.objs.size s2 H2 fp (X.pn++pi)) [] σ' H' s'/\tn i s'.heap/\(∀b∈fp,H' b=none)/\W i n σ' H') ?_ m0
   ⟨0,_,_,I2.block hf hk E4 Gh f2 fin rfl hC old JL hns₁,T.keep 0 _ _ Ez fun b _ o e=>old b o e,fun b hb=>?_,w0⟩
  ·rintro n s3 ⟨i,σ3,H3,I3,E2,Ml,w3⟩;rcases turn i n σ3 H3 w3 with⟨stop,qn⟩|⟨go,step⟩
   ·refine EG (T.done (bH X scope N HH.objs.size s2 H2 fp (X.pn++pi)) rfl rfl rfl hc i [] s3 σ3 H3 JI I3 (HK Ml) E2 stop) fun r s4 EM=>?_
    obtain⟨hr,I4⟩:=EM;subst hr;exact hRR _ _ σ3 H3 s4 Mx I4 qn
   ·refine EG (T.item (bH X scope N HH.objs.size s2 H2 fp (X.pn++pi)) rfl rfl rfl hc i [] s3 σ3 H3 JI I3 (HK Ml) E2 go) fun r s4 EM=>?_
    obtain⟨u,hr,h4⟩:=EM;subst hr;refine EG h4 fun _ s5 EM=>?_
    obtain⟨x,H5,I5,r5,y5,Gy,NO⟩:=EM;have NP:=I5.pinned (HK NO) (T.obj _ _ Gy);refine EG (hg _ _ _ _ _ _ s5 σ3 H5 x u _ NP r5 (step x H5 y5)) fun _ s6 EM=>?_
    obtain⟨σ6,H6,I6,q6⟩:=EM;refine EG (ht _ _ _ _ _ _ s6 σ6 H6 _ I6 q6) fun ok s7 EM=>?_
    obtain⟨H7,I7,q7⟩:=EM;have again:∀{H8:Hp}{s8:Shared},Inv (bH X scope N HH.objs.size s2 H2 fp (X.pn++pi)) ([]++kP fp s5.heap) σ6 H8 s8->(∃m',m'<n/\W (i+1) m' σ6 H8)->
      ∃m,m<n/\∃i σ' H',Inv (bH X scope N HH.objs.size s2 H2 fp (X.pn++pi)) [] σ' H' s8/\tn i s8.heap/\(∀b∈fp,H' b=none)/\W i m σ' H':=fun{H8 s8} I8 ⟨m',hm,w8⟩=>by
     refine⟨m',hm,i+1,σ6,H8,I8.unpinned,T.keep _ _ _ Gy fun b hb o e=>(I8.pin (b,o) (PB _ (PB _ (eB hb e)))).1,fun b hb=>?_,w8⟩;obtain⟨o,e,d⟩:=T.obj _ _ Gy b hb;exact(I8.pin (b,o) (PB _ (PB _ (eB hb e)))).2.1
    cases ok with
    |false=>exact again I7 q7
    |true=>
     show wpAny _ _ _ _ _ _;refine EG (he _ _ _ _ _ _ s7 σ6 H7 _ I7 q7) fun x8 s8 EM=>?_
     obtain⟨v8,H8,I8,r8,ys,NZ,E9,q8⟩:=EM;refine EG (k4 _ s8 σ6 H8 (.ref s2.heap.objs.size) [v8] (.ref s2.heap.objs.size) [x8] (fun _ H9=>∃m',m'<n/\W (i+1) m' σ6 H9) I8 rfl (.cons r8 .nil) ⟨_,ys,v8,rfl,rfl,NZ,E9,q8⟩) fun _ s9 EM=>?_
     obtain⟨_,H9,I9,_,q9⟩:=EM;exact again I9 q9
  ·rw[aB (fun z=>by
    obtain⟨o,ho⟩:=fin b hb;exact absurd z (P1 (PH ho)))]
   exact(f2 b hb).1
 exact codeAny_compStart_list (loop _ rfl) (T.self _ 0 _ _ _ (T.keep 0 _ _ Ez fun b _ o e=>old b o e) (loop _ rfl))
theorem xi(ix:List (Option Nat))(N:List Str)(hc:X.calm=true)(hi:PI X tg iter wi)(hg:∀C s H fp pn,PG (bH X scope N C s H fp pn) tg g)(ht:∀C s H fp pn,LS (bH X scope N C s H fp pn) ifs tc)(he:∀C s H fp pn,PE (bH X scope N C s H fp pn) elt te)
  (hf:fP scope X.env=true:=by rfl) (hk:scope.kind=.function:=by rfl) (E4:∀y∈scope.names,y.2≠.cell:=by decide +kernel) (Fy:∀y∈scope.names,y.2=.local->scope.names.lookup y.1=some .local:=by decide +kernel) (Gh:vP X scope N ix=true:=by rfl)
  (hs:∀x,foldedSetIterable iter X.env x=pure x:=by intro _;rfl):PE X (.ListComp elt [⟨tg,iter,ifs,0⟩] scope pos) (xf wi ix g tc te):=by
 intro pi s σ H Q I h;rw[eval_ListComp];have IP:closureFor scope X.env=pure (clOf scope X.env):=by
  unfold closureFor clOf;have:=eC X.env scope.names [] (jL I.ok hf);simpa using this
 refine S6 (use:=none) rfl hs IP hk Fy (EG (hi pi s σ H _ I h) fun v s1 h1=>EG h1 fun Nk s2 h2=>?_);obtain⟨it,fp,tn,J,H2,e,I2,T,Ez,f2,q⟩:=h2;subst e;refine jv (RR:=fun acc C=>compPost (model X.prog X.w) X.A X.xe none (EP X pi σ Q) acc C) (Q:=Q) (iter:=iter) hc I2 T Ez f2 hg ht he hf hk E4 Gh q fun D C σ1 H1 s1 hC J1 q1=>?_
 obtain⟨m,ns,_⟩:=J1.loc;exact⟨m,ns,fun h' N0=>⟨.ref D,H1,I2.unblock f2 hC J1 N0,rfl,q1⟩⟩
end
section
variable{X:Cx}{scope:Scope}{N:List Str}{ix:List (Option Nat)}{tg iter elt:Expr}{ifs:List Expr}{pos:Pos}{wi:TI}{g:TG}{tc:TT}{te:TE}
theorem xj{i:Nat}{y:Str}{py IQ:Pos}(ix:List (Option Nat))(N:List Str)(hN:X.N.Nodup)(N1:X.N[i]?=some y)(hy:Loc X.env.scope y)(hc:X.calm=true)(hi:PI X tg iter wi)(hg:∀C s H fp pn,PG (bH X scope N C s H fp pn) tg g)(ht:∀C s H fp pn,LS (bH X scope N C s H fp pn) ifs tc)
  (he:∀C s H fp pn,PE (bH X scope N C s H fp pn) elt te) (N2:swapsWith (.ListComp elt [⟨tg,iter,ifs,0⟩] scope pos) (some (.Name y py)) IQ.line X.env=pure true:=by rfl)
  (hf:fP scope X.env=true:=by rfl) (hk:scope.kind=.function:=by rfl) (E4:∀y∈scope.names,y.2≠.cell:=by decide +kernel) (Fy:∀y∈scope.names,y.2=.local->scope.names.lookup y.1=some .local:=by decide +kernel) (Gh:vP X scope N ix=true:=by rfl)
  (hs:∀x,foldedSetIterable iter X.env x=pure x:=by intro _;rfl) (JB:X.fn y=true\/X.env.scope.names.lookup y=some .local:=by first|exact .inl rfl|exact .inr rfl):
  PS X (.Assign [.Name y py] (.ListComp elt [⟨tg,iter,ifs,0⟩] scope pos) IQ) (fun D σ H=>xf wi ix g tc te σ H fun v H'=>D.nx (σ.set i (some v)) H'):=by
 intro pi s σ H Dd I h;rw[exec_Assign_Name_used _ _ _ _ N2];have IP:closureFor scope X.env=pure (clOf scope X.env):=by
  unfold closureFor clOf;have:=eC X.env scope.names [] (jL I.ok hf);simpa using this
 refine Po (Uw (Po ?_));show wpAny _ X.A (do let _ <-comprehension (.ListComp elt [⟨tg,iter,ifs,0⟩] scope pos) scope X.env _ (newList []) false (eval iter X.env) (some (assign (.Name y py) X.env))) _ _ s;refine Po (QB (S6 (use:=some (assign (.Name y py) X.env)) (Q:=fun _ s'=>SP X pi Dd .next s') rfl hs IP hk Fy
  (EG (hi pi s σ H _ I h) fun v s1 h1=>EG h1 fun Nk s2 h2=>?_)) (fun _ s' hq=>Pp (Pp hq)) fun _ _ e=>e)
 obtain⟨it,fp,tn,J,H2,e,I2,T,Ez,f2,q⟩:=h2;subst e;refine jv (RR:=fun acc C=>compPost (model X.prog X.w) X.A X.xe (some (assign (.Name y py) X.env)) (fun _ s'=>SP X pi Dd .next s') acc C) (Q:=fun v H'=>Dd.nx (σ.set i (some v)) H') (iter:=iter) hc I2 T Ez f2 hg ht he hf hk E4 Gh q fun D C σ1 H1 s1 hC J1 q1=>?_
 obtain⟨m,ns,_⟩:=id J1.loc;have ns:s1.heap.Ns C m:=ns;have I3:Inv X pi σ H1 s1:=I2.unblock f2 hC J1 (.refl ..);show wpAny _ X.A (assign (.Name y py) X.env (.ref D)) _ _ s1;refine wpAny_assign_Name (kO I3 hN N1 hy (v:=.ref D) rfl (fun s4 I4 ⟨a,sb,ha⟩=>?_) JB);have aC:C≠a:=by
  intro z;rcases ha with ha|ha
  ·exact P1 (PK I2.lt hC) (ha▸z.symm)
  ·obtain⟨v,o,ho,_⟩:=I2.cell y a ha;exact P1 (PK (PH ho) hC) z.symm
 refine⟨m,ns.sameBut sb aC,fun h' N0=>?_⟩;have jf:H1 C=none:=J1.free;have kk:∀b o,b≠C->s4.heap.get? b=some o->h'.get? b=some o:=fun b o hb e=>(N0.2 b hb).trans e
 refine⟨σ.set i (some (.ref D)),H1,?_,q1⟩;have z:=I4.turned (t':=s4.toks) kk jf (fun z=>P1 (PK I2.lt hC) z.symm) (.inr (Qc I2.sz hC)) (fun x c e z=>by
  obtain⟨v,o,ho,_⟩:=I2.cell x c e;exact P1 (PK (PH ho) hC) z) (fun p hp z=>P1 (PK (PH (I2.pin p hp).1) hC) z)
 exact z
end
def Itv(val:Nat->V)(n:Nat):It:=⟨fun i _=>i<n,fun i H x H'=>H'=H/\x=val i,fun i _=>i=n⟩
theorem nO{P:Program}{w:World}{K:W.Frag}{tg:Expr}(ty:String)(JG:["enumerate","zip","dict_itemiterator","dict_reverseitemiterator","odict_iterator","itertools.zip_longest","itertools.pairwise"].contains ty=false)(l:List Nat)(t:Tok)(it:Addr)
  (Wk:∀A:Around,A.handled=none->Walks P w A it [it] [it] (S l).cps.size (SignAt (S l)) (fun i h=>h.IsStrIter it ty (S l) t i))
  (self:∀(A:Around) (i:Nat) (s:Shared) (Q:Value->Shared->Prop) (E:Value->Shared->Prop),s.heap.IsStrIter it ty (S l) t i->Q (.ref it) s->wpAny (model P w) A (pyIter (.ref it)) Q E s):
  Turn P w K tg (Itv (fun i=>.str (S [l.getD i 0])) l.length) [it] it (fun i h=>h.IsStrIter it ty (S l) t i) where
 mem:=by simp
 obj:=fun i h st b hb=>by
  have e:b=it:=by simpa using hb
  subst e;obtain⟨o,e,c,d⟩:=st;exact⟨o,e,fun v z=>by rw[d]at z;cases z⟩
 keep:=fun i h h' st k=>by
  obtain⟨o,e,r⟩:=st;exact⟨o,k it (by simp) o e,r⟩
 item:=by
  intro X hP hw hK hc i pi s σ H E I hf st hg;subst hP hw hK;obtain⟨f0,f1,f2,f3,f4,f5⟩:=hf it (by simp);have hg:i<l.length:=hg;refine(Wk X.A (I.ok.hd hc)).item i s _ _ (by simpa[S] using hg) st fun v h' tk hv Hc kk=>?_
  obtain⟨c,u,JC,rfl⟩:=hv;have I1:Inv X pi σ H {s with heap:=h',toks:=tk}:=I.turned (fun b o hb e=>kk b o (by simpa using hb) e) f0 f1 f3 f4 f5;obtain⟨o,e,cc,d⟩:=id Hc;have N3:l.getD i 0=c:=by
   have:l[i]?=some c:=by simpa[S] using JC
   rw[List.getD_eq_getElem?_getD,this];rfl
  refine⟨_,rfl,ud (s:={s with heap:=h',toks:=tk}) e cc d JG ⟨.str (S [l.getD i 0]),H,I1,⟨u,?_⟩,⟨rfl,rfl⟩,Hc,fun b hb=>(hf b hb).1⟩⟩;rw[N3]
 done:=by
  intro X hP hw hK hc i pi s σ H E I hf st hg;subst hP hw hK;obtain⟨f0,f1,f2,f3,f4,f5⟩:=hf it (by simp);have hg:i=l.length:=hg;have hn:(S l).cps.size=i:=by rw[hg];simp[S]
  refine(Wk X.A (I.ok.hd hc)).done s _ _ (by rw[hn];exact st) fun h' tk kk=>⟨rfl,I.turned (fun b o hb e=>kk b o (by simpa using hb) e) f0 f1 f3 f4 f5⟩
 self:=self
def DW(tl:TE):TI:=fun σ H R=>tl σ H fun x H1=>∃l,x=.str (S l)/\R (Itv (fun i=>.str (S [l.getD i 0])) l.length) H1
section
variable{X:Cx}{tg:Expr}
theorem zT{l:Expr}{tl:TE}(hl:PE X l tl):PI X tg l (DW tl):=by
 intro pi s σ H R I h;refine EG (hl pi s σ H _ I h) fun v s1 EM=>?_
 obtain⟨x,H1,I1,r1,l,e,q⟩:=EM;subst e;obtain⟨t,rfl⟩:=r1;cases ha:(S l).cps.all (·< 128)
 ·refine wpAny_pyIter_wide ha ?_;refine⟨s1.heap.objs.size,[s1.heap.objs.size],_,_,H1,rfl,I1.kept (t':=s1.toks) fun b o e=>Heap.get?_push_of_some _ e,
   nO "str_iterator" (by decide) l t _ (fun A hA=>Walks.strWide hA _ _ _) (fun _ _ _ _ _ st h=>wpAny_pyIter_striter_wide st h),⟨_,Heap.get?_push_size _ rfl,rfl,rfl⟩,fun b hb=>?_,q⟩
  have e:b=s1.heap.objs.size:=by simpa using hb
  subst e;exact I1.fpOk (Py _) (I1.hok.fresh (Py _))
 ·refine wpAny_pyIter_ascii ha ?_;refine⟨s1.heap.objs.size,[s1.heap.objs.size],_,_,H1,rfl,I1.kept (t':=s1.toks) fun b o e=>Heap.get?_push_of_some _ e,
   nO "str_ascii_iterator" (by decide) l t _ (fun A hA=>Walks.strAscii hA _ _ _) (fun _ _ _ _ _ st h=>wpAny_pyIter_striter_ascii st h),⟨_,Heap.get?_push_size _ rfl,rfl,rfl⟩,fun b hb=>?_,q⟩
  have e:b=s1.heap.objs.size:=by simpa using hb
  subst e;exact I1.fpOk (Py _) (I1.hok.fresh (Py _))
theorem uu{pi:List (Addr×Obj)}{s:Shared}{σ:L2.St}{H:Hp}{p:Addr}{xs:List V}{E:Value->Shared->Prop}{R:Value->Shared->Prop}(hc:X.calm=true)(I:Inv X pi σ H s)(h:SqL X.K H p xs\/SqT X.K H p xs)
  (k:∀(it:Addr) (fp:List Addr) (o:Obj) (us:List Value) (Sx:Nat->Heap->Prop),Vals xs us->Walks X.prog X.w X.A.in1 it fp [it] us.length (fun i v=>us[i]?=some v) Sx->Sx 0 (s.heap.push o)->(∀b∈fp,b<(s.heap.push o).objs.size)->it=s.heap.objs.size->R (.ref it) {s with heap:=s.heap.push o}):
  wpAny (model X.prog X.w) X.A.in1 (pyIter (.ref p)) R E s:=by
 have hh:X.A.in1.handled=none:=I.ok.hd hc;rcases h with h|h
 ·obtain⟨us,r,pl,hz⟩:=I.list h;have E9:p<s.heap.objs.size:=by obtain⟨o,ho,_⟩:=pl.isList;exact PH ho
  refine Ra pl.isList (k s.heap.objs.size [s.heap.objs.size,p] _ us (fun i h=>h.IsListIter s.heap.objs.size p i/\h.IsList p us.toArray) r (by
   have W:=Walks.list (prog:=X.prog) (w:=X.w) hh s.heap.objs.size p (P1 E9) us.toArray;simpa using W) ⟨⟨_,Heap.get?_push_size _ rfl,rfl,rfl⟩,pl.isList.at fun o e=>Heap.get?_push_of_some _ e⟩ (fun b hb=>?_) rfl)
  rw[Q0];rcases PJ.mp hb with rfl|hb
  ·exact QQ _
  ·rw[Qm]at hb;rw[hb];exact S7 E9
 ·obtain⟨us,r,pl,hz⟩:=I.tuple h;have KU:s.heap.IsTuple p us.toArray:=pl;have E9:p<s.heap.objs.size:=by obtain⟨o,ho,_⟩:=pl;exact PH ho
  refine Rn KU (k s.heap.objs.size [s.heap.objs.size,p] _ us (fun i h=>h.IsTupleIter s.heap.objs.size p i/\h.IsTuple p us.toArray) r (by
   have W:=Walks.tuple (prog:=X.prog) (w:=X.w) hh s.heap.objs.size p (P1 E9) us.toArray;simpa using W) ⟨⟨_,Heap.get?_push_size _ rfl,rfl,rfl⟩,KU.at fun o e=>Heap.get?_push_of_some _ e⟩ (fun b hb=>?_) rfl)
  rw[Q0];rcases PJ.mp hb with rfl|hb
  ·exact QQ _
  ·rw[Qm]at hb;rw[hb];exact S7 E9
theorem pk{pi:List (Addr×Obj)}{s:Shared}{σ:L2.St}{H:Hp}{o:Obj}{h':Heap}{tk:Nat}(I:Inv X pi σ H s)(kk:∀b ob,b∉[s.heap.objs.size]->(s.heap.push o).get? b=some ob->h'.get? b=some ob):
  Inv X pi σ H {s with heap:=h',toks:=tk}:=I.kept fun b ob e=>kk b ob (fun z=>P1 (PH e) (by simpa using z)) (Heap.get?_push_of_some _ e)
theorem a8{α:Type}(l:List α)(i:Nat)(d:α)(h:i<l.length):l.getD i d=l[i]:=by
 rw[List.getD_eq_getElem?_getD,List.getElem?_eq_getElem h];rfl
def zU:V->Bool
 | .bl b=>b
 |_=>false
def Cg:V->Bool
 | .bl _=>true
 |_=>false
theorem uv{xs:List V}{us:List Value}(r:Vals xs us)(hb:xs.all Cg=true):TruthOf X.prog X.w X.A.in1 (fun i v=>us[i]?=some v) (fun i=>zU (xs.getD i .non)):=by
 intro i v s Q E hv q;have hl:=r.length;obtain⟨hi,_⟩:=List.getElem?_eq_some_iff.mp hv;have e1:xs[i]?=some (xs[i]'(by lia)):=List.getElem?_eq_getElem _;obtain⟨u,hu,ru⟩:=r.get e1;rw[hv]at hu;cases hu;have q:Q (zU (xs.getD i .non)) s:=q;rw[xb e1]at q;have bl:=P7.mp hb _ (Qf e1);generalize xs[i]'(by lia)=x at ru q bl;cases x <;> first|(exact absurd (show false=true from bl) Pt)|skip
 cases ru;exact QR q
theorem qG{xs:List V}(f:V->Bool):(List.range xs.length).all (fun i=>f (xs.getD i .non))=xs.all f:=by
 rw[P8,P7,P7];constructor
 ·intro h x hx;obtain⟨i,hi,rfl⟩:=List.getElem_of_mem hx;have:=h i (PU.mpr hi)
  rwa [a8 _ _ _ hi]at this
 ·intro h i hi;have hi:=PU.mp hi;rw[a8 _ _ _ hi];exact h _ (RG hi)
theorem uw(hc:X.calm=true):dr X (.builtin "all") (fun vs H Q=>∃p xs,vs=[.ref p]/\(SqL X.K H p xs\/SqT X.K H p xs)/\xs.all Cg=true/\Q (.bl (xs.all zU)) H):=by
 intro pi s σ H vs us Q I r h;obtain⟨p,xs,rfl,hp,hb,q⟩:=h;obtain⟨u,rfl,r1⟩:=fN r;cases r1;refine call_all_walk (uu hc I hp fun it fp o ws Sx rv W st hf hit=>⟨it,fp,[it],_,_,Sx,_,rfl,W,st,uv rv hb,fun h' tk kk=>?_⟩);subst hit;refine⟨.bl (xs.all zU),H,pk (s:=s) I kk,?_,q⟩;rw[<-rv.length,qG];rfl
theorem mH{ns:List Int}{us:List Value}(r:Vals (ns.map V.int) us){i:Nat}{v:Value}(h:us[i]?=some v):∃t,v=.int (ns.getD i 0) t:=by
 have hl:=r.length;rw[Pr]at hl;obtain⟨hi,_⟩:=List.getElem?_eq_some_iff.mp h;have e1:(ns.map V.int)[i]?=some (.int (ns.getD i 0)):=by
  rw[List.getElem?_map,List.getElem?_eq_getElem (by lia),a8 _ _ _ (by lia)];rfl
 obtain⟨u,hu,t,rfl⟩:=r.get e1;rw[h]at hu;exact⟨t,PZ hu⟩
def zV(ns:List Int):Int:=ns.foldl max (ns.headD 0)
def Ci(ns:List Int):Int:=ns.foldl min (ns.headD 0)
end
section
variable{prog:Program}{w:World}{A:Around}{R:Result->Shared->Prop}{it:Addr}{fp wr:List Addr}{n:Nat}{Pv:Nat->Value->Prop}{Sx:Nat->Heap->Prop}{kw:List (Str×Value)}
end
section
variable{X:Cx}{e k:Expr}{te tk:TE}{p pos Mn:Pos}
def maxD(ns:List Int)(d:Int):Int:=if ns=[] then d else zV ns
end
section
variable{prog:Program}{w:World}{A:Around}{E:Value->Shared->Prop}{s:Shared}
theorem ux{it t:Addr}{i:Nat}{items:Array Value}{x:Value}{Q:Value->Shared->Prop}(hi:s.heap.IsTupleIter it t i)(ht:s.heap.IsTuple t items)(hx:items[i]?=some x)
  (k:∀h',h'.IsTupleIter it t (i+1)->Heap.SameBut it s.heap h'->Q x {s with heap:=h'}):wpAny (model prog w) A (Builtin.SmallTypes.nextOf (.ref it)) Q E s:=by
 obtain⟨o,ho,oc,od⟩:=id hi;obtain⟨q,hq,_,n,qd⟩:=ht;unfold Builtin.SmallTypes.nextOf;refine Po (wpAny_callSpecial?_slot (name:=Str.ofString "__next__") hi.typeIs Rm (QA Rm hi.typeIs SO ?_ (SF _)));show wpAny _ _ (field (.ref it) 0 >>= _) _ _ s;refine Po (QM ho od (x:=.ref t) rfl ?_);show wpAny _ _ (if(Value.ref t==Value.none)=true then _ else _) _ _ s;rw[PM (fun z:(Value.ref t==Value.none)=true=>Pt z)];show wpAny _ _ (field (.ref it) 1 >>= _) _ _ s;refine Po (QM ho od (x:=.int i 0) rfl (Po (Q1 hq qd ?_)));simp only[Qk,hx];refine Po (S2 ho od (by simp) (Pp ⟨x,rfl,Pp (k _ ⟨_,Heap.get?_update_self _ ho (Obj.isFreed_of_fields (Sh od _)),(Obj.cls_mapFields ..).trans oc,?_⟩ (Rh ..))⟩));rw[Sh od];simp[rawInt]
theorem xk{it t:Addr}{i:Nat}{items:Array Value}{Q:Value->Shared->Prop}(hh:A.handled=none)(hi:s.heap.IsTupleIter it t i)(ht:s.heap.IsTuple t items)(hx:items[i]?=none)
  (k:∀h' e,Heap.ExtBut it s.heap h'->(∃o,h'.get? e=some o/\o.cls=.type "StopIteration")->E (.ref e) {s with heap:=h'}):wpAny (model prog w) A (Builtin.SmallTypes.nextOf (.ref it)) Q E s:=by
 obtain⟨o,ho,oc,od⟩:=id hi;obtain⟨q,hq,_,n,qd⟩:=ht;unfold Builtin.SmallTypes.nextOf;refine Po (wpAny_callSpecial?_slot (name:=Str.ofString "__next__") hi.typeIs Rm (QA Rm hi.typeIs SO ?_ (SF _)));show wpAny _ _ (field (.ref it) 0 >>= _) _ _ s;refine Po (QM ho od (x:=.ref t) rfl ?_);show wpAny _ _ (if(Value.ref t==Value.none)=true then _ else _) _ _ s;rw[PM (fun z:(Value.ref t==Value.none)=true=>Pt z)];show wpAny _ _ (field (.ref it) 1 >>= _) _ _ s;refine Po (QM ho od (x:=.int i 0) rfl (Po (Q1 hq qd ?_)));simp only[Qk,hx];refine Po (UM (Po (S2 ho od (by simp) ?_)));show wpAny _ _ (newExc (.type "StopIteration") [] >>= _) _ _ _;refine Po ?_;simp only[newExc,newTuple];refine Po (QC (Po (m:=firstArgMember _ _) (wpAny_of_eq (a:=Value.none) (by first|rfl|(simp only[firstArgMember];rfl)) (QC ?_ (by size_fits)))) (by size_fits));simp only[raiseNew];refine Po (wpAny_handled ?_);first
  |rw[show A.in1.handled=none from hh]
  |rw[hh]
 exact Po (Pp (wpAny_throw (k _ _ (((Rh ..).extBut.push _).push _) ⟨_,Heap.get?_push_size _ rfl,rfl⟩)))
def IsIt(k:Bool)(h:Heap)(it l:Addr)(i:Nat):Prop:=match k with
 |true=>h.IsListIter it l i
 |false=>h.IsTupleIter it l i
def IsSq(k:Bool)(h:Heap)(l:Addr)(xs:Array Value):Prop:=match k with
 |true=>h.IsList l xs
 |false=>h.IsTuple l xs
theorem IsIt.at{k:Bool}{h h':Heap}{it l:Addr}{i:Nat}(x:IsIt k h it l i)(e:∀o,h.get? it=some o->h'.get? it=some o):IsIt k h' it l i:=by
 cases k with
 |true=>obtain⟨o,ho,r⟩:=(show h.IsListIter it l i from x);exact(show h'.IsListIter it l i from⟨o,e o ho,r⟩)
 |false=>obtain⟨o,ho,r⟩:=(show h.IsTupleIter it l i from x);exact(show h'.IsTupleIter it l i from⟨o,e o ho,r⟩)
theorem IsSq.at{k:Bool}{h h':Heap}{l:Addr}{xs:Array Value}(x:IsSq k h l xs)(e:∀o,h.get? l=some o->h'.get? l=some o):IsSq k h' l xs:=by
 cases k with
 |true=>obtain⟨o,ho,r⟩:=(show h.IsList l xs from x);exact(show h'.IsList l xs from⟨o,e o ho,r⟩)
 |false=>obtain⟨o,ho,r⟩:=(show h.IsTuple l xs from x);exact(show h'.IsTuple l xs from⟨o,e o ho,r⟩)
theorem IsIt.obj{k:Bool}{h:Heap}{it l:Addr}{i:Nat}(x:IsIt k h it l i):∃o,h.get? it=some o/\∀v,o.data≠.cell v:=by
 cases k with
 |true=>obtain⟨o,ho,_,d⟩:=(show h.IsListIter it l i from x);exact⟨o,ho,fun v z=>by rw[d]at z;cases z⟩
 |false=>obtain⟨o,ho,_,d⟩:=(show h.IsTupleIter it l i from x);exact⟨o,ho,fun v z=>by rw[d]at z;cases z⟩
theorem IsSq.get{k:Bool}{h:Heap}{l:Addr}{xs:Array Value}(x:IsSq k h l xs):∃o,h.get? l=some o:=by
 cases k with
 |true=>obtain⟨o,ho,_⟩:=(show h.IsList l xs from x);exact⟨o,ho⟩
 |false=>obtain⟨o,ho,_⟩:=(show h.IsTuple l xs from x);exact⟨o,ho⟩
theorem mI{k:Bool}{it l:Addr}{i:Nat}{xs:Array Value}{x:Value}{Q:Value->Shared->Prop}(hi:IsIt k s.heap it l i)(hl:IsSq k s.heap l xs)(hx:xs[i]?=some x)
  (q:∀h',IsIt k h' it l (i+1)->Heap.SameBut it s.heap h'->Q x {s with heap:=h'}):wpAny (model prog w) A (Builtin.SmallTypes.nextOf (.ref it)) Q E s:=by
 cases k with
 |true=>exact wpAny_nextOf_list_item hi hl hx q
 |false=>exact ux hi hl hx q
theorem vQ{k:Bool}{it l:Addr}{i:Nat}{xs:Array Value}{Q:Value->Shared->Prop}(hh:A.handled=none)(hi:IsIt k s.heap it l i)(hl:IsSq k s.heap l xs)(hx:xs[i]?=none)
  (q:∀h' e,Heap.ExtBut it s.heap h'->(∃o,h'.get? e=some o/\o.cls=.type "StopIteration")->E (.ref e) {s with heap:=h'}):wpAny (model prog w) A (Builtin.SmallTypes.nextOf (.ref it)) Q E s:=by
 cases k with
 |true=>exact wpAny_nextOf_list_end hh hi hl hx q
 |false=>exact xk hh hi hl hx q
theorem xl{k1 k2:Bool}{z TI TO i1 i2 l1 l2:Addr}{i:Nat}{xs ys:Array Value}{x y a b:Value}{Q:Value->Shared->Prop}(D:ZipApart z TI TO i1 i2 l1 l2)(hz:IsZip s.heap z TI TO .none)(HN:IsPair s.heap TI (.ref i1) (.ref i2))(Ir:IsPair s.heap TO a b)
  (h1:IsIt k1 s.heap i1 l1 i) (h2:IsIt k2 s.heap i2 l2 i) (g1:IsSq k1 s.heap l1 xs) (g2:IsSq k2 s.heap l2 ys) (hx:xs[i]?=some x) (hy:ys[i]?=some y)
  (q:∀h',IsZip h' z TI TO (rawInt s.heap.objs.size)->IsPair h' TO x y->IsIt k1 h' i1 l1 (i+1)->IsIt k2 h' i2 l2 (i+1)->IsPair h' s.heap.objs.size x y->
   (∀c o,c≠z->c≠TO->c≠i1->c≠i2->s.heap.get? c=some o->h'.get? c=some o)->Q (.ref s.heap.objs.size) {s with heap:=h'}):
  wpAny (model prog w) A (Builtin.«zip.__next__» ⟨[.ref z],[]⟩) (fun fin s'=>∃v,fin=.done (.ret v)/\Q v s') E s:=by
 show wpAny _ _ (field (.ref z) 2 >>= _) _ _ _;refine Po (QM hz rfl (x:=.bool false) rfl ?_);show wpAny _ _ (field (.ref z) 3 >>= _) _ _ _;refine Po (QM hz rfl (x:=.ref TI) rfl (Po (Q1 HN rfl ?_)));show wpAny _ _ (Builtin.SmallTypes.ownedTupleIsFree (.ref z) >>= _) _ _ _;refine Po ?_;unfold Builtin.SmallTypes.ownedTupleIsFree;refine Po (QM hz rfl (x:=.none) rfl (Pp ?_));rw[PF (by rfl)];refine Po (UM (Po (QM hz rfl (x:=.ref TO) rfl (Po (Rp hz (by simp) fun hA zA sA=>?_)))));have zA:IsZip hA z TI TO .ellipsis:=zA;refine Po ?_;simp only[List.zipIdx_cons,List.zipIdx_nil,SN,Ue];refine Po (Po (Te ?_));show wpAny _ _ (Builtin.SmallTypes.nextOf (.ref i1) >>= _) _ _ _;refine Po (mI (h1.at fun o e=>sA.extBut _ _ D.i1z e) (g1.at fun o e=>sA.extBut _ _ D.l1z e) hx fun hB iB sB=>Pp ?_);have tB:IsPair hB TO a b:=sB.extBut _ _ D.TOi1 (sA.extBut _ _ D.TOz Ir);refine Po (Q1 tB rfl (Po (Sz tB fun hC tC sC=>Po (Ui (Pp ?_)))));have tC:IsPair hC TO x b:=tC;refine Po (Po (Te ?_));show wpAny _ _ (Builtin.SmallTypes.nextOf (.ref i2) >>= _) _ _ _;refine Po (mI (h2.at fun o e=>sC.extBut _ _ D.TOi2.symm (sB.extBut _ _ D.i12.symm (sA.extBut _ _ D.i2z e))) (g2.at fun o e=>sC.extBut _ _ D.l2TO (sB.extBut _ _ D.l2i1 (sA.extBut _ _ D.l2z e))) hy fun hD iD sD=>Pp ?_);have tD:IsPair hD TO x b:=sD.extBut _ _ D.TOi2 tC;refine Po (Q1 tD rfl (Po (Sz tD fun hE tE sE=>Po (Ui (Pp (Pp ?_))))));have tE:IsPair hE TO x y:=tE;refine Po (Q1 tE rfl (Po (wpAny_newTuple ?_)));have ez:hE.objs.size=s.heap.objs.size:=by rw[sE.1,sD.1,sC.1,sB.1,sA.1]
 have zE:IsZip hE z TI TO .ellipsis:=sE.extBut _ _ D.TOz.symm (sD.extBut _ _ D.i2z.symm (sC.extBut _ _ D.TOz.symm (sB.extBut _ _ D.i1z.symm zA)));have kE:∀c o,c≠z->c≠TO->c≠i1->c≠i2->s.heap.get? c=some o->hE.get? c=some o:=fun c o c1 c2 c3 c4 e=>sE.extBut _ _ c2 (sD.extBut _ _ c4 (sC.extBut _ _ c2 (sB.extBut _ _ c3 (sA.extBut _ _ c1 e))))
 have i1E:IsIt k1 hE i1 l1 (i+1):=iB.at fun o e=>sE.extBut _ _ D.TOi1.symm (sD.extBut _ _ D.i12 (sC.extBut _ _ D.TOi1.symm e))
 have i2E:IsIt k2 hE i2 l2 (i+1):=iD.at fun o e=>sE.extBut _ _ D.TOi2.symm e
 show wpAny _ _ (Builtin.SmallTypes.ownedTupleHandOut (.ref z) (.ref hE.objs.size) >>= _) _ _ _;refine Po ?_;unfold Builtin.SmallTypes.ownedTupleHandOut;have zF:IsZip (hE.push {cls:=.type "tuple",data:=.seq #[x,y]}) z TI TO .ellipsis:=Heap.get?_push_of_some _ zE;refine Po (Rp zF (by simp) fun hG zG sG=>?_);have zG:IsZip hG z TI TO (rawInt hE.objs.size):=zG;refine Rp zG (by simp) fun hK zK sK=>?_
 have zK:IsZip hK z TI TO (rawInt hE.objs.size):=zK;have up:∀c o,c≠z->hE.get? c=some o->hK.get? c=some o:=fun c o c1 e=>sK.extBut _ _ c1 (sG.extBut _ _ c1 (Heap.get?_push_of_some _ e))
 have nz:hE.objs.size≠z:=UU (PH zE);have tK:IsPair hK hE.objs.size x y:=sK.extBut _ _ nz (sG.extBut _ _ nz (Heap.get?_push_size _ rfl));rw[ez]at zK tK;refine Pp ⟨_,rfl,?_⟩;show Q (.ref hE.objs.size) _;rw[ez];exact q hK zK (up _ _ D.TOz tE) (i1E.at fun o e=>up _ o D.i1z e) (i2E.at fun o e=>up _ o D.i2z e) tK fun c o c1 c2 c3 c4 e=>up c o c1 (kE c o c1 c2 c3 c4 e)
theorem zW{k1 k2:Bool}{z TI TO i1 i2 l1 l2:Addr}{i:Nat}{xs ys:Array Value}{a b:Value}{Q:Fin->Shared->Prop}(hh:A.handled=none)(D:ZipApart z TI TO i1 i2 l1 l2)(hz:IsZip s.heap z TI TO .none)(HN:IsPair s.heap TI (.ref i1) (.ref i2))(Ir:IsPair s.heap TO a b)
  (h1:IsIt k1 s.heap i1 l1 i) (h2:IsIt k2 s.heap i2 l2 i) (g1:IsSq k1 s.heap l1 xs) (g2:IsSq k2 s.heap l2 ys) (he:xs[i]?=none\/ys[i]?=none)
  (q:∀h' e,(∀c o,c≠z->c≠TO->c≠i1->c≠i2->s.heap.get? c=some o->h'.get? c=some o)->(∃o,h'.get? e=some o/\o.cls=.type "StopIteration")->E (.ref e) {s with heap:=h'}):
  wpAny (model prog w) A (Builtin.«zip.__next__» ⟨[.ref z],[]⟩) Q E s:=by
 show wpAny _ _ (field (.ref z) 2 >>= _) _ _ _;refine Po (QM hz rfl (x:=.bool false) rfl ?_);show wpAny _ _ (field (.ref z) 3 >>= _) _ _ _;refine Po (QM hz rfl (x:=.ref TI) rfl (Po (Q1 HN rfl ?_)));show wpAny _ _ (Builtin.SmallTypes.ownedTupleIsFree (.ref z) >>= _) _ _ _;refine Po ?_;unfold Builtin.SmallTypes.ownedTupleIsFree;refine Po (QM hz rfl (x:=.none) rfl (Pp ?_));rw[PF (by rfl)];refine Po (UM (Po (QM hz rfl (x:=.ref TO) rfl (Po (Rp hz (by simp) fun hA zA sA=>?_)))));have zA:IsZip hA z TI TO .ellipsis:=zA;refine Po ?_;simp only[List.zipIdx_cons,List.zipIdx_nil,SN,Ue];refine Po (Po (Te ?_));show wpAny _ _ (Builtin.SmallTypes.nextOf (.ref i1) >>= _) _ _ _;cases hx:xs[i]? with
 |none=>
  refine Po (vQ hh (h1.at fun o e=>sA.extBut _ _ D.i1z e) (g1.at fun o e=>sA.extBut _ _ D.l1z e) hx fun hB e sB EM=>?_);obtain⟨oe,ge,ce⟩:=EM;have zB:IsZip hB z TI TO .ellipsis:=sB _ _ D.i1z.symm zA;have ne:e≠z:=fun x=>by subst x;rw[zB]at ge;cases ge;simp at ce
  exact Rp zB (by simp) fun hC _ sC=>q hC e (fun c o c1 _ c3 _ x=>sC.extBut _ _ c1 (sB _ _ c3 (sA.extBut _ _ c1 x))) ⟨oe,sC.extBut _ _ ne ge,ce⟩
 |some x=>
  have hy:ys[i]?=none:=by
   rcases he with z|z
   ·rw[hx]at z;cases z
   ·exact z
  refine Po (mI (h1.at fun o e=>sA.extBut _ _ D.i1z e) (g1.at fun o e=>sA.extBut _ _ D.l1z e) hx fun hB iB sB=>Pp ?_);have tB:IsPair hB TO a b:=sB.extBut _ _ D.TOi1 (sA.extBut _ _ D.TOz Ir);refine Po (Q1 tB rfl (Po (Sz tB fun hC tC sC=>Po (Ui (Pp ?_)))));refine Po (Po (Te ?_));show wpAny _ _ (Builtin.SmallTypes.nextOf (.ref i2) >>= _) _ _ _;refine Po (vQ hh (h2.at fun o e=>sC.extBut _ _ D.TOi2.symm (sB.extBut _ _ D.i12.symm (sA.extBut _ _ D.i2z e))) (g2.at fun o e=>sC.extBut _ _ D.l2TO (sB.extBut _ _ D.l2i1 (sA.extBut _ _ D.l2z e))) hy fun hD e sD EM=>?_);obtain⟨oe,ge,ce⟩:=EM;have zD:IsZip hD z TI TO .ellipsis:=sD _ _ D.i2z.symm (sC.extBut _ _ D.TOz.symm (sB.extBut _ _ D.i1z.symm zA));have ne:e≠z:=fun x=>by subst x;rw[zD]at ge;cases ge;simp at ce
  exact Rp zD (by simp) fun hF _ sF=>q hF e (fun c o c1 c2 c3 c4 x=>sF.extBut _ _ c1 (sD _ _ c4 (sC.extBut _ _ c2 (sB.extBut _ _ c3 (sA.extBut _ _ c1 x))))) ⟨oe,sF.extBut _ _ ne ge,ce⟩
end
def itObj(k:Bool)(l:Addr):Obj:=match k with
 |true=>{cls:=.type "list_iterator",data:=.fields #[.ref l,.int 0 0]}
 |false=>{cls:=.type "tuple_iterator",data:=.fields #[.ref l,.int 0 0]}
theorem nP(k:Bool)(h:Heap)(l:Addr):IsIt k (h.push (itObj k l)) h.objs.size l 0:=by
 cases k with
 |true=>exact⟨_,Heap.get?_push_size _ rfl,rfl,rfl⟩
 |false=>exact⟨_,Heap.get?_push_size _ rfl,rfl,rfl⟩
abbrev zA(h:Heap)(k1:Bool)(l1:Addr):Heap:=h.push (itObj k1 l1)
abbrev zB(h:Heap)(k1 k2:Bool)(l1 l2:Addr):Heap:=(zA h k1 l1).push (itObj k2 l2)
abbrev zC(h:Heap)(k1 k2:Bool)(l1 l2:Addr):Heap:=(zB h k1 k2 l1 l2).push {cls:=.type "tuple",data:=.seq #[.ref h.objs.size,.ref (zA h k1 l1).objs.size]}
abbrev zD(h:Heap)(k1 k2:Bool)(l1 l2:Addr):Heap:=(zC h k1 k2 l1 l2).push {cls:=.type "tuple",data:=.seq #[.none,.none]}
abbrev zE(h:Heap)(k1 k2:Bool)(l1 l2:Addr):Heap:=(zD h k1 k2 l1 l2).push {cls:=.type "zip",data:=.fields #[.none,.bool false,.bool false,.ref (zB h k1 k2 l1 l2).objs.size,.ref (zC h k1 k2 l1 l2).objs.size]}
set_option maxHeartbeats 8000000 in
theorem zX(k1 k2:Bool)(l1 l2:Addr)(xs ys:Array Value):
  Meets (Builtin.«zip.__new__» ⟨[.type "zip",.ref l1,.ref l2],[]⟩) (fun _ R s=>IsSq k1 s.heap l1 xs/\IsSq k2 s.heap l2 ys/\R (.ok (.ret (.ref (zD s.heap k1 k2 l1 l2).objs.size))) {s with heap:=zE s.heap k1 k2 l1 l2}):=
 .of_wp fun prog w A R s h=>by
  obtain⟨hp,g,d,tk,os⟩:=s;obtain⟨g1,g2,q⟩:=h;have hsub:=sub_zip;cases k1 with
  |true=>
   have e1:Heap.IsList (Shared.heap ⟨hp,g,d,tk,os⟩) l1 xs:=g1;cases k2 with
   |true=>
    have e2:Heap.IsList (Shared.heap ⟨hp.push {cls:=.type "list_iterator",data:=.fields #[.ref l1,.int 0 0]},g,d,tk,os⟩) l2 ys:=Heap.IsList.push g2 _
    wp_walk using Ra e1,Ra e2
    exact⟨_,rfl,q⟩
   |false=>
    have e2:Heap.IsTuple (Shared.heap ⟨hp.push {cls:=.type "list_iterator",data:=.fields #[.ref l1,.int 0 0]},g,d,tk,os⟩) l2 ys:=Heap.IsTuple.push g2 _
    wp_walk using Ra e1,Rn e2
    exact⟨_,rfl,q⟩
  |false=>
   have e1:Heap.IsTuple (Shared.heap ⟨hp,g,d,tk,os⟩) l1 xs:=g1;cases k2 with
   |true=>
    have e2:Heap.IsList (Shared.heap ⟨hp.push {cls:=.type "tuple_iterator",data:=.fields #[.ref l1,.int 0 0]},g,d,tk,os⟩) l2 ys:=Heap.IsList.push g2 _
    wp_walk using Rn e1,Ra e2
    exact⟨_,rfl,q⟩
   |false=>
    have e2:Heap.IsTuple (Shared.heap ⟨hp.push {cls:=.type "tuple_iterator",data:=.fields #[.ref l1,.int 0 0]},g,d,tk,os⟩) l2 ys:=Heap.IsTuple.push g2 _
    wp_walk using Rn e1,Rn e2
    exact⟨_,rfl,q⟩
def ZS(k1 k2:Bool)(z TI TO i1 i2 l1 l2:Addr)(i:Nat)(h:Heap):Prop:=IsZip h z TI TO .none/\IsPair h TI (.ref i1) (.ref i2)/\(∃a b,IsPair h TO a b)/\IsIt k1 h i1 l1 i/\IsIt k2 h i2 l2 i
theorem xm{prog:Program}{w:World}{A:Around}{E:Value->Shared->Prop}{s:Shared}{k1 k2:Bool}{l1 l2:Addr}{xs ys:Array Value}{Q:Value->Shared->Prop}(g1:IsSq k1 s.heap l1 xs)(g2:IsSq k2 s.heap l2 ys)
  (q:∀h',ZS k1 k2 (s.heap.objs.size+4) (s.heap.objs.size+2) (s.heap.objs.size+3) s.heap.objs.size (s.heap.objs.size+1) l1 l2 0 h'->(∀c o,s.heap.get? c=some o->h'.get? c=some o)->Q (.ref (s.heap.objs.size+4)) {s with heap:=h'}):
  wpAny (model prog w) A (call (.type "zip") [.ref l1,.ref l2]) Q E s:=by
 refine callType_new F.called_zip (by decide) (F.typeCall_zip_2 _ _) (F.newCall_zip_2 _ _) (fun obj=>F.args_object_init_3 obj _ _) F.entry_zip_new (zX k1 k2 l1 l2 xs ys) ⟨g1,g2,?_⟩;have nA:(zA s.heap k1 l1).objs.size=s.heap.objs.size+1:=Q0 ..;have nB:(zB s.heap k1 k2 l1 l2).objs.size=s.heap.objs.size+2:=by rw[Q0,nA]
 have nC:(zC s.heap k1 k2 l1 l2).objs.size=s.heap.objs.size+3:=by rw[Q0,nB]
 have nD:(zD s.heap k1 k2 l1 l2).objs.size=s.heap.objs.size+4:=by rw[Q0,nC]
 have pu:∀{h:Heap}{o:Obj}{c:Addr}{v:Obj},h.get? c=some v->(h.push o).get? c=some v:=fun e=>Heap.get?_push_of_some _ e
 have gz:(zE s.heap k1 k2 l1 l2).get? (zD s.heap k1 k2 l1 l2).objs.size=some _:=Heap.get?_push_size _ rfl;have go:(zE s.heap k1 k2 l1 l2).get? (zC s.heap k1 k2 l1 l2).objs.size=some _:=pu (Heap.get?_push_size _ rfl);have gi:(zE s.heap k1 k2 l1 l2).get? (zB s.heap k1 k2 l1 l2).objs.size=some _:=pu (pu (Heap.get?_push_size _ rfl));have j2:IsIt k2 (zE s.heap k1 k2 l1 l2) (zA s.heap k1 l1).objs.size l2 0:=(nP k2 (zA s.heap k1 l1) l2).at fun o e=>pu (pu (pu e))
 have j1:IsIt k1 (zE s.heap k1 k2 l1 l2) s.heap.objs.size l1 0:=(nP k1 s.heap l1).at fun o e=>pu (pu (pu (pu e)))
 show _/\_;rw[nB,nC,nD]at gz;rw[nA,nB]at gi;rw[nC]at go;rw[nA]at j2;rw[nD];exact⟨⟨_,gz,rfl⟩,q _ ⟨gz,gi,⟨_,_,go⟩,j1,j2⟩ fun c o x=>pu (pu (pu (pu (pu x))))⟩
noncomputable def N4(K:W.Frag)(k1 k2:Bool)(a b:Addr):It:=
 ⟨fun i H=>∃xs ys x y,(if k1 then SqL K H a xs else SqT K H a xs)/\(if k2 then SqL K H b ys else SqT K H b ys)/\xs[i]?=some x/\ys[i]?=some y,
  fun i H v H'=>∃T,H T=none/\v=.ref T/\∀xs ys x y,(if k1 then SqL K H a xs else SqT K H a xs)->(if k2 then SqL K H b ys else SqT K H b ys)->xs[i]?=some x->ys[i]?=some y->H'=upd H T (.tup [x,y]),
  fun i H=>∃xs ys,(if k1 then SqL K H a xs else SqT K H a xs)/\(if k2 then SqL K H b ys else SqT K H b ys)/\i=min xs.length ys.length⟩
section
variable{X:Cx}{pi:List (Addr×Obj)}{σ:L2.St}{H:Hp}{s:Shared}
theorem pq(I:Inv X pi σ H s){k:Bool}{a:Addr}{xs:List V}(h:if k then SqL X.K H a xs else SqT X.K H a xs):∃us:List Value,Vals xs us/\IsSq k s.heap a us.toArray:=by
 cases k with
 |true=>
  obtain⟨us,r,p,_⟩:=I.list (show SqL X.K H a xs from h);exact⟨us,r,p.isList⟩
 |false=>
  obtain⟨us,r,p,_⟩:=I.tuple (show SqT X.K H a xs from h);exact⟨us,r,(show s.heap.IsTuple a us.toArray from p)⟩
theorem vR(I:Inv X pi σ H s){k:Bool}{a:Addr}{xs ys:List V}(h:if k then SqL X.K H a xs else SqT X.K H a xs)(h':if k then SqL X.K H a ys else SqT X.K H a ys):xs=ys:=by
 cases k with
 |true=>exact I.list_inj (show SqL X.K H a xs from h) (show SqL X.K H a ys from h')
 |false=>exact I.tuple_inj (show SqT X.K H a xs from h) (show SqT X.K H a ys from h')
theorem eU(I:Inv X pi σ H s){k:Bool}{a b:Addr}{xs:List V}(h:if k then SqL X.K H a xs else SqT X.K H a xs)(f:p7 X pi H b):a≠b:=by
 rintro rfl;obtain⟨f0,_,_,f3,_⟩:=f;have nb:∀o,X.K.lookup a=some o->False:=fun o hk=>by
  have e:=I.ok.mod.kin a o hk;rcases f3 with z|z
  ·exact I.ok.noex a o e z
  ·exact absurd (PK (PH e) (Qc I.ok.bsz z)) (QZ _)
 cases k with
 |true=>
  rcases(show SqL X.K H a xs from h) with(h|⟨o,h⟩)|⟨o,Er,n,hk,_⟩
  ·rw[f0]at h;cases h
  ·rw[f0]at h;cases h
  ·exact nb o hk
 |false=>
  rcases(show SqT X.K H a xs from h) with(h|⟨o,h⟩)|⟨o,Er,n,hk,_⟩
  ·rw[f0]at h;cases h
  ·rw[f0]at h;cases h
  ·exact nb o hk
end
theorem nx_zip_item{prog:Program}{w:World}{A:Around}{E:Value->Shared->Prop}{s:Shared}{k1 k2:Bool}{z TI TO i1 i2 l1 l2:Addr}{i:Nat}{xs ys:Array Value}{x y:Value}{Q:Option Value->Shared->Prop}(D:ZipApart z TI TO i1 i2 l1 l2)(st:ZS k1 k2 z TI TO i1 i2 l1 l2 i s.heap)
  (g1:IsSq k1 s.heap l1 xs) (g2:IsSq k2 s.heap l2 ys) (hx:xs[i]?=some x) (hy:ys[i]?=some y)
  (q:∀h',IsZip h' z TI TO (rawInt s.heap.objs.size)->IsPair h' TO x y->IsIt k1 h' i1 l1 (i+1)->IsIt k2 h' i2 l2 (i+1)->IsPair h' s.heap.objs.size x y->
   (∀c o,c≠z->c≠TO->c≠i1->c≠i2->s.heap.get? c=some o->h'.get? c=some o)->Q (some (.ref s.heap.objs.size)) {s with heap:=h'}):wpAny (model prog w) A (pyNext (.ref z)) Q E s:=by
 obtain⟨hz,HN,⟨a,b,Ir⟩,h1,h2⟩:=st;have ty:s.TypeIs (.ref z) "zip":=⟨_,hz,rfl⟩
 unfold pyNext;exact Po (Tf (wpAny_callSpecial?_slot (name:=Str.ofString "__next__") ty SQ (QA SQ ty F.entry_zip_next (xl D hz HN Ir h1 h2 g1 g2 hx hy fun h' a1 a2 a3 a4 a5 a6=>Pp (q h' a1 a2 a3 a4 a5 a6)) (F.args_zip_next_1 _))))
theorem px{prog:Program}{w:World}{A:Around}{E:Value->Shared->Prop}{s:Shared}{k1 k2:Bool}{z TI TO i1 i2 l1 l2:Addr}{i:Nat}{xs ys:Array Value}{Q:Option Value->Shared->Prop}(hh:A.handled=none)(D:ZipApart z TI TO i1 i2 l1 l2)(st:ZS k1 k2 z TI TO i1 i2 l1 l2 i s.heap)
  (g1:IsSq k1 s.heap l1 xs) (g2:IsSq k2 s.heap l2 ys) (he:xs[i]?=none\/ys[i]?=none) (q:∀h',(∀c o,c≠z->c≠TO->c≠i1->c≠i2->s.heap.get? c=some o->h'.get? c=some o)->Q none {s with heap:=h'}):wpAny (model prog w) A (pyNext (.ref z)) Q E s:=by
 obtain⟨hz,HN,⟨a,b,Ir⟩,h1,h2⟩:=st;have ty:s.TypeIs (.ref z) "zip":=⟨_,hz,rfl⟩
 unfold pyNext;refine Po (Tf (wpAny_callSpecial?_slot (name:=Str.ofString "__next__") ty SQ (QA SQ ty F.entry_zip_next (zW hh D hz HN Ir h1 h2 g1 g2 he fun h' e kk ⟨o,ho,oc⟩=>?_) (F.args_zip_next_1 _))));exact Po (wpAny_isInstance (T:="StopIteration") (b:=true) ⟨o,ho,oc⟩ isSubtype_stop (Pp (q _ kk)))
theorem uy{P:Program}{w:World}{K:W.Frag}{es:List Expr}{kt:Nat}{pt:Pos}(k1 k2:Bool)(a b z TI TO i1 i2:Addr)(ne:z≠TI/\z≠TO/\z≠i1/\z≠i2/\TI≠TO/\TI≠i1/\TI≠i2/\TO≠i1/\TO≠i2/\i1≠i2):
  Turn P w K (.Tuple es kt pt) (N4 K k1 k2 a b) [z,TI,TO,i1,i2] z (ZS k1 k2 z TI TO i1 i2 a b) where
 mem:=by simp
 obj:=fun i h st c hc=>by
  obtain⟨hz,HN,⟨x,y,Ir⟩,h1,h2⟩:=st;simp only[PJ,R4,Vi]at hc;rcases hc with rfl|rfl|rfl|rfl|rfl
  ·exact⟨_,hz,fun v q=>by cases q⟩
  ·exact⟨_,HN,fun v q=>by cases q⟩
  ·exact⟨_,Ir,fun v q=>by cases q⟩
  ·exact h1.obj
  ·exact h2.obj
 keep:=fun i h h' st k=>by
  obtain⟨hz,HN,⟨x,y,Ir⟩,h1,h2⟩:=st;exact⟨k z (by simp) _ hz,k TI (by simp) _ HN,⟨x,y,k TO (by simp) _ Ir⟩,h1.at fun o e=>k i1 (by simp) o e,h2.at fun o e=>k i2 (by simp) o e⟩
 item:=by
  intro X hP hw hK hc i pi s σ H E I hf st hg;subst hP hw hK;obtain⟨xs,ys,x,y,s1,s2,hx,hy⟩:=hg;obtain⟨us,r1,q1⟩:=pq I s1;obtain⟨ws,r2,q2⟩:=pq I s2;obtain⟨u,hu,ru⟩:=r1.get hx;obtain⟨v,hv,rv⟩:=r2.get hy;obtain⟨n1,n2,n3,n4,n5,n6,n7,n8,n9,N5⟩:=ne;have f:=fun c hc=>hf c hc
  have D:ZipApart z TI TO i1 i2 a b:=⟨n1.symm,n2.symm,n3.symm,n4.symm,n5,n6,n7,n8,n9,N5,eU I s1 (f z (by simp)),eU I s1 (f TO (by simp)),eU I s1 (f i1 (by simp)),eU I s1 (f i2 (by simp)),
   eU I s2 (f z (by simp)),eU I s2 (f TO (by simp)),eU I s2 (f i1 (by simp)),eU I s2 (f i2 (by simp))⟩
  have HN:=st.2.1;refine nx_zip_item D st q1 q2 (by simpa using hu) (by simpa using hv) fun h' z1 t1 j1 j2 tp kk=>⟨_,rfl,?_⟩
  refine wpAny_letOwnedTupleGo_zip z1 fun h2 z2 sb=>?_
  have nT:H s.heap.objs.size=none:=I.hok.fresh (Py _);have tT:s.heap.objs.size≠z:=UU (PH st.1);have all:∀c o,c≠z->c≠TO->c≠i1->c≠i2->s.heap.get? c=some o->h2.get? c=some o:=fun c o c1 c2 c3 c4 e=>(sb.2 c c1).trans (kk c o c1 c2 c3 c4 e)
  have fz:=f z (by simp);have fo:=f TO (by simp);have f1:=f i1 (by simp);have f2:=f i2 (by simp);have KZ:∀c ob,H c=some ob->c≠z/\c≠TO/\c≠i1/\c≠i2:=fun c ob e=>⟨(fun q=>by rw[q,fz.1]at e;cases e),(fun q=>by rw[q,fo.1]at e;cases e),(fun q=>by rw[q,f1.1]at e;cases e),(fun q=>by rw[q,f2.1]at e;cases e)⟩
  refine⟨.ref s.heap.objs.size,upd H s.heap.objs.size (.tup [x,y]),?_,rfl,⟨_,nT,rfl,fun FU ys' x' y' a1 a2 a3 a4=>?_⟩,⟨z2,?_,⟨u,v,(sb.2 TO n2.symm).trans t1⟩,j1.at fun o e=>(sb.2 i1 n3.symm).trans e,j2.at fun o e=>(sb.2 i2 n4.symm).trans e⟩,fun c hc=>?_⟩
  ·have tup2:h2.get? s.heap.objs.size=some {cls:=.type "tuple",data:=.seq #[u,v]}:=(sb.2 _ tT).trans tp;have S0:Inv X pi σ (upd H s.heap.objs.size (.tup [x,y])) {s with heap:=h2,gens:=s.gens,drawn:=s.drawn,toks:=s.toks}:=by
    refine I.step (ch:=[z,TO,i1,i2]) (fun c hc=>?_) (fun c o _ _ nc e _=>all c o (fun q=>nc (by simp[q])) (fun q=>nc (by simp[q])) (fun q=>nc (by simp[q])) (fun q=>nc (by simp[q])) e)
     (fun c o _ _ nc e _=>⟨o.slots,all c o (fun q=>nc (by simp[q])) (fun q=>nc (by simp[q])) (fun q=>nc (by simp[q])) (fun q=>nc (by simp[q])) e⟩) (fun c o _ e n=>by rw[aB (P1 (PH e))];exact n)
     (fun c o nc e=>⟨o,all c o (fun q=>nc (by simp[q])) (fun q=>nc (by simp[q])) (fun q=>nc (by simp[q])) (fun q=>nc (by simp[q])) e⟩) (fun c l e=>by rw[aB (aN e nT)];exact e) (fun c o u' e=>by rw[aB (aN e nT)];exact e)
     (fun c ps e=>⟨#[],by rw[aB (aN e nT),e];simp⟩) (fun m hm=>?_) (fun c ob e=>?_) I.bare
    ·simp only[PJ,R4,Vi]at hc;rcases hc with rfl|rfl|rfl|rfl
     ·exact⟨fz.2.2.2.1,fz.2.1,fz.2.2.2.2.1,fz.2.2.2.2.2⟩
     ·exact⟨fo.2.2.2.1,fo.2.1,fo.2.2.2.2.1,fo.2.2.2.2.2⟩
     ·exact⟨f1.2.2.2.1,f1.2.1,f1.2.2.2.2.1,f1.2.2.2.2.2⟩
     ·exact⟨f2.2.2.2.1,f2.2.1,f2.2.2.2.2.1,f2.2.2.2.2.2⟩
    ·obtain⟨o,es,ep,ho,r⟩:=hm;exact⟨o,es,ep,all _ o (Rt fz.2.1) (Rt fo.2.1) (Rt f1.2.1) (Rt f2.2.1) ho,r⟩
    ·by_cases ec:c=s.heap.objs.size
     ·subst ec;rw[br]at e;cases e;exact⟨by simp only[PD,RS];rw[Qs];decide,[u,v],.cons ru (.cons rv .nil),⟨_,tup2,rfl,⟨0,rfl⟩,rfl⟩⟩
     ·rw[aB ec]at e;refine(I.hok c ob e).stay (fun d w' hd q=>?_) (fun d q=>by rw[aB (aN q nT)];exact q) fun d l q=>by rw[aB (aN q nT)];exact q
      have IE:∃oo,H d=some oo:=by
       rcases hd with rfl|hd
       ·exact⟨_,e⟩
       ·exact⟨_,hd⟩
      obtain⟨oo,N6⟩:=IE;obtain⟨m1,m2,m3,m4⟩:=KZ d oo N6;exact all d w' m1 m2 m3 m4 q
   exact S0
  ·have e1:=vR I a1 s1;have e2:=vR I a2 s2;subst e1 e2;rw[hx]at a3;rw[hy]at a4;cases a3;cases a4;rfl
  ·exact(sb.2 TI n1.symm).trans (kk TI _ n1.symm n5 n6 n7 HN)
  ·have hc0:=(f c hc).1;have cs:c≠s.heap.objs.size:=by
    have:=(fun i h st=>by
     exact(by
      obtain⟨hz,HN,⟨x,y,Ir⟩,h1,h2⟩:=st;simp only[PJ,R4,Vi]at hc;rcases hc with rfl|rfl|rfl|rfl|rfl
      ·exact⟨_,hz⟩
      ·exact⟨_,HN⟩
      ·exact⟨_,Ir⟩
      ·obtain⟨o,e,_⟩:=h1.obj;exact⟨o,e⟩
      ·obtain⟨o,e,_⟩:=h2.obj;exact⟨o,e⟩:∃o,h.get? c=some o):∀i h,ZS k1 k2 z TI TO i1 i2 a b i h->∃o,h.get? c=some o) i s.heap st
    obtain⟨o,e⟩:=this;exact P1 (PH e)
   rw[aB cs];exact hc0
 done:=by
  intro X hP hw hK hc i pi s σ H E I hf st hg;subst hP hw hK;obtain⟨xs,ys,s1,s2,hi⟩:=hg;obtain⟨us,r1,q1⟩:=pq I s1;obtain⟨ws,r2,q2⟩:=pq I s2;have l1:=r1.length;have l2:=r2.length;obtain⟨n1,n2,n3,n4,n5,n6,n7,n8,n9,N5⟩:=ne;have f:=fun c hc=>hf c hc
  have D:ZipApart z TI TO i1 i2 a b:=⟨n1.symm,n2.symm,n3.symm,n4.symm,n5,n6,n7,n8,n9,N5,eU I s1 (f z (by simp)),eU I s1 (f TO (by simp)),eU I s1 (f i1 (by simp)),eU I s1 (f i2 (by simp)),
   eU I s2 (f z (by simp)),eU I s2 (f TO (by simp)),eU I s2 (f i1 (by simp)),eU I s2 (f i2 (by simp))⟩
  have fz:=f z (by simp);have fo:=f TO (by simp);have f1:=f i1 (by simp);have f2:=f i2 (by simp);refine px (I.ok.hd hc) D st q1 q2 (by
   rcases Nat.le_total us.length ws.length with q|q
   ·exact .inl (by simp;lia)
   ·exact .inr (by simp;lia)) fun h' kk=>⟨rfl,?_⟩
  have KZ:∀c ob,H c=some ob->c≠z/\c≠TO/\c≠i1/\c≠i2:=fun c ob e=>⟨(fun q=>by rw[q,fz.1]at e;cases e),(fun q=>by rw[q,fo.1]at e;cases e),(fun q=>by rw[q,f1.1]at e;cases e),(fun q=>by rw[q,f2.1]at e;cases e)⟩
  have S0:Inv X pi σ H {s with heap:=h',gens:=s.gens,drawn:=s.drawn,toks:=s.toks}:=by
   refine I.step (ch:=[z,TO,i1,i2]) (fun c hc=>?_) (fun c o _ _ nc e _=>kk c o (fun q=>nc (by simp[q])) (fun q=>nc (by simp[q])) (fun q=>nc (by simp[q])) (fun q=>nc (by simp[q])) e)
    (fun c o _ _ nc e _=>⟨o.slots,kk c o (fun q=>nc (by simp[q])) (fun q=>nc (by simp[q])) (fun q=>nc (by simp[q])) (fun q=>nc (by simp[q])) e⟩) (fun c o _ e n=>n)
    (fun c o nc e=>⟨o,kk c o (fun q=>nc (by simp[q])) (fun q=>nc (by simp[q])) (fun q=>nc (by simp[q])) (fun q=>nc (by simp[q])) e⟩) (fun c l e=>e) (fun c o u' e=>e)
    (fun c ps e=>⟨#[],by rw[e];simp⟩) (fun m hm=>?_) (fun c ob e=>?_) I.bare
   ·simp only[PJ,R4,Vi]at hc;rcases hc with rfl|rfl|rfl|rfl
    ·exact⟨fz.2.2.2.1,fz.2.1,fz.2.2.2.2.1,fz.2.2.2.2.2⟩
    ·exact⟨fo.2.2.2.1,fo.2.1,fo.2.2.2.2.1,fo.2.2.2.2.2⟩
    ·exact⟨f1.2.2.2.1,f1.2.1,f1.2.2.2.2.1,f1.2.2.2.2.2⟩
    ·exact⟨f2.2.2.2.1,f2.2.1,f2.2.2.2.2.1,f2.2.2.2.2.2⟩
   ·obtain⟨o,es,ep,ho,r⟩:=hm;exact⟨o,es,ep,kk _ o (Rt fz.2.1) (Rt fo.2.1) (Rt f1.2.1) (Rt f2.2.1) ho,r⟩
   ·refine(I.hok c ob e).stay (fun d w' hd q=>?_) (fun d q=>q) fun d l q=>q
    have IE:∃oo,H d=some oo:=by
     rcases hd with rfl|hd
     ·exact⟨_,e⟩
     ·exact⟨_,hd⟩
    obtain⟨oo,N6⟩:=IE;obtain⟨m1,m2,m3,m4⟩:=KZ d oo N6;exact kk d w' m1 m2 m3 m4 q
  exact S0
 self:=fun _ _ _ _ _ st h=>wpAny_pyIter_zip st.1 h
section
variable{X:Cx}{es:List Expr}{kt:Nat}{pt:Pos}
def DX(K:W.Frag)(k1 k2:Bool)(ta:TA):TI:=fun σ H R=>ta σ H fun vs H1=>∃a b xs ys,vs=[.ref a,.ref b]/\(if k1 then SqL K H1 a xs else SqT K H1 a xs)/\(if k2 then SqL K H1 b ys else SqT K H1 b ys)/\R (N4 K k1 k2 a b) H1
theorem zY(k1 k2:Bool){e1 e2:Expr}{ta:TA}{p pos:Pos}(hg:Gl X "zip")(hm:X.mg "zip" = none)(ha:PA X [e1,e2] ta)(he:starEach [e1,e2] X.env=(false,eval e1 X.env)::starEach [e2] X.env:=by rfl)(Fc:(backTo pos (starEach [e2] X.env)).any (·.1)=false:=by rfl):
  PI X (.Tuple es kt pt) (.Call (.Name "zip" p) [e1,e2] [] pos) (DX X.K k1 k2 ta):=by
 intro pi s σ H R I h;refine Q4 (ij I hg hm (by decide +kernel:bootBuiltins "zip" = some (.type "zip")) ?_ (by decide) (by decide));refine Rc (EG (ha pos pi s σ H _ I h) fun us s1 ⟨vs,H1,I1,r1,a,b,xs,ys,e,s1',s2',q⟩=>?_) he Fc;subst e;obtain⟨u,w',rfl,ra,rb⟩:=zv r1;cases ra;cases rb;obtain⟨us,v1,q1⟩:=pq I1 s1';obtain⟨ws,v2,q2⟩:=pq I1 s2';refine xm q1 q2 fun h' st kk=>?_
 refine wpAny_pyIter_zip st.1 ?_;have fr:∀j,p7 X pi H1 (s1.heap.objs.size+j):=fun j=>I1.fpOk (Tr _ _) (I1.hok.fresh (Tr _ _))
 have nn:∀i j:Nat,i≠j->s1.heap.objs.size+i≠s1.heap.objs.size+j:=fun i j h z=>h (Nat.add_left_cancel z)
 refine⟨_,_,_,_,H1,rfl,I1.kept (t':=s1.toks) kk,uy k1 k2 a b (s1.heap.objs.size+4) (s1.heap.objs.size+2) (s1.heap.objs.size+3) (s1.heap.objs.size+0) (s1.heap.objs.size+1)
  ⟨nn 4 2 (by decide),nn 4 3 (by decide),nn 4 0 (by decide),nn 4 1 (by decide),nn 2 3 (by decide),nn 2 0 (by decide),nn 2 1 (by decide),nn 3 0 (by decide),nn 3 1 (by decide),nn 0 1 (by decide)⟩,st,fun c hc=>?_,q⟩
 simp only[PJ,R4,Vi]at hc;rcases hc with rfl|rfl|rfl|rfl|rfl
 ·exact fr 4
 ·exact fr 2
 ·exact fr 3
 ·exact fr 0
 ·exact fr 1
end
end NX
namespace NX
open PySem PySem.W PyProof.Rows
section
variable{n:Nat}{O:KeyOrd}{κ:Nat->O.α}{cmp:Nat->Nat->(Bool->Shared->Prop)->Shared->Prop}{Good:Shared->Prop}
def kk(κ:Nat->O.α)(p:Array Nat)(i:Nat):O.α:=κ (p.getD i 0)
structure POk(n:Nat)(p:Array Nat):Prop where
 perm:p.toList.Perm (List.range n)
theorem POk.size{p:Array Nat}(h:POk n p):p.size=n:=by
 have:=h.perm.length_eq;simpa using this
theorem POk.lt{p:Array Nat}(h:POk n p){i:Nat}(hi:i<n):p.getD i 0<n:=by
 have hs:=h.size;have Hd:i<p.size:=by lia
 have e:p.getD i 0=p[i]:=by simp[Array.getD,Hd]
 rw[e];exact PU.mp (h.perm.mem_iff.mp (Array.getElem_mem_toList Hd))
theorem POk.of{p q:Array Nat}(h:POk n p)(hq:q.Perm p):POk n q:=⟨(Array.perm_iff_toList_perm.mp hq).trans h.perm⟩
def aR(κ:Nat->O.α)(p:Array Nat)(m:Nat):Prop:=∀i j,i<=j->j<m->O.kle (kk κ p i) (kk κ p j)
def dv(κ:Nat->O.α)(p:Array Nat)(m:Nat):Prop:=∀i j,i<=j->j<m->O.kle (kk κ p j) (kk κ p i)
theorem c9{p q:Array Nat}{i j:Nat}(h:p[i]?=q[j]?):p.getD i 0=q.getD j 0:=by
 rw[Qa,Qa,h]
theorem nQ{p:Array Nat}{i j:Nat}(hj:j<=p.size)(k:Nat):kk κ (kas_rev p i j) k=if i<=k/\k<j then kk κ p (i+j-1-k) else kk κ p k:=by
 have e:=getElem?_mirror_all (i:=i) hj k;unfold kk kas_rev;split
 ·rename_i h;rw[PF h]at e;rw[c9 e]
 ·rename_i h;rw[PM h]at e;rw[c9 e]
theorem vS{p:Array Nat}{src d:Nat}(hs:src<p.size)(hd:d<=src)(k:Nat):kk κ (bubble p src d) k=if k=src-d then kk κ p src else if src-d<k/\k<=src then kk κ p (k-1) else kk κ p k:=by
 have e:=getElem?_bubble hs d hd k;by_cases h:k=src-d
 ·rw[PF h]at e ⊢;exact Qt κ (c9 e)
 ·rw[PM h]at e ⊢;by_cases h2:src-d<k/\k<=src
  ·rw[PF h2]at e ⊢;exact Qt κ (c9 e)
  ·rw[PM h2]at e ⊢;exact Qt κ (c9 e)
theorem POk.rev{p:Array Nat}(h:POk n p)(i j:Nat):POk n (kas_rev p i j):=h.of (mirror_perm _ _ _ _)
theorem POk.bub{p:Array Nat}(h:POk n p)(i j:Nat):POk n (bubble p i j):=h.of (bubble_perm _ _ _)
theorem pA(p:Array Nat):aR κ p 1:=fun i j a b=>by
 have e:i=j:=by lia
 rw[e];exact Ri _
theorem mJ{p:Array Nat}{m:Nat}(h1:1<=m)(h:aR κ p m)(hm:O.kle (kk κ p (m-1)) (kk κ p m)):aR κ p (m+1):=by
 intro i j My hj;by_cases e:j=m
 ·subst e;by_cases e2:i=j
  ·subst e2;exact Ri _
  ·exact Su (h i (j-1) (by lia) (by lia)) hm
 ·exact h i j My (by lia)
theorem de{p:Array Nat}{m:Nat}(h1:1<=m)(h:dv κ p m)(hm:O.kle (kk κ p m) (kk κ p (m-1))):dv κ p (m+1):=by
 intro i j My hj;by_cases e:j=m
 ·subst e;by_cases e2:i=j
  ·subst e2;exact Ri _
  ·exact Su hm (h i (j-1) (by lia) (by lia))
 ·exact h i j My (by lia)
variable(hc:∀i j,i<n->j<n->∀(Q:Bool->Shared->Prop) s,Good s->(∀s',Good s'->Q (O.blt (κ i) (κ j)) s')->cmp i j Q s)
include hc
theorem qH{p:Array Nat}(hp:POk n p){EZ:Nat}(hn:EZ<=n){Q:Nat->Shared->Prop}:∀(f m:Nat) (s:Shared),Good s->1<=m->m+f=EZ->aR κ p m->
  (∀r s',Good s'->m<=r->r<=EZ->aR κ p r->(r<EZ->O.klt (kk κ p r) (kk κ p (r-1)))->Q r s')->(kas_asc p f m).kasWp cmp Q s
 | 0,m,s,g,h1,hf,hs,k=>k m s g (Py _) (by lia) hs (fun z=>by lia)
 |f+1,m,s,g,h1,hf,hs,k=>by
  show cmp (p.getD m 0) (p.getD (m-1) 0) _ s;refine hc _ _ (hp.lt (by lia)) (hp.lt (by lia)) _ s g fun s' g'=>?_
  cases e:O.blt (κ (p.getD m 0)) (κ (p.getD (m-1) 0)) with
  |true=>
   (try dsimp only)
   rw[PF rfl];exact k m s' g' (Py _) (by lia) hs fun _=>e
  |false=>
   (try dsimp only)
   rw[PM Pt];exact qH hp hn f (m+1) s' g' (by lia) (by lia) (mJ h1 hs e) fun r s2 g2 a b c d=>k r s2 g2 (by lia) b c d
def xn(κ:Nat->O.α)(p:Array Nat)(m q:Nat):Prop:=∀k,m-(q+1)<=k->k<m->kk κ p k=kk κ p (m-1)
omit hc in
theorem lg{p:Array Nat}{m q:Nat}(hm:m<=p.size)(h:xn κ p m q)(k:Nat):kk κ (kas_rev p (m-(q+1)) m) k=kk κ p k:=by
 rw[nQ hm];split
 ·rename_i hk;rw[h _ (by lia) (by lia),h k hk.1 hk.2]
 ·rfl
omit hc in
theorem gv{p p':Array Nat}{m:Nat}(e:∀k,kk κ p' k=kk κ p k)(h:dv κ p m):dv κ p' m:=fun i j a b=>by rw[e,e];exact h i j a b
theorem jM{EZ:Nat}(hn:EZ<=n){Q:Array Nat×Nat×Nat->Shared->Prop}:∀(f:Nat) (p:Array Nat) (m q:Nat) (s:Shared),POk n p->Good s->1<=m->q+1<=m->m+f=EZ->dv κ p m->xn κ p m q->
  (∀p' m' q' s',POk n p'->Good s'->m<=m'->m'<=EZ->q'+1<=m'->dv κ p' m'->xn κ p' m' q'->Q (p',m',q') s')->(kas_desc f p m q).kasWp cmp Q s
 | 0,p,m,q,s,hp,g,h1,hq,hf,hs,ha,k=>k p m q s hp g (Py _) (by lia) hq hs ha
 |f+1,p,m,q,s,hp,g,h1,hq,hf,hs,ha,k=>by
  show cmp (p.getD m 0) (p.getD (m-1) 0) _ s;refine hc _ _ (hp.lt (by lia)) (hp.lt (by lia)) _ s g fun s' g'=>?_
  have hsz:=hp.size;cases e:O.blt (κ (p.getD m 0)) (κ (p.getD (m-1) 0)) with
  |true=>
   (try dsimp only)
   rw[PF rfl];have le:O.kle (kk κ p m) (kk κ p (m-1)):=Sn e;by_cases h0:q>0
   ·rw[PF h0];have same:=lg (κ:=κ) (p:=p) (m:=m) (q:=q) (by lia) ha;refine jM hn f _ (m+1) 0 s' (hp.rev _ _) g' (by lia) (by lia) (by lia) (de h1 (gv same hs) (by rw[same,same];exact le)) ?_ fun p' m' q' s2 a b c d e' f' g2=>k p' m' q' s2 a b (by lia) d e' f' g2
    intro k' a b;have:k'=m:=by lia
    rw[this];rfl
   ·rw[PM h0];refine jM hn f p (m+1) 0 s' hp g' (by lia) (by lia) (by lia) (de h1 hs le) ?_ fun p' m' q' s2 a b c d e' f' g2=>k p' m' q' s2 a b (by lia) d e' f' g2
    intro k' a b;have:k'=m:=by lia
    rw[this];rfl
  |false=>
   (try dsimp only)
   rw[PM Pt];show cmp (p.getD (m-1) 0) (p.getD m 0) _ s';refine hc _ _ (hp.lt (by lia)) (hp.lt (by lia)) _ s' g' fun s2 g2=>?_
   cases e2:O.blt (κ (p.getD (m-1) 0)) (κ (p.getD m 0)) with
   |true=>
    (try dsimp only)
    rw[PF rfl];exact k p m q s2 hp g2 (Py _) (by lia) hq hs ha
   |false=>
    (try dsimp only)
    rw[PM Pt];have eq:kk κ p (m-1)=kk κ p m:=KeyOrd.kle_antisymm (O:=O) e e2;refine jM hn f p (m+1) (q+1) s2 hp g2 (by lia) (by lia) (by lia) (de h1 hs (by rw[eq];exact Ri _)) ?_ fun p' m' q' s3 a b c d e' f' g3=>k p' m' q' s3 a b (by lia) d e' f' g3
    intro k' a b;show kk κ p k'=kk κ p m;by_cases z:k'=m
    ·rw[z]
    ·rw[ha k' (by lia) (by lia),eq]
omit hc in
theorem pB{p:Array Nat}{m:Nat}(hm:m<=p.size)(h:dv κ p m):aR κ (kas_rev p 0 m) m:=by
 intro i j a b;rw[nQ hm,nQ hm,PF (by lia),PF (by lia)];exact h _ _ (by lia) (by lia)
theorem qI{p:Array Nat}(hp:POk n p){m EZ:Nat}(hn:EZ<=n)(h1:1<=m)(hm:m<=EZ)(hs:dv κ p m){Q:Nat×Array Nat->Shared->Prop}{s:Shared}(g:Good s)
  (k:∀r p' s',POk n p'->Good s'->1<=r->r<=EZ->aR κ p' r->Q (r,p') s'):(kas_tail3 m EZ p).kasWp cmp Q s:=by
 unfold kas_tail3;rw[KasT.kasWp_bind];have hsz:=hp.size;refine qH hc (hp.rev 0 m) hn (EZ-m) m s g h1 (by lia) (pB (by lia) hs) fun r s' g' a b c _=>?_
 exact k r _ s' (hp.rev 0 m) g' (by lia) b c
theorem iu{p:Array Nat}(hp:POk n p){m EZ:Nat}(hn:EZ<=n)(h1:1<=m)(hm:m+1<=EZ)(hs:dv κ p (m+1)){Q:Nat×Array Nat->Shared->Prop}{s:Shared}(g:Good s)
  (k:∀r p' s',POk n p'->Good s'->1<=r->r<=EZ->aR κ p' r->Q (r,p') s'):(kas_descPart m EZ p).kasWp cmp Q s:=by
 unfold kas_descPart;rw[KasT.kasWp_bind];refine jM hc hn (EZ-(m+1)) p (m+1) 0 s hp g (by lia) (by lia) (by lia) hs ?_ fun p' m' q' s' a b c d e f g2=>?_
 ·intro k' a b;have:k'=m:=by lia
  rw[this];rfl
 ·have hsz:=a.size;dsimp only;split
  ·have same:=lg (κ:=κ) (p:=p') (m:=m') (q:=q') (by lia) g2;exact qI hc (a.rev _ _) hn (by lia) d (gv same f) b k
  ·exact qI hc a hn (by lia) d f b k
theorem uz{p:Array Nat}(hp:POk n p){EZ:Nat}(hn:EZ<=n)(h1:1<=EZ){Q:Nat×Array Nat->Shared->Prop}{s:Shared}(g:Good s)
  (k:∀r p' s',POk n p'->Good s'->1<=r->r<=EZ->aR κ p' r->Q (r,p') s'):(kas_count EZ p).kasWp cmp Q s:=by
 unfold kas_count;rw[KasT.kasWp_bind];have hsz:=hp.size;refine qH hc hp hn (EZ-1) 1 s g (Py _) (by lia) (pA p) fun m s' g' a b c d=>?_
 by_cases e:m=EZ
 ·rw[PF (by simpa using e)];exact k m p s' hp g' (by lia) (by lia) c
 ·rw[PM (by simpa using e)];have dd:=d (by lia);by_cases h2:m>1
  ·rw[PF h2];show cmp (p.getD 0 0) (p.getD (m-1) 0) _ s';refine hc _ _ (hp.lt (by lia)) (hp.lt (by lia)) _ s' g' fun s2 g2=>?_
   cases e2:O.blt (κ (p.getD 0 0)) (κ (p.getD (m-1) 0)) with
   |true=>
    (try dsimp only)
    rw[PF rfl];exact k m p s2 hp g2 (by lia) b c
   |false=>
    (try dsimp only)
    rw[PM Pt];have eq:∀i,i<m->kk κ p i=kk κ p 0:=fun i hi=>by
     have x1:=c 0 i (by lia) hi;have x2:=c i (m-1) (by lia) (by lia);exact KeyOrd.kle_antisymm (O:=O) (Su x2 e2) x1
    have same:∀i,kk κ (kas_rev p 0 m) i=kk κ p i:=fun i=>by
     rw[nQ (by lia)];split
     ·rw[eq _ (by lia),eq i (by lia)]
     ·rfl
    refine iu hc (hp.rev 0 m) hn (by lia) (by lia) ?_ g2 k;refine gv same (de (by lia) (fun i j x y=>?_) (Sn dd));rw[eq i (by lia),eq j y];exact Ri _
  ·rw[PM h2];refine iu hc hp hn (by lia) (by lia) (de (by lia) (fun i j x y=>?_) (Sn dd)) g' k;have:i=j:=by lia
   rw[this];exact Ri _
theorem jN{p:Array Nat}(hp:POk n p){t:Nat}(ht:t<n)(hs:aR κ p t){Q:Nat->Shared->Prop}:∀(f l r:Nat) (s:Shared),Good s->l<=r->r<=t->r-l<=f->(∀i,i<l->O.kle (kk κ p i) (kk κ p t))->(∀i,r<=i->i<t->O.klt (kk κ p t) (kk κ p i))->
  (∀x s',Good s'->x<=t->(∀i,i<x->O.kle (kk κ p i) (kk κ p t))->(∀i,x<=i->i<t->O.klt (kk κ p t) (kk κ p i))->Q x s')->(kas_place p t f l r).kasWp cmp Q s
 | 0,l,r,s,g,h1,h2,h3,lo,hi,k=>k l s g (by lia) lo fun i a b=>hi i (by lia) b
 |f+1,l,r,s,g,h1,h2,h3,lo,hi,k=>by
  unfold kas_place;by_cases e:l>=r
  ·rw[PF e];exact k l s g (by lia) lo fun i a b=>hi i (by lia) b
  ·rw[PM e];show cmp (p.getD t 0) (p.getD ((l+r) / 2) 0) _ s;refine hc _ _ (hp.lt ht) (hp.lt (by lia)) _ s g fun s' g'=>?_
   cases e2:O.blt (κ (p.getD t 0)) (κ (p.getD ((l+r) / 2) 0)) with
   |true=>
    (try dsimp only)
    rw[PF rfl];refine jN hp ht hs f l ((l+r) / 2) s' g' (by lia) (by lia) (by lia) lo (fun i a b=>?_) k;exact KeyOrd.klt_of_klt_of_kle (O:=O) e2 (hs _ i a b)
   |false=>
    (try dsimp only)
    rw[PM Pt];refine jN hp ht hs f ((l+r) / 2+1) r s' g' (by lia) (by lia) (by lia) (fun i a=>?_) hi k;exact Su (O:=O) (hs i ((l+r) / 2) (by lia) (by lia)) e2
theorem vT{Q:Array Nat->Shared->Prop}:∀(f:Nat) (p:Array Nat) (t:Nat) (s:Shared),POk n p->Good s->t+f=n->aR κ p t->(∀p' s',POk n p'->Good s'->aR κ p' n->Q p' s')->(kas_bin f p t).kasWp cmp Q s
 | 0,p,t,s,hp,g,hf,hs,k=>k p s hp g (by rw[show n=t by lia];exact hs)
 |f+1,p,t,s,hp,g,hf,hs,k=>by
  unfold kas_bin;rw[KasT.kasWp_bind];have hsz:=hp.size;refine jN hc hp (by lia) hs t 0 t s g (Qg _) (Py _) (by lia) (fun i a=>by lia) (fun i a b=>by lia) fun x s' g' hx lo hi=>?_
  refine vT f _ (t+1) s' (hp.bub _ _) g' (by lia) ?_ k;have ex:t-(t-x)=x:=by lia
  intro i j a b;rw[vS (by lia) (by lia),vS (by lia) (by lia),ex];have lo':=lo;by_cases i1:i=x
  ·by_cases j1:j=x
   ·rw[PF i1,PF j1];exact Ri _
   ·rw[PF i1,PM j1,PF (by lia)];exact Sn (hi (j-1) (by lia) (by lia))
  ·rw[PM i1];by_cases i2:x<i/\i<=t
   ·rw[PF i2,PM (by lia),PF (by lia)];exact hs (i-1) (j-1) (by lia) (by lia)
   ·rw[PM i2];by_cases j1:j=x
    ·rw[PF j1];exact lo i (by lia)
    ·rw[PM j1];by_cases j2:x<j/\j<=t
     ·rw[PF j2];exact hs i (j-1) (by lia) (by lia)
     ·rw[PM j2];exact hs i j a (by lia)
theorem xo(h1:1<=n){Q:Array Nat->Shared->Prop}{s:Shared}(g:Good s)(k:∀p s',POk n p->Good s'->aR κ p n->Q p s'):(kas_sort n).kasWp cmp Q s:=by
 unfold kas_sort;rw[KasT.kasWp_bind];refine uz hc (p:=List.toArray (List.range n)) ⟨by simp⟩ (Py _) h1 g fun r p' s' hp g' a b c=>?_
 dsimp only;split
 ·have e:max r 1=r:=by lia
  rw[e];exact vT hc (n-r) p' r s' hp g' (by lia) c k
 ·exact k p' s' hp g' (by rw[show n=r by lia];exact c)
end
end NX
namespace NX
open PySem PySem.W PySem.Spec PyProof.Rows L2
section
variable{prog:Program}{w:World}{A:Around}{E:Value->Shared->Prop}{s:Shared}
theorem nR(n:Nat):POk n (List.toArray (List.range n)):=⟨by simp⟩
theorem fQ{O:KeyOrd}{key:Nat->O.α}{kd:SortKind}{a:Addr}{vs:List Value}{n:Nat}{P:PySem.Fin->Shared->Prop}(ho:s.heap.get? a=some (seqObj "list" vs.toArray n))(Iu:vs.length<64)
  (Gz:2<=vs.length->∀(h':Heap),(∀b o,b≠a->s.heap.get? b=some o->h'.get? b=some o)->∀Q:SortKind->Shared->Prop,Q kd {s with heap:=h'}->wpAny (model prog w) A (keyKind' vs.toArray) Q E {s with heap:=h'})
  (IS:∀i j,i<vs.length->j<vs.length->∀(h':Heap),(∀b o,b≠a->s.heap.get? b=some o->h'.get? b=some o)->∀C:Bool->Shared->Prop,C (O.blt (key i) (key j)) {s with heap:=h'}->kas_ask prog w A kd vs i j C {s with heap:=h'})
  (h:∀p h',POk vs.length p->aR key p vs.length->(∃e,h'.get? a=some (seqObj "list" (List.toArray (p.toList.map fun i=>vs.getD i .none)) e))->(∀b o,b≠a->s.heap.get? b=some o->h'.get? b=some o)->P (.done (.ret .none)) {s with heap:=h'}):
  wpAny (model prog w) A (Builtin.«list.sort» ⟨[.ref a],[]⟩) P E s:=by
 rw[list_sort_plain];have la:a<s.heap.objs.size:=PH ho;have zs:vs.toArray.size=vs.length:=by simp
 refine Po (listItems_at ho rfl (Po (listUpdate_at ho rfl ?_ (by rw[zs,Qs];lia) (Qg _))));obtain⟨e1,h1⟩:∃e1,(s.heap.update a (Obj.mapSeq fun _=>#[])).get? a=some (seqObj "list" #[] e1):=⟨_,get?_update_seq ho (fun _=>#[])⟩
 refine Po (seqEpoch_at h1 rfl (Po (wpAny_newTuple (Po (Uy (QH ?_))) (by simp only[SM];rw[Qs];lia))));generalize e6:((s.heap.update a (Obj.mapSeq fun _=>#[])).push {cls:=.type "tuple",data:=.seq vs.toArray.toList.toArray}).push {cls:=.type "list",data:=.seq ([]:List Value).toArray}=h6;have k6:∀b o,b≠a->s.heap.get? b=some o->h6.get? b=some o:=fun b o nb e=>by
  rw[<-e6];exact Heap.get?_push_of_some _ (Heap.get?_push_of_some _ ((Heap.get?_update_other _ _ (Rt nb)).trans e))
 have Mz:h6.get? a=some (seqObj "list" #[] e1):=by
  rw[<-e6];exact Heap.get?_push_of_some _ (Heap.get?_push_of_some _ h1)
 dsimp only;have fin:∀(p:Array Nat),POk vs.length p->aR key p vs.length->∀out:Array Value,out=List.toArray (p.toList.map fun i=>vs.getD i .none)->
   P (.done (.ret .none)) {s with heap:=h6.update a (Obj.mapSeq fun _=>out)}:=fun p hp hs out eo=>by
  subst eo;exact h p _ hp hs ⟨_,get?_update_seq Mz _⟩ fun b o nb e=>(Heap.get?_update_other _ _ (Rt nb)).trans (k6 b o nb e)
 have fits:∀{out:Array Value}{p:Array Nat},POk vs.length p->out=List.toArray (p.toList.map fun i=>vs.getD i .none)->out.size<=sizeLine+1:=fun{out p} hp e=>by
  rw[e,Pu,Pr,hp.perm.length_eq,Pz,Qs];lia
 by_cases h2:vs.toArray.size<2
 ·rw[PF h2,PF h2];refine Po (Pp ?_);rw[StateT.run_pure];refine Po (Pp ?_);dsimp only;have eo:(arrOf (SortSt.mk' general' (vs.toArray.zip vs.toArray) #[] 7 none)).map (·.2)=List.toArray ((List.toArray (List.range vs.length)).toList.map fun i=>vs.getD i .none):=by
   show(vs.toArray.zip vs.toArray).map (·.2)=_;apply Array.toList_inj.mp;simp only[Array.toList_map,Array.toList_zip,SM];have a1:(vs.zip vs).map (·.2)=vs:=by
    rw[List.map_snd_zip];exact Py _
   rw[a1];apply RU;intro i;by_cases hi:i<vs.length
   ·simp[hi]
   ·simp[hi]
  refine Po (seqEpoch_at Mz rfl (Po (listUpdate_at Mz rfl ?_ (Qg _) (fits (nR _) eo))));simp only[Sm,P4,Qy];refine Pp (fin _ (nR _) ?_ _ eo);intro i j x y;have:i=j:=by lia
  rw[this];exact Ri _
 ·rw[PM h2,PM h2];have LV:2<=vs.length:=by lia
  refine Po (Gz LV h6 k6 _ ?_);refine Po (QB (kat_run (ks:=vs) (vs:=vs) (Q:=fun Hc s'=>∃p,POk vs.length p/\aR key p vs.length/\arrOf Hc=p.map (kas_item (vs.toArray.zip vs.toArray))/\failedOf Hc=none/\s'={s with heap:=h6})
   (G:=fun p s'=>POk vs.length p/\aR key p vs.length/\s'={s with heap:=h6}) rfl LV Iu (fun p Hc s' hz N7 hf hg=>⟨p,hg.1,hg.2.1,N7,hf,hg.2.2⟩)
   (xo (n:=vs.length) (O:=O) (κ:=key) (Good:=fun s'=>s'={s with heap:=h6}) (fun i j hi hj Q s' g k=>?_) (by lia) rfl fun p s' hp g hs=>⟨hp,hs,g⟩)) (fun r s' hq=>?_) fun _ _ e=>e)
  ·subst g;exact IS i j hi hj h6 k6 Q (k _ rfl)
  ·obtain⟨p,hp,hs,N7,hf,rfl⟩:=hq;have eo:=kat_snds (ks:=vs) (vs:=vs) rfl N7;refine Po (seqEpoch_at Mz rfl (Po (listUpdate_at Mz rfl ?_ (Qg _) (fits hp eo))));rw[hf];simp only[Sm,P4,Qy];exact Pp (fin p hp hs _ eo)
theorem gw{O:KeyOrd}{key:Nat->O.α}{kd:SortKind}{l:Addr}{vs:List Value}{Q:Value->Shared->Prop}(hl:s.heap.IsList l vs.toArray)(Iu:vs.length<64)
  (Gz:2<=vs.length->∀(A':Around) (E':Value->Shared->Prop) (h':Heap),(∀b o,s.heap.get? b=some o->h'.get? b=some o)->∀Q:SortKind->Shared->Prop,Q kd {s with heap:=h'}->wpAny (model prog w) A' (keyKind' vs.toArray) Q E' {s with heap:=h'})
  (IS:∀i j,i<vs.length->j<vs.length->∀(h':Heap),(∀b o,s.heap.get? b=some o->h'.get? b=some o)->∀C:Bool->Shared->Prop,C (O.blt (key i) (key j)) {s with heap:=h'}->kas_ask prog w A.in1.in1 kd vs i j C {s with heap:=h'})
  (h:∀p h' e,POk vs.length p->aR key p vs.length->h'.get? (s.heap.objs.size+1)=some (seqObj "list" (List.toArray (p.toList.map fun i=>vs.getD i .none)) e)->(∀b o,s.heap.get? b=some o->h'.get? b=some o)->Q (.ref (s.heap.objs.size+1)) {s with heap:=h'}):
  wpAny (model prog w) A (call (.builtin "sorted") [.ref l]) Q E s:=by
 refine R1 kind_sorted plain_sorted entry_sorted (args_sorted1 _) ?_;unfold Builtin.«sorted»;refine Po (m:=checkCount "sorted" 1 1 _) (Pp (Po (collect_list hl (Po (Uy ?_ (by rw[Qs];lia))) (by rw[Qs];lia))));have zz:((s.heap.push (seqObj "list" #[] 0)).update s.heap.objs.size (Obj.mapSeq (·++vs.toArray))).objs.size=s.heap.objs.size+1:=by rw[Heap.size_update,size_push']
 generalize e5:(s.heap.push (seqObj "list" #[] 0)).update s.heap.objs.size (Obj.mapSeq (·++vs.toArray))=h5 at zz ⊢;have k5:∀b o,s.heap.get? b=some o->(h5.push (seqObj "list" vs.toArray 0)).get? b=some o:=fun b o e=>by
  rw[<-e5];exact Heap.get?_push_of_some _ ((Heap.get?_update_other _ _ (Rt (P1 (PH e)))).trans (Heap.get?_push_of_some _ e))
 have hL:(h5.push (seqObj "list" vs.toArray 0)).get? (s.heap.objs.size+1)=some (seqObj "list" vs.toArray 0):=by
  rw[<-zz];exact Heap.get?_push_size _ rfl
 have ne:∀b o,s.heap.get? b=some o->b≠s.heap.objs.size+1:=fun b o e=>P1 (S7 (PH e))
 show wpAny _ _ _ _ _ {s with heap:=h5.push (seqObj "list" vs.toArray 0)};rw[zz];refine Po (QH (QA slot_list_sort ⟨_,hL,rfl⟩ entry_list_sort (fQ (key:=key) (kd:=kd) hL Iu (fun h2 h' kk Q' q=>Gz h2 _ _ h' (fun b o e=>kk b o (ne b o e) (k5 b o e)) Q' q)
  (fun i j hi hj h' kk C q=>IS i j hi hj h' (fun b o e=>kk b o (ne b o e) (k5 b o e)) C q) fun p h' hp hs ⟨e,he⟩ kk=>⟨_,rfl,?_⟩) (args_list_sort _)))
 exact Pp ⟨_,rfl,h p h' e hp hs he fun b o q=>kk b o (ne b o q) (k5 b o q)⟩
end
def intO:KeyOrd where
 α:=Int
 blt a b:=decide (a<b)
 irrefl a:=by simp
 trans a b c h1 h2:=by simp only[PQ] at *;lia
 negTrans a b c h:=by simp only[PQ] at *;lia
 total a b h1 h2:=by simp only[Qn] at *;lia
abbrev Dk:KeyOrd:=strKind.toKeyOrd
noncomputable def lh:KeyOrd where
 α:=Key
 blt a b:=match a,b with
  | .inl i,.inl j=>decide (i<j)
  | .inr x,.inr y=>decide (x.cps.toList<y.cps.toList)
  | .inl _,.inr _=>true
  | .inr _,.inl _=>false
 irrefl a:=by
  cases a with
  |inl i=>simp
  |inr x=>simpa using List.lt_irrefl x.cps.toList
 trans a b c h1 h2:=by
  cases a <;> cases b <;> cases c <;> simp_all
  ·lia
  ·exact List.lt_trans h1 h2
 negTrans a b c h:=by
  cases a <;> cases b <;> cases c <;> simp_all
  ·lia
  ·rename_i x y z;by_cases q:x.cps.toList<y.cps.toList
   ·exact .inl q
   ·exact .inr (List.lt_of_le_of_lt (Tg.mp q) h)
 total a b h1 h2:=by
  cases a <;> cases b <;> simp_all
  ·lia
  ·rename_i x y;have e:x.cps.toList=y.cps.toList:=List.le_antisymm (by first|exact h2|exact Tg.mp h2) (by first|exact h1|exact Tg.mp h1);rw[<-k8 x,<-k8 y,e]
def cu:List Key->List Key->Bool
 |[],[]=>false
 |[],_::_=>true
 |_::_,[]=>false
 |a::r,b::t=>if a=b then cu r t else lh.blt a b
theorem fC:∀a:List Key,cu a a=false
 |[]=>rfl
 |a::r=>by
  show(if a=a then cu r r else _)=false;rw[PF rfl];exact fC r
theorem xp{a b:Key}(h:lh.blt a b=true):a≠b:=by
 rintro rfl;have:=lh.irrefl a;rw[h]at this;cases this
theorem eD:∀a b c:List Key,cu a b=true->cu b c=true->cu a c=true
 |[],[],_,h,_=>by cases h
 |[],_::_,[],_,h=>by cases h
 |[],_::_,_::_,_,_=>rfl
 |_::_,[],_,h,_=>by cases h
 |_::_,_::_,[],_,h=>by cases h
 |a::r,b::t,c::u,h1,h2=>by
  have h1:(if a=b then cu r t else lh.blt a b)=true:=h1;have h2:(if b=c then cu t u else lh.blt b c)=true:=h2;show(if a=c then cu r u else lh.blt a c)=true;by_cases e1:a=b
  ·by_cases e2:b=c
   ·rw[PF e1]at h1;rw[PF e2]at h2;rw[PF (e1.trans e2)];exact eD r t u h1 h2
   ·rw[PM e2]at h2;rw[e1,PM e2];exact h2
  ·rw[PM e1]at h1;by_cases e2:b=c
   ·rw[<-e2,PM e1];exact h1
   ·rw[PM e2]at h2;have h3:=lh.trans a b c h1 h2;rw[PM (xp h3)];exact h3
theorem eE:∀a b:List Key,cu a b=false->cu b a=false->a=b
 |[],[],_,_=>rfl
 |[],_::_,h,_=>by cases h
 |_::_,[],_,h=>by cases h
 |a::r,b::t,h1,h2=>by
  have h1:(if a=b then cu r t else lh.blt a b)=false:=h1;have h2:(if b=a then cu t r else lh.blt b a)=false:=h2;by_cases e:a=b
  ·rw[PF e]at h1;rw[PF e.symm]at h2;rw[e,eE r t h1 h2]
  ·rw[PM e]at h1;rw[PM (Rt e)]at h2;exact absurd (lh.total a b h1 h2) e
theorem uA(a b c:List Key)(h:cu a c=true):cu a b=true\/cu b c=true:=by
 cases e:cu a b with
 |true=>exact .inl rfl
 |false=>
  refine .inr ?_;cases e2:cu b a with
  |true=>exact eD b a c e2 h
  |false=>
   rw[<-eE a b e e2];exact h
def BF:KeyOrd where
 α:=List Key
 blt:=cu
 irrefl:=fC
 trans:=eD
 negTrans:=uA
 total:=eE
section
variable{O:KeyOrd}
def pC(p:Array Nat)(xs:List V):List V:=p.toList.map fun i=>xs.getD i .non
theorem jj{α:Type}(xs:List α)(d:α):((List.range xs.length).map fun i=>xs.getD i d)=xs:=by
 apply RU;intro i;by_cases hi:i<xs.length
 ·simp[hi]
 ·simp[hi]
theorem g0{α:Type}{p:Array Nat}{xs:List α}(d:α)(hp:POk xs.length p):(p.toList.map fun i=>xs.getD i d).Perm xs:=by
 have:=hp.perm.map (fun i=>xs.getD i d)
 rwa [jj]at this
theorem eF{α:Type}{p:Array Nat}{xs:List α}(d:α)(key:α->O.α)(hp:POk xs.length p)(hs:aR (O:=O) (fun i=>key (xs.getD i d)) p xs.length):(p.toList.map fun i=>xs.getD i d).Pairwise fun a b=>O.kle (key a) (key b):=by
 rw[S3];intro i j hi hj My;have hsz:=hp.size;have Hd:i<p.size:=by simpa using hi
 have K0:j<p.size:=by simpa using hj
 have h:=hs i j (TH My) (by lia);unfold kk at h;simp only[R5,Qr];have e1:p.getD i 0=p[i]:=by simp[Array.getD,Hd]
 have e2:p.getD j 0=p[j]:=by simp[Array.getD,K0]
 rw[e1,e2]at h;exact h
theorem vals_pick{xs:List V}{us:List Value}(r:Vals xs us):∀l:List Nat,(∀i∈l,i<xs.length)->Vals (l.map fun i=>xs.getD i .non) (l.map fun i=>us.getD i .none)
 |[],_=>.nil
 |i::l,h=>by
  refine .cons ?_ (vals_pick r l fun j hj=>h j (Px _ hj));have hi:=h i Pq;have e1:xs[i]?=some (xs.getD i .non):=by rw[a8 _ _ _ hi];exact List.getElem?_eq_getElem hi
  obtain⟨u,hu,ru⟩:=r.get e1;have e2:us.getD i .none=u:=by rw[List.getD_eq_getElem?_getD,hu];rfl
  show L2.RelV (xs.getD i .non) (us.getD i .none);rw[e2];exact ru
theorem g8{xs:List V}{us:List Value}{p:Array Nat}(r:Vals xs us)(hp:POk xs.length p):Vals (pC p xs) (p.toList.map fun i=>us.getD i .none):=
 vals_pick r _ fun i hi=>PU.mp (hp.perm.mem_iff.mp hi)
end
section
variable{X:Cx}
theorem fR{pi:List (Addr×Obj)}{s:Shared}{σ:L2.St}{H:Hp}{h':Heap}{ys:List V}{us:List Value}{e:Nat}{D:Addr}(I:Inv X pi σ H s)(kk:∀b o,s.heap.get? b=some o->h'.get? b=some o)(hD:s.heap.objs.size<=D)
  (ho:h'.get? D=some (seqObj "list" (List.toArray us) e)) (r:Vals ys us) (hz:ys.length<=sizeLine):Inv X pi σ (upd H D (.lst ys)) {s with heap:=h'}:=
 I.laid (t':=s.toks) kk hD ⟨hz,us,e,r,ho⟩
theorem gT(hc:X.calm=true):dr X (.builtin "sorted") (fun vs H Q=>∃(p:Addr) (ns:List Int),vs=[.ref p]/\SqL X.K H p (ns.map V.int)/\ns.length<64/\∀(D:Addr) (ms:List Int),H D=none->ms.Perm ns->ms.Pairwise (·<=·)->Q (.ref D) (upd H D (.lst (ms.map V.int)))):=by
 intro pi s σ H vs us Q I r h;obtain⟨p,ns,rfl,hp,Iu,q⟩:=h;obtain⟨u,rfl,r1⟩:=fN r;cases r1;obtain⟨ws,rv,pl,hz⟩:=I.list hp;have hl:=rv.length;rw[Pr]at hl;have isI:∀v∈ws,∃n t,v=.int n t:=fun v hv=>by
  obtain⟨i,hi⟩:=Q3.mp hv;obtain⟨t,e⟩:=mH rv hi;exact⟨_,t,e⟩
 refine gw (O:=intO) (key:=fun i=>ns.getD i 0) (kd:=oneType') pl.isList (by lia) (fun h2 A' E' h' kk Q' q'=>?_) (fun i j hi hj h' kk C q'=>?_) fun pp h' e F9 hs he kk=>?_
 ·refine kas_kind h2 (T:=.type "int") (fun v hv=>?_) (by decide) (by decide) q';obtain⟨n,t,rfl⟩:=isI v hv;exact fun A Q E s _ q=>RP (T8 s n t) q
 ·unfold kas_ask;have e1:ws[i]?=some (ws.getD i .none):=by rw[a8 _ _ _ hi];exact List.getElem?_eq_getElem hi
  have e2:ws[j]?=some (ws.getD j .none):=by rw[a8 _ _ _ hj];exact List.getElem?_eq_getElem hj
  obtain⟨t,LX⟩:=mH rv e1;obtain⟨t',LY⟩:=mH rv e2;rw[LX,LY];exact kat_lt_int q'
 ·rw[<-hl]at F9 hs;have K1:POk (ns.map V.int).length pp:=by rw[Pr];exact F9
  have eo:pC pp (ns.map V.int)=(pp.toList.map fun i=>ns.getD i 0).map V.int:=by
   unfold pC;rw[P2];refine Qh fun i hi=>?_
   have hi:=PU.mp (F9.perm.mem_iff.mp hi);show(ns.map V.int).getD i .non=V.int (ns.getD i 0);rw[a8 _ _ _ (by rw[Pr];exact hi),a8 _ _ _ hi];simp
  have hn:H (s.heap.objs.size+1)=none:=I.hok.fresh (RQ _);refine⟨.ref (s.heap.objs.size+1),_,fR I kk (RQ _) he (g8 rv K1) ?_,rfl,?_⟩
  ·show(pC pp (ns.map V.int)).length<=sizeLine;rw[eo,Pr,Pr,F9.perm.length_eq,Pz,Qs];lia
  ·rw[eo];refine q _ _ hn (g0 0 F9) ?_;have:=eF (O:=intO) 0 (fun i:Int=>i) F9 hs;refine this.imp fun{a b} Ju=>?_
   have Ju:decide (b<a)=false:=Ju;have:=Uz Ju;lia
theorem mK{ls:List (List Nat)}{us:List Value}(r:Vals (ls.map fun l=>V.str (S l)) us){i:Nat}{v:Value}(h:us[i]?=some v):∃t,v=.str (S (ls.getD i [])) t:=by
 have hl:=r.length;rw[Pr]at hl;obtain⟨hi,_⟩:=List.getElem?_eq_some_iff.mp h;have e1:(ls.map fun l=>V.str (S l))[i]?=some (.str (S (ls.getD i []))):=by
  rw[List.getElem?_map,List.getElem?_eq_getElem (by lia),a8 _ _ _ (by lia)];rfl
 obtain⟨u,hu,t,rfl⟩:=r.get e1;rw[h]at hu;exact⟨t,PZ hu⟩
theorem gU(hc:X.calm=true):dr X (.builtin "sorted") (fun vs H Q=>∃(p:Addr) (ls:List (List Nat)),vs=[.ref p]/\SqL X.K H p (ls.map fun l=>V.str (S l))/\ls.length<64/\∀(D:Addr) (ms:List (List Nat)),H D=none->ms.Perm ls->ms.Pairwise (fun a b=>¬ b<a)->Q (.ref D) (upd H D (.lst (ms.map fun l=>V.str (S l))))):=by
 intro pi s σ H vs us Q I r h;obtain⟨p,ls,rfl,hp,Iu,q⟩:=h;obtain⟨u,rfl,r1⟩:=fN r;cases r1;obtain⟨ws,rv,pl,hz⟩:=I.list hp;have hl:=rv.length;rw[Pr]at hl;refine gw (O:=Dk) (key:=fun i=>ls.getD i []) (kd:=oneType') pl.isList (by lia) (fun h2 A' E' h' kk Q' q'=>?_) (fun i j hi hj h' kk C q'=>?_) fun pp h' e F9 hs he kk=>?_
 ·refine kas_kind h2 (T:=.type "str") (fun v hv=>?_) (by decide) (by decide) q';obtain⟨i,hi⟩:=Q3.mp hv;obtain⟨t,rfl⟩:=mK rv hi;exact fun A Q E s _ q=>RP (T7 s _ t) q
 ·unfold kas_ask;have e1:ws[i]?=some (ws.getD i .none):=by rw[a8 _ _ _ hi];exact List.getElem?_eq_getElem hi
  have e2:ws[j]?=some (ws.getD j .none):=by rw[a8 _ _ _ hj];exact List.getElem?_eq_getElem hj
  obtain⟨t,LX⟩:=mK rv e1;obtain⟨t',LY⟩:=mK rv e2;rw[LX,LY];refine kas_lt_str ?_;rw[bZ,bZ];exact q'
 ·rw[<-hl]at F9 hs;have K1:POk (ls.map fun l=>V.str (S l)).length pp:=by rw[Pr];exact F9
  have eo:pC pp (ls.map fun l=>V.str (S l))=(pp.toList.map fun i=>ls.getD i []).map fun l=>V.str (S l):=by
   unfold pC;rw[P2];refine Qh fun i hi=>?_
   have hi:=PU.mp (F9.perm.mem_iff.mp hi);show(ls.map fun l=>V.str (S l)).getD i .non=V.str (S (ls.getD i []));rw[a8 _ _ _ (by rw[Pr];exact hi),a8 _ _ _ hi];simp
  have hn:H (s.heap.objs.size+1)=none:=I.hok.fresh (RQ _);refine⟨.ref (s.heap.objs.size+1),_,fR I kk (RQ _) he (g8 rv K1) ?_,rfl,?_⟩
  ·show(pC pp (ls.map fun l=>V.str (S l))).length<=sizeLine;rw[eo,Pr,Pr,F9.perm.length_eq,Pz,Qs];lia
  ·rw[eo];refine q _ _ hn (g0 [] F9) ?_;have:=eF (O:=Dk) [] (fun l:List Nat=>l) F9 hs;refine this.imp fun{a b} Ju=>?_
   have Ju:decide (b<a)=false:=Ju;exact Uz Ju
end
def kinds(k:List Key):List Bool:=k.map fun x=>x.isLeft
section
variable{prog:Program}{w:World}{A:Around}{s:Shared}
theorem qJ(a b:Key):NV (kV a) (kV b)=decide (a=b):=by
 cases a <;> cases b <;> (rw[P8];simp[kV,NV])
theorem g9(a:Key):um (kV a)=true:=by cases a <;> rfl
theorem zZ{a b:Key}{u v:Value}{top:Bool}{Q:Bool->Shared->Prop}(ra:L2.RelV (kV a) u)(rb:L2.RelV (kV b) v)(hk:a.isLeft=b.isLeft)(q:Q (lh.blt a b) s):wpAny (model prog w) A (oneLt' top u v) Q (fun _ _=>False) s:=by
 cases a with
 |inl i=>
  cases b with
  |inr _=>cases hk
  |inl j=>
   obtain⟨t,rfl⟩:=ra;obtain⟨t',rfl⟩:=rb;cases top with
   |true=>exact kat_lt_int (E:=fun _ _=>False) q
   |false=>exact kat_one _ _ (lt_int q)
 |inr x=>
  cases b with
  |inl _=>cases hk
  |inr y=>
   obtain⟨t,rfl⟩:=ra;obtain⟨t',rfl⟩:=rb;cases top with
   |true=>exact oneLt_str q
   |false=>exact kat_one _ _ (lt_str q)
theorem iw{Q:Bool->Shared->Prop}:∀(k1 k2:List Key) (us ws:List Value) (i:Nat),Vals (k1.map kV) us->Vals (k2.map kV) ws->kinds k1=kinds k2->Q (cu k1 k2) s->KatLex prog w A true false Q (us.zip ws) i s
 |[],[],_,_,_,.nil,.nil,_,q=>q
 |[],_::_,_,_,_,_,_,h,_=>by cases h
 |_::_,[],_,_,_,_,_,h,_=>by cases h
 |a::r,b::t,u::us,v::ws,i,.cons ru rus,.cons rv rvs,h,q=>by
  have h1:a.isLeft=b.isLeft:=(RB h).1;have h2:kinds r=kinds t:=(RB h).2;have q:Q (if a=b then cu r t else lh.blt a b) s:=q;refine kat_cons (vM (A:=A) (s:=s) ru rv (g9 a) (g9 b) prog w _ _ ?_);rw[qJ];by_cases e:a=b
  ·rw[PF e]at q;rw[PR e];exact kat_yes (iw r t us ws (i+1) rus rvs h2 q)
  ·rw[PM e]at q;rw[PN e];exact kat_no (zZ ru rv h1 q)
end
section
variable{X:Cx}{pi:List (Addr×Obj)}{σ:L2.St}{H:Hp}{s:Shared}
theorem lj(I:Inv X pi σ H s){a:Addr}{xs:List V}(h:SqT X.K H a xs):∃(us:List Value) (o:Obj) (n:Nat),Vals xs us/\s.heap.get? a=some o/\o.cls=.type "tuple"/\o.data=.seq us.toArray n:=by
 obtain⟨us,r,pl,_⟩:=I.tuple h;obtain⟨o,ho,oc,n,od⟩:=pl;exact⟨us,o,n,r,ho,oc,od⟩
theorem jO{al:List (Addr×List Key)}{us:List Value}(r:Vals (al.map fun a=>V.ref a.1) us){i:Nat}(h:i<al.length):us.getD i .none=.ref (al.getD i (0,[])).1:=by
 have e1:(al.map fun a=>V.ref a.1)[i]?=some (.ref (al.getD i (0,[])).1):=by
  rw[List.getElem?_map,List.getElem?_eq_getElem h,a8 _ _ _ h];rfl
 obtain⟨u,hu,ru⟩:=r.get e1;rw[List.getD_eq_getElem?_getD,hu];exact ru
theorem nU{al:List (Addr×List Key)}{us:List Value}{h':Heap}(I:Inv X pi σ H s)(kk:∀b o,s.heap.get? b=some o->h'.get? b=some o)(top:Bool):
  (r:Vals (al.map fun a=>V.ref a.1) us)->(∀a∈al,SqT X.K H a.1 (a.2.map kV)/\∃t,kinds a.2=top::t)->∃fs:List Value,KatTups h' us fs/\fs.length=al.length/\∀v∈fs,∀M:Model,Looks M h' (typeOf v) (.type (if top then "int" else "str")):=by
 induction al generalizing us with
 |nil=>
  intro r _;cases r;exact⟨[],trivial,rfl,fun v hv=>by cases hv⟩
 |cons a al ih=>
  intro r h;cases r with
  |cons ra rs=>
   cases ra;obtain⟨fs,t1,t2,t3⟩:=ih rs fun b hb=>h b (Px _ hb)
   obtain⟨ha,kt,hk⟩:=h a Pq;obtain⟨ws,o,n,rv,ho,oc,od⟩:=lj I ha;cases e2:a.2 with
   |nil=>rw[e2]at hk;cases hk
   |cons k ks=>
    rw[e2]at rv hk;have OL:k.isLeft=top:=(RB hk).1;cases rv with
    | @cons _ f _ fr rf rfs=>
     refine⟨f::fs,KatTups.cons (kk _ _ ho) oc od (by simp) t1,by simp[t2],fun v hv M=>?_⟩;rcases PJ.mp hv with rfl|hv
     ·cases k with
      |inl i=>
       obtain⟨t,rfl⟩:=rf;have:top=true:=OL.symm;subst this;exact fun A Q E s _ q=>RP (T8 s _ t) q
      |inr x=>
       obtain⟨t,rfl⟩:=rf;have:top=false:=OL.symm;subst this;exact fun A Q E s _ q=>RP (T7 s _ t) q
     ·exact t3 v hv M
end
section
variable{X:Cx}
theorem gW(hc:X.calm=true):dr X (.builtin "sorted") (fun vs H Q=>∃(p:Addr) (al:List (Addr×List Key)) (top:Bool) (t:List Bool),vs=[.ref p]/\SqL X.K H p (al.map fun a=>V.ref a.1)/\(∀a∈al,SqT X.K H a.1 (a.2.map kV)/\kinds a.2=top::t)/\al.length<64/\
  ∀(D:Addr) (ms:List (Addr×List Key)),H D=none->ms.Perm al->ms.Pairwise (fun a b=>cu b.2 a.2=false)->Q (.ref D) (upd H D (.lst (ms.map fun a=>V.ref a.1)))):=by
 intro pi s σ H vs us Q I r h;obtain⟨p,al,top,kt,rfl,hp,Ih,Iu,q⟩:=h;obtain⟨u,rfl,r1⟩:=fN r;cases r1;obtain⟨ws,rv,pl,hz⟩:=I.list hp;have hl:=rv.length;rw[Pr]at hl;refine gw (O:=BF) (key:=fun i=>(al.getD i (0,[])).2) (kd:=tuples' true) pl.isList (by lia) (fun h2 A' E' h' kk Q' q'=>?_) (fun i j hi hj h' kk C q'=>?_) fun pp h' e F9 hs he kk=>?_
 ·obtain⟨fs,t1,t2,t3⟩:=nU I kk top rv fun a ha=>⟨(Ih a ha).1,kt,(Ih a ha).2⟩
  refine kat_kind (T:=.type (if top then "int" else "str")) t1 (by lia) (fun v hv=>t3 v hv _) (by simp) ?_;have:((Value.type (if top then "int" else "str")) != Value.type "tuple")=true:=by cases top <;> decide
  rw[this];exact q'
 ·unfold kas_ask;have Hd:i<al.length:=by lia
  have K0:j<al.length:=by lia
  rw[jO rv Hd,jO rv K0];have mi:al.getD i (0,[])∈al:=by rw[a8 _ _ _ Hd];exact RG _
  have mj:al.getD j (0,[])∈al:=by rw[a8 _ _ _ K0];exact RG _
  obtain⟨u1,o1,n1,r1,g1,_,d1⟩:=lj I (Ih _ mi).1;obtain⟨u2,o2,n2,r2,g2,_,d2⟩:=lj I (Ih _ mj).1;have ek:kinds (al.getD i (0,[])).2=kinds (al.getD j (0,[])).2:=by rw[(Ih _ mi).2,(Ih _ mj).2]
  have el:u1.length=u2.length:=by
   have a1:=r1.length;have a2:=r2.length;have a3:=Qt List.length ek;simp only[kinds,Pr]at a1 a2 a3;lia
  refine kat_lt (kk _ _ g1) d1 (kk _ _ g2) d2 ?_;have ef:decide (u1.toArray.size<u2.toArray.size)=false:=by simp[el]
  rw[ef];exact iw _ _ _ _ 0 r1 r2 ek q'
 ·rw[<-hl]at F9 hs;have K1:POk (al.map fun a=>V.ref a.1).length pp:=by rw[Pr];exact F9
  have eo:pC pp (al.map fun a=>V.ref a.1)=(pp.toList.map fun i=>al.getD i (0,[])).map fun a=>V.ref a.1:=by
   unfold pC;rw[P2];refine Qh fun i hi=>?_
   have hi:=PU.mp (F9.perm.mem_iff.mp hi);show(al.map fun a=>V.ref a.1).getD i .non=V.ref (al.getD i (0,[])).1;rw[a8 _ _ _ (by rw[Pr];exact hi),a8 _ _ _ hi];simp
  have hn:H (s.heap.objs.size+1)=none:=I.hok.fresh (RQ _);refine⟨.ref (s.heap.objs.size+1),_,fR I kk (RQ _) he (g8 rv K1) ?_,rfl,?_⟩
  ·show(pC pp (al.map fun a=>V.ref a.1)).length<=sizeLine;rw[eo,Pr,Pr,F9.perm.length_eq,Pz,Qs];lia
  ·rw[eo];refine q _ _ hn (g0 (0,[]) F9) ?_;exact eF (O:=BF) (0,[]) (fun a:Addr×List Key=>a.2) F9 hs
end
end NX
namespace L2
open PySem PySem.Spec PyProof.Rows
section
variable{κ:Type}[DecidableEq κ]
def ll(kvs:List (κ×V))(k:κ):Option V:=(kvs.find? fun kv=>decide (kv.1=k)).map (·.2)
def jk(kvs:List (κ×V))(k:κ)(v:V):List (κ×V):=
 if(kvs.any fun kv=>decide (kv.1=k))=true then kvs.map (fun kv=>if kv.1=k then(kv.1,v) else kv) else kvs++[(k,v)]
theorem jP{p:κ×V}{r:List (κ×V)}{k:κ}(e:p.1=k):ll (p::r) k=some p.2:=by simp[ll,List.find?_cons,e]
theorem jQ{p:κ×V}{r:List (κ×V)}{k:κ}(e:¬ p.1=k):ll (p::r) k=ll r k:=by simp[ll,List.find?_cons,e]
theorem nV(k:κ):∀kvs:List (κ×V),(kvs.any fun kv=>decide (kv.1=k))=(ll kvs k).isSome
 |[]=>rfl
 |p::r=>by
  rw[UA];by_cases e:p.1=k
  ·simp only[jP e,PR e,Bool.true_or,Option.isSome_some]
  ·rw[jQ e,PN e,Bool.false_or];exact nV k r
theorem iy(kvs:List (κ×V))(k:κ)(v:V):(jk kvs k v).length<=kvs.length+1:=by
 unfold jk;split
 ·rw[Pr];lia
 ·rw[Qb,PD,RS];lia
theorem RelO.isSome_eq{o:Option V}{u:Option Value}(r:RelO o u):o.isSome=u.isSome:=by
 cases o with
 |none=>cases u with
  |none=>rfl
  |some _=>exact(show False from r).elim
 |some _=>cases u with
  |none=>exact(show False from r).elim
  |some _=>rfl
theorem KV.val{kvs:List (κ×V)}{vs:List (κ×Value)}(r:KV kvs vs)(k:κ):RelO (ll kvs k) (valueAt vs k):=by
 unfold KV at r;induction r with
 |nil=>exact True.intro
 | @cons p q ps qs h t ih=>
  obtain⟨h1,h2⟩:=h;by_cases e:p.1=k
  ·have e':q.1=k:=h1.symm.trans e;have b:valueAt (q::qs) k=some q.2:=by simp[valueAt,List.find?_cons,e']
   rw[jP e,b];exact h2
  ·have e':¬ q.1=k:=fun z=>e (h1.trans z)
   have b:valueAt (q::qs) k=valueAt qs k:=by simp[valueAt,List.find?_cons,e']
   rw[jQ e,b];exact ih
theorem KV.any{kvs:List (κ×V)}{vs:List (κ×Value)}(r:KV kvs vs)(k:κ):(kvs.any fun kv=>decide (kv.1=k))=vs.any fun kv=>decide (kv.1=k):=by
 unfold KV at r;induction r with
 |nil=>rfl
 |cons h t ih=>rw[UA,UA,ih,h.1]
theorem KV.repl{kvs:List (κ×V)}{vs:List (κ×Value)}(r:KV kvs vs)(k:κ){y:V}{u:Value}(ry:RelV y u):
  KV (kvs.map fun kv=>if kv.1=k then(kv.1,y) else kv) (vs.map fun kv=>if kv.1=k then(kv.1,u) else kv):=by
 unfold KV at r ⊢;induction r with
 |nil=>exact .nil
 | @cons p q ps qs h t ih=>
  rw[PY,PY];refine .cons ?_ ih;obtain⟨h1,h2⟩:=h;by_cases e:p.1=k
  ·rw[PF e,PF (h1.symm.trans e)];exact⟨h1,ry⟩
  ·rw[PM e,PM (fun z=>e (h1.trans z))];exact⟨h1,h2⟩
theorem KV.put{kvs:List (κ×V)}{vs:List (κ×Value)}(r:KV kvs vs)(k:κ){y:V}{u:Value}(ry:RelV y u):KV (jk kvs k y) (stored vs k u):=by
 unfold jk stored;rw[r.any k];by_cases e:(vs.any fun kv=>decide (kv.1=k))=true
 ·rw[PF e,PF e];exact r.repl k ry
 ·rw[PM e,PM e];exact Paired.snoc r ⟨rfl,ry⟩
theorem KV.length{kvs:List (κ×V)}{vs:List (κ×Value)}(r:KV kvs vs):kvs.length=vs.length:=SE r
end
theorem kV_is{P:Program}{w:World}{k:Key}{u:Value}(r:RelV (kV k) u):(mixKind P w).is k u=true:=by
 cases k with
 |inl i=>obtain⟨t,e⟩:=(show ∃t,u=Value.int i t from r);subst e;exact mE P w i t
 |inr x=>obtain⟨t,e⟩:=(show ∃t,u=Value.str x t from r);subst e;exact mF P w x t
theorem lq{P:Program}{w:World}:∀{ks:List Key}{us:List Value},Vals (ks.map kV) us->ItemsAre (mixKind P w) ks us
 |[],_,r=>by rw[Ro]at r;cases r;exact .nil
 |k::ks,_,r=>by
  rw[PY]at r;cases r with
  |cons h t=>exact .cons (kV_is h) (lq t)
abbrev KT(H:Hp):List (List Key×V)->List (List Key×Addr×Value)->Prop:=Paired fun p q=>p.1=q.1/\H q.2.1=some (.tup (p.1.map kV))/\RelV p.2 q.2.2
theorem KT.val{H:Hp}{kvs:List (List Key×V)}{xs:List (List Key×Addr×Value)}(r:KT H kvs xs)(k:List Key):RelO (ll kvs k) ((atKey xs k).map (·.2)):=by
 induction r with
 |nil=>exact True.intro
 | @cons p q ps qs h t ih=>
  obtain⟨h1,_,h2⟩:=h;by_cases e:p.1=k
  ·have e':q.1=k:=h1.symm.trans e;have b:atKey (q::qs) k=some q.2:=by simp[atKey,List.find?_cons,e']
   rw[jP e,b];exact h2
  ·have e':¬ q.1=k:=fun z=>e (h1.trans z)
   have b:atKey (q::qs) k=atKey qs k:=by simp[atKey,List.find?_cons,e']
   rw[jQ e,b];exact ih
theorem KT.repl{H:Hp}{kvs:List (List Key×V)}{xs:List (List Key×Addr×Value)}(r:KT H kvs xs)(k:List Key){y:V}{u:Value}(ry:RelV y u):
  KT H (kvs.map fun kv=>if kv.1=k then(kv.1,y) else kv) (xs.map (putAt k u)):=by
 induction r with
 |nil=>exact .nil
 | @cons p q ps qs h t ih=>
  rw[PY,PY];refine .cons ?_ ih;obtain⟨h1,h2,h3⟩:=h;unfold putAt;by_cases e:p.1=k
  ·rw[PF e,PF (h1.symm.trans e)];exact⟨h1,h2,ry⟩
  ·rw[PM e,PM (fun z=>e (h1.trans z))];exact⟨h1,h2,h3⟩
theorem KT.put{H:Hp}{kvs:List (List Key×V)}{xs:List (List Key×Addr×Value)}(r:KT H kvs xs)(k:List Key){b:Addr}{y:V}{u:Value}(hb:H b=some (.tup (k.map kV)))(ry:RelV y u):
  KT H (jk kvs k y) (storedH xs k b u):=by
 have e:(kvs.any fun kv=>decide (kv.1=k))=(atKey xs k).isSome:=by
  rw[nV,(r.val k).isSome_eq,S8]
 unfold jk storedH;rw[e];by_cases q:(atKey xs k).isSome=true
 ·rw[PF q,PF q];exact r.repl k ry
 ·rw[PM q,PM q];exact Paired.snoc r ⟨rfl,hb,ry⟩
theorem KT.keeps{H H':Hp}{kvs:List (List Key×V)}{xs:List (List Key×Addr×Value)}(r:KT H kvs xs)(ht:∀b ys,H b=some (.tup ys)->H' b=some (.tup ys)):KT H' kvs xs:=
 Paired.mapP r fun _ _ z=>⟨z.1,ht _ _ z.2.1,z.2.2⟩
section
variable{P:Program}{w:World}{H:Hp}{h:Heap}{a:Addr}
theorem z6{u:HO}(ok:HOk P w H h)(e:Rd H a u):ObjOk P w H h a u:=e.ok ok
theorem qK{kvs:List (Key×V)}(ok:HOk P w H h)(e:Rd H a (.dK kvs)):kvs.length<=sizeLine/\(a==sysModules)=false/\∃vs,KV kvs vs/\h.DictOf (mixKind P w) a vs:=
 show ObjOk P w H h a (.dK kvs) from z6 ok e
theorem Cj{kvs:List (Key×V)}(ok:HOk P w H h)(e:H a=some (.dK kvs)):kvs.length<=sizeLine/\(a==sysModules)=false/\∃vs,KV kvs vs/\h.DictOf (mixKind P w) a vs:=qK ok (.inl e)
theorem iz{ks:List Key}(ok:HOk P w H h)(e:H a=some (.tup (ks.map kV))):(tupleKind (mixKind P w)).is h ks a:=by
 obtain⟨_,Er,r,o,h1,h2,⟨n,h3⟩,_⟩:=(show ObjOk P w H h a (.tup (ks.map kV)) from ok a _ e)
 exact⟨o,Er.toArray,n,h1,h2,h3,by simpa using lq r⟩
theorem qL{kvs:List (List Key×V)}(ok:HOk P w H h)(e:Rd H a (.dT kvs)):kvs.length<=sizeLine/\(a==sysModules)=false/\
  ∃xs,KT H kvs xs/\h.DictOfH (tupleKind (mixKind P w)) a xs:=by
 obtain⟨z,y,xs,r,o,es,ep,h1,h2,h3,h4,h5⟩:=(show ObjOk P w H h a (.dT kvs) from z6 ok e)
 refine⟨z,y,xs,r,o,es,ep,h1,h2,h3,h4,fun x hx=>?_,h5⟩;have all:∀{l:List (List Key×V)}{m:List (List Key×Addr×Value)},KT H l m->∀x∈m,(tupleKind (mixKind P w)).is h x.1 x.2.1:=by
  intro l m q;induction q with
  |nil=>intro x hx;exact nomatch hx
  | @cons p q ps qs hq t ih=>
   intro x hx;rcases PJ.mp hx with e|hx
   ·subst e;exact iz ok (by rw[<-hq.1];exact hq.2.1)
   ·exact ih x hx
 exact all r x hx
theorem z7{kvs:List (List Key×V)}(ok:HOk P w H h)(e:H a=some (.dT kvs)):kvs.length<=sizeLine/\(a==sysModules)=false/\
  ∃xs,KT H kvs xs/\h.DictOfH (tupleKind (mixKind P w)) a xs:=qL ok (.inl e)
end
def DGet(H:Hp)(a:Addr)(y:V)(r:Option V):Prop:=
 (∃kvs k,Rd H a (.dK kvs)/\y=kV k/\r=ll kvs k)\/∃kvs k b,Rd H a (.dT kvs)/\y=.ref b/\H b=some (.tup (k.map kV))/\r=ll kvs k
def DPut(H:Hp)(a:Addr)(y v:V)(H':Hp):Prop:=
 (∃kvs k,H a=some (.dK kvs)/\y=kV k/\kvs.length<sizeLine/\H'=upd H a (.dK (jk kvs k v)))\/
 ∃kvs k b,H a=some (.dT kvs)/\y=.ref b/\H b=some (.tup (k.map kV))/\kvs.length<sizeLine/\H'=upd H a (.dT (jk kvs k v))
theorem DGet.k{H:Hp}{a:Addr}{kvs:List (Key×V)}{k:Key}(e:H a=some (.dK kvs)):DGet H a (kV k) (ll kvs k):=.inl ⟨kvs,k,.inl e,rfl,rfl⟩
theorem DGet.t{H:Hp}{a b:Addr}{kvs:List (List Key×V)}{k:List Key}(e:H a=some (.dT kvs))(eb:H b=some (.tup (k.map kV))):DGet H a (.ref b) (ll kvs k):=.inr ⟨kvs,k,b,.inl e,rfl,eb,rfl⟩
theorem DPut.k{H:Hp}{a:Addr}{kvs:List (Key×V)}{k:Key}{v:V}(e:H a=some (.dK kvs))(hl:kvs.length<sizeLine):DPut H a (kV k) v (upd H a (.dK (jk kvs k v))):=.inl ⟨kvs,k,e,rfl,hl,rfl⟩
theorem DPut.t{H:Hp}{a b:Addr}{kvs:List (List Key×V)}{k:List Key}{v:V}(e:H a=some (.dT kvs))(eb:H b=some (.tup (k.map kV)))(hl:kvs.length<sizeLine):
  DPut H a (.ref b) v (upd H a (.dT (jk kvs k v))):=.inr ⟨kvs,k,b,e,rfl,eb,hl,rfl⟩
section
variable{X:Cx}{pi:List (Addr×Obj)}{σ:St}{H:Hp}{s:Shared}{a:Addr}{y v:V}{u r:Value}{o:Option V}{A:Around}{E:Value->Shared->Prop}
theorem Inv.big(I:Inv X pi σ H s):sysModules<s.heap.objs.size:=by
 have h:mainGlobals<s.heap.objs.size:=(I.mod.glob.keeps I.bk).lt;exact Nat.lt_trans (by decide) h
theorem qM{Q:Value->Shared->Prop}(hu:A.units+1<cLine)(I:Inv X pi σ H s)(g:DGet H a y (some v))(ry:RelV y u)(h:∀w' s',Inv X pi σ H s'->RelV v w'->Q w' s'):
  wpAny (model X.prog X.w) A (getItem (.ref a) u) Q E s:=by
 rcases g with⟨kvs,k,e,ey,l⟩|⟨kvs,k,b,e,ey,eb,l⟩
 ·subst ey;obtain⟨z,hd,vs,rel,dd⟩:=qK I.hok e;obtain⟨w',hw,Iq⟩:=RelO.some_of (v:=v) (o:=valueAt vs k) (by rw[l];exact rel.val k);exact wpAny_getItem_of (kV_is ry) dd.mapOf hw (h w' _ (I.tok _) Iq)
 ·subst ey;cases(show u=Value.ref b from ry);obtain⟨z,hd,xs,rel,dd⟩:=qL I.hok e;obtain⟨w',hw,Iq⟩:=RelO.some_of (v:=v) (o:=(atKey xs k).map (·.2)) (by rw[l];exact rel.val k);obtain⟨p,hp,N8⟩:=P9.mp hw;refine wpAny_getItem_heap (Si hu) (iz I.hok eb) dd hp ?_;rw[N8];exact h w' _ (I.tok _) Iq
theorem DY{Q:Value->Shared->Prop}(hu:A.units+1<cLine)(I:Inv X pi σ H s)(g:DGet H a y o)(ry:RelV y u)(h:∀s',Inv X pi σ H s'->Q (.bool o.isSome) s'):
  wpAny (model X.prog X.w) A (compareOp .In u (.ref a)) Q E s:=by
 rcases g with⟨kvs,k,e,ey,l⟩|⟨kvs,k,b,e,ey,eb,l⟩
 ·subst ey;obtain⟨z,hd,vs,rel,dd⟩:=qK I.hok e;refine wpAny_in_of (kV_is ry) hd dd.mapOf ?_;rw[<-(rel.val k).isSome_eq,<-l];exact h _ (I.tok _)
 ·subst ey;cases(show u=Value.ref b from ry);obtain⟨z,hd,xs,rel,dd⟩:=qL I.hok e;refine wpAny_in_heap (Si hu) (iz I.hok eb) hd dd ?_;have q:=(rel.val k).isSome_eq;rw[S8]at q;rw[<-q,<-l];exact h _ (I.tok _)
theorem xq{Q:Value->Shared->Prop}(hu:A.units+1<cLine)(I:Inv X pi σ H s)(g:DGet H a y o)(ry:RelV y u)(h:∀s',Inv X pi σ H s'->Q (.bool (!o.isSome)) s'):
  wpAny (model X.prog X.w) A (compareOp .NotIn u (.ref a)) Q E s:=by
 rcases g with⟨kvs,k,e,ey,l⟩|⟨kvs,k,b,e,ey,eb,l⟩
 ·subst ey;obtain⟨z,hd,vs,rel,dd⟩:=qK I.hok e;refine wpAny_notIn_of (kV_is ry) hd dd.mapOf ?_;rw[<-(rel.val k).isSome_eq,<-l];exact h _ (I.tok _)
 ·subst ey;cases(show u=Value.ref b from ry);obtain⟨z,hd,xs,rel,dd⟩:=qL I.hok e;refine wpAny_notIn_heap (Si hu) (iz I.hok eb) hd dd ?_;have q:=(rel.val k).isSome_eq;rw[S8]at q;rw[<-q,<-l];exact h _ (I.tok _)
theorem mL{h':Heap}{t':Nat}{ob:HO}(I:Inv X pi σ H s)(mu:Mj (H a))(hs:Heap.SameBut a s.heap h')(he:∃q,h'.get? a=some q)(new:ObjOk X.prog X.w (upd H a ob) h' a ob):
  Inv X pi σ (upd H a ob) {s with heap:=h',toks:=t'}:=
 I.write (x:=a) (e:=a) mu (.inl rfl) (fun b q hb z=>(hs.2 b hb).trans z) he new
theorem z8{P:Program}{w:World}{H':Hp}{h':Heap}{kvs:List (Key×V)}{vs:List (Key×Value)}(z:kvs.length<=sizeLine)(hd:(a==sysModules)=false)(rel:KV kvs vs)(dd:h'.DictOf (mixKind P w) a vs):
  ObjOk P w H' h' a (.dK kvs):=⟨z,hd,vs,rel,dd⟩
theorem qN{H':Hp}{Q:Unit->Shared->Prop}(hu:A.units+1<cLine)(I:Inv X pi σ H s)(g:DPut H a y v H')(ry:RelV y u)(rv:RelV v r)(h:∀s',Inv X pi σ H' s'->Q () s'):
  wpAny (model X.prog X.w) A (setItem (.ref a) u r) Q E s:=by
 rcases g with⟨kvs,k,e,ey,l,eH⟩|⟨kvs,k,b,e,ey,eb,l,eH⟩
 ·subst ey eH;obtain⟨z,hd,vs,rel,dd⟩:=Cj I.hok e;have hz:vs.length<=sizeLine:=by rw[<-rel.length];exact z
  have hl:(jk kvs k v).length<=sizeLine:=by have:=iy kvs k v;lia
  refine wpAny_setItem_pairs (hsz:=hz) (kV_is ry) dd fun h' Ky hs=>h _ ?_
  have he:∃q,h'.get? a=some q:=let⟨q,_,_,hq,_⟩:=Ky;⟨q,hq⟩
  exact mL I (by rw[e];exact True.intro) hs he (z8 hl hd (rel.put k rv) Ky)
 ·subst ey eH;cases(show u=Value.ref b from ry);obtain⟨z,hd,xs,rel,dd⟩:=z7 I.hok e;have hz:xs.length<=sizeLine:=by rw[<-SE rel];exact z
  have hl:(jk kvs k v).length<=sizeLine:=by have:=iy kvs k v;lia
  refine wpAny_setItem_heap (hsz:=hz) (Si hu) (iz I.hok eb) dd fun h' Ky hs=>h _ ?_
  obtain⟨q,es,ep,hq,h2,h3,h4,_,h5⟩:=Ky;refine mL I (by rw[e];exact True.intro) hs ⟨q,hq⟩ ⟨hl,hd,_,(rel.put k eb rv).keeps fun c ys ec=>?_,q,es,ep,hq,h2,h3,h4,h5⟩;rw[aB (yY ec e (fun z=>nomatch z))];exact ec
end
section
variable{X:Cx}{pi:List (Addr×Obj)}{σ:St}{H:Hp}{s:Shared}{a:Addr}{kvs:List (Key×V)}{k:Key}{u:Value}{A:Around}{E:Value->Shared->Prop}
end
def NoSl(i:Expr):Prop:=∀ov iv,subscripted i false ov iv=operate [ov,iv] (getItem ov iv)
theorem xr{prog:Program}{w:World}{A:Around}{E:Value->Shared->Prop}{s:Shared}{env:Env}{value slice:Expr}{pos:Pos}{T id:String}{Q:Value->Shared->Prop}
  (hl:typeLookup (.type T) "__getitem__" = pure (some (.builtin id))) (hs:NoSl slice)
  (h:wpAny (model prog w) A (eval value env) (fun o s₁=>wpAny (model prog w) A (eval slice env) (fun i s₂=>s₂.TypeIs o T/\wpAny (model prog w) A (getItem o i) Q E s₂) E s₁) E s):
  wpAny (model prog w) A (eval (.Subscript value slice pos) env) Q E s:=by
 refine Subscript_ (QB h (fun o s₁ h₁=>QB h₁ (fun i s₂ h₂=>?_) fun _ _ x=>x) fun _ _ x=>x);obtain⟨hT,h₂⟩:=h₂;unfold subscriptTail;refine Po ?_;rw[getitemInPython_of_ne hT.not_modules];refine Po (wpAny_specialOf hT hl ?_);have fin:wpAny (model prog w) A (subscripted slice false o i) (fun r s₃=>wpAny (model prog w) A (letTemporaryGo value o r >>= fun _=>pure r) Q E s₃) E s₂:=by
  rw[hs o i];exact wpAny_operating (QB h₂ (fun r s₃ h₃=>Po (wpAny_letTemporaryGo (Pp h₃))) fun _ _ x=>x)
 first
  |exact Pp (Po fin)
  |exact Po (Pp (Po fin))
  |exact Po fin
theorem mM{X:Cx}{pi:List (Addr×Obj)}{σ:St}{H:Hp}{s:Shared}{a:Addr}{y:V}{o:Option V}(I:Inv X pi σ H s)(g:DGet H a y o):s.TypeIs (.ref a) "dict":=by
 rcases g with⟨kvs,k,e,_,_⟩|⟨kvs,k,b,e,_,_,_⟩
 ·obtain⟨_,_,vs,_,dd⟩:=qK I.hok e;exact dd.typeIs
 ·obtain⟨_,_,xs,_,dd⟩:=qL I.hok e;exact dd.typeIs
def Ck(td ty:TE):TE:=fun σ H Q=>td σ H fun x H1=>ty σ H1 fun y H2=>∃a v,x=.ref a/\DGet H2 a y (some v)/\Q v H2
def Cm(td ty tv:TE):TS:=fun D σ H=>tv σ H fun v H1=>td σ H1 fun x H2=>ty σ H2 fun y H3=>∃a H4,x=.ref a/\DPut H3 a y v H4/\D.nx σ H4
section
variable{X:Cx}{o i e value:Expr}{pos pos' KQ:Pos}{td ty tv:TE}
theorem xt(hu:X.A.units+1<cLine)(ho:PE X o td)(hi:PE X i ty)(hs:NoSl i):PE X (.Subscript o i pos) (Ck td ty):=by
 intro pi s σ H Q I h;refine xr PySem.F.slot_dict_getitem.lookup hs (EG (ho pi s σ H _ I h) fun u s1 ⟨x,H1,I1,rx,q1⟩=>EG (hi pi s1 σ H1 _ I1 q1) fun iv s2 EM=>?_);obtain⟨y,H2,I2,ry,a,v,ex,g,q2⟩:=EM;subst ex;obtain rfl:u=Value.ref a:=rx;exact⟨mM I2 g,qM hu I2 g ry fun w' s3 I3 Iq=>⟨v,H2,I3,Iq,q2⟩⟩
theorem xu(hu:X.A.units+1<cLine)(ho:PE X o td)(hi:PE X i ty)(hv:PE X value tv)(hs:swapsWith value (some (.Subscript o i pos')) pos.line X.env=pure false):
  PS X (.Assign [.Subscript o i pos'] value pos) (Cm td ty tv):=by
 intro pi s σ H D I h;refine wpAny_Assign_Subscript (EG (hv pi s σ H _ I h) fun r s1 ⟨v,H1,I1,rv,q1⟩=>EG (ho pi s1 σ H1 _ I1 q1) fun u s2 ⟨x,H2,I2,rx,q2⟩=>EG (hi pi s2 σ H2 _ I2 q2) fun iv s3 ⟨y,H3,I3,ry,a,H4,ex,g,q3⟩=>?_) hs;subst ex;obtain rfl:u=Value.ref a:=rx;exact qN hu I3 g ry rv fun s4 I4=>⟨σ,H4,I4,q3⟩
end
theorem dt_empty{P:Program}{w:World}{H:Hp}(h:Heap)(hb:sysModules<h.objs.size):ObjOk P w H (h.push {cls:=.type "dict",data:=.dict #[]}) h.objs.size (.dT []):=
 ⟨Qg _,Rz.mpr (Rt (P1 hb)),[],.nil,_,#[],0,Heap.get?_push_size _ rfl,⟨rfl,rfl,rfl⟩,rfl,rfl,RK⟩
section
variable{X:Cx}{pos:Pos}
end
def tPairs:List (TE×TE)->St->Hp->(List (V×V)->Hp->Prop)->Prop
 |[],_,H,Q=>Q [] H
 |(tk,tv)::r,σ,H,Q=>tk σ H fun x H1=>tv σ H1 fun y H2=>tPairs r σ H2 fun ps H3=>Q ((x,y)::ps) H3
abbrev VV:List (V×V)->List (Value×Value)->Prop:=Paired fun p q=>RelV p.1 q.1/\RelV p.2 q.2
def N9(X:Cx)(pos:Pos)(keys:List (Option Expr))(values:List Expr)(Nt:List (TE×TE)):Prop:=
 ∀(pi:List (Addr×Obj)) (s:Shared) (σ:St) (H:Hp) (Q:List (V×V)->Hp->Prop),Inv X pi σ H s->tPairs Nt σ H Q->
  wpAny (model X.prog X.w) X.A (evalPairs (pairTrees keys values X.env pos)) (fun vs s'=>∃ps H',Inv X pi σ H' s'/\VV ps vs/\Q ps H') X.xe s
theorem xv{X:Cx}{pos:Pos}:N9 X pos [] [] []:=fun pi s σ H Q I h=>pairTrees_nil_walk ⟨[],H,I,.nil,h⟩
theorem uB{X:Cx}{pos:Pos}{k v:Expr}{ks:List (Option Expr)}{vs:List Expr}{tk tv:TE}{Nt:List (TE×TE)}(hk:PE X k tk)(hv:PE X v tv)(hr:N9 X pos ks vs Nt):
  N9 X pos (some k::ks) (v::vs) ((tk,tv)::Nt):=fun pi s σ H Q I h=>
 pairTrees_cons_walk (EG (hk pi s σ H _ I h) fun u s1 ⟨x,H1,I1,rx,q1⟩=>EG (hv pi s1 σ H1 _ I1 q1) fun w2 s2 ⟨y,H2,I2,ry,q2⟩=>
  EG (hr pi s2 σ H2 _ I2 q2) fun ws s3 ⟨ps,H3,I3,rel,q3⟩=>⟨(x,y)::ps,H3,I3,.cons ⟨rx,ry⟩ rel,q3⟩)
section
variable{X:Cx}{pi:List (Addr×Obj)}{σ:St}{H:Hp}{s:Shared}{a:Addr}{y d:V}{u r:Value}{o:Option V}{A:Around}{E:Value->Shared->Prop}
end
section
variable{X:Cx}{o e f:Expr}{apos EH:Pos}{td ty tx:TE}
end
section
variable{X:Cx}{pi:List (Addr×Obj)}{σ:St}{H:Hp}{s:Shared}{a:Addr}{kvs:List (Key×V)}{A:Around}{E:Value->Shared->Prop}
end
section
variable{X:Cx}{pi:List (Addr×Obj)}{σ:St}{H:Hp}{s:Shared}{a:Addr}{y:V}{u:Value}{A:Around}{E:Value->Shared->Prop}
end
section
variable{κ:Type}[DecidableEq κ]
end
end L2
namespace NX
open PySem PySem.Spec PyProof.Rows L2
def RawD(h:Heap)(d:Addr)(es:Array DictEntry)(ep:Nat):Prop:=∃o,h.get? d=some o/\o.ExactDict/\o.data=.dict es ep
theorem RawD.at{h h':Heap}{d:Addr}{es:Array DictEntry}{ep:Nat}(x:RawD h d es ep)(e:∀o,h.get? d=some o->h'.get? d=some o):RawD h' d es ep:=by
 obtain⟨o,g,r⟩:=x;exact⟨o,e o g,r⟩
section
variable{prog:Program}{w:World}{A:Around}{E:Value->Shared->Prop}{s:Shared}{d it:Addr}{es:Array DictEntry}{ep i:Nat}
theorem hJ(x:RawD s.heap d es ep):s.TypeIs (.ref d) "dict":=by
 obtain⟨o,g,ex,_⟩:=x;exact⟨o,g,ex.1⟩
theorem uC{Q:Value->Shared->Prop}(nm:(d==sysModules)=false)(x:RawD s.heap d es ep)
  (q:Q (.ref s.heap.objs.size) {s with heap:=s.heap.push {cls:=.type "dict_keyiterator",data:=.fields #[.ref d,.int 0 0,.int es.size 0,.int ep 0]}}):wpAny (model prog w) A (pyIter (.ref d)) Q E s:=by
 have ty:=hJ x;obtain⟨o,g,ex,dat⟩:=x;refine wpAny_pyIter_slot ty F.slot_dict_iter (QA F.slot_dict_iter ty F.entry_dict_iter (Po ?_) (F.args_dict_iter_1 _));refine Po (wpAny_notOrdered_dict ty (Pp ?_));show wpAny _ _ (Builtin.Dict.showsAll d >>= fun _=>_) _ _ s;have ns:Builtin.Dict.showsAll d=pure ():=by
  unfold Builtin.Dict.showsAll;rw[nm];rfl
 rw[ns];refine Po (Pp (Po (So g dat (Po (TN g dat (Po (QC (Pp ⟨_,rfl,"dict_keyiterator",_,⟨_,Heap.get?_push_size _ rfl,rfl⟩,F.slot_dict_keyiterator_next.lookup,?_⟩))))))));exact q
theorem uD{Q:Option Value->Shared->Prop}{e:DictEntry}(hit:s.heap.IsKeyIter it d i es.size ep)(x:RawD s.heap d es ep)(hx:es[i]?=some e)
  (q:∀h',h'.IsKeyIter it d (i+1) es.size ep->Heap.SameBut it s.heap h'->Q (some e.key) {s with heap:=h'}):wpAny (model prog w) A (pyNext (.ref it)) Q E s:=by
 have ti:=hit.typeIs;obtain⟨o,g,oc,od⟩:=hit;obtain⟨ob,gd,_,dat⟩:=x;have E9:i<es.size:=(Array.getElem?_eq_some_iff.mp hx).1;unfold pyNext;refine Po (Tf (wpAny_callSpecial?_slot (name:=Str.ofString "__next__") ti Q7 (QA Q7 ti Sv
  (Po (Pp (Po (Po ?_)))) (Ss _))))
 refine Po (Q6 ti (Pp (Po (wpAny_fieldsOf g od ?_))));have Im:Builtin.Dict_items.ownsTuple "dict_keyiterator" = false:=by decide
 simp only[Im,P4,Qy];show wpAny _ _ (if(Value.ref d==Value.none)=true then _ else _) _ _ s;have nz:¬ ((Value.ref d==Value.none)=true):=Pt;rw[PM nz];refine Po (Pp (Po (So gd dat ?_)));rw[PM (by simp)];refine Po (Pp (Po (TN gd dat ?_)));rw[PM (by simp)];refine Pp ?_;simp only[PM (show ¬ ((i:Int)<0) by lia),Qk,hx];refine Po (Po (Q6 ti (Pp (Po (wpAny_isOneOf_keyiter ti ?_)))));show wpAny _ _ (setField (.ref it) 1 (rawInt ((i:Int)+1)) >>= fun _=>_) _ _ s;refine Po (S2 g od (by simp) ?_);have nx:(s.heap.update it (Obj.mapFields fun y=>y.setIfInBounds 1 (rawInt ((i:Int)+1)))).IsKeyIter it d (i+1) es.size ep:=
  ⟨_,Heap.get?_update_self _ g (Obj.isFreed_of_fields (Sh od _)),(Obj.cls_mapFields ..).trans oc,(Sh od _).trans (by simp[rawInt])⟩
 refine Po (QH (Po (wpAny_isOneOf_keyiter (s:={s with heap:=s.heap.update it (Obj.mapFields fun y=>y.setIfInBounds 1 (rawInt ((i:Int)+1)))}) nx.typeIs ?_)));show wpAny _ _ (pure e.key) _ _ _;exact Pp (Pp ⟨_,rfl,Pp (q _ nx (Rh ..))⟩)
theorem xw{Q:Option Value->Shared->Prop}(hh:A.handled=none)(hit:s.heap.IsKeyIter it d i es.size ep)(x:RawD s.heap d es ep)(hx:es[i]?=none)
  (q:∀h',Heap.ExtBut it s.heap h'->Q none {s with heap:=h'}):wpAny (model prog w) A (pyNext (.ref it)) Q E s:=by
 have ti:=hit.typeIs;obtain⟨o,g,oc,od⟩:=hit;obtain⟨ob,gd,_,dat⟩:=x;unfold pyNext;refine Po (Tf (wpAny_callSpecial?_slot (name:=Str.ofString "__next__") ti Q7 (QA Q7 ti Sv
  (Po (Pp (Po (Po ?_)))) (Ss _))))
 refine Po (Q6 ti (Pp (Po (wpAny_fieldsOf g od ?_))));have Im:Builtin.Dict_items.ownsTuple "dict_keyiterator" = false:=by decide
 simp only[Im,P4,Qy];show wpAny _ _ (if(Value.ref d==Value.none)=true then _ else _) _ _ s;have nz:¬ ((Value.ref d==Value.none)=true):=Pt;rw[PM nz];refine Po (Pp (Po (So gd dat ?_)));rw[PM (by simp)];refine Po (Pp (Po (TN gd dat ?_)));rw[PM (by simp)];refine Pp ?_;simp only[PM (show ¬ ((i:Int)<0) by lia),Qk,hx];refine Po (Po (Q6 ti (Pp ?_)));show wpAny _ _ (setField (.ref it) 0 .none >>= fun _=>_) _ _ s;refine Po (S2 g od (by simp) ?_);show wpAny _ _ (newExc (.type "StopIteration") [] >>= fun _=>_) _ _ _;refine Po ?_;simp only[newExc,newTuple];refine Po (QC (Po (m:=firstArgMember _ _) (wpAny_of_eq (a:=Value.none) (by first|rfl|(simp only[firstArgMember];rfl)) (QC ?_ (by size_fits)))) (by size_fits));simp only[raiseNew];refine Po (wpAny_handled ?_);rw[show A.in1.handled=none from hh];refine Po (Pp (wpAny_throw ?_));refine Po (wpAny_isInstance (b:=true) (T:="StopIteration") ⟨_,Heap.get?_push_size _ rfl,rfl⟩ isSubtype_stop ?_);exact Pp (q _ (((Rh ..).extBut.push _).push _))
theorem qO(hh:A.handled=none)(I:Addr)(ne:d≠I):Walks prog w A I [I,d] [I] es.size (fun i v=>∃e,es[i]?=some e/\v=e.key) (fun i h=>h.IsKeyIter I d i es.size ep/\RawD h d es ep) where
 sub:=fun b hb=>by
  rw[Qm]at hb;rw[hb];exact Pq
 frame:=fun _ _ _ st hk=>⟨st.1.at fun o e=>hk I Pq o e,st.2.at fun o e=>hk d (Px _ Pq) o e⟩
 item:=fun i s Q E hi st hQ=>by
  refine uD st.1 st.2 (Array.getElem?_eq_getElem hi) fun h' it' sb=>?_
  exact hQ _ h' s.toks ⟨_,Array.getElem?_eq_getElem hi,rfl⟩ ⟨it',st.2.at fun o e=>sb.extBut d o ne e⟩ fun b o hb e=>sb.extBut b o (fun z=>hb (by rw[z];exact Pq)) e
 done:=fun s Q E st hQ=>xw hh st.1 st.2 (Array.getElem?_eq_none (Py _)) fun h' ext=>hQ h' s.toks fun b o hb e=>ext b o (fun z=>hb (by rw[z];exact Pq)) e
 self:=fun _ _ _ _ st hQ=>wpAny_pyIter_keyiter st.1 hQ
theorem xx(nm:(d==sysModules)=false):PySem.W.KdlSrc prog w "dict" d d es.size (fun i v=>∃e,es[i]?=some e/\v=e.key) (fun h=>RawD h d es ep) where
 type:=fun _ x=>hJ x
 there:=fun _ x=>by
  obtain⟨o,g,_⟩:=x;exact⟨PH g,PH g⟩
 keep:=fun _ _ x hk=>x.at fun o e=>hk d (.inl rfl) o e
 notList:=by decide
 notTuple:=by decide
 hint:=fun _ _ _ _ x q=>PySem.W.kdl_hint_dict (hJ x) q
 iter:=fun _ s hh x=>⟨_,_,(fun _ _ q=>uC nm x q),qO hh _ (by obtain⟨o,g,_⟩:=x;exact P1 (PH g)),⟨⟨_,Heap.get?_push_size _ rfl,rfl,rfl⟩,x.at fun o e=>Heap.get?_push_of_some _ e⟩⟩
end
end NX
namespace NX
open PySem PySem.W PySem.Spec PyProof.Rows L2
section
variable{prog:Program}{w:World}{A:Around}{E:Value->Shared->Prop}{s:Shared}
theorem pD{O:KeyOrd}{key:Nat->O.α}{kd:SortKind}{l:Addr}{vs:List Value}{Q:Value->Shared->Prop}
  (hcol:∀Q':List Value->Shared->Prop,(∀h' tk,(∀b o,s.heap.get? b=some o->h'.get? b=some o)->Q' vs {s with heap:=h',toks:=tk})->wpAny (model prog w) A.in1 (collect (.ref l)) Q' E s) (Iu:vs.length<64)
  (Gz:2<=vs.length->∀(A':Around) (E':Value->Shared->Prop) (s':Shared),(∀b o,s.heap.get? b=some o->s'.heap.get? b=some o)->∀Q:SortKind->Shared->Prop,Q kd s'->wpAny (model prog w) A' (keyKind' vs.toArray) Q E' s')
  (IS:∀i j,i<vs.length->j<vs.length->∀s':Shared,(∀b o,s.heap.get? b=some o->s'.heap.get? b=some o)->∀C:Bool->Shared->Prop,C (O.blt (key i) (key j)) s'->kas_ask prog w A.in1.in1 kd vs i j C s')
  (h:∀(p:Array Nat) (h5 h':Heap) (tk e:Nat),POk vs.length p->aR key p vs.length->(∀b o,s.heap.get? b=some o->h5.get? b=some o)->(∀b o,h5.get? b=some o->h'.get? b=some o)->h'.get? h5.objs.size=some (seqObj "list" (List.toArray (p.toList.map fun i=>vs.getD i .none)) e)->Q (.ref h5.objs.size) {s with heap:=h',toks:=tk}):
  wpAny (model prog w) A (call (.builtin "sorted") [.ref l]) Q E s:=by
 refine R1 kind_sorted plain_sorted entry_sorted (args_sorted1 _) ?_;unfold Builtin.«sorted»;refine Po (m:=checkCount "sorted" 1 1 _) (Pp (Po (hcol _ fun h5 tk k5=>?_)));refine Po (Uy ?_ (by rw[Qs];lia));have k6:∀b o,s.heap.get? b=some o->(h5.push (seqObj "list" vs.toArray 0)).get? b=some o:=fun b o e=>Heap.get?_push_of_some _ (k5 b o e)
 have hL:(h5.push (seqObj "list" vs.toArray 0)).get? h5.objs.size=some (seqObj "list" vs.toArray 0):=Heap.get?_push_size _ rfl;have OM:∀b o,s.heap.get? b=some o->b<h5.objs.size:=fun b o e=>PH (k5 b o e)
 show wpAny _ _ _ _ _ {s with heap:=h5.push (seqObj "list" vs.toArray 0),toks:=tk};refine Po (QH (QA slot_list_sort ⟨_,hL,rfl⟩ entry_list_sort (fQ (key:=key) (kd:=kd) hL Iu (fun h2 h' kk Q' q=>Gz h2 _ _ _ (fun b o e=>kk b o (P1 (OM b o e)) (k6 b o e)) Q' q)
  (fun i j hi hj h' kk C q=>IS i j hi hj _ (fun b o e=>kk b o (P1 (OM b o e)) (k6 b o e)) C q) fun p h' hp hs ⟨e,he⟩ kk=>⟨_,rfl,?_⟩) (args_list_sort _)))
 exact Pp ⟨_,rfl,h p h5 h' tk e hp hs k5 (fun b o q=>kk b o (P1 (PH q)) (Heap.get?_push_of_some _ q)) he⟩
end
section
variable{X:Cx}{pi:List (Addr×Obj)}{σ:L2.St}{H:Hp}{s:Shared}
theorem xy{H:Hp}{kvs:List (List Key×V)}{xs:List (List Key×Addr×Value)}(r:KT H kvs xs):xs.map (·.1)=kvs.map (·.1):=by
 induction r with
 |nil=>rfl
 |cons hq _ ih=>rw[PY,PY,ih,hq.1]
theorem Cn{H:Hp}{kvs:List (List Key×V)}{xs:List (List Key×Addr×Value)}(r:KT H kvs xs):∀y∈xs,H y.2.1=some (.tup (y.1.map kV)):=by
 induction r with
 |nil=>exact fun y hy=>nomatch hy
 |cons hq _ ih=>
  intro y hy;rcases PJ.mp hy with rfl|hy
  ·rw[<-hq.1];exact hq.2.1
  ·exact ih y hy
theorem xA(I:Inv X pi σ H s){a:Addr}{kvs:List (List Key×V)}(h:Rd H a (.dT kvs)):(a==sysModules)=false/\∃(al:List (Addr×List Key)) (es:Array DictEntry) (ep:Nat),
  RawD s.heap a es ep/\es.toList.map (·.key)=al.map (fun x=>Value.ref x.1)/\al.map (·.2)=kvs.map (·.1)/\∀x∈al,H x.1=some (.tup (x.2.map kV)):=by
 obtain⟨_,nm,xs,r,o,es,ep,h1,h2,h3,h4,_⟩:=h.ok I.hok;refine⟨nm,xs.map fun x=>(x.2.1,x.1),es,ep,⟨o,h1,h2,h3⟩,?_,?_,?_⟩
 ·rw[h4,P2,P2];rfl
 ·rw[P2];exact xy r
 ·intro x hx;obtain⟨y,hy,rfl⟩:=QD.mp hx;exact Cn r y hy
theorem jl(hc:X.calm=true):dr X (.builtin "sorted") (fun vs H Q=>∃(p:Addr) (kvs:List (List Key×V)) (top:Bool) (t:List Bool),vs=[.ref p]/\Rd H p (.dT kvs)/\(∀kv∈kvs,kinds kv.1=top::t)/\kvs.length<64/\
  ∀(D:Addr) (ms:List (Addr×List Key)),H D=none->(∀a∈ms,H a.1=some (.tup (a.2.map kV)))->(ms.map (·.2)).Perm (kvs.map (·.1))->ms.Pairwise (fun a b=>cu b.2 a.2=false)->Q (.ref D) (upd H D (.lst (ms.map fun a=>V.ref a.1)))):=by
 intro pi s σ H vs us Q I r h;obtain⟨p,kvs,top,kt,rfl,hp,hk,Iu,q⟩:=h;obtain⟨u,rfl,r1⟩:=fN r;cases r1;obtain⟨nm,al,es,ep,raw,IT,Nu,K2⟩:=xA I hp;have FR:al.length=kvs.length:=by
  have:=Qt List.length Nu;simpa using this
 have Ih:∀a∈al,SqT X.K H a.1 (a.2.map kV)/\kinds a.2=top::kt:=fun a ha=>by
  refine⟨SqT.of (K2 a ha),?_⟩;have:a.2∈kvs.map (·.1):=by rw[<-Nu];exact QD.mpr ⟨a,ha,rfl⟩
  obtain⟨kv,Hu,e⟩:=QD.mp this;rw[<-e];exact hk kv Hu
 have rv:Vals (al.map fun a=>V.ref a.1) (al.map fun a=>Value.ref a.1):=by
  clear IT Nu K2 FR Ih;induction al with
  |nil=>exact .nil
  |cons a al ih=>exact .cons rfl ih
 have hl:(al.map fun a=>Value.ref a.1).length=al.length:=Pr ..;refine pD (O:=BF) (key:=fun i=>(al.getD i (0,[])).2) (kd:=tuples' true) (vs:=al.map fun a=>Value.ref a.1) (fun Q' hq=>?_) (by lia) (fun h2 A' E' s' kk Q' q'=>?_) (fun i j hi hj s' kk C q'=>?_) fun pp h5 h' tk e F9 hs k5 k' he=>?_
 ·refine kdu_collect (xx nm) (I.ok.hd hc) raw (by have:=Qt List.length IT;simp only[Pr,Pw]at this;rw[Qs];lia) fun h' tk acc kk JL=>?_
  have ea:acc.toList=al.map fun a=>Value.ref a.1:=by
   rw[<-IT];apply RU;intro j;rw[List.getElem?_map,Array.getElem?_toList,Array.getElem?_toList];cases hj:acc[j]? with
   |none=>
    have:es[j]?=none:=by
     rw[Array.getElem?_eq_none_iff]at hj ⊢;rw[<-JL.1];exact hj
    rw[this];rfl
   |some v=>
    obtain⟨en,h1,h2⟩:=JL.2 j v hj;rw[h1,h2];rfl
  have:=hq h' tk kk;rw[<-ea]at this;exact this
 ·obtain⟨fs,t1,t2,t3⟩:=nU (h':=s'.heap) I kk top rv fun a ha=>⟨(Ih a ha).1,kt,(Ih a ha).2⟩
  refine kat_kind (T:=.type (if top then "int" else "str")) t1 (by lia) (fun v hv=>t3 v hv _) (by simp) ?_;have:((Value.type (if top then "int" else "str")) != Value.type "tuple")=true:=by cases top <;> decide
  rw[this];exact q'
 ·unfold kas_ask;have Hd:i<al.length:=by lia
  have K0:j<al.length:=by lia
  rw[jO rv Hd,jO rv K0];have mi:al.getD i (0,[])∈al:=by rw[a8 _ _ _ Hd];exact RG _
  have mj:al.getD j (0,[])∈al:=by rw[a8 _ _ _ K0];exact RG _
  obtain⟨u1,o1,n1,r1,g1,_,d1⟩:=lj I (Ih _ mi).1;obtain⟨u2,o2,n2,r2,g2,_,d2⟩:=lj I (Ih _ mj).1;have ek:kinds (al.getD i (0,[])).2=kinds (al.getD j (0,[])).2:=by rw[(Ih _ mi).2,(Ih _ mj).2]
  have el:u1.length=u2.length:=by
   have a1:=r1.length;have a2:=r2.length;have a3:=Qt List.length ek;simp only[kinds,Pr]at a1 a2 a3;lia
  refine kat_lt (kk _ _ g1) d1 (kk _ _ g2) d2 ?_;have ef:decide (u1.toArray.size<u2.toArray.size)=false:=by simp[el]
  rw[ef];exact iw _ _ _ _ 0 r1 r2 ek q'
 ·rw[hl]at F9 hs;have K1:POk (al.map fun a=>V.ref a.1).length pp:=by rw[Pr];exact F9
  have eo:pC pp (al.map fun a=>V.ref a.1)=(pp.toList.map fun i=>al.getD i (0,[])).map fun a=>V.ref a.1:=by
   unfold pC;rw[P2];refine Qh fun i hi=>?_
   have hi:=PU.mp (F9.perm.mem_iff.mp hi);show(al.map fun a=>V.ref a.1).getD i .non=V.ref (al.getD i (0,[])).1;rw[a8 _ _ _ (by rw[Pr];exact hi),a8 _ _ _ hi];simp
  have I5:Inv X pi σ H {s with heap:=h5,toks:=tk}:=I.kept k5;have hn:H h5.objs.size=none:=I5.hok.fresh (Py _);refine⟨.ref h5.objs.size,_,fR (s:={s with heap:=h5,toks:=tk}) I5 k' (Py _) he (g8 rv K1) ?_,rfl,?_⟩
  ·show(pC pp (al.map fun a=>V.ref a.1)).length<=sizeLine;rw[eo,Pr,Pr,F9.perm.length_eq,Pz,Qs];lia
  ·rw[eo];have pm:=g0 (0,[]) F9;refine q _ _ hn (fun a ha=>K2 a (pm.mem_iff.mp ha)) ?_ ?_
   ·rw[<-Nu];exact pm.map _
   ·exact eF (O:=BF) (0,[]) (fun a:Addr×List Key=>a.2) F9 hs
end
end NX
namespace NX
open PySem PySem.Spec PyProof.Rows L2
section
open PySem.SeqAt
open PySem.AutoSeq1 (wpAny_loadPart')
open PySem.MeetsSeq PySem.MeetsSeq2 PySem.MeetsSeq3
theorem nW{A:Around}{s:Shared}{a c:Key}{u v:Value}(ra:RelV (kV a) u)(rc:RelV (kV c) v):EqAt A s u v (decide (a=c)):=by
 have h:=vM (A:=A) (s:=s) ra rc (g9 a) (g9 c);rw[qJ]at h;exact h
theorem uE{prog:Program}{w:World}{A:Around}{E:Value->Shared->Prop}{s:Shared}{Q:Value->Shared->Prop}{a c:Key}{u v:Value}(ra:RelV (kV a) u)(rc:RelV (kV c) v)(hk:a.isLeft=c.isLeft)(h:Q (.bool (lh.blt a c)) s):
  wpAny (model prog w) A (richCompare .Lt u v) Q E s:=by
 cases a with
 |inl i=>
  cases c with
  |inr _=>cases hk
  |inl j=>
   obtain⟨t,rfl⟩:=ra;obtain⟨t',rfl⟩:=rc;exact(PyProof.Rows.lt_int h:wpAny (model prog w) A (compareOp .Lt (.int i t) (.int j t')) Q E s)
 |inr x=>
  cases c with
  |inl _=>cases hk
  |inr y=>
   obtain⟨t,rfl⟩:=ra;obtain⟨t',rfl⟩:=rc;exact(PyProof.Rows.lt_str h:wpAny (model prog w) A (compareOp .Lt (.str x t) (.str y t')) Q E s)
theorem uF{prog:Program}{w:World}{A:Around}{E:Value->Shared->Prop}{s:Shared}{Q:Value->Shared->Prop}{a c:Key}{u v:Value}(ra:RelV (kV a) u)(rc:RelV (kV c) v)(hk:a.isLeft=c.isLeft)(h:Q (.bool (!lh.blt a c)) s):
  wpAny (model prog w) A (richCompare .GtE u v) Q E s:=by
 cases a with
 |inl i=>
  cases c with
  |inr _=>cases hk
  |inl j=>
   obtain⟨t,rfl⟩:=ra;obtain⟨t',rfl⟩:=rc;refine(PyProof.Rows.ge_int ?_:wpAny (model prog w) A (compareOp .GtE (.int i t) (.int j t')) Q E s);have e:(!lh.blt (.inl i) (.inl j))=decide (j<=i):=by
    show(!decide (i<j))=decide (j<=i);rw[P8];simp
   rw[e]at h;exact h
 |inr x=>
  cases c with
  |inl _=>cases hk
  |inr y=>
   obtain⟨t,rfl⟩:=ra;obtain⟨t',rfl⟩:=rc;exact(PySem.P.ge_str h:wpAny (model prog w) A (compareOp .GtE (.str x t) (.str y t')) Q E s)
theorem lr(a c:Key)(r t:List Key):cu (a::r) (c::t)=if a=c then cu r t else lh.blt a c:=rfl
theorem jR(l b:Addr)(items E5:Array Value)(n n2:Nat)(dd Ib:Option Addr)(sl Ic:Array (Option Value))(ks js:List Key)(hi:Vals (ks.map kV) items.toList)(hj:Vals (js.map kV) E5.toList)(hk:kinds ks=kinds js):
  Meets (Builtin.«tuple.__lt__» ⟨[.ref l,.ref b],[]⟩)
   (fun _ R s=>s.heap.get? l=some {cls:=.type "tuple",dict:=dd,data:=.seq items n,slots:=sl}/\s.heap.get? b=some {cls:=.type "tuple",dict:=Ib,data:=.seq E5 n2,slots:=Ic}/\R (.ok (.ret (.bool (cu ks js)))) s):=
 .of_wp fun prog w A R s h=>by
  obtain⟨hp,g,d,tk,os⟩:=s;obtain⟨hl,hb,h⟩:=h;have f2:=S9;have z1:items.size=ks.length:=by have:=hi.length;simp at this;lia
  have z2:E5.size=js.length:=by have:=hj.length;simp at this;lia
  have z3:ks.length=js.length:=by have:=Qt List.length hk;simpa[kinds] using this
  wp_walk using wpAny_loadPart' hl,wpAny_loadPart' hb,RH _ (fun bT b s'=>b.1=none/\s'=⟨hp,g,d,tk,os⟩/\∃(vs ws:List Value) (F6 Ga:List Key),bT=vs.zip ws/\
   Vals (F6.map kV) vs/\Vals (Ga.map kV) ws/\kinds F6=kinds Ga/\R (.ok (.ret (.bool (cu F6 Ga)))) ⟨hp,g,d,tk,os⟩) _
  case turn=>
   rintro⟨y,x⟩ bT b s' ⟨Jv,rfl,vs,ws,F6,Ga,hz,JM,K3,Gr,hR⟩;cases F6 with
   |nil=>
    cases JM;rw[Ta]at hz;cases hz
   |cons a F6=>
    cases Ga with
    |nil=>cases Gr
    |cons c Ga=>
     cases JM with
     | @cons _ va _ LZ ra hvi'=>
      cases K3 with
      | @cons _ vc _ L3 rc hwi'=>
       rw[Qu]at hz;injection hz with hyx hrest;injection hyx with hy hx;subst hy hx;have JN:a.isLeft=c.isLeft:=(RB Gr).1;have Gx:kinds F6=kinds Ga:=(RB Gr).2;rw[lr]at hR;have he:=nW (A:=A.in1) (s:=⟨hp,g,d,tk,os⟩) ra rc;refine Po (he prog w _ _ ?_);by_cases hac:a=c
       ·rw[PF hac]at hR;rw[PR hac]
        wp_walk
        exact⟨rfl,rfl,_,_,_,_,hrest,hvi',hwi',Gx,hR⟩
       ·rw[PM hac]at hR;rw[PN hac];have Oa:=fun E Q=>uE (prog:=prog) (w:=w) (A:=A.in1) (E:=E) (s:=⟨hp,g,d,tk,os⟩) (Q:=Q) ra rc JN
        wp_walk using Oa
        exact⟨_,rfl,by simpa using hR⟩
  case fin=>
   rintro⟨b1,b2⟩ s' ⟨Jv,rfl,vs,ws,F6,Ga,hz,JM,K3,Gr,hR⟩;simp only at Jv;subst Jv;have hv:cu F6 Ga=decide (items.size<E5.size):=by
    cases F6 with
    |nil=>
     cases Ga with
     |nil=>exact(PN (by lia)).symm
     |cons c Ga=>cases Gr
    |cons a F6=>
     cases Ga with
     |nil=>cases Gr
     |cons c Ga=>
      cases JM;cases K3;rw[Qu]at hz;cases hz
   rw[hv]at hR
   wp_walk
   exact⟨_,rfl,by simpa[Builtin.Tuple.tupleCompareSizes] using hR⟩
  case h=>
   exact⟨rfl,rfl,items.toList,E5.toList,ks,js,rfl,hi,hj,hk,h⟩
theorem jS(l b:Addr)(items E5:Array Value)(n n2:Nat)(dd Ib:Option Addr)(sl Ic:Array (Option Value))(ks js:List Key)(hi:Vals (ks.map kV) items.toList)(hj:Vals (js.map kV) E5.toList)(hk:kinds ks=kinds js):
  Meets (Builtin.«tuple.__ge__» ⟨[.ref l,.ref b],[]⟩)
   (fun _ R s=>s.heap.get? l=some {cls:=.type "tuple",dict:=dd,data:=.seq items n,slots:=sl}/\s.heap.get? b=some {cls:=.type "tuple",dict:=Ib,data:=.seq E5 n2,slots:=Ic}/\R (.ok (.ret (.bool (!cu ks js)))) s):=
 .of_wp fun prog w A R s h=>by
  obtain⟨hp,g,d,tk,os⟩:=s;obtain⟨hl,hb,h⟩:=h;have f2:=S9;have z1:items.size=ks.length:=by have:=hi.length;simp at this;lia
  have z2:E5.size=js.length:=by have:=hj.length;simp at this;lia
  have z3:ks.length=js.length:=by have:=Qt List.length hk;simpa[kinds] using this
  wp_walk using wpAny_loadPart' hl,wpAny_loadPart' hb,RH _ (fun bT b s'=>b.1=none/\s'=⟨hp,g,d,tk,os⟩/\∃(vs ws:List Value) (F6 Ga:List Key),bT=vs.zip ws/\
   Vals (F6.map kV) vs/\Vals (Ga.map kV) ws/\kinds F6=kinds Ga/\R (.ok (.ret (.bool (!cu F6 Ga)))) ⟨hp,g,d,tk,os⟩) _
  case turn=>
   rintro⟨y,x⟩ bT b s' ⟨Jv,rfl,vs,ws,F6,Ga,hz,JM,K3,Gr,hR⟩;cases F6 with
   |nil=>
    cases JM;rw[Ta]at hz;cases hz
   |cons a F6=>
    cases Ga with
    |nil=>cases Gr
    |cons c Ga=>
     cases JM with
     | @cons _ va _ LZ ra hvi'=>
      cases K3 with
      | @cons _ vc _ L3 rc hwi'=>
       rw[Qu]at hz;injection hz with hyx hrest;injection hyx with hy hx;subst hy hx;have JN:a.isLeft=c.isLeft:=(RB Gr).1;have Gx:kinds F6=kinds Ga:=(RB Gr).2;rw[lr]at hR;have he:=nW (A:=A.in1) (s:=⟨hp,g,d,tk,os⟩) ra rc;refine Po (he prog w _ _ ?_);by_cases hac:a=c
       ·rw[PF hac]at hR;rw[PR hac]
        wp_walk
        exact⟨rfl,rfl,_,_,_,_,hrest,hvi',hwi',Gx,hR⟩
       ·rw[PM hac]at hR;rw[PN hac];have Oa:=fun E Q=>uF (prog:=prog) (w:=w) (A:=A.in1) (E:=E) (s:=⟨hp,g,d,tk,os⟩) (Q:=Q) ra rc JN
        wp_walk using Oa
        exact⟨_,rfl,by simpa using hR⟩
  case fin=>
   rintro⟨b1,b2⟩ s' ⟨Jv,rfl,vs,ws,F6,Ga,hz,JM,K3,Gr,hR⟩;simp only at Jv;subst Jv;have hv:(!cu F6 Ga)=decide (E5.size<=items.size):=by
    cases F6 with
    |nil=>
     cases Ga with
     |nil=>exact(PR (by lia)).symm
     |cons c Ga=>cases Gr
    |cons a F6=>
     cases Ga with
     |nil=>cases Gr
     |cons c Ga=>
      cases JM;cases K3;rw[Qu]at hz;cases hz
   rw[hv]at hR
   wp_walk
   exact⟨_,rfl,by simpa[Builtin.Tuple.tupleCompareSizes] using hR⟩
  case h=>
   exact⟨rfl,rfl,items.toList,E5.toList,ks,js,rfl,hi,hj,hk,h⟩
end
section
variable{X:Cx}
def Dl(K:W.Frag)(neg:Bool):R2:=fun x y H Q=>∃a b ks js,x=.ref a/\y=.ref b/\SqT K H a (ks.map kV)/\SqT K H b (js.map kV)/\kinds ks=kinds js/\Q (.bl (if neg then !cu ks js else cu ks js)) H
theorem z9(hu:X.A.units<cLine):EX X (compareOp .Lt) (Dl X.K false):=by
 intro pi s σ H x y v u Q I rx ry h;obtain⟨a,b,ks,js,rfl,rfl,ha,hb,hk,q⟩:=h;cases rx;cases ry;obtain⟨Er,r1,p1,_⟩:=I.tuple ha;obtain⟨HL,r2,p2,_⟩:=I.tuple hb;obtain⟨⟨cls,dd,data,sl⟩,ho,hc,n,hd⟩:=id p1;obtain⟨⟨JD,Ib,data2,Ic⟩,Fx,GP,n2,hd2⟩:=id p2;simp only at hc hd GP hd2;subst hc hd GP hd2;exact richCompare_meets_room (op:=.Lt) ⟨_,ho,rfl⟩ ⟨_,Fx,rfl⟩ PySem.F.slot_tuple_lt PySem.F.entry_tuple_lt (PySem.F.args_tuple_lt_2 _ _) (jR a b _ _ n n2 dd Ib sl Ic ks js (by simpa using r1) (by simpa using r2) hk)
  ⟨ho,Fx,show Value.bool (cu ks js)≠Value.notImplemented/\EP X pi σ Q (.bool (cu ks js)) s from⟨(fun x=>nomatch x),⟨.bl (cu ks js),H,I,rfl,q⟩⟩⟩ hu
theorem Aa(hu:X.A.units<cLine):EX X (compareOp .GtE) (Dl X.K true):=by
 intro pi s σ H x y v u Q I rx ry h;obtain⟨a,b,ks,js,rfl,rfl,ha,hb,hk,q⟩:=h;cases rx;cases ry;obtain⟨Er,r1,p1,_⟩:=I.tuple ha;obtain⟨HL,r2,p2,_⟩:=I.tuple hb;obtain⟨⟨cls,dd,data,sl⟩,ho,hc,n,hd⟩:=id p1;obtain⟨⟨JD,Ib,data2,Ic⟩,Fx,GP,n2,hd2⟩:=id p2;simp only at hc hd GP hd2;subst hc hd GP hd2;exact richCompare_meets_room (op:=.GtE) ⟨_,ho,rfl⟩ ⟨_,Fx,rfl⟩ PySem.F.slot_tuple_ge PySem.F.entry_tuple_ge (PySem.F.args_tuple_ge_2 _ _) (jS a b _ _ n n2 dd Ib sl Ic ks js (by simpa using r1) (by simpa using r2) hk)
  ⟨ho,Fx,show Value.bool (!cu ks js)≠Value.notImplemented/\EP X pi σ Q (.bool (!cu ks js)) s from⟨(fun x=>nomatch x),⟨.bl (!cu ks js),H,I,rfl,q⟩⟩⟩ hu
end
section
variable{prog:Program}{w:World}{A:Around}{E:Value->Shared->Prop}{s:Shared}
end
def tDisp1T(tk tv:TE):TE:=fun σ H Q=>∀p,H p=none->tk σ (upd H p (.dT [])) fun x H1=>tv σ H1 fun y H2=>H2 p=some (.dT [])/\∃(ks:List Key) (b:Addr),x=.ref b/\H2 b=some (.tup (ks.map kV))/\Q (.ref p) (upd H2 p (.dT [(ks,y)]))
theorem qP{X:Cx}{pos:Pos}{k v:Expr}{tk tv:TE}(hu:X.A.units+1<cLine)(hk:PE X k tk)(hv:PE X v tv):PE X (.Dict [some k] [v] pos) (tDisp1T tk tv):=by
 intro pi s σ H Q I q;have hn:=I.hok.fresh (Py s.heap.objs.size);have I1:=I.laid (a:=s.heap.objs.size) (o:=.dT []) (h':=s.heap.push {cls:=.type "dict",data:=.dict #[]}) (t':=s.toks) (fun _ _ q=>Heap.get?_push_of_some _ q) (Py _) (dt_empty s.heap I.big);have hl:(pairTrees [some k] [v] X.env pos).length=1:=pairTrees_length [some k] [v] X.env pos rfl rfl;rw[arm_eval_Dict,zip_pairTrees [some k] [v] X.env pos rfl rfl,dictDisplay_pairs _ (fun z=>by rw[z]at hl;cases hl) (by rw[hl];decide)];refine Po (Uw (Po ?_));unfold subDict;refine Po (wpAny_alloc (Po (QH ?_)));rw[PF (by rw[hl];decide)];refine Po ?_;refine EG (uB (pos:=pos) hk hv (xv (X:=X)) pi _ σ _ (fun ps H2=>match ps with
  |[(x,y)]=>H2 s.heap.objs.size=some (.dT [])/\∃(ks:List Key) (b:Addr),x=.ref b/\H2 b=some (.tup (ks.map kV))/\Q (.ref s.heap.objs.size) (upd H2 s.heap.objs.size (.dT [(ks,y)]))
  |_=>False) I1 (q _ hn)) fun vs s2 hh=>?_
 obtain⟨ps,H2,I2,rel,q2⟩:=hh;match ps,rel,q2 with
 |[(x,y)],rel,⟨e,ks,b,ex,eb,q3⟩=>
  cases rel with
  | @cons p0 q0 as bs h0 t0=>
   cases t0;obtain⟨u,r⟩:=q0;obtain⟨rx,ry⟩:=h0;subst ex;cases(show u=Value.ref b from rx);obtain⟨z,hd,xs,rl,dd⟩:=z7 I2.hok e;cases rl;refine QH ?_;refine Po ?_;rw[SN];refine Po (Po (wpAny_dictSet_heap (hsz:=Qg _) (knd:=tupleKind (mixKind X.prog X.w)) (Sg (RQ _) hu) (iz I2.hok eb) dd fun h' Ky hs=>Pp ?_));dsimp only;rw[Ue];refine Pp (Pp (Pp (Pp ⟨.ref s.heap.objs.size,_,?_,rfl,q3⟩)));obtain⟨q,es,ep,hq,h2,h3,h4,_,h5⟩:=Ky;refine mL I2 (by rw[e];exact True.intro) hs ⟨q,hq⟩ ⟨by rw[Qs];exact(by decide:1<=16777216),hd,_,(KT.put (kvs:=[]) (xs:=[]) .nil ks eb ry).keeps fun c ys ec=>?_,q,es,ep,hq,h2,h3,h4,h5⟩;rw[aB (yY ec e (fun z=>nomatch z))];exact ec
section
variable{X:Cx}{pi:List (Addr×Obj)}{σ:L2.St}{H:Hp}{s:Shared}{scope:Scope}{N:List Str}{ix:List (Option Nat)}{fp:List Addr}
end
section
variable{X:Cx}{scope:Scope}{N:List Str}{ix:List (Option Nat)}{tg iter elt:Expr}{ifs:List Expr}{pos:Pos}{wi:TI}{g:TG}{tc:TT}{te:TE}
end
theorem ook_get{P:Program}{w:World}{H:Hp}{h:Heap}{a:Addr}{o:HO}(x:ObjOk P w H h a o):∃u,h.get? a=some u:=by
 cases o with
 |lst xs=>obtain⟨_,_,_,_,e⟩:=x;exact⟨_,e⟩
 |tup xs=>obtain⟨_,_,_,_,e,_⟩:=x;exact⟨_,e⟩
 |dK kvs=>obtain⟨_,_,_,_,_,_,_,e,_⟩:=x;exact⟨_,e⟩
 |dT kvs=>obtain⟨_,_,_,_,_,_,_,e,_⟩:=x;exact⟨_,e⟩
 |set S n=>obtain⟨_,_,_,_,e,_⟩:=x;exact⟨_,e⟩
 |ins C dx fs=>obtain⟨_,_,_,e,_⟩:=x;exact⟨_,e⟩
 |own y=>exact x
 |xd fs=>obtain⟨_,⟨_,_,_,e,_⟩,_⟩:=x;exact⟨_,e⟩
 |rng lo hi=>obtain⟨_,_,_,e⟩:=x;exact⟨_,e⟩
 |frz ob u=>obtain⟨e,_⟩:=x;exact⟨_,e⟩
 |tbl ps=>exact⟨_,x⟩
 |met f y=>exact⟨_,x⟩
 |ext φ=>obtain⟨_,e,_⟩:=x;exact e
def K4(mg:Str->Option Value)(base:Heap)(x:Str)(C:Addr):Prop:=∃B newId initId bm,ExcBaseFacts B newId initId bm/\OwnCls x C bm newId mg base
theorem Ab{K:W.Frag}{h:Heap}{mg:Str->Option Value}{x:Str}{C:Addr}{mB:List Value}{nw:String}(X:K.In h)(G:h.Ns mainGlobals mg)(e:PySem.W.nsIn K mainGlobals x=some (some (.ref C)))(q:PySem.W.excIn K C mB nw=true):OwnCls x C mB nw mg h:=by
 refine⟨SG X G e,?_⟩;unfold PySem.W.excIn at q;split at q
 ·rename_i zd cd sl ho;split at q
  ·rename_i C' mro z0 z1 z2 z3 z4 z5 hm hs;rw[PL,PL,PL,PL,PL]at q;obtain⟨⟨⟨⟨⟨q1,q2⟩,q3⟩,q4⟩,q5⟩,q6⟩:=q;have d1:=Ql.mp q1;have d2:=Ql.mp q2;have d6:=Ql.mp q6;have d3:cd.hasDel=false:=by revert q3;cases cd.hasDel <;> decide
   clear q1 q2 q3 q6;subst d1;subst d2;cases cd;dsimp only at hm d3 q5 d6;subst hm;subst d3;have ez:sl = #[z0,z1,z2,z3,some (.builtin z4),z5]:=by
    cases sl;dsimp only at hs;rw[hs]
   subst ez;exact⟨_,_,_,_,_,_,_,_,_,_,_,_,_,_,_,_,_,X _ _ ho,.of_isNs (PySem.W.isNs_of_in X q5),PySem.W.nsMap_none_of_in X q5 d6,PySem.W.tail_of_in X q4⟩
  ·cases q
 ·cases q
noncomputable def L5(P:Program)(w:World)(base:Heap)(C:Addr):Io:=fun outer H s E e s'=>
 ∃(a t:Addr) (B:Heap) (H':Hp),e=.ref a/\s'.os=s.os/\AllBare s'.gens/\Un (F8 outer) [] H H' s.heap s'.heap/\HOk P w H' s'.heap/\Heap.FlyingW B outer a (.ref C) (.ref t) s'.heap/\
  (∀b u,s'.heap.get? b=some u->(H' b≠none\/∃o,s.heap.get? b=some o)->b∉F8 outer->B.get? b=some u)/\E (.ref C) none H'
def Acc(X:Cx)(C:Addr)(Ww:Hp->Prop):Prop:=∀(pi:List (Addr×Obj)) (σ:L2.St) (H:Hp) (s:Shared) (h':Heap) (a:Addr) (args:List Value),Inv X pi σ H s->Ww H->Heap.MadeExcOf s.heap h' a (.ref C) args->X.xe (.ref a) {s with heap:=h'}
theorem Ac{P:Program}{w:World}{K:W.Frag}{mg:Str->Option Value}{base:Heap}{N:List Str}{qual:Str}{scope:Scope}{f C:Addr}{cd:Value}{A:Around}{outer:List Env}{s:Shared}{H:Hp}{E:XK}:
  Acc (qp (L5 P w base C) P w K mg base N qual scope f cd A outer s H E) C (fun H'=>E (.ref C) none H'):=by
 intro pi σ H1 s1 h' a args I hW hm;have Ob:∀b,b∈F8 (envOfC qual scope s.heap.objs.size f cd::outer)->b∈s.heap.objs.size::F8 outer:=I.stkSub;have nl:∀b o,s.heap.get? b=some o->b∉F8 outer->b∉F8 (envOfC qual scope s.heap.objs.size f cd::outer):=fun b o e n z=>by
  rcases PJ.mp (Ob b z) with r|r
  ·exact absurd (PH e) (by rw[r];exact QZ _)
  ·exact n r
 have nt:∀b,H1 b≠none->b∉F8 (envOfC qual scope s.heap.objs.size f cd::outer):=fun b n z=>n (I.stkFree b z)
 refine wpAny_leaves_madeW (base:=PySem.W.hideAll s1.heap (F8 (envOfC qual scope s.heap.objs.size f cd::outer))) (L:=s.heap.objs.size) I.ok.frames rfl (fun b o q=>Ur _ q) (PySem.W.funFrames_hide I.stack fun env he b hb=>Sd.mpr ⟨env,he,hb⟩) hm fun h2 t MA _ _ sm=>?_
 have k:∀b u,s1.heap.get? b=some u->b∉F8 (envOfC qual scope s.heap.objs.size f cd::outer)->h2.get? b=some u:=fun b u q n=>MA.1 b u (SJ _ q n)
 have sl:∀b u,s1.heap.get? b=some u->b∈F8 outer->∃z,h2.get? b=some {u with slots:=z}:=fun b u q n=>by
  obtain⟨_,o,ho,hd⟩:=I.funs.mem n;rw[q]at ho;cases ho;exact sm b u (hm.keeps b u q) hd
 have there:∀b o,s.heap.get? b=some o->∃o',s1.heap.get? b=some o':=fun b o q=>I.base.there b o q (fun z=>nomatch z)
 refine⟨a,t,_,H1,rfl,I.os,I.bare,⟨fun b o q n hb hx=>k b o (I.base.keep b o q n hb hx) (nl b o q hb),fun b o q n hb hx=>?_,I.base.free,fun b o q hx=>?_,I.base.tups,I.base.frzs,I.base.tbls⟩,fun b o e=>?_,MA,fun b u q hb n=>?_,hW⟩
 ·obtain⟨z,e⟩:=I.base.slot b o q n hb hx;obtain⟨z',e'⟩:=sl b _ e hb;exact⟨z',e'⟩
 ·obtain⟨o',e⟩:=there b o q;by_cases hb:b∈F8 outer
  ·obtain⟨z,e'⟩:=sl b o' e hb;exact⟨_,e'⟩
  ·exact⟨o',k b o' e (nl b o q hb)⟩
 ·refine(I.hok b o e).stay (fun c u hc q=>k c u q (nt c ?_)) (fun _ q=>q) fun _ _ q=>q
  rcases hc with rfl|hc
  ·rw[e];exact fun z=>nomatch z
  ·rw[hc];exact fun z=>nomatch z
 ·have h1:∃u0,s1.heap.get? b=some u0/\b∉F8 (envOfC qual scope s.heap.objs.size f cd::outer):=by
   rcases hb with hb|⟨o,ho⟩
   ·cases hq:H1 b with
    |none=>exact absurd hq hb
    |some ho=>
     obtain⟨u0,e0⟩:=ook_get (I.hok b ho hq);exact⟨u0,e0,nt b hb⟩
   ·obtain⟨o',e⟩:=there b o ho;exact⟨o',e,nl b o ho n⟩
  obtain⟨u0,e0,n0⟩:=h1;have:=k b u0 e0 n0;rw[show h2.get? b=some u from q]at this;cases this;exact SJ _ e0 n0
def PX(X:Cx)(st:List Stmt)(t:L2.St->Hp->Prop):Prop:=
 ∀(pi:List (Addr×Obj)) (s:Shared) (σ:L2.St) (H:Hp),Inv X pi σ H s->t σ H->wpAny (model X.prog X.w) X.A (execs st X.env) (fun _ _=>False) X.xe s
section
variable{X:Cx}{st:Stmt}{bT:List Stmt}{t:TS}{u u':L2.St->Hp->Prop}{e:Expr}{es:List Expr}{x:Str}{C:Addr}{Ww:Hp->Prop}{np EH pos:Pos}
theorem uG{ta:TA}(O:K4 X.mg X.base x C)(acc:Acc X C Ww)(hc:X.calm=true)(hg:Gl X x)(ha:PA X (e::es) ta)(Fl:(x==("__debug__" : Str))=false:=by decide)
  (he:starEach (e::es) X.env=(false,eval e X.env)::starEach es X.env:=by rfl) (Fc:(backTo EH (starEach es X.env)).any (·.1)=false:=by rfl):
  PX X (.Raise (some (.Call (.Name x np) (e::es) [] EH)) none pos::bT) (fun σ H=>ta σ H fun vs H1=>vs.length<=sizeLine/\Ww H1):=by
 intro pi s σ H I h;obtain⟨B,nw,ini,bm,FB,O⟩:=O;obtain⟨tl,N,nm,q,bs,hdct,sn,sub,ab,col,dd,k0,k1,k2,k3,k5,mN,hC,hN,ON,T⟩:=O.obj;refine RE (wpAny_Raise_call_subT (C:=C) (nm:=nm) (q:=q) (N:=N) (bs:=bs) (bm:=tl) (hdct:=hdct) (sn:=sn) (sub:=sub) (ab:=ab) (col:=col) (dd:=dd) (k0:=k0) (k1:=k1) (k2:=k2) (k3:=k3) (k5:=k5) FB (mN:=mN) (T.hasType FB.hasBase) (I.ok.hd hc) (by rw[he];show(false||(backTo EH (starEach es X.env)).any (·.1))=false;rw[Fc];rfl) ON (ig I hg O.bound ⟨rfl,?_⟩ Fl));have z:=ha EH pi s σ H _ I h;rw[he]at z ⊢;exact RZ (QB z (fun us s2 ⟨vs,H1,I1,r,hl,hw⟩=>⟨rfl,by rw[<-r.length];exact hl,I1.bk _ _ hC,hN.keeps I1.bk,T.keeps I1.bk,fun h' a hm=>acc pi σ H1 s2 h' a us I1 hw hm⟩) fun _ _ y=>y)
theorem xB(h1:PS X st t)(h2:PX X bT u):PX X (st::bT) (fun σ H=>t {nx:=u,rt:=fun _ _=>False} σ H):=by
 intro pi s σ H I h;refine RE (EG (h1 pi s σ H _ I h) fun f s1 q=>?_);cases f with
 |next=>
  obtain⟨σ',H',I',q⟩:=q;exact h2 pi s1 σ' H' I' q
 |ret v=>obtain⟨_,_,_,_,_,q⟩:=q;exact q
 |brk=>obtain⟨_,_,_,q⟩:=q;exact q
 |cont=>obtain⟨_,_,_,q⟩:=q;exact q
theorem Co{c:Expr}{a b:List Stmt}{tc:TT}(hc:PT X c tc)(ha:PX X a u):PX X (.If c a b pos::bT) (fun σ H=>tc σ H fun bb H1=>bb=true/\u σ H1):=by
 intro pi s σ H I h;refine RE (wpAny_If (EG (hc pi s σ H _ I h) fun d s1 EM=>?_));obtain⟨H1,I1,e,q⟩:=EM;subst e;exact QB (ha pi s1 σ H1 I1 q) (fun _ _ z=>z.elim) fun _ _ z=>z
theorem qQ(h:PX X bT u)(k:∀σ H,u' σ H->u σ H):PX X bT u':=fun pi s σ H I z=>h pi s σ H I (k σ H z)
theorem Ad(h:PX X bT u):PSs X bT (fun _ σ H=>u σ H):=fun pi s σ H _ I z=>QB (h pi s σ H I z) (fun _ _ z=>z.elim) fun _ _ z=>z
theorem Ae(h:PS X.nox st t):PS X st t:=fun pi s σ H D I hw=>QB (h pi s σ H D (I.wish _) hw) (fun _ _ q=>q.unwish) fun _ _ z=>False.elim z
theorem Af{t:TA}(h:PA X.nox es t):PA X es t:=fun p pi s σ H Q I hw=>QB (h p pi s σ H Q (I.wish _) hw) (fun _ _ ⟨v,H',I',r,q⟩=>⟨v,H',I'.unwish,r,q⟩) fun _ _ z=>False.elim z
end
def CtX(P:Program)(w:World)(K:W.Frag)(mg:Str->Option Value)(base:Heap)(x:Str)(k:Nat)(C:Addr)(sp:Sp):Prop:=
 ∃f fd ps,FnOk P w K mg base (L5 P w base C) k f fd ps sp/\mg x=some (.ref f)/\PySem.W.keepIn K (.ref f)=true/\Binds K fd ps []
theorem xC{P:Program}{w:World}{K:W.Frag}{mg:Str->Option Value}{base:Heap}{x qual:Str}{st:Stmt}{f C:Addr}{fd:FuncData}{N ps:List Str}{k:Nat}{sp:Sp}(F:Fun K x qual st f fd)(S:FnScope N ps (defScope st))(len:∀vs H Q E,sp vs H Q E->vs.length=ps.length)
  (Ht:∀(EV:Value) (A:Around) (outer:List Env) (s:Shared) (H:Hp) (vs:List V) (Q:VK) (E:XK),Room k (A.deeper (envOfC qual (defScope st) s.heap.objs.size f EV))->sp vs H Q E->
   ∃t,PX (qp (L5 P w base C) P w K mg base N qual (defScope st) f EV A outer s H E) (bY st) t/\t (gR N vs) H):FnOk P w K mg base (L5 P w base C) (k+1) f fd ps sp:=by
 obtain⟨oc,od,kV,doc,pm,an,EV,ct,Ip,rfl,lk,HJ⟩:=F.ex;refine zH lk HJ S len fun A outer s H vs Q E hr Jt=>?_
 obtain⟨t,h,q⟩:=Ht EV A outer s H vs Q E hr Jt;exact⟨_,Ad h,q⟩
def XP(X:Cx)(pi:List (Addr×Obj))(σ:L2.St)(C:Addr)(Ww:Hp->Prop)(e:Value)(s':Shared):Prop:=∃(s1:Shared) (H1:Hp),Inv X pi σ H1 s1/\L5 X.prog X.w X.base C X.stack H1 s1 (fun _ _ H'=>Ww H') e s'
abbrev TX:=L2.St->Hp->(Hp->Prop)->Prop
def Oc(X:Cx)(e:Expr)(C:Addr)(t:TX):Prop:=∀(pi:List (Addr×Obj)) (s:Shared) (σ:L2.St) (H:Hp) (Ww:Hp->Prop),Inv X pi σ H s->t σ H Ww->wpAny (model X.prog X.w) X.A (eval e X.env) (fun _ _=>False) (XP X pi σ C Ww) s
def Od(X:Cx)(st:List Stmt)(C:Addr)(t:TX):Prop:=∀(pi:List (Addr×Obj)) (s:Shared) (σ:L2.St) (H:Hp) (Ww:Hp->Prop),Inv X pi σ H s->t σ H Ww->wpAny (model X.prog X.w) X.A (execs st X.env) (fun _ _=>False) (XP X pi σ C Ww) s
section
variable{X:Cx}{st:Stmt}{bT:List Stmt}{tx:TX}{e a b:Expr}{es:List Expr}{x:Str}{C:Addr}{k:Nat}{sp:Sp}{p pos:Pos}
theorem uH{t:TA}(c:CtX X.prog X.w X.K X.mg X.base x k C sp)(hr:Room k X.A)(hg:Gl X x)(ha:PA X.nox (e::es) t)(Fl:(x==("__debug__" : Str))=false:=by decide)
  (he:starEach (e::es) X.env=(false,eval e X.env)::starEach es X.env:=by rfl) (Fc:(backTo pos (starEach es X.env)).any (·.1)=false:=by rfl):
  Oc X (.Call (.Name x p) (e::es) [] pos) C (fun σ H Ww=>t σ H fun vs H1=>sp vs H1 (fun _ _=>False) fun _ _ H'=>Ww H'):=by
 intro pi s σ H Ww I h;obtain⟨f,fd,ps,F,m,kp,b⟩:=c;refine Q4 (ig I hg m ?_ Fl);refine Ut (h₀:=X.base) I.ok.mod.kin kp (QB (ha pos pi s σ H _ (I.wish _) h) (fun us s1 ⟨vs,H1,I1,r,q⟩=>⟨I1.kIn,?_⟩) fun _ _ z=>z.elim) he Fc;have I1:=I1.unwish;have hl:us.length=ps.length:=by rw[<-r.length];exact F.len _ _ _ _ q
 have hb:BindsTo s1 fd ⟨us,[]⟩ (ps.zip us):=by
  have:=b s1 us I1.kIn (by rw[P5];exact hl);rw[P5]at this;exact this
 refine wpAny_call (Sq (F.run X.A X.stack s1 H1 ⟨us,[]⟩ us vs _ _ hr I1.env0 hb r q) fun r s' hq=>?_);cases r with
 |error e=>exact⟨s1,H1,I1,hq⟩
 |ok fl=>
  cases fl with
  |ret u=>obtain⟨_,_,_,_,_,_,_,z⟩:=hq;exact z.elim
  |next=>exact False.elim hq
  |brk=>exact False.elim hq
  |cont=>exact False.elim hq
theorem uI(h:Oc X e C tx)(hs:swapsWith e none pos.line X.env=pure false:=by rfl):Od X (.Expr e pos::bT) C tx:=fun pi s σ H Ww I z=>
 RE (wpAny_Expr_any (QB (h pi s σ H Ww I z) (fun _ _ z=>z.elim) fun _ _ z=>z) I.quiet hs)
end
abbrev handX(X:Cx)(a:Addr):Cx:={X with A:=X.A.mark (some (.ref a)),calm:=false,xe:=fun _ _=>False}
theorem nX{X:Cx}{pi:List (Addr×Obj)}{σ:L2.St}{H:Hp}{s:Shared}(I:Inv X pi σ H s)(a:Addr):Inv (handX X a) pi σ H s:=
 ⟨⟨I.ok.mod,I.ok.kind,I.ok.glob,I.ok.blt,I.ok.above,I.ok.inj,I.ok.has,I.ok.cab,(fun z=>nomatch z),I.ok.frames,I.ok.stk,I.ok.exf,I.ok.bs,I.ok.bsz,I.ok.noex,I.ok.exfs,I.ok.funs,I.ok.frf⟩,I.os,I.bare,I.base,I.loc,I.cell,I.free,I.freeC,I.pin,I.hok,I.len⟩
theorem eG{X:Cx}{pi:List (Addr×Obj)}{σ:L2.St}{H:Hp}{s:Shared}{a:Addr}(ok:X.Ok)(I:Inv (handX X a) pi σ H s):Inv X pi σ H s:=⟨ok,I.os,I.bare,I.base,I.loc,I.cell,I.free,I.freeC,I.pin,I.hok,I.len⟩
theorem qR{X:Cx}{pi:List (Addr×Obj)}{D:Ends}{f:Flow}{s:Shared}{a:Addr}(ok:X.Ok)(h:SP (handX X a) pi D f s):SP X pi D f s:=by
 cases f with
 |next=>obtain⟨σ',H',I,q⟩:=h;exact⟨σ',H',eG ok I,q⟩
 |brk=>obtain⟨σ',H',I,q⟩:=h;exact⟨σ',H',eG ok I,q⟩
 |cont=>obtain⟨σ',H',I,q⟩:=h;exact⟨σ',H',eG ok I,q⟩
 |ret u=>obtain⟨v,σ',H',I,r,q⟩:=h;exact⟨v,σ',H',eG ok I,r,q⟩
theorem Ag{X:Cx}{body Hv:List Stmt}{b0:Stmt}{x:Str}{C:Addr}{np K5 pos:Pos}{t th:TS}{tx:TX}(O:K4 X.mg X.base x C)(hg:Gl X x)(hn:PSs X.nox body t)(hx:Od X body C tx)(hh:∀a,PSs (handX X a) (b0::Hv) th)
  (hs:X.stack=X.env::X.outer:=by rfl) (hf:X.env.frame=some X.env.locals:=by rfl) (Fl:(x==("__debug__" : Str))=false:=by decide):
  PS X (.Try body [.ExceptHandler (some (.Name x np)) none (b0::Hv) K5] [] [] pos) (fun D σ H=>t D σ H\/tx σ H fun H'=>th D σ H'):=by
 intro pi s σ H D I h;rcases h with h|h
 ·refine wpAny_Try_except (QB (hn pi s σ H D (I.wish _) h) (fun f s1 q=>?_) fun _ _ z=>z.elim);have q:=q.unwish;cases f with
  |next=>exact Sb q
  |ret v=>exact q
  |brk=>exact q
  |cont=>exact q
 refine wpAny_Try_except (QB (hx pi s σ H _ I h) (fun _ _ z=>z.elim) fun e s1 z=>?_);obtain⟨s0,H1,I1,a,tt,B,H',rfl,JE,hgen,un,hok,MA,IU,hW⟩:=z;have key:∀h6:Heap,Heap.FlyingW B X.stack a (.ref C) (.ref tt) h6->s1.heap.UpToSlots h6->Inv X pi σ H' {s1 with heap:=h6}:=fun h6 f6 sm=>by
  have nt:∀b,H' b≠none->b∉F8 X.stack:=fun b n z=>by
   obtain⟨_,o,ho,_⟩:=I1.stack.mem z;exact n (un.free b o ho (I1.stkFree b z) fun z=>nomatch z)
  have sl:∀b u,s1.heap.get? b=some u->b∈F8 X.stack->∃z,h6.get? b=some {u with slots:=z}:=fun b u q n=>by
   obtain⟨_,o,ho,hd⟩:=MA.2.2.1.mem n;rw[q]at ho;cases ho;exact sm b u q hd
  refine I1.call' (ch:=[]) JE ⟨fun b o q n hb hx=>?_,fun b o q n hb hx=>?_,un.free,fun b o q hx=>?_,un.tups,un.frzs,un.tbls⟩ (fun b o e=>?_) hgen fun b z=>nomatch z
  ·have:=un.keep b o q n hb hx;exact f6.1 b o (IU b o this (.inr ⟨o,q⟩) hb)
  ·obtain⟨z,e⟩:=un.slot b o q n hb hx;obtain⟨z',e'⟩:=sl b _ e hb;exact⟨z',e'⟩
  ·obtain⟨o',e⟩:=un.there b o q hx;by_cases hb:b∈F8 X.stack
   ·obtain⟨z,e'⟩:=sl b o' e hb;exact⟨_,e'⟩
   ·exact⟨o',f6.1 b o' (IU b o' e (.inr ⟨o,q⟩) hb)⟩
  ·refine(hok b o e).stay (fun c u hc q=>?_) (fun _ q=>q) fun _ _ q=>q
   have hc:H' c≠none:=by
    rcases hc with rfl|hc
    ·rw[e];exact fun z=>nomatch z
    ·rw[hc];exact fun z=>nomatch z
   exact f6.1 c u (IU c u q (.inl hc) (nt c hc))
 have fl:Heap.FlyingW B (X.env::X.outer) a (.ref C) (.ref tt) s1.heap:=by rw[<-hs];exact MA
 refine wpAny_looks_onW (by rw[<-hs];exact I1.ok.frames) hf fl fun h4 MB sm4=>?_
 refine wpAny_landsW MB fun h5 K6 sm5=>?_
 have MC:=sm4.trans sm5;have I5:=nX (key h5 (by rw[hs];exact K6) MC) a;obtain⟨ob,K7,hobc⟩:=K6.there;refine wpAny_handleBy_cons (codeAny_handlers_test (ig I5 hg (show(handX X a).mg x=some (.ref C) from by obtain⟨_,_,_,_,_,O⟩:=O;exact O.bound) ?_ Fl)) (by intro q;cases q);obtain⟨_,_,_,bm,FB,O⟩:=O;obtain⟨tl,N,nm,q,bs,hdct,sn,sub,ab,col,dd,k0,k1,k2,k3,k5,mN,hC,hN,ON,T⟩:=O.obj;refine wpAny_excMatches_sub_self (I5.bk _ _ hC) K7 hobc (T.hasType FB.hasBase) (codeAny_handlers_suite ?_);refine lands_againW K6 fun h6 fly6 sm6=>?_
 have I6:=key h6 (by rw[hs];exact fly6) (MC.trans sm6);exact QB (hh a pi _ σ H' D (nX I6 a) hW) (fun f s2 q=>qR I6.ok q) fun _ _ z=>z.elim
open PySem.Builtin.ObjectAttr PySem.Builtin.Getset_descriptor
section
variable{prog:Program}{w:World}{A:Around}{E:Value->Shared->Prop}{s:Shared}{K:W.Frag}{x D:Addr}
end
section
variable{X:Cx}{pi:List (Addr×Obj)}{σ:L2.St}{H:Hp}{s:Shared}{a:Addr}{o:Obj}
end
end NX
namespace NX
open PySem PySem.W PySem.Spec PyProof.Rows L2
section
variable{prog:Program}{w:World}{A:Around}{E:Value->Shared->Prop}{s:Shared}
end
section
variable{X:Cx}
end
end NX
namespace NX
open PySem PySem.Spec PyProof.Rows L2
section
variable{X:Cx}{es:List Expr}{kt:Nat}{pt:Pos}
end
end NX
namespace NX
open PySem
namespace ST
noncomputable def IF(m:Nat)(p:SetTable.Probe):SetTable.Probe:=if p.more>0 then{p with j:=p.j+1,more:=p.more-1} else
 {p with j:=(SetTable.leap m p.i p.perturb).1,more:=SetTable.runEnd m (SetTable.leap m p.i p.perturb).1-(SetTable.leap m p.i p.perturb).1,i:=(SetTable.leap m p.i p.perturb).1,perturb:=(SetTable.leap m p.i p.perturb).2}
theorem pE(t:SetTable)(p:SetTable.Probe):t.advance p=IF t.mask p:=rfl
def EW(m:Nat):Nat->SetTable.Probe->SetTable.Probe
 | 0,p=>p
 |k+1,p=>EW m k (IF m p)
theorem iA(m:Nat):∀(a b:Nat) (p:SetTable.Probe),EW m (a+b) p=EW m b (EW m a p)
 | 0,b,p=>by rw[Q8];rfl
 |a+1,b,p=>by
  rw[show a+1+b=(a+b)+1 by lia,EW,iA m a b];rfl
def fr(m:Nat)(x:Nat×Nat)(d:Option Nat):SetTable.Probe:={j:=x.1,more:=SetTable.runEnd m x.1-x.1,i:=x.1,perturb:=x.2,dummy:=d}
theorem uJ(t:SetTable)(h:Int):t.probeStart h=fr t.mask (SetTable.bits h%(t.mask+1),SetTable.bits h) none:=rfl
theorem mO(m:Nat):∀(r:Nat) (q:SetTable.Probe),q.more=r->EW m (r+1) q=fr m (SetTable.leap m q.i q.perturb) q.dummy
 | 0,q,h=>by
  show IF m q=_;unfold IF;rw[PM (by lia)];rfl
 |r+1,q,h=>by
  rw[EW];have e:IF m q={q with j:=q.j+1,more:=q.more-1}:=by
   unfold IF;rw[PF (by lia)]
  rw[e,mO m r _ (by show q.more-1=r;lia)]
theorem vU(m:Nat):∀(k:Nat) (q:SetTable.Probe),k<=q.more->EW m k q={q with j:=q.j+k,more:=q.more-k}
 | 0,q,h=>rfl
 |k+1,q,h=>by
  rw[EW];have e:IF m q={q with j:=q.j+1,more:=q.more-1}:=by
   unfold IF;rw[PF (by lia)]
  rw[e,vU m k _ (by show k<=q.more-1;lia)];show({q with j:=q.j+1+k,more:=q.more-1-k}:SetTable.Probe)=_;rw[show q.j+1+k=q.j+(k+1) by lia,show q.more-1-k=q.more-(k+1) by lia]
def lp(m:Nat):Nat->Nat×Nat->Nat×Nat
 | 0,x=>x
 |l+1,x=>lp m l (SetTable.leap m x.1 x.2)
theorem vV(m:Nat):∀(a b:Nat) (x:Nat×Nat),lp m (a+b) x=lp m b (lp m a x)
 | 0,b,x=>by rw[Q8];rfl
 |a+1,b,x=>by
  rw[show a+1+b=(a+b)+1 by lia,lp,vV m a b];rfl
theorem xD(m i:Nat):SetTable.runEnd m i-i<=9:=by
 unfold SetTable.runEnd;split <;> lia
theorem qS(m:Nat):∀(l:Nat) (x:Nat×Nat) (d:Option Nat),∃k,k<=10*l/\EW m k (fr m x d)=fr m (lp m l x) d
 | 0,x,d=>⟨0,Py _,rfl⟩
 |l+1,x,d=>by
  obtain⟨k,hk,e⟩:=qS m l (SetTable.leap m x.1 x.2) d;have h1:=mO m (SetTable.runEnd m x.1-x.1) (fr m x d) rfl;have h2:=xD m x.1;refine⟨(SetTable.runEnd m x.1-x.1+1)+k,by lia,?_⟩;rw[iA,h1];exact e
theorem vW(m:Nat):∀(l:Nat) (x:Nat×Nat),(lp m l x).2=x.2 / 32 ^ l
 | 0,x=>(Nat.div_one _).symm
 |l+1,x=>by
  rw[lp,vW m l];show x.2 / 32 / 32 ^ l=_;rw[Nat.div_div_eq_div_mul,Nat.pow_succ,TR]
def cy(m:Nat):Nat->Nat->Nat
 | 0,i=>i
 |l+1,i=>cy m l ((i*5+1)%(m+1))
theorem nZ(m:Nat):∀(a b i:Nat),cy m (a+b) i=cy m b (cy m a i)
 | 0,b,i=>by rw[Q8];rfl
 |a+1,b,i=>by
  rw[show a+1+b=(a+b)+1 by lia,cy,nZ m a b];rfl
theorem Ah(m:Nat):∀(l i:Nat),lp m l (i,0)=(cy m l i,0)
 | 0,i=>rfl
 |l+1,i=>by
  show lp m l ((i*5+1+0 / 32)%(m+1),0 / 32)=_;rw[Nat.zero_div,UZ,Ah m l];rfl
def IG(m:Nat):Prop:=m=7\/m=31\/m=127
def Ai(m:Nat):Bool:=(List.range (m+1)).all fun s=>(List.range (m+1)).any fun a=>cy m a 0==s
theorem qT{m:Nat}(h:IG m):∀s,s<=m->∃a,a<=m∧cy m a 0=s:=by
 have key:Ai m=true:=by
  rcases h with rfl|rfl|rfl <;> decide +kernel
 intro s hs;unfold Ai at key;rw[P7]at key;obtain⟨a,ha,e⟩:=RI.mp (key s (PU.mpr (by lia)));exact⟨a,by have:=PU.mp ha;lia,Ql.mp e⟩
theorem xE{m:Nat}(h:IG m):cy m (m+1) 0=0:=by
 rcases h with rfl|rfl|rfl <;> decide +kernel
theorem Aj{m:Nat}(h:IG m){i s:Nat}(hi:i<=m)(hs:s<=m):∃l,l<=m∧cy m l i=s:=by
 obtain⟨a,ha,rfl⟩:=qT h i hi;obtain⟨b,hb,rfl⟩:=qT h s hs;by_cases Ju:a<=b
 ·refine⟨b-a,by lia,?_⟩;rw[<-nZ,show a+(b-a)=b by lia]
 ·refine⟨m+1-a+b,by lia,?_⟩;rw[<-nZ,show a+(m+1-a+b)=(m+1)+b by lia,nZ,xE h]
theorem vX(m:Nat):∀(l:Nat) (x:Nat×Nat),0<l->(lp m l x).1<=m
 | 1,x,_=>by
  show(x.1*5+1+x.2 / 32)%(m+1)<=m;have:=Wb (x.1*5+1+x.2 / 32) (show 0<m+1 by lia);lia
 |l+2,x,_=>vX m (l+1) _ (by lia)
theorem Ak{m:Nat}(h:IG m){x:Nat×Nat}(hx:x.2<2 ^ 64){s:Nat}(hs:s<=m):∃l,l<=13+m/\(lp m l x).1=s:=by
 have h0:(lp m 13 x).2=0:=by
  rw[vW];exact Nat.div_eq_of_lt (PK hx (by decide))
 obtain⟨l,hl,e⟩:=Aj h (vX m 13 x (by decide)) hs;refine⟨13+l,by lia,?_⟩;rw[vV,show lp m 13 x=((lp m 13 x).1,0) by rw[<-h0],Ah];exact e
theorem uK{m:Nat}(h:IG m){x:Nat×Nat}(hx:x.2<2 ^ 64)(d:Option Nat){s:Nat}(hs:s<=m):∃k,k<10*(m+15)/\(EW m k (fr m x d)).j=s:=by
 obtain⟨l,hl,e⟩:=Ak h hx hs;obtain⟨k,hk,e2⟩:=qS m l x d;exact⟨k,by lia,by rw[e2];exact e⟩
theorem qU(h:Int):SetTable.bits h<2 ^ 64:=by
 unfold SetTable.bits;have h1:=Int.emod_nonneg h (show((2:Int) ^ 64)≠0 by decide);have h2:=UB h (show(0:Int)<2 ^ 64 by decide);have:(2:Int) ^ 64=((2 ^ 64:Nat):Int):=by decide
 lia
theorem og{P:Nat->Bool}:∀(k:Nat),P k=true->∃n,n<=k/\P n=true/\∀i<n,P i=false
 |k,h=>by
  cases e:(List.range k).find? P with
  |none=>
   refine⟨k,Py _,h,fun i hi=>?_⟩;have:=List.find?_eq_none.mp e i (PU.mpr hi);simpa using this
  |some a=>
   have ha:=PU.mp (List.mem_of_find?_eq_some e);have hp:=List.find?_some e;obtain⟨n,hn,h1,h2⟩:=og a hp;exact⟨n,by lia,h1,h2⟩
termination_by k=>k
theorem lu{m:Nat}{L:List Nat}(hL:L.length<=m):∃s,s<=m/\s∉L:=by
 have:∀(l k:List Nat),l.Nodup->(∀x∈l,x∈k)->l.length<=k.length:=by
  intro l;induction l with
  |nil=>exact fun k _ _=>Qg _
  |cons a l ih=>
   intro k nd h;rw[Qo]at nd;have ha:=h a Pq;have:=ih (k.erase a) nd.2 fun x hx=>(Ua (fun e=>nd.1 (by rw[<-e];exact hx))).mpr (h x (Px _ hx))
   have h2:=Tc ha;have h3:=TB ha;rw[PD];lia
 refine Q2 fun hn=>?_
 have:=this (List.range (m+1)) L List.nodup_range fun x hx=>Q2 fun hx2=>hn ⟨x,by have:=PU.mp hx;lia,hx2⟩
 rw[Pz]at this;lia
theorem qV{m:Nat}(h:IG m){L:List Nat}(hL:L.length<=m){x:Nat×Nat}(hx:x.2<2 ^ 64)(d:Option Nat):∃n,n<10*(m+15)/\(EW m n (fr m x d)).j∉L/\∀i<n,(EW m i (fr m x d)).j∈L:=by
 obtain⟨s,hs,hn⟩:=lu hL;obtain⟨k,hk,e⟩:=uK h hx d hs;obtain⟨n,h1,h2,h3⟩:=og (P:=fun k=>!decide ((EW m k (fr m x d)).j∈L)) k (by rw[e,PN hn];rfl);refine⟨n,by lia,by simpa using h2,fun i hi=>by simpa using h3 i hi⟩
end ST
end NX
namespace NX
open PySem
namespace ST
def Up(l:List Nat):Prop:=l.Pairwise (·< ·)
theorem Up.lt{xs:Array Nat}(h:Up xs.toList){a b u v:Nat}(Ju:a<b)(hu:xs[a]?=some u)(hv:xs[b]?=some v):u<v:=by
 unfold Up at h;rw[S3]at h;obtain⟨h1,e1⟩:=Array.getElem?_eq_some_iff.mp hu;obtain⟨h2,e2⟩:=Array.getElem?_eq_some_iff.mp hv;have:=h a b (by rw[Pw];exact h1) (by rw[Pw];exact h2) Ju;rw[Qr,Qr,e1,e2]at this;exact this
structure Bel(xs:Array Nat)(j r:Nat):Prop where
 le:r<=xs.size
 lo:∀k<r,∀v,xs[k]?=some v->v<j
 hi:∀k,r<=k->∀v,xs[k]?=some v->j<=v
theorem mP{xs:Array Nat}(hs:Up xs.toList)(j:Nat):∀(fuel lo hi:Nat),lo<=hi->hi<=xs.size->hi-lo<=fuel->(∀k<lo,∀v,xs[k]?=some v->v<j)->(∀k,hi<=k->∀v,xs[k]?=some v->j<=v)->Bel xs j (SetTable.below.go xs j fuel lo hi)
 | 0,lo,hi,h1,h2,h3,h4,h5=>by
  unfold SetTable.below.go;exact⟨by lia,h4,fun k hk=>h5 k (by lia)⟩
 |fuel+1,lo,hi,h1,h2,h3,h4,h5=>by
  unfold SetTable.below.go;split
  ·rename_i E9;have hm:(lo+hi) / 2<xs.size:=by lia
   have hg:xs[(lo+hi) / 2]?=some xs[(lo+hi) / 2]:=Array.getElem?_eq_getElem hm;have hd:xs.getD ((lo+hi) / 2) j=xs[(lo+hi) / 2]:=by
    rw[Qa,hg];rfl
   dsimp only;rw[hd];split
   ·rename_i hw;refine mP hs j fuel _ _ (by lia) h2 (by lia) (fun k hk v hv=>?_) h5;by_cases Gx:k=(lo+hi) / 2
    ·rw[Gx,hg]at hv;cases hv;exact hw
    ·have:=hs.lt (show k<(lo+hi) / 2 by lia) hv hg;lia
   ·rename_i hw;refine mP hs j fuel _ _ (by lia) (by lia) (by lia) h4 (fun k hk v hv=>?_);by_cases Gx:k=(lo+hi) / 2
    ·rw[Gx,hg]at hv;cases hv;lia
    ·have:=hs.lt (show(lo+hi) / 2<k by lia) hg hv;lia
  ·exact⟨by lia,h4,fun k hk=>h5 k (by lia)⟩
theorem jw{xs:Array Nat}(hs:Up xs.toList)(j:Nat):Bel xs j (SetTable.below xs j):=
 mP hs j xs.size 0 xs.size (Qg _) (Py _) (by lia) (fun k hk=>absurd hk (by lia)) (fun k hk v hv=>by
  have:=(Array.getElem?_eq_some_iff.mp hv).1;lia)
theorem uL{xs:Array Nat}(hs:Up xs.toList){j:Nat}(h:j∈xs.toList):xs[SetTable.below xs j]?=some j:=by
 have B:=jw hs j;obtain⟨k,hk,e⟩:=Rr.mp h;rw[Pw]at hk;rw[Qr]at e;have hg:xs[k]?=some j:=by rw[Array.getElem?_eq_getElem hk,e]
 have h1:SetTable.below xs j<=k:=Q2 fun hn=>by
  have:=B.lo k (by lia) j hg;lia
 by_cases h2:SetTable.below xs j=k
 ·rw[h2,hg]
 ·have E9:SetTable.below xs j<xs.size:=by lia
  have Jw:xs[SetTable.below xs j]?=some xs[SetTable.below xs j]:=Array.getElem?_eq_getElem E9;have h3:=hs.lt (show SetTable.below xs j<k by lia) Jw hg;have h4:=B.hi _ (Py _) _ Jw;lia
theorem qW(j:Nat):SetTable.has #[] j=false:=rfl
theorem qX{t:SetTable}(hs:Up t.place.toList){j:Nat}(h:j∈t.place.toList):∃i,t.slot j=.live i/\t.place[i]?=some j:=by
 have e:=uL hs h;refine⟨_,?_,e⟩;unfold SetTable.slot;dsimp only;rw[e,PF (by simp)]
theorem uM{t:SetTable}(hd:t.dummies = #[]){j:Nat}(h:j∉t.place.toList):t.slot j=.empty:=by
 unfold SetTable.slot;dsimp only;rw[PM,hd,qW,PM Pt];intro e;have e:t.place[SetTable.below t.place j]?=some j:=by simpa using e
 exact h (by rw[R0];exact TU e)
theorem hU{xs:Array Nat}(hs:Up xs.toList){a b j:Nat}(ha:xs[a]?=some j)(hb:xs[b]?=some j):a=b:=by
 rcases Nat.lt_trichotomy a b with h|h|h
 ·have:=hs.lt h ha hb;lia
 ·exact h
 ·have:=hs.lt h hb ha;lia
theorem iC(m:Nat):∀(k:Nat) (p:SetTable.Probe),(EW m k p).dummy=p.dummy
 | 0,p=>rfl
 |k+1,p=>by
  rw[EW,iC m k];unfold IF;split <;> rfl
theorem oh{t:SetTable}{m:Nat}(hm:t.mask=m)(hs:Up t.place.toList)(hd:t.dummies = #[])(hashAt:Nat->Int)(h:Int):∀(n fuel:Nat) (p:SetTable.Probe),p.dummy=none->n<fuel->(∀i<n,(EW m i p).j∈t.place.toList)->(EW m n p).j∉t.place.toList->
  (SetTable.probe.go t hashAt h fuel p=some (.empty (EW m n p).j none)/\∀i<n,∀c,t.place[c]?=some (EW m i p).j->hashAt c≠h)\/
  ∃i c,i<n/\t.place[c]?=some (EW m i p).j/\hashAt c=h/\SetTable.probe.go t hashAt h fuel p=some (.candidate (EW m i p).j c (EW m (i+1) p))/\∀i'<i,∀c',t.place[c']?=some (EW m i' p).j->hashAt c'≠h
 | 0,fuel+1,p,hp,_,_,hn=>by
  left;unfold SetTable.probe.go;have e:t.slot p.j=.empty:=uM hd hn;rw[e];dsimp only;rw[hp];exact⟨rfl,fun i hi=>absurd hi (by lia)⟩
 |n+1,fuel+1,p,hp,hf,hi,hn=>by
  obtain⟨c,e,hc⟩:=qX hs (hi 0 (by lia));have e:t.slot p.j=.live c:=e;have ea:t.advance p=IF m p:=by rw[pE,hm]
  unfold SetTable.probe.go;rw[e];dsimp only;by_cases hh:hashAt c=h
  ·right;refine⟨0,c,by lia,hc,hh,?_,fun i' Hd=>absurd Hd (by lia)⟩;rw[PF (Ql.mpr hh),ea];rfl
  ·rw[PM (fun z=>hh (Ql.mp z)),ea];rcases oh hm hs hd hashAt h n fuel (IF m p) (by have:=iC m 1 p;exact this.trans hp) (by lia) (fun i Kz=>hi (i+1) (by lia)) hn with⟨h1,h2⟩|⟨i,c',h1,h2,h3,h4,h5⟩
   ·left;refine⟨h1,fun i Kz c' JC=>?_⟩;cases i with
    |zero=>
     rw[hU hs JC hc];exact hh
    |succ i=>exact h2 i (by lia) c' JC
   ·right;refine⟨i+1,c',by lia,h2,h3,h4,fun i' Hd c'' MD=>?_⟩;cases i' with
    |zero=>
     rw[hU hs MD hc];exact hh
    |succ i'=>exact h5 i' (by lia) c'' MD
def Fm(m:Nat)(h:Int):SetTable.Probe:=fr m (SetTable.bits h%(m+1),SetTable.bits h) none
structure Tb(t:SetTable)(es:List (Int×Value))(m:Nat):Prop where
 ms:t.mask=m
 msk:IG m
 dm:t.dummies = #[]
 sz:t.place.size=es.length
 le:es.length<=m
 up:Up t.place.toList
 bd:∀j∈t.place.toList,j<=m
 rc:∀z∈t.place.toList.zip es,∃k,(EW m k (Fm m z.2.1)).j=z.1/\∀i<k,(EW m i (Fm m z.2.1)).j∈t.place.toList
theorem uN(m:Nat)(h:Int):(SetTable.bits h%(m+1),SetTable.bits h).2<2 ^ 64:=qU h
theorem Tb.free{t:SetTable}{es:List (Int×Value)}{m:Nat}(T:Tb t es m)(h:Int):∃n,n<10*(m+15)/\(EW m n (Fm m h)).j∉t.place.toList/\∀i<n,(EW m i (Fm m h)).j∈t.place.toList:=
 qV T.msk (by rw[Pw,T.sz];exact T.le) (uN m h) none
theorem qY{l:List Nat}{xs:Array Nat}(he:xs.toList=l)(hs:Up l){j:Nat}(hj:j∉l):Up (l.take (SetTable.below xs j)++j::l.drop (SetTable.below xs j)):=by
 subst he;have B:=jw hs j;have h1:∀a∈xs.toList.take (SetTable.below xs j),a<j:=fun a ha=>by
  obtain⟨k,hk,e⟩:=Rr.mp ha;rw[Qe,Pw]at hk;rw[List.getElem_take,Qr]at e;exact B.lo k (by lia) a (by rw[Array.getElem?_eq_getElem (by lia),e])
 have h2:∀a∈xs.toList.drop (SetTable.below xs j),j<a:=fun a ha=>by
  obtain⟨k,hk,e⟩:=Rr.mp ha;rw[RF,Pw]at hk;rw[List.getElem_drop,Qr]at e;have h3:=B.hi (SetTable.below xs j+k) (by lia) a (by rw[Array.getElem?_eq_getElem (by lia),e]);have h4:a≠j:=fun z=>hj (by rw[<-z];exact Ub ha)
  lia
 have hp:(xs.toList.take (SetTable.below xs j)++xs.toList.drop (SetTable.below xs j)).Pairwise (·< ·):=by
  rw[TV];exact hs
 rw[SA]at hp;unfold Up;rw[SA,QN];refine⟨hp.1,⟨h2,hp.2.1⟩,fun a ha b hb=>?_⟩;rcases PJ.mp hb with rfl|hb
 ·exact h1 a ha
 ·exact hp.2.2 a ha b hb
theorem pF{α β:Type}{a:List α}{b:List β}(h:a.length=b.length)(p:Nat)(x:α)(y:β):(a.take p++x::a.drop p).zip (b.take p++y::b.drop p)=(a.zip b).take p++(x,y)::(a.zip b).drop p:=by
 rw[List.zip_append (by rw[Qe,Qe,h]),Qu,show(a.zip b).take p=(a.take p).zip (b.take p) from List.take_zipWith,show(a.zip b).drop p=(a.drop p).zip (b.drop p) from List.drop_zipWith]
theorem eI{α:Type}{l:List α}{p:Nat}{x z:α}:z∈l.take p++x::l.drop p<->z=x\/z∈l:=by
 rw[Qd,PJ];constructor
 ·rintro(h|h|h)
  ·exact .inr (SD h)
  ·exact .inl h
  ·exact .inr (Ub h)
 ·rintro(h|h)
  ·exact .inr (.inl h)
  ·rw[<-TV p l,Qd]at h;rcases h with h|h
   ·exact .inl h
   ·exact .inr (.inr h)
theorem Tb.put{t:SetTable}{es:Array (Int×Value)}{m:Nat}(T:Tb t es.toList m)(h:Int)(x:Value){n:Nat}(hn:(EW m n (Fm m h)).j∉t.place.toList)(hi:∀i<n,(EW m i (Fm m h)).j∈t.place.toList)(hj:(EW m n (Fm m h)).j<=m)(hle:es.size+1<=m):
  Tb (t.put (EW m n (Fm m h)).j).1 (SetTable.insertAt es (t.put (EW m n (Fm m h)).j).2 (h,x)).toList m:=by
 have sz:=T.sz;rw[Pw]at sz;generalize hjj:(EW m n (Fm m h)).j=j at hn hj;have Fc:(t.put j).1.place.toList=t.place.toList.take (SetTable.below t.place j)++j::t.place.toList.drop (SetTable.below t.place j):=Td _ _ _;have ME:(SetTable.insertAt es (t.put j).2 (h,x)).toList=es.toList.take (SetTable.below t.place j)++(h,x)::es.toList.drop (SetTable.below t.place j):=Td _ _ _;have hl:∀{α:Type}(l:List α) (p:Nat) (y:α),(l.take p++y::l.drop p).length=l.length+1:=fun l p y=>by
  rw[Qb,PD,Qe,RF];lia
 refine⟨T.ms,T.msk,?_,?_,?_,?_,?_,?_⟩
 ·show(if SetTable.has t.dummies j then _ else t.dummies) = #[];rw[T.dm,qW,PM Pt]
 ·rw[<-Pw,Fc,ME,hl,hl,Pw,Pw,sz]
 ·rw[ME,hl,Pw];exact hle
 ·rw[Fc];exact qY rfl T.up hn
 ·intro a ha;rw[Fc,eI]at ha;rcases ha with rfl|ha
  ·exact hj
  ·exact T.bd a ha
 ·intro z hz;rw[Fc,ME,pF (by rw[Pw,Pw,sz]),eI]at hz;rcases hz with rfl|hz
  ·exact⟨n,hjj,fun i Ho=>by rw[Fc,eI];exact .inr (hi i Ho)⟩
  ·obtain⟨k,h1,h2⟩:=T.rc z hz;exact⟨k,h1,fun i hik=>by rw[Fc,eI];exact .inr (h2 i hik)⟩
end ST
end NX
namespace NX
open PySem
namespace ST
theorem lx{m i:Nat}(h:i<=m):SetTable.runEnd m i<=m:=by
 unfold SetTable.runEnd;split <;> lia
theorem vY(m:Nat):∀(k:Nat) (p:SetTable.Probe),p.j+p.more<=m->(EW m k p).j<=m
 | 0,p,h=>Qc (Tr _ _) h
 |k+1,p,h=>by
  rw[EW];refine vY m k _ ?_;unfold IF;split
  ·show p.j+1+(p.more-1)<=m;lia
  ·have h1:(SetTable.leap m p.i p.perturb).1<=m:=by
    show(p.i*5+1+p.perturb / 32)%(m+1)<=m;have:=Wb (p.i*5+1+p.perturb / 32) (show 0<m+1 by lia);lia
   have h2:=lx h1;show(SetTable.leap m p.i p.perturb).1+(SetTable.runEnd m (SetTable.leap m p.i p.perturb).1-(SetTable.leap m p.i p.perturb).1)<=m;lia
theorem mQ(m k:Nat)(h:Int):(EW m k (Fm m h)).j<=m:=by
 have h1:SetTable.bits h%(m+1)<=m:=by
  have:=Wb (SetTable.bits h) (show 0<m+1 by lia);lia
 have h2:=lx h1;refine vY m k _ ?_;show SetTable.bits h%(m+1)+(SetTable.runEnd m (SetTable.bits h%(m+1))-SetTable.bits h%(m+1))<=m;lia
def dG(o:Array (Option Nat))(j:Nat):Bool:=(o.getD j (some 0)).isNone
theorem ly(m:Nat)(o:Array (Option Nat)):∀(fuel i q:Nat),(∃l,l<fuel/\dG o (lp m l (i,q)).1=true)->∃j,SetTable.layClean.free m o fuel i q=some j/\dG o j=true/\∃k,(EW m k (fr m (i,q) none)).j=j/\∀k'<k,dG o (EW m k' (fr m (i,q) none)).j=false
 | 0,i,q,⟨l,hl,_⟩=>absurd hl (by lia)
 |fuel+1,i,q,⟨l,hl,hf⟩=>by
  unfold SetTable.layClean.free;have hre:i<=SetTable.runEnd m i:=by
   unfold SetTable.runEnd;split <;> lia
  have Ho:∀k,k<=SetTable.runEnd m i-i->(EW m k (fr m (i,q) none)).j=i+k:=fun k hk=>by
   rw[vU m k (fr m (i,q) none) hk];rfl
  cases e:(List.range (SetTable.runEnd m i+1-i)).find? fun k=>(o.getD (i+k) (some 0)).isNone with
  |some k=>
   obtain⟨h1,h2,h3⟩:=List.find?_range_eq_some.mp e;have h2:=PU.mp h2;refine⟨i+k,rfl,h1,k,Ho k (by lia),fun k' GZ=>?_⟩;rw[Ho k' (by lia)];have:=h3 k' GZ;simpa[dG] using this
  |none=>
   have hn:∀k,k<=SetTable.runEnd m i-i->dG o (i+k)=false:=fun k hk=>by
    have:=List.find?_eq_none.mp e k (PU.mpr (by lia));exact Bool.eq_false_iff.mpr this
   have hl0:l≠0:=fun z=>by
    subst z;have:=hn 0 (by lia);rw[UZ]at this;have hf:dG o i=true:=hf;rw[this]at hf;cases hf
   obtain⟨l',rfl⟩:∃l',l=l'+1:=⟨l-1,by lia⟩
   obtain⟨j,h1,h2,k,h3,h4⟩:=ly m o fuel (SetTable.leap m i q).1 (SetTable.leap m i q).2 ⟨l',by lia,hf⟩;have MF:=mO m (SetTable.runEnd m i-i) (fr m (i,q) none) rfl;refine⟨j,h1,h2,(SetTable.runEnd m i-i+1)+k,?_,fun k' GZ=>?_⟩
   ·rw[iA,MF];exact h3
   ·by_cases Gx:k'<=SetTable.runEnd m i-i
    ·rw[Ho k' Gx];exact hn k' Gx
    ·rw[show k'=(SetTable.runEnd m i-i+1)+(k'-(SetTable.runEnd m i-i+1)) by lia,iA,MF];exact h4 _ (by lia)
def own(o:Array (Option Nat))(l:List Nat):List (Nat×Nat):=l.filterMap fun j=>(o.getD j none).map (j,·)
theorem jT(o:Array (Option Nat)):∀l:List Nat,(own o l).map (·.1)=l.filter fun j=>(o.getD j none).isSome
 |[]=>rfl
 |j::l=>by
  have ih:=jT o l;unfold own at ih ⊢;cases e:o.getD j none with
  |none=>
   rw[Rw (by rw[e];rfl),ih,Th (by rw[e];exact Pt)]
  |some c=>
   rw[Q5 (b:=(j,c)) (by rw[e];rfl),PY,ih,Ti (by rw[e];rfl)]
theorem qZ{o:Array (Option Nat)}{l:List Nat}{j c:Nat}:(j,c)∈own o l<->j∈l/\o.getD j none=some c:=by
 unfold own;rw[Sd];constructor
 ·rintro⟨a,ha,e⟩;obtain⟨c',hc,e2⟩:=P9.mp e;cases e2;exact⟨ha,hc⟩
 ·rintro⟨h1,h2⟩;exact⟨j,h1,by rw[h2];rfl⟩
theorem jU{o o':Array (Option Nat)}:∀{l:List Nat},(∀j∈l,o'.getD j none=o.getD j none)->own o' l=own o l
 |[],_=>rfl
 |j::l,h=>by
  have ih:=jU fun x hx=>h x (Px j hx)
  unfold own at ih ⊢;rw[RA,RA,ih,h j Pq]
theorem xF{o o':Array (Option Nat)}{l:List Nat}(nd:l.Nodup){j k:Nat}(hj:j∈l)(h0:o.getD j none=none)(h1:o'.getD j none=some k)(h2:∀i,i≠j->o'.getD i none=o.getD i none):(own o' l).Perm ((j,k)::own o l):=by
 obtain⟨a,b,rfl⟩:=List.append_of_mem hj;rw[Qq,Qo]at nd;obtain⟨_,⟨nb,_⟩,nab⟩:=nd;have ea:own o' a=own o a:=jU fun i hi=>h2 i fun z=>nab i hi j Pq z
 have eb:own o' b=own o b:=jU fun i hi=>h2 i fun z=>nb (by rw[<-z];exact hi)
 have e1:own o' (a++j::b)=own o' a++(j,k)::own o' b:=by
  unfold own;rw[Sr,Q5 (b:=(j,k)) (by rw[h1];rfl)]
 have e2:own o (a++j::b)=own o a++own o b:=by
  unfold own;rw[Sr,Rw (by rw[h0];rfl)]
 rw[e1,e2,ea,eb];exact List.perm_middle
structure Ly(m:Nat)(P:List Int)(o:Array (Option Nat)):Prop where
 sz:o.size=m+1
 pm:((own o (List.range (m+1))).map (·.2)).Perm (List.range P.length)
 rc:∀j c,o.getD j none=some c->∃h,P[c]?=some h/\∃k,(EW m k (Fm m h)).j=j/\∀i<k,∃c',o.getD (EW m i (Fm m h)).j none=some c'
theorem jV{o:Array (Option Nat)}{j:Nat}(hs:j<o.size):dG o j = !(o.getD j none).isSome:=by
 unfold dG;rw[Qa,Qa,Array.getElem?_eq_getElem hs];cases o[j] <;> rfl
theorem xG{o:Array (Option Nat)}{j:Nat}(h:dG o j=true):j<o.size:=Q2 fun hn=>by
 unfold dG at h;rw[Qa,Array.getElem?_eq_none (by lia)]at h;cases h
theorem Ly.len{m:Nat}{P:List Int}{o:Array (Option Nat)}(L:Ly m P o):(own o (List.range (m+1))).length=P.length:=by
 have:=L.pm.length_eq;rw[Pr,Pz]at this;exact this
theorem xH{m:Nat}(hm:IG m){P:List Int}{o:Array (Option Nat)}(L:Ly m P o)(hl:P.length<=m)(h:Int):∃j,SetTable.layClean.free m o (SetTable.turns m) (SetTable.bits h%(m+1)) (SetTable.bits h)=some j/\Ly m (P++[h]) (o.setIfInBounds j (some P.length)):=by
 obtain⟨s,hs,hn⟩:=lu (m:=m) (L:=(own o (List.range (m+1))).map (·.1)) (by rw[Pr,L.len];exact hl);have hsf:dG o s=true:=by
  rw[jV (by rw[L.sz];lia)];rw[jT,Sa]at hn;cases e:(o.getD s none).isSome with
  |false=>rfl
  |true=>exact absurd ⟨PU.mpr (by lia),e⟩ hn
 obtain⟨l,HP,el⟩:=Ak hm (x:=(SetTable.bits h%(m+1),SetTable.bits h)) (qU h) hs;obtain⟨j,h1,h2,k,h3,h4⟩:=ly m o (SetTable.turns m) (SetTable.bits h%(m+1)) (SetTable.bits h) ⟨l,by unfold SetTable.turns;lia,by rw[el];exact hsf⟩;have Oe:=xG h2;have hjm:j<m+1:=by rw[<-L.sz];exact Oe
 have h0:o.getD j none=none:=by
  rw[jV Oe]at h2;cases e:o.getD j none with
  |none=>rfl
  |some c=>rw[e]at h2;cases h2
 have g1:(o.setIfInBounds j (some P.length)).getD j none=some P.length:=by
  rw[Qa,Array.getElem?_setIfInBounds_self_of_lt Oe];rfl
 have g2:∀i,i≠j->(o.setIfInBounds j (some P.length)).getD i none=o.getD i none:=fun i hi=>by
  rw[Qa,Qa,Array.getElem?_setIfInBounds_ne (Rt hi)]
 have mono:∀i,(∃c',o.getD i none=some c')->∃c',(o.setIfInBounds j (some P.length)).getD i none=some c':=fun i ED=>by
  obtain⟨c',hc⟩:=ED;by_cases e:i=j
  ·exact⟨_,by rw[e];exact g1⟩
  ·exact⟨c',by rw[g2 i e];exact hc⟩
 refine⟨j,h1,by rw[Array.size_setIfInBounds];exact L.sz,?_,fun i c hc=>?_⟩
 ·have p:=(xF List.nodup_range (PU.mpr hjm) h0 g1 g2).map (·.2);rw[PY]at p;refine p.trans ((L.pm.cons _).trans ?_);rw[Qb,Qj,Rv];exact(SV _ _).symm
 ·by_cases e:i=j
  ·subst e;rw[g1]at hc;cases hc;refine⟨h,by rw[List.getElem?_append_right (Py _),Nat.sub_self];rfl,k,h3,fun i' Hd=>mono _ ?_⟩;have K8:=h4 i' Hd;have E9:(EW m i' (Fm m h)).j<o.size:=by
    have:=mQ m i' h;rw[L.sz];lia
   have K8:dG o (EW m i' (Fm m h)).j=false:=K8;rw[jV E9]at K8;cases e2:o.getD (EW m i' (Fm m h)).j none with
   |none=>rw[e2]at K8;cases K8
   |some c=>exact⟨c,rfl⟩
  ·rw[g2 i e]at hc;obtain⟨h',hp,k',JN,Gx⟩:=L.rc i c hc;have N3:=(List.getElem?_eq_some_iff.mp hp).1;exact⟨h',by rw[List.getElem?_append_left N3];exact hp,k',JN,fun i' Hd=>mono _ (Gx i' Hd)⟩
theorem oi{m:Nat}(hm:IG m):∀(r P:List Int) (o:Array (Option Nat)),Ly m P o->P.length+r.length<=m+1->∃o',Ly m (P++r) o'/\r.foldl (fun acc h=>do
  let(owner,k) <-acc;let j <-SetTable.layClean.free m owner (SetTable.turns m) (SetTable.bits h%(m+1)) (SetTable.bits h)
  pure (owner.setIfInBounds j (some k),k+1)) (some (o,P.length))=some (o',(P++r).length)
 |[],P,o,L,_=>⟨o,by rw[P5];exact L,by rw[P5];rfl⟩
 |h::r,P,o,L,hl=>by
  rw[PD]at hl;obtain⟨j,h1,h2⟩:=xH hm L (by lia) h;obtain⟨o',h3,h4⟩:=oi hm r (P++[h]) _ h2 (by rw[Qb,Qj];lia);rw[Qp]at h3 h4;refine⟨o',h3,?_⟩;rw[QF];rw[Qb,Qj]at h4;have e:(do
   let(owner,k) <-some (o,P.length);let j <-SetTable.layClean.free m owner (SetTable.turns m) (SetTable.bits h%(m+1)) (SetTable.bits h)
   pure (owner.setIfInBounds j (some k),k+1))=some (o.setIfInBounds j (some P.length),P.length+1):=by
   show(SetTable.layClean.free m o (SetTable.turns m) (SetTable.bits h%(m+1)) (SetTable.bits h)).bind _=_;rw[h1];rfl
  rw[e];exact h4
theorem xI(m:Nat):Ly m [] (Array.replicate (m+1) none):=by
 have h:∀j:Nat,(Array.replicate (m+1) (none:Option Nat)).getD j none=none:=fun j=>by
  rw[Qa];cases e:(Array.replicate (m+1) (none:Option Nat))[j]? with
  |none=>rfl
  |some x=>
   obtain⟨h1,h2⟩:=Array.getElem?_eq_some_iff.mp e;rw[Array.getElem_replicate]at h2;rw[<-h2];rfl
 refine⟨Array.size_replicate,?_,fun j c hc=>by rw[h j]at hc;cases hc⟩;have:own (Array.replicate (m+1) none) (List.range (m+1))=[]:=by
  unfold own;refine List.filterMap_eq_nil_iff.mpr fun a _=>?_
  rw[h a];rfl
 rw[this];exact .refl _
theorem xJ{m:Nat}(hm:IG m)(fg mv:Nat)(led pl:Bool)(es:Array (Int×Value))(hl:es.size<=m):∃t order,SetTable.laid m fg mv led pl (es.map (·.1))=some (t,order)/\Tb t (order.filterMap (es[·]?)).toList m/\(order.filterMap (es[·]?)).toList.Perm es.toList/\t.led=led/\t.moves=mv:=by
 have Of:(es.map (·.1)).toList.length=es.size:=by rw[Pw,Array.size_map]
 obtain⟨o,L,e⟩:=oi hm (es.map (·.1)).toList [] _ (xI m) (by
  rw[Of];show 0+_<=_;lia)
 rw[TY]at L e;have hps:(es.map (·.1)).toList=es.toList.map (·.1):=Array.toList_map;have Mt:SetTable.layClean m (es.map (·.1))=some o:=by
  unfold SetTable.layClean;rw[<-Array.foldl_toList];have e:List.foldl _ (some (Array.replicate (m+1) none,0)) (es.map (·.1)).toList=some (o,_):=e;exact Qt (Option.map (·.1)) e
 have hlen:=L.len;rw[Of]at hlen;have hc:∀z∈own o (List.range (m+1)),∃y,es[z.2]?=some y/\∃k,(EW m k (Fm m y.1)).j=z.1/\∀i<k,(EW m i (Fm m y.1)).j∈(own o (List.range (m+1))).map (·.1):=by
  rintro⟨j,c⟩ hz;obtain⟨h1,h2⟩:=qZ.mp hz;obtain⟨h,hp,k,JN,Gx⟩:=L.rc j c h2;rw[hps,List.getElem?_map,P9]at hp;obtain⟨y,hy,rfl⟩:=hp;refine⟨y,by rw[<-Array.getElem?_toList];exact hy,k,JN,fun i hi=>?_⟩;obtain⟨c',JC⟩:=Gx i hi;exact QD.mpr ⟨(_,c'),qZ.mpr ⟨PU.mpr (by have:=mQ m i y.1;lia),JC⟩,rfl⟩
 have hzip:∀(F:List (Nat×Nat)),(∀z∈F,∃y,es[z.2]?=some y)->((F.map (·.2)).filterMap (es[·]?)).length=F.length/\∀w∈(F.map (·.1)).zip ((F.map (·.2)).filterMap (es[·]?)),∃z∈F,w.1=z.1/\es[z.2]?=some w.2:=by
  intro F;induction F with
  |nil=>exact fun _=>⟨rfl,fun w hw=>nomatch hw⟩
  |cons z F ih=>
   intro h;obtain⟨h1,h2⟩:=ih fun x hx=>h x (Px _ hx)
   obtain⟨y,hy⟩:=h z Pq;have e:((z::F).map (·.2)).filterMap (es[·]?)=y::(F.map (·.2)).filterMap (es[·]?):=by
    rw[PY,Q5 (b:=y) hy]
   rw[e,PD,h1,PD,PY,Qu];refine⟨rfl,fun w hw=>?_⟩;rcases PJ.mp hw with rfl|hw
   ·exact⟨z,Pq,rfl,hy⟩
   ·obtain⟨x,hx,g1,g2⟩:=h2 w hw;exact⟨x,Px _ hx,g1,g2⟩
 obtain⟨OO,KA⟩:=hzip (own o (List.range (m+1))) fun z hz=>by
  obtain⟨y,hy,_⟩:=hc z hz;exact⟨y,hy⟩
 have Nv:((((own o (List.range (m+1))).map (·.2)).toArray).filterMap (es[·]?)).toList=((own o (List.range (m+1))).map (·.2)).filterMap (es[·]?):=by
  rw[Array.toList_filterMap]
 refine⟨{mask:=m,place:=((own o (List.range (m+1))).map (·.1)).toArray,dummies:=#[],finger:=fg,led:=led,moves:=mv,plain:=pl},((own o (List.range (m+1))).map (·.2)).toArray,?_,?_,?_,rfl,rfl⟩
 ·unfold SetTable.laid;rw[Mt];rfl
 ·rw[Nv];refine⟨rfl,hm,rfl,?_,?_,?_,?_,?_⟩
  ·show((own o (List.range (m+1))).map (·.1)).toArray.size=_;rw[Pu,Pr,OO]
  ·rw[OO,hlen];exact hl
  ·show Up ((own o (List.range (m+1))).map (·.1));rw[jT];exact List.Pairwise.filter _ List.pairwise_lt_range
  ·intro j hj;have hj:j∈(own o (List.range (m+1))).map (·.1):=hj;rw[jT]at hj;have:=PU.mp (Sa.mp hj).1;lia
  ·intro w hw;obtain⟨z,hz,g1,g2⟩:=KA w hw;obtain⟨y,hy,k,JN,Gx⟩:=hc z hz;rw[g2]at hy;cases hy;exact⟨k,by rw[JN,g1],Gx⟩
 ·rw[Nv];refine(L.pm.filterMap _).trans ?_;rw[Of,filterMap_getElem?_range]
end ST
end NX
namespace NX
open PySem
namespace ST
section
variable{prog:Program}{w:World}{K:Type}[DecidableEq K]{knd:KeyKind prog w K}{A:Around}{E:Value->Shared->Prop}{s:Shared}
theorem fS{ks:List K}{a:Addr}{Q:Bool->Shared->Prop}(hk:IsTupleKey knd s.heap ks a)(h:Q false s):wpAny (model prog w) A (ofAClassStatement 8 (.ref a)) Q E s:=by
 have hT:=hk.typeIs;obtain⟨o,items,n,ho,hc,hd,hi⟩:=hk;have hv:=hi.byValue;unfold ofAClassStatement;refine Po (RP hT ?_);dsimp only;refine Po ?_;refine Pp ?_;simp only[Qv,P4,Qy];refine Po (Q1 ho hd ?_);refine Po ?_;show wpAny _ _ (forIn items _ _) _ _ s;rw[<-UC];refine RH _ (fun bT r s'=>r.1=none/\s'=s/\∀v∈bT,carriedByValue v=true) _ ?_ ?_ _ _ ⟨rfl,rfl,hv⟩
 ·rintro v bT r s' ⟨hr,rfl,FR⟩;have e:ofAClassStatement 7 v=pure false:=by
   have:=FR v Pq;cases v with
   |ref b=>cases this
   |_=>first|rfl|(unfold ofAClassStatement;rfl)
  rw[e];refine Po (Pp ?_);simp only[P4,Qy];exact Pp ⟨rfl,rfl,fun u K9=>FR u (Px _ K9)⟩
 ·rintro⟨r1,r2⟩ s' ⟨hr,rfl,_⟩;simp only at hr;subst hr;exact Pp h
theorem lz{ks:List K}{a:Addr}{Q:Bool->Shared->Prop}(hk:IsTupleKey knd s.heap ks a)(h:∀b,Q b s):wpAny (model prog w) A (hashByValue 8 (.ref a)) Q E s:=by
 have hT:=hk.typeIs;obtain⟨o,items,n,ho,hc,hd,hi⟩:=hk;have hv:=hi.byValue;unfold hashByValue;refine Po (wpAny_specialOf hT F.slot_tuple_hash.lookup ?_);dsimp only;refine Po (Q1 ho hd ?_);refine Po ?_;show wpAny _ _ (forIn items _ _) _ _ s;rw[<-UC];refine RH _ (fun bT r s'=>s'=s/\∀v∈bT,carriedByValue v=true) _ ?_ ?_ _ _ ⟨rfl,hv⟩
 ·rintro v bT r s' ⟨rfl,FR⟩;obtain⟨b,e⟩:∃b,hashByValue 7 v=pure b:=by
   have:=FR v Pq;cases v with
   |ref b=>cases this
   |_=>exact⟨_,rfl⟩
  rw[e];refine Po (Pp ?_);cases b with
  |false=>
   simp only[RL,Rg];exact Pp (Pp (h _))
  |true=>
   simp only[Qv,P4,Qy];exact Pp ⟨rfl,fun u K9=>FR u (Px _ K9)⟩
 ·rintro⟨r1,r2⟩ s' ⟨rfl,_⟩;cases r1 <;> exact Pp (h _)
end
end ST
end NX
namespace NX
open PySem
namespace ST
section
variable{prog:Program}{w:World}{K:Type}[DecidableEq K]{knd:KeyKind prog w K}{A:Around}{E:Value->Shared->Prop}{s:Shared}
def Ent(knd:KeyKind prog w K)(h:Heap)(e:Int×Value)(k:List K):Prop:=∃b,e.2=.ref b/\IsTupleKey knd h k b/\e.1=tupleKeyHash knd k
theorem xK{k:List K}{b:Addr}{l:List Value}{Q:Bool->Shared->Prop}(hk:IsTupleKey knd s.heap k b)(hl:∀y∈l,∃c k',y=.ref c/\IsTupleKey knd s.heap k' c)(h:Q false s):wpAny (model prog w) A (searchCouldBeSeen (.ref b) l) Q E s:=by
 unfold searchCouldBeSeen;refine Po ?_;refine RH _ (fun bT r s'=>r.1=none/\s'=s/\∀y∈bT,∃c k',y=.ref c/\IsTupleKey knd s.heap k' c) _ ?_ ?_ _ _ ⟨rfl,rfl,hl⟩
 ·rintro v bT r s' ⟨hr,rfl,FR⟩;obtain⟨c,k',rfl,GZ⟩:=FR v Pq;have KC:∀y∈bT,∃c k',y=.ref c/\IsTupleKey knd s'.heap k' c:=fun u K9=>FR u (Px _ K9)
  dsimp only;split
  ·exact Pp ⟨rfl,rfl,KC⟩
  ·refine Po (wpAny_eqIsQuiet_tuple hk ?_);simp only[Qv,P4,Qy];refine Po (wpAny_eqIsQuiet_tuple GZ ?_);simp only[Qv,P4,Qy];refine Po (fS hk ?_);simp only[P4,Qy];refine Po (fS GZ ?_);simp only[P4,Qy];exact Pp ⟨rfl,rfl,KC⟩
 ·rintro⟨r1,r2⟩ s' ⟨hr,rfl,_⟩;simp only at hr;subst hr;exact Pp h
theorem Tb.fits{t:SetTable}{es:Array (Int×Value)}{m:Nat}(T:Tb t es.toList m):t.fits es.size=true:=by
 have h1:=T.sz;have h2:=T.le;rw[Pw]at h1 h2;unfold SetTable.fits SetTable.fill;rw[T.dm,T.ms,h1,PL];exact⟨Qi _,PR (by show es.size+0<=m;lia)⟩
theorem Tb.stands{t:SetTable}{es:Array (Int×Value)}{m:Nat}(T:Tb t es.toList m):t.gaveWay=false:=by
 unfold SetTable.gaveWay;rw[T.ms];rcases T.msk with rfl|rfl|rfl <;> rfl
theorem rg(hu:A.units<cLine){a b:Addr}{o:Obj}{es:Array (Int×Value)}{ep:Nat}{t:SetTable}{m:Nat}{k:List K}(ho:s.heap.get? a=some o)(hd:o.data=.set es ep t)(T:Tb t es.toList m)(La:∀e∈es.toList,∃k',Ent knd s.heap e k')(hk:IsTupleKey knd s.heap k b)
  {N:Nat}(hN:N<10*(m+15)) (JK:(EW m N (Fm m (tupleKeyHash knd k))).j∉t.place.toList) (Ho:∀i<N,(EW m i (Fm m (tupleKeyHash knd k))).j∈t.place.toList) {Q:SetFound->Shared->Prop}:
  ∀(r st F:Nat) (sd:Option SetTable.Probe),st+r=N->r<F->sd.getD (t.probeStart (tupleKeyHash knd k))=EW m st (Fm m (tupleKeyHash knd k))->
  (∀(i c:Nat) (e:Int×Value),st<=i->i<N->t.place[c]?=some (EW m i (Fm m (tupleKeyHash knd k))).j->es[c]?=some e->Ent knd s.heap e k->Q (.there none) s)->
  ((∀(i c:Nat) (e:Int×Value),st<=i->i<N->t.place[c]?=some (EW m i (Fm m (tupleKeyHash knd k))).j->es[c]?=some e->¬ Ent knd s.heap e k)->Q (.free (EW m N (Fm m (tupleKeyHash knd k))).j false) s)->
  wpAny (model prog w) A (setSearchFrom a (.ref b) (tupleKeyHash knd k) true F sd) Q E s:=by
 intro r;induction r using Nat.strongRecOn with
 |ind r ih=>
  intro st F sd Jr hF hsd h1 h2;obtain⟨F,rfl⟩:∃F',F=F'+1:=⟨F-1,by lia⟩
  have Og:t.place.size=es.size:=by have:=T.sz;rwa [Pw]at this
  have HQ:∀i,EW m i (EW m st (Fm m (tupleKeyHash knd k)))=EW m (st+i) (Fm m (tupleKeyHash knd k)):=fun i=>(iA m st i _).symm
  unfold setSearchFrom;refine Po (RV ho hd T.fits ?_);dsimp only;rw[T.stands];simp only[P4,Qy];rw[hsd];have hent':∀e∈es.toList,e.1=tupleKeyHash knd k->∃k',Ent knd s.heap e k':=fun e he _=>La e he
  have MG:∀{Q':Bool->Shared->Prop},Q' false s->wpAny (model prog w) A (searchCouldBeSeen (.ref b) (List.map (fun x=>x.2) (Array.filter (fun x=>x.1==tupleKeyHash knd k) es).toList)) Q' E s:=fun{Q'} hq=>xK hk (fun y hy=>by
   obtain⟨e,he,rfl⟩:=QD.mp hy;rw[Array.toList_filter]at he;obtain⟨k',c,e1,e2,_⟩:=La e (Sa.mp he).1;exact⟨c,k',e1,e2⟩) hq
  have OP:∀e,Ent knd s.heap e k->e.1=tupleKeyHash knd k:=fun e ⟨_,_,_,h⟩=>h
  generalize hgH:tupleKeyHash knd k=H at *;have hP:SetTable.probe t (fun i=>(es[i]?.map (·.1)).getD 0) H (EW m st (Fm m H))=SetTable.probe.go t (fun i=>(es[i]?.map (·.1)).getD 0) H (10*SetTable.turns m) (EW m st (Fm m H)):=by
   unfold SetTable.probe;rw[T.ms]
  have ME:∀{c j:Nat},t.place[c]?=some j->∃e,es[c]?=some e/\e∈es.toList:=fun{c j} hc=>by
   have E9:=(Array.getElem?_eq_some_iff.mp hc).1;rw[Og]at E9;exact⟨es[c],Array.getElem?_eq_getElem E9,by rw[R0];exact Array.getElem_mem E9⟩
  rcases oh T.ms T.up T.dm (fun i=>(es[i]?.map (·.1)).getD 0) H r (10*SetTable.turns m) (EW m st (Fm m H)) (by rw[iC];rfl) (by unfold SetTable.turns;lia) (fun i hi=>by rw[HQ];exact Ho _ (by lia)) (by rw[HQ,Jr];exact JK) with⟨p1,p2⟩|⟨i,c,p1,p2,p3,p4,p5⟩
  ·rw[HQ,Jr]at p1;rw[p1]at hP;erw [hP];dsimp only;refine Pp (h2 fun i c e hi1 Kz hc he hE=>?_);have:=p2 (i-st) (by lia) c (by rw[HQ,show st+(i-st)=i by lia];exact hc);rw[he]at this;exact this (OP e hE)
  ·rw[HQ]at p2 p4;rw[HQ]at p4;rw[p4]at hP;erw [hP];dsimp only;obtain⟨e,he,hem⟩:=ME p2;rw[he]at p3;have p3:e.1=H:=p3;obtain⟨k',y,ey,GZ,eh⟩:=La e hem;have tail:wpAny (model prog w) A (do
     let equal <-holding [.ref y] (eqBool (.ref y) (.ref b));let __x <-setState a
     if(true&&equal)=true then pure (SetFound.there none)
      else
       match __x.2.2.sameMemory t.moves t.mask with
       |some same=>
        match if same=true then __x.2.2.slot (EW m (st+i) (Fm m H)).j else SetTable.Slot.empty with
        |SetTable.Slot.live i'=>
         match __x.1[i']? with
         |some (_,y')=>do
          let same <-isSame y' (.ref y);let still <-pure (if same=true then some i' else none);match still with
           |none=>do
            rule "set.search.anew"
            setSearchFrom a (Value.ref b) H true F none
           |some i'=>
            if equal=true then pure (SetFound.there (some i'))
            else setSearchFrom a (Value.ref b) H true F (some (EW m (st+(i+1)) (Fm m H)))
         |none=>do
          let still <-pure none;match still with
           |none=>do
            rule "set.search.anew"
            setSearchFrom a (Value.ref b) H true F none
           |some i'=>
            if equal=true then pure (SetFound.there (some i'))
            else setSearchFrom a (Value.ref b) H true F (some (EW m (st+(i+1)) (Fm m H)))
        |x=>do
         let still <-pure none;match still with
          |none=>do
           rule "set.search.anew"
           setSearchFrom a (Value.ref b) H true F none
          |some i'=>
           if equal=true then pure (SetFound.there (some i'))
           else setSearchFrom a (Value.ref b) H true F (some (EW m (st+(i+1)) (Fm m H)))
       |x=>unsupported "set.changed-during-lookup:is-the-new-block-at-the-old-address") Q E s:=by
    refine Po (QH (wpAny_eqBool_tuple hu GZ hk ?_));refine Po (RV ho hd T.fits ?_);by_cases Gr:k'=k
    ·subst Gr;rw[PR rfl];simp only[SH,Rg];exact Pp (h1 (st+i) c e (by lia) (by lia) p2 he ⟨y,ey,GZ,by rw[p3,<-hgH]⟩)
    ·rw[PN Gr];have e1:t.sameMemory t.moves t.mask=some true:=by
      unfold SetTable.sameMemory;rw[PF (by exact Qi _)]
     obtain⟨c',e2,e3⟩:=qX T.up (Ho (st+i) (by lia));have ec:c'=c:=hU T.up e3 p2;subst ec;simp only[RM,P4,Qy,e1,Rg,e2,he];obtain⟨OQ,ev⟩:=e;have ey:ev=.ref y:=ey;subst ey;dsimp only;have GA:isSame (.ref y) (.ref y)=pure true:=by
      unfold isSame;dsimp only;rw[PF (by exact Qi _)]
     rw[GA];refine Po (Pp (Po (Pp ?_)));simp only[Rg];refine ih (r-(i+1)) (by lia) (st+(i+1)) F _ (by lia) (by lia) rfl (fun i' c' e' a1 a2=>h1 i' c' e' (by lia) a2) (fun Kx=>h2 fun i' c' e' a1 a2 a3 a4=>?_);by_cases Hd:st+(i+1)<=i'
     ·exact Kx i' c' e' Hd a2 a3 a4
     ·intro hE;by_cases Kz:i'=st+i
      ·subst Kz;rw[hU T.up a3 p2,he]at a4;cases a4;obtain⟨y2,g1,g2,_⟩:=hE;cases g1;exact Gr (GZ.inj g2)
      ·have:=p5 (i'-st) (by lia) c' (by rw[HQ,show st+(i'-st)=i' by lia];exact a3);rw[a4]at this;exact this (OP e' hE)
   cases hld:t.led with
   |true=>
    simp only[Qv,P4,Qy,he];obtain⟨OQ,ev⟩:=e;have ey:ev=.ref y:=ey;subst ey;exact tail
   |false=>
    simp only[RL,Rg];refine Po (MG ?_);simp only[P4,Qy,he];obtain⟨OQ,ev⟩:=e;have ey:ev=.ref y:=ey;subst ey;exact tail
end
end ST
end NX
namespace NX
open PySem
namespace ST
section
variable{prog:Program}{w:World}{K:Type}[DecidableEq K]{knd:KeyKind prog w K}{A:Around}{E:Value->Shared->Prop}{s:Shared}
structure SetT(knd:KeyKind prog w K)(h:Heap)(a:Addr)(L:List (List K))(o:Obj)(es:Array (Int×Value))(ep:Nat)(t:SetTable)(m:Nat):Prop where
 ho:h.get? a=some o
 ex:o.ExactSet
 hd:o.data=.set es ep t
 T:Tb t es.toList m
 few:es.size*5<m*3
 e1:∀e∈es.toList,∃k∈L,Ent knd h e k
 e2:∀k∈L,∃e∈es.toList,Ent knd h e k
 sz:es.size=L.length
 nd:L.Nodup
def IsSetT(knd:KeyKind prog w K)(h:Heap)(a:Addr)(L:List (List K)):Prop:=∃o es ep t m,SetT knd h a L o es ep t m
theorem lB{h h':Heap}{a b:Addr}{o:Obj}{es:Array (Int×Value)}{ep:Nat}{t:SetTable}{k:List K}(x:IsTupleKey knd h k b)(ho:h.get? a=some o)(hd:o.data=.set es ep t)(hs:Heap.SameBut a h h'):IsTupleKey knd h' k b:=by
 obtain⟨o',items,n,Hn,hc,IE,hi⟩:=x;have JO:b≠a:=by
  rintro rfl;obtain rfl:o'=o:=PZ (Hn.symm.trans ho);rw[hd]at IE;exact nomatch IE
 exact⟨o',items,n,(hs.2 b JO).trans Hn,hc,IE,hi⟩
theorem Ent.keeps{h h':Heap}{a:Addr}{o:Obj}{es:Array (Int×Value)}{ep:Nat}{t:SetTable}{e:Int×Value}{k:List K}(x:Ent knd h e k)(ho:h.get? a=some o)(hd:o.data=.set es ep t)(hs:Heap.SameBut a h h'):Ent knd h' e k:=by
 obtain⟨b,h1,h2,h3⟩:=x;exact⟨b,h1,lB h2 ho hd hs,h3⟩
theorem Ent.inj{h:Heap}{e:Int×Value}{k k':List K}(x:Ent knd h e k)(y:Ent knd h e k'):k=k':=by
 obtain⟨b,h1,h2,_⟩:=x;obtain⟨c,g1,g2,_⟩:=y;rw[h1]at g1;cases g1;exact h2.inj g2
theorem Tb.plain{t:SetTable}{es:List (Int×Value)}{m:Nat}(T:Tb t es m)(p:Bool):Tb {t with plain:=p} es m:=⟨T.ms,T.msk,T.dm,T.sz,T.le,T.up,T.bd,T.rc⟩
theorem uO{a:Addr}{L:List (List K)}{o:Obj}{es:Array (Int×Value)}{ep:Nat}{t:SetTable}{m m' wanted:Nat}{Q:Unit->Shared->Prop}(ho:s.heap.get? a=some o)(ex:o.ExactSet)(hd:o.data=.set es ep t)(T:Tb t es.toList m)(e1:∀e∈es.toList,∃k∈L,Ent knd s.heap e k)(e2:∀k∈L,∃e∈es.toList,Ent knd s.heap e k)(sz:es.size=L.length)(nd:L.Nodup)
  (hw:SetTable.sizeAbove wanted=m'+1) (Nw:IG m') (few:es.size*5<m'*3) (h:∀h',Heap.SameBut a s.heap h'->IsSetT knd h' a L->Q () {s with heap:=h'}):wpAny (model prog w) A (setRelay a wanted) Q E s:=by
 obtain⟨t',order,l1,l2,l3,_,_⟩:=xJ Nw t.finger (t.movedTo m') t.led t.plain es (by lia);have hsz:(order.filterMap (es[·]?)).size=es.size:=by rw[<-Pw,l3.length_eq,Pw]
 have hrl:t.relaid (es.map (·.1)) wanted=some (t',order):=by
  unfold SetTable.relaid;rw[hw,show m'+1-1=m' by lia];exact l1
 have MH:m'<=127:=by rcases Nw with rfl|rfl|rfl <;> lia
 have hsl:¬ SetTable.sizeAbove wanted>sizeLine:=by
  rw[hw,Qs];lia
 unfold setRelay;refine Po (RV ho hd T.fits ?_);dsimp only;rw[PM hsl,hrl];refine Po ?_;show wpAny (model prog w) A (if(order.filterMap (es[·]?)).size != es.size then(unsupported "internal:set-table-lost-an-element" >>= fun _=>pure (order.filterMap (es[·]?),t')) else pure (order.filterMap (es[·]?),t')) _ E s;rw[PM (by rw[hsz,Sm];exact Pt)];refine Pp ?_;dsimp only;have S:∀m0,es.size*5<m0*3->True:=fun _ _=>trivial
 refine wpAny_storeSet_of ho hd ?_ (by rw[hsz,Qs];lia);have hg:(s.heap.update a (Obj.putSet (order.filterMap (es[·]?)) t')).get? a=some {o with data:=.set (order.filterMap (es[·]?)) (ep+1) t'}:=by
  have:=Heap.get?_update_self (Obj.putSet (order.filterMap (es[·]?)) t') ho (by rw[putSet_of _ t' hd];rfl);rw[putSet_of _ t' hd]at this;exact this
 have IH:=Rh s.heap a (Obj.putSet (order.filterMap (es[·]?)) t');refine h _ IH ⟨_,_,_,t',m',hg,ex,rfl,l2,by rw[hsz];exact few,fun e he=>?_,fun k hk=>?_,by rw[hsz];exact sz,nd⟩
 ·obtain⟨k,hk,hE⟩:=e1 e (l3.mem_iff.mp he);exact⟨k,hk,hE.keeps ho hd IH⟩
 ·obtain⟨e,he,hE⟩:=e2 k hk;exact⟨e,l3.mem_iff.mpr he,hE.keeps ho hd IH⟩
theorem xM{a:Addr}{L L':List (List K)}{o:Obj}{es GA:Array (Int×Value)}{ep:Nat}{t t2:SetTable}{m:Nat}{Q:Bool->Shared->Prop}(S:SetT knd s.heap a L o es ep t m)(T2:Tb t2 GA.toList m)(Lb:GA.size=es.size+1)(hL:L.length<76)(e1:∀e∈GA.toList,∃k∈L',Ent knd s.heap e k)(e2:∀k∈L',∃e∈GA.toList,Ent knd s.heap e k)(sz:GA.size=L'.length)(nd:L'.Nodup)
  (h:∀h',Heap.SameBut a s.heap h'->IsSetT knd h' a L'->Q true {s with heap:=h'}):
  wpAny (model prog w) A (storeSet a GA t2 >>= fun _=>if(!false&&t2.tooFull)=true then(setRelay a (SetTable.grown (es.size+1)) >>= fun _=>pure true) else pure true) Q E s:=by
 have GQ:=S.few;have OR:=S.T.msk;have hsz:=S.sz;have KD:t2.fill=es.size+1:=by
  have:=T2.sz;rw[Pw]at this;unfold SetTable.fill;rw[T2.dm,this,Lb];rfl
 have MH:m<=127:=by rcases OR with rfl|rfl|rfl <;> lia
 refine Po (wpAny_storeSet_of S.ho S.hd ?_ (by rw[Lb,Qs];lia));have hg:(s.heap.update a (Obj.putSet GA t2)).get? a=some {o with data:=.set GA (ep+1) t2}:=by
  have:=Heap.get?_update_self (Obj.putSet GA t2) S.ho (by rw[putSet_of _ t2 S.hd];rfl);rw[putSet_of _ t2 S.hd]at this;exact this
 have IH:=Rh s.heap a (Obj.putSet GA t2);have LX:∀e∈GA.toList,∃k∈L',Ent knd (s.heap.update a (Obj.putSet GA t2)) e k:=fun e he=>let⟨k,hk,hE⟩:=e1 e he;⟨k,hk,hE.keeps S.ho S.hd IH⟩
 have LY:∀k∈L',∃e∈GA.toList,Ent knd (s.heap.update a (Obj.putSet GA t2)) e k:=fun k hk=>let⟨e,he,hE⟩:=e2 k hk;⟨e,he,hE.keeps S.ho S.hd IH⟩
 by_cases hf:t2.tooFull=true
 ·rw[hf];simp only[RL,SH,Rg];unfold SetTable.tooFull at hf;rw[PQ,KD,T2.ms]at hf;obtain⟨m',Nw,hw,MI⟩:∃m',IG m'/\SetTable.sizeAbove (SetTable.grown (es.size+1))=m'+1/\(es.size+1)*5<m'*3:=by
   rcases OR with rfl|rfl|rfl
   ·have:es.size=4:=by lia
    rw[this];exact⟨31,.inr (.inl rfl),by decide,by decide⟩
   ·have:es.size=18:=by lia
    rw[this];exact⟨127,.inr (.inr rfl),by decide,by decide⟩
   ·lia
  refine Po (uO hg S.ex rfl T2 LX LY sz nd hw Nw (by rw[Lb];exact MI) fun h' hsb' KG=>Pp (h h' (IH.trans hsb') KG))
 ·rw[Bool.eq_false_iff.mpr hf];simp only[RL,RM,P4,Qy];unfold SetTable.tooFull at hf;rw[PQ,KD,T2.ms]at hf;exact Pp (h _ IH ⟨_,_,_,t2,m,hg,S.ex,rfl,T2,by rw[Lb];lia,LX,LY,sz,nd⟩)
theorem Al(hu:A.units<cLine){a b:Addr}{L:List (List K)}{k:List K}{Q:Bool->Shared->Prop}(hS:IsSetT knd s.heap a L)(hk:IsTupleKey knd s.heap k b)(hL:L.length<76)
  (h:∀h',Heap.SameBut a s.heap h'->IsSetT knd h' a (if k∈L then L else k::L)->Q (!decide (k∈L)) {s with heap:=h'}):wpAny (model prog w) A (setAddHashed a (.ref b) (tupleKeyHash knd k)) Q E s:=by
 obtain⟨o,es,ep,t,m,S⟩:=hS;obtain⟨N,hN,JK,Ho⟩:=S.T.free (tupleKeyHash knd k);unfold setAddHashed setAddHashedIn;refine QH (Po (RV S.ho S.hd S.T.fits ?_));dsimp only;have hbs:byScan (.ref b) es=false:=rfl;rw[hbs];simp only[P4,Qy];unfold setSearch;refine Po (rg hu S.ho S.hd S.T (fun e he=>let⟨k',_,hE⟩:=S.e1 e he;⟨k',hE⟩) hk hN JK Ho N 0 100000 none (by lia) ?_ ?_ ?_ ?_)
 ·rcases S.T.msk with rfl|rfl|rfl <;> lia
 ·show t.probeStart _=_;rw[uJ,S.T.ms];rfl
 ·intro i c e _ hi hc he hE;have hm:e∈es.toList:=by rw[R0];exact TU he
  obtain⟨k',GZ,hE'⟩:=S.e1 e hm;have KH:k∈L:=by rw[hE.inj hE'];exact GZ
  dsimp only;have:=h s.heap (Heap.SameBut.refl a s.heap) (by rw[PF KH];exact⟨o,es,ep,t,m,S⟩);rw[PR KH]at this;exact Pp this
 ·intro Kx;have Og:t.place.size=es.size:=by have:=S.T.sz;rwa [Pw]at this
  have KH:k∉L:=fun KH=>by
   obtain⟨e,he,hE⟩:=S.e2 k KH;obtain⟨c,hc,ec⟩:=Rr.mp he;rw[Pw]at hc;rw[Qr]at ec;have GP:c<t.place.size:=by rw[Og];exact hc
   have hz:(t.place[c],e)∈t.place.toList.zip es.toList:=by
    rw[Rr];refine⟨c,by rw[RT,Pw,Pw];lia,?_⟩;rw[List.getElem_zip,Qr,Qr,ec]
   obtain⟨kk,h1,h2⟩:=S.T.rc _ hz;have hh:e.1=tupleKeyHash knd k:=by
    obtain⟨_,_,_,hh⟩:=hE;exact hh
   dsimp only at h1 h2;rw[hh]at h1 h2;have hkN:kk<N:=Q2 fun hn=>by
    by_cases hq:kk=N
    ·rw[hq]at h1;exact JK (by rw[h1,R0];exact Array.getElem_mem GP)
    ·exact JK (h2 N (by lia))
   exact Kx kk c e (by lia) hkN (by rw[h1];exact Array.getElem?_eq_getElem GP) (by rw[Array.getElem?_eq_getElem hc,ec]) hE
  rw[PM KH,PN KH]at h;dsimp only;refine Po (RV S.ho S.hd S.T.fits ?_);dsimp only;have hle:es.size+1<=m:=by
   have:=S.few;have:=S.T.msk;rcases this with rfl|rfl|rfl <;> lia
  have hp:=S.T.put (tupleKeyHash knd k) (.ref b) JK Ho (mQ m N _) hle;have JP:(SetTable.insertAt es (t.put (EW m N (Fm m (tupleKeyHash knd k))).j).2 (tupleKeyHash knd k,Value.ref b)).toList.Perm ((tupleKeyHash knd k,Value.ref b)::es.toList):=by
   refine(SetTable.insertAt_perm _ _ _).trans ?_;rw[Array.toList_push];exact SV _ _
  generalize hj:(EW m N (Fm m (tupleKeyHash knd k))).j=j at *;generalize SetTable.insertAt es (t.put j).2 (tupleKeyHash knd k,Value.ref b)=GA at *;generalize (t.put j).1=t1 at *;have Lb:GA.size=es.size+1:=by rw[<-Pw,JP.length_eq,PD,Pw]
  have OS:Ent knd s.heap (tupleKeyHash knd k,Value.ref b) k:=⟨b,rfl,hk,rfl⟩
  have fin:∀t2,Tb t2 GA.toList m->wpAny (model prog w) A (storeSet a GA t2 >>= fun _=>if(!false&&t2.tooFull)=true then(setRelay a (SetTable.grown (es.size+1)) >>= fun _=>pure true) else pure true) Q E s:=fun t2 T2=>xM (L':=k::L) S T2 Lb hL (fun e he=>by
   rcases PJ.mp (JP.mem_iff.mp he) with rfl|he
   ·exact⟨k,Pq,OS⟩
   ·obtain⟨k',GZ,hE⟩:=S.e1 e he;exact⟨k',Px _ GZ,hE⟩) (fun k' GZ=>by
   rcases PJ.mp GZ with rfl|GZ
   ·exact⟨_,JP.mem_iff.mpr Pq,OS⟩
   ·obtain⟨e,he,hE⟩:=S.e2 k' GZ;exact⟨e,JP.mem_iff.mpr (Px _ he),hE⟩) (by rw[Lb,PD,S.sz]) (Qo.mpr ⟨KH,S.nd⟩) h
  split
  ·refine Po (lz hk fun bv=>?_);cases bv with
   |true=>exact fin t1 hp
   |false=>exact fin _ (hp.plain false)
  ·refine Po (Pp ?_);exact fin t1 hp
end
end ST
end NX
namespace NX
open PySem
namespace ST
section
variable{prog:Program}{w:World}{K:Type}[DecidableEq K]{knd:KeyKind prog w K}{A:Around}
def met(kf:Nat->List K):Nat->List (List K)
 | 0=>[]
 |i+1=>if kf i∈met kf i then met kf i else kf i::met kf i
theorem mR(kf:Nat->List K):∀i,(met kf i).length<=i
 | 0=>Py _
 |i+1=>by
  have:=mR kf i;rw[met];split
  ·lia
  ·rw[PD];lia
theorem lC{h h':Heap}{a:Addr}{L:List (List K)}(x:IsSetT knd h a L)(e:∀o,h.get? a=some o->h'.get? a=some o)(ek:∀k b,IsTupleKey knd h k b->IsTupleKey knd h' k b):IsSetT knd h' a L:=by
 obtain⟨o,es,ep,t,m,S⟩:=x;have up:∀{z k},Ent knd h z k->Ent knd h' z k:=fun⟨b,h1,h2,h3⟩=>⟨b,h1,ek _ b h2,h3⟩
 exact⟨o,es,ep,t,m,e o S.ho,S.ex,S.hd,S.T,S.few,fun z hz=>let⟨k,hk,hE⟩:=S.e1 z hz;⟨k,hk,up hE⟩,fun k hk=>let⟨z,hz,hE⟩:=S.e2 k hk;⟨z,hz,up hE⟩,S.sz,S.nd⟩
theorem eX{h h':Heap}{fp:List Addr}(hm:∀b o,b∉fp->h.get? b=some o->h'.get? b=some o)(Kx:∀b∈fp,∀k,¬ IsTupleKey knd h k b){k:List K}{b:Addr}(x:IsTupleKey knd h k b):IsTupleKey knd h' k b:=by
 have hb:b∉fp:=fun hb=>Kx b hb k x
 obtain⟨o,items,n,ho,bT⟩:=x;exact⟨o,items,n,hm b o hb ho,bT⟩
theorem IsSetT.not{h:Heap}{a:Addr}{L:List (List K)}(x:IsSetT knd h a L)(k:List K):¬ IsTupleKey knd h k a:=fun ED=>by
 obtain⟨o',_,_,Hn,_,IE,_⟩:=ED;obtain⟨o,es,ep,t,m,S⟩:=x;obtain rfl:o'=o:=PZ (Hn.symm.trans S.ho);rw[S.hd]at IE;cases IE
variable{R:Result->Shared->Prop}{I:Addr}{fp wr:List Addr}{G:Array GenState->Array GenState->Prop}{n:Nat}{P:Nat->Value->Prop}{St:Nat->Shared->Prop}
theorem Cp(W:WalksS prog w A.in1 I fp wr G n P St)(hu:A.in1.units<cLine){S:Addr}(OT:S∉fp)(hw:∀i s,St i s->∀b∈wr,∀k,¬ IsTupleKey knd s.heap k b)(kf:Nat->List K)(hn:n<=76):
  ∀(left i:Nat) (s:Shared),n-i=left->i<=n->St i s->IsSetT knd s.heap S (met kf i)->(∀j v,P j v->∃b,v=.ref b/\IsTupleKey knd s.heap (kf j) b)->
  (∀s',Moved (S::wr) G s s'->IsSetT knd s'.heap S (met kf n)->R (.ok (.ret .none)) s')->codeAny (model prog w) A (.builtin "set.update.loop" ⟨[.ref S,.ref I],[]⟩) R s:=by
 have sw:S∉wr:=fun z=>OT (W.sub _ z)
 have more:∀b∈wr,b∈S::wr:=fun b z=>.tail _ z
 intro left;induction left with
 |zero=>
  intro i s e0 e1 st hS hP hR;obtain rfl:i=n:=by lia
  refine T1 R3 (Around.under_plainId Q9 _▸?_);refine Po (m:=pyNext (.ref I)) (W.done s _ _ st fun s' hm=>?_);refine Pp (hR s' (hm.mono more) (lC hS (fun o e=>hm.heap S o sw e) fun k b x=>eX hm.heap (hw i s st) x))
 |succ left ih=>
  intro i s e0 e1 st hS hP hR;refine T1 R3 (Around.under_plainId Q9 _▸?_);refine Po (m:=pyNext (.ref I)) (W.item i s _ _ (by lia) st fun v s' pv Hc hm=>?_);obtain⟨b,rfl,hb⟩:=hP i v pv;have kp:∀k b,IsTupleKey knd s.heap k b->IsTupleKey knd s'.heap k b:=fun k b x=>eX hm.heap (hw i s st) x
  have KG:=lC hS (fun o e=>hm.heap S o sw e) kp;have Jv:=kp _ _ hb;refine Po (m:=holding [Value.ref b] (setAdd S (.ref b))) (QH ?_);unfold setAdd;refine QH (Po (wpAny_pyHash_tuple hu Jv ?_));have hlen:=mR kf i;refine Al (s:={s' with toks:=s'.toks+((kf i).length+1)}) hu KG Jv (by lia) fun h' IH Oh=>?_
  have Oh:IsSetT knd h' S (met kf (i+1)):=by rw[met];exact Oh
  obtain⟨o,es,ep,t,m,SS⟩:=KG;have kp2:∀k b,IsTupleKey knd s'.heap k b->IsTupleKey knd h' k b:=fun k b x=>lB x SS.ho SS.hd IH
  refine Pp ⟨plainId_quiet Q9 _,ih (i+1) _ (by lia) (by lia) (W.frame _ s' _ _ Hc (by lia) fun b hb o e=>?_) Oh (fun j v pj=>?_) fun s2 JQ hS3=>?_⟩
  ·exact(IH.2 b fun z=>OT (z▸hb)).trans e
  ·obtain⟨b,e,x⟩:=hP j v pj;exact⟨b,e,kp2 _ _ (kp _ _ x)⟩
  ·refine hR s2 (Moved.trans W.gtrans ((hm.mono more).then_heap (by lia) fun b o hb e=>?_) JQ) hS3;exact(IH.2 b fun z=>hb (z▸.head _)).trans e
end
end ST
end NX
namespace NX
open PySem
namespace ST
section
variable{prog:Program}{w:World}{K:Type}[DecidableEq K]{knd:KeyKind prog w K}{A:Around}{E:Value->Shared->Prop}{s:Shared}
abbrev uP(led:Bool):Obj:={cls:=.type "set",dict:=none,data:=.set #[] 0 (.fresh 0 0 led)}
theorem pG(led:Bool){h:Heap}{a:Addr}(e:h.get? a=some (uP led)):IsSetT knd h a []:=
 ⟨_,#[],0,.fresh 0 0 led,7,e,⟨rfl,rfl,rfl⟩,rfl,⟨rfl,.inl rfl,rfl,rfl,Qg _,List.Pairwise.nil,(fun _ h=>nomatch h),(fun _ h=>nomatch h)⟩,by decide,(fun _ h=>nomatch h),(fun _ h=>nomatch h),rfl,.nil⟩
set_option maxRecDepth 100000 in
set_option maxHeartbeats 8000000 in
theorem Cq{l:Addr}{items:Array Value}{kf:Nat->List K}{Q:Value->Shared->Prop}(hh:A.handled=none)(hu:A.units+8<cLine)(hl:s.heap.IsList l items)(hi:∀i v,items[i]?=some v->∃b,v=.ref b/\IsTupleKey knd s.heap (kf i) b)(hb:items.size<=76)
  (h:∀(h':Heap) (tk:Nat),IsSetT knd h' s.heap.objs.size (met kf items.size)->(∀b o,s.heap.get? b=some o->h'.get? b=some o)->Q (.ref s.heap.objs.size) {s with heap:=h',toks:=tk}):wpAny (model prog w) A (call (.type "set") [.ref l]) Q E s:=by
 have ft:=F.called_set;obtain⟨c,tl,hmro⟩:=ft.mro;have g1:=ft.made;have g2:=ft.sub;have g3:=ft.notType;have g4:=ft.canCreate;have g5:=F.typeCall_set_1 (.ref l);refine wpAny_call (codeAny_of_tree ?_);show wpAny _ _ (callAny (.type "set") _) _ _ _;refine Pp ⟨Code.quiet_builtin _ (by decide +kernel),T1 F.entry_type_call ?_⟩;rw[Around.under_plain (weight_type_call_type "set" [.ref l] []) rfl];repeat (any_goals (first|assumption|wp_step))
 refine Sq (code_set_new_1 (.ref l) (E:=E) (Q₁:=fun v s1=>∃led:Bool,v=.ref s.heap.objs.size/\s1={s with heap:=s.heap.push (uP led)}) fun led=>⟨led,rfl,rfl⟩) fun r s1 hr=>?_
 match r,hr with
 | .error e,hr=>exact hr
 | .ok (.ret v),hr=>
  obtain⟨led,rfl,rfl⟩:=hr;have gS:(s.heap.push (uP led)).get? s.heap.objs.size=some (uP led):=Heap.get?_push_size _ rfl;have tS:Shared.TypeIs {s with heap:=s.heap.push (uP led)} (.ref s.heap.objs.size) "set":=⟨_,gS,rfl⟩
  have g6:=ft.init.lookup;have g7:=ft.init.bind (.ref s.heap.objs.size);repeat (any_goals (first|assumption|wp_step))
  refine Sq (codeAny_call_builtin (R:=wants (fun r s2=>r=.none/\∃h' tk,s2={s with heap:=h',toks:=tk}/\IsSetT knd h' s.heap.objs.size (met kf items.size)/\∀b o,s.heap.get? b=some o->h'.get? b=some o) E) ft.init.plain F.entry_set_init (check_set_init_1 tS ?_)) fun r2 s2 Lc=>?_
  ·have hl0:=hl;obtain⟨⟨oc,od,odt,Ip⟩,ho,hc,nl,hd⟩:=hl;dsimp only at hc hd;subst hc hd;have go:(s.heap.push (uP led)).get? l=some {cls:=.type "list",dict:=od,data:=.seq items nl,slots:=Ip}:=Heap.get?_push_of_some _ ho;have b1:=F.sub_list_set;have b2:=F.sub_list_frozenset;have b3:(Value.type "list" == Value.type "dict")=false:=by decide
   have OU:(s.heap.push (uP led)).IsList l items:=⟨_,go,rfl,nl,rfl⟩
   have llt:=PH ho;unfold Builtin.«set.__init__» noKeywords Builtin.Frozenset.updateFrom;generalize hPI:pyIter=PI
   wp_walk
   subst hPI;refine Ra OU (Po (wpAny_runValue ?_));have nI:l≠(s.heap.push (uP led)).objs.size:=by rw[Q0];lia
   have nS:s.heap.objs.size∉[(s.heap.push (uP led)).objs.size,l]:=by
    rw[Q0];intro z;rcases PJ.mp z with z|z
    ·lia
    ·have:=Qm.mp z;lia
   refine Cp (knd:=knd) ((Walks.list (A:=A.in1.in1.in1) (by exact hh) _ l nI items).toS) (by show A.units+1+1+1<cLine;lia) nS (fun i s st b hb k x=>?_) kf hb (items.size-0) 0 _ rfl (Qg _) ⟨⟨_,Heap.get?_push_size _ rfl,rfl,rfl⟩,OU.push _⟩ (pG led (Heap.get?_push_of_some _ gS)) (fun j v pj=>?_) fun s' hm KG=>?_
   ·obtain rfl:=Qm.mp hb;obtain⟨o1,_,_,q1,q2,_⟩:=x;obtain⟨⟨o2,r1,r2,_⟩,_⟩:=st;rw[r1]at q1;cases q1;rw[r2]at q2;exact absurd q2 (by decide)
   ·obtain⟨b,e,o1,Er,n1,q1,q2⟩:=hi j v pj;exact⟨b,e,o1,Er,n1,Heap.get?_push_of_some _ (Heap.get?_push_of_some _ q1),q2⟩
   ·obtain⟨h',g',d',tk',NQ⟩:=s';obtain rfl:g'=s.gens:=hm.gens;obtain rfl:d'=s.drawn:=hm.drawn;obtain rfl:NQ=s.os:=hm.os;refine Pp (Pp ⟨rfl,h',tk',rfl,KG,fun b o e=>hm.heap b o (fun z=>?_) (Heap.get?_push_of_some _ (Heap.get?_push_of_some _ e))⟩);have blt:=PH e;rcases PJ.mp z with z|z
    ·lia
    ·have:=Qm.mp z;rw[Q0]at this;lia
  ·match r2,Lc with
   | .error e,Lc=>exact Lc
   | .ok (.ret r),Lc=>
    obtain⟨rfl,h',tk,rfl,KG,GZ⟩:=Lc;repeat (any_goals (first|assumption|wp_step))
    exact h _ _ KG GZ
end
end ST
end NX
namespace NX
open PySem PySem.Spec PyProof.Rows L2
namespace ST
section
variable{X:Cx}{e:Expr}{ta:TA}{p p2 pos Gb:Pos}
noncomputable def Cr(K:W.Frag)(ta:TA):TE:=fun σ H Q=>ta σ H fun vs H1=>∃(a:Addr) (xs:List V) (kf:Nat->List Key),vs=[.ref a]/\SqL K H1 a xs/\xs.length<=76/\(∀i x,xs[i]?=some x->∃b,x=.ref b/\H1 b=some (.tup ((kf i).map kV)))/\Q (.int ((met kf xs.length).length:Nat)) H1
theorem pe_lenS(hc:X.calm=true)(hu:X.A.units+8<cLine)(hg:Gl X "len")(hm:X.mg "len" = none)(Jw:Gl X "set")(JQ:X.mg "set" = none)(ha:PA X [e] ta)
  (he:backTo pos (starEach [.Call (.Name "set" p2) [e] [] Gb] X.env)=[(false,eval (.Call (.Name "set" p2) [e] [] Gb) X.env)]:=by rfl)
  (Oi:starEach [e] X.env=(false,eval e X.env)::starEach [] X.env:=by rfl) (Ld:(backTo Gb (starEach [] X.env)).any (·.1)=false:=by rfl):
  PE X (.Call (.Name "len" p) [.Call (.Name "set" p2) [e] [] Gb] [] pos) (Cr X.K ta):=by
 intro pi s σ H Q I h;refine Q4 (ij I hg hm (by decide +kernel:bootBuiltins "len" = some (.builtin "len")) ?_ (by decide) (by decide));rw[he];refine Sl rfl (RZ (Calls.spliced_cons ?_));refine Q4 (ij I Jw JQ (by decide +kernel:bootBuiltins "set" = some (.type "set")) ?_ (by decide) (by decide));refine Rc (EG (ha Gb pi s σ H _ I h) fun us s1 ⟨vs,H1,I1,r1,a,xs,kf,ev,sq,OV,hk,q⟩=>?_) Oi Ld;subst ev;obtain⟨u,rfl,ra⟩:=fN r1;cases ra;obtain⟨Er,r',pl,hz⟩:=I1.list sq;have hl:=pl.isList;have hlen:=r'.length;have hsz:Er.toArray.size=xs.length:=by rw[Pu];exact hlen.symm
 refine Cq (knd:=mixKind X.prog X.w) (kf:=kf) (I1.ok.hd hc) hu hl (fun i v hv=>?_) (by rw[hsz];exact OV) fun h' tk hS kp=>?_
 ·rw[List.getElem?_toArray]at hv;have hi:i<xs.length:=by
   have:=(List.getElem?_eq_some_iff.mp hv).1;lia
  obtain⟨b,hb,gb⟩:=hk i xs[i] (List.getElem?_eq_getElem hi);obtain⟨u,Hw,ru⟩:=r'.get (List.getElem?_eq_getElem hi);rw[hv]at Hw;cases Hw;rw[hb]at ru;cases ru;exact⟨b,rfl,iz I1.hok gb⟩
 ·refine Calls.spliced_nil ?_;obtain⟨o,es,ep,t,m,S⟩:=hS;have hn:=S.sz;rw[hsz]at hn;refine call_len_set (s:={s1 with heap:=h',toks:=tk}) S.ho S.ex S.hd S.T.fits (by have:=mR kf xs.length;lia) ?_;refine⟨.int ((met kf xs.length).length:Nat),H1,(I1.kept (t':=tk) kp).tok _,⟨_,by rw[hn]⟩,q⟩
end
end ST
end NX
namespace PV
open PySem L2 NX
inductive D where
 |non|bl (b:Bool)|int (i:Int)|str (l:List Nat)|tup (ds:List D)|lst (ds:List D)|dct (tk:Bool) (ks vs:List D)
inductive O where
 |f|l (c:O)|t (cs:List O)|d|pin (p:Addr) (c:O)
abbrev R:=O×D
abbrev Env:=List (Option R)
inductive Res(α:Type) where
 |ok (a:α)|exc (c:List Nat)|bad
def kD:Key->D
 | .inl i=>.int i
 | .inr x=>.str x.cps.toList
def isM:HO->Bool
 | .lst _=>true
 | .dK _=>true
 | .dT _=>true
 |_=>false
def isT:HO->Bool
 | .tup _=>true
 | .frz _ (.tup _)=>true
 |_=>false
def uQ:Key->Prop
 | .inl _=>True
 | .inr x=>x.cps.toList.length<=sizeLine
def DictO(o:HO)(tk:Bool)(ks:List D)(xs:List V):Prop:=match tk with
 |true=>∃kvs:List (List Key×V),o=.dT kvs/\ks=kvs.map (fun kv=>D.tup (kv.1.map kD))/\xs=kvs.map (·.2)/\∀kv∈kvs,∀k∈kv.1,uQ k
 |false=>∃kvs:List (Key×V),o=.dK kvs/\ks=kvs.map (fun kv=>kD kv.1)/\xs=kvs.map (·.2)/\∀kv∈kvs,uQ kv.1
mutual
noncomputable def Rep(K:W.Frag)(G:Hp):D->V->Prop
 | .non,v=>v=.non
 | .bl b,v=>v=.bl b
 | .int i,v=>v=.int i
 | .str l,v=>v=.str (S l)/\l.length<=sizeLine
 | .tup ds,v=>∃p xs,v=.ref p/\G p=some (.tup xs)/\Reps K G ds xs
 | .lst ds,v=>∃p xs,v=.ref p/\SqL K G p xs/\Reps K G ds xs
 | .dct tk ks vs,v=>∃p xs o,v=.ref p/\Rd G p o/\DictO o tk ks xs/\Reps K G vs xs
noncomputable def Reps(K:W.Frag)(G:Hp):List D->List V->Prop
 |[],xs=>xs=[]
 |d::ds,xs=>∃y ys,xs=y::ys/\Rep K G d y/\Reps K G ds ys
end
def AllO(P:D->V->List Addr->Prop):List D->List V->List Addr->Prop
 |[],xs,fp=>xs=[]/\fp=[]
 |d::ds,xs,fp=>∃y ys a b,xs=y::ys/\fp=a++b/\P d y a/\AllO P ds ys b
mutual
noncomputable def RepO(K:W.Frag)(G H:Hp):O->D->V->List Addr->Prop
 | .f,d,v,fp=>Rep K G d v/\fp=[]
 | .l c,.lst ds,v,fp=>∃p xs Eu,v=.ref p/\H p=some (.lst xs)/\fp=p::Eu/\AllO (RepO K G H c) ds xs Eu
 | .t cs,.tup ds,v,fp=>∃p xs,v=.ref p/\G p=some (.tup xs)/\RepT K G H cs ds xs fp
 | .d,.dct tk ks vs,v,fp=>∃p xs o,v=.ref p/\H p=some o/\DictO o tk ks xs/\fp=[p]/\Reps K G vs xs
 | .pin p c,d,v,fp=>v=.ref p/\RepO K G H c d v fp
 |_,_,_,_=>False
noncomputable def RepT(K:W.Frag)(G H:Hp):List O->List D->List V->List Addr->Prop
 |[],[],xs,fp=>xs=[]/\fp=[]
 |c::cs,d::ds,xs,fp=>∃y ys a b,xs=y::ys/\fp=a++b/\RepO K G H c d y a/\RepT K G H cs ds ys b
 |_,_,_,_=>False
end
section
variable{K:W.Frag}{G G' H H':Hp}
theorem Rd.mono{p:Addr}{u:HO}(h:Same G G')(r:Rd G p u):Rd G' p u:=by
 rcases r with r|⟨o,r⟩
 ·exact .inl (h _ _ r)
 ·exact .inr ⟨o,h _ _ r⟩
theorem eJ{p:Addr}{xs:List V}(h:Same G G')(r:SqL K G p xs):SqL K G' p xs:=r.elim (fun r=>.inl (Rd.mono h r)) .inr
theorem bF{p:Addr}{xs:List V}(h:Same G G')(r:SqT K G p xs):SqT K G' p xs:=r.elim (fun r=>.inl (Rd.mono h r)) .inr
mutual
theorem Rep.mono(h:Same G G'):∀{d:D}{v:V},Rep K G d v->Rep K G' d v
 | .non,_,r=>by simpa only[Rep] using r
 | .bl _,_,r=>by simpa only[Rep] using r
 | .int _,_,r=>by simpa only[Rep] using r
 | .str _,_,r=>by simpa only[Rep] using r
 | .tup ds,_,r=>by
  simp only[Rep]at r ⊢;obtain⟨p,xs,e,q,rs⟩:=r;exact⟨p,xs,e,h _ _ q,Reps.mono h rs⟩
 | .lst ds,_,r=>by
  simp only[Rep]at r ⊢;obtain⟨p,xs,e,q,rs⟩:=r;exact⟨p,xs,e,eJ h q,Reps.mono h rs⟩
 | .dct tk ks vs,_,r=>by
  simp only[Rep]at r ⊢;obtain⟨p,xs,o,e,q,dd,rs⟩:=r;exact⟨p,xs,o,e,Rd.mono h q,dd,Reps.mono h rs⟩
theorem Reps.mono(h:Same G G'):∀{ds:List D}{xs:List V},Reps K G ds xs->Reps K G' ds xs
 |[],_,r=>by simpa only[Reps] using r
 |d::ds,_,r=>by
  simp only[Reps]at r ⊢;obtain⟨y,ys,e,r1,r2⟩:=r;exact⟨y,ys,e,Rep.mono h r1,Reps.mono h r2⟩
end
theorem AllO.imp{P P':D->V->List Addr->Prop}:∀{ds:List D}{xs:List V}{fp:List Addr},(∀d v a,(∀p∈a,p∈fp)->P d v a->P' d v a)->AllO P ds xs fp->AllO P' ds xs fp
 |[],_,_,_,r=>r
 |d::ds,xs,fp,h,r=>by
  obtain⟨y,ys,a,b,e1,e2,p,q⟩:=r;subst e2;exact⟨y,ys,a,b,e1,rfl,h _ _ _ (fun p hp=>P0 _ hp) p,AllO.imp (fun d v c hc=>h d v c fun p hp=>PB _ (hc p hp)) q⟩
mutual
theorem RepO.step(h:Same G G'):∀{o:O}{d:D}{v:V}{fp:List Addr},(∀p∈fp,H' p=H p)->RepO K G H o d v fp->RepO K G' H' o d v fp
 | .f,d,v,fp,hk,r=>by
  simp only[RepO]at r ⊢;exact⟨Rep.mono h r.1,r.2⟩
 | .pin p c,d,v,fp,hk,r=>by
  simp only[RepO]at r ⊢;exact⟨r.1,RepO.step h hk r.2⟩
 | .l c,.lst ds,v,fp,hk,r=>by
  simp only[RepO]at r ⊢;obtain⟨p,xs,Eu,e,q,e2,a⟩:=r;subst e2;exact⟨p,xs,Eu,e,(hk p Pq).trans q,rfl,AllO.imp (fun d v c hc=>RepO.step h fun z hz=>hk z (Px _ (hc z hz))) a⟩
 | .t cs,.tup ds,v,fp,hk,r=>by
  simp only[RepO]at r ⊢;obtain⟨p,xs,e,q,a⟩:=r;exact⟨p,xs,e,h _ _ q,RepT.step h hk a⟩
 | .d,.dct tk ks vs,v,fp,hk,r=>by
  simp only[RepO]at r ⊢;obtain⟨p,xs,o,e,q,dd,e2,rs⟩:=r;subst e2;exact⟨p,xs,o,e,(hk p Pq).trans q,dd,rfl,Reps.mono h rs⟩
 | .l _,.non,_,_,_,r | .l _,.bl _,_,_,_,r | .l _,.int _,_,_,_,r | .l _,.str _,_,_,_,r | .l _,.tup _,_,_,_,r | .l _,.dct _ _ _,_,_,_,r=>by simp only[RepO]at r
 | .t _,.non,_,_,_,r | .t _,.bl _,_,_,_,r | .t _,.int _,_,_,_,r | .t _,.str _,_,_,_,r | .t _,.lst _,_,_,_,r | .t _,.dct _ _ _,_,_,_,r=>by simp only[RepO]at r
 | .d,.non,_,_,_,r | .d,.bl _,_,_,_,r | .d,.int _,_,_,_,r | .d,.str _,_,_,_,r | .d,.tup _,_,_,_,r | .d,.lst _,_,_,_,r=>by simp only[RepO]at r
theorem RepT.step(h:Same G G'):∀{cs:List O}{ds:List D}{xs:List V}{fp:List Addr},(∀p∈fp,H' p=H p)->RepT K G H cs ds xs fp->RepT K G' H' cs ds xs fp
 |[],[],_,_,_,r=>by simpa only[RepT] using r
 |c::cs,d::ds,xs,fp,hk,r=>by
  simp only[RepT]at r ⊢;obtain⟨y,ys,a,b,e1,e2,r1,r2⟩:=r;subst e2;exact⟨y,ys,a,b,e1,rfl,RepO.step h (fun p hp=>hk p (P0 _ hp)) r1,RepT.step h (fun p hp=>hk p (PB _ hp)) r2⟩
 |[],_::_,_,_,_,r=>by simp only[RepT]at r
 |_::_,[],_,_,_,r=>by simp only[RepT]at r
end
theorem AllO.frozen{P:D->V->List Addr->Prop}:∀{ds:List D}{xs:List V}{fp:List Addr},(∀d v a,(∀p∈a,p∈fp)->P d v a->Rep K G' d v)->AllO P ds xs fp->Reps K G' ds xs
 |[],_,_,_,r=>by simp only[Reps];exact r.1
 |d::ds,xs,fp,h,r=>by
  obtain⟨y,ys,a,b,e1,e2,p,q⟩:=r;subst e2;simp only[Reps];exact⟨y,ys,e1,h _ _ _ (fun p hp=>P0 _ hp) p,AllO.frozen (fun d v c hc=>h d v c fun p hp=>PB _ (hc p hp)) q⟩
mutual
theorem RepO.frozen(h:Same G G'):∀{o:O}{d:D}{v:V}{fp:List Addr},(∀p∈fp,∀u,H p=some u->G' p=some u)->RepO K G H o d v fp->Rep K G' d v
 | .f,d,v,fp,hk,r=>by
  simp only[RepO]at r;exact Rep.mono h r.1
 | .pin p c,d,v,fp,hk,r=>by
  simp only[RepO]at r;exact RepO.frozen h hk r.2
 | .l c,.lst ds,v,fp,hk,r=>by
  simp only[RepO]at r;simp only[Rep];obtain⟨p,xs,Eu,e,q,e2,a⟩:=r;subst e2;exact⟨p,xs,e,SqL.of (hk p Pq _ q),AllO.frozen (fun d v c hc=>RepO.frozen h fun z hz=>hk z (Px _ (hc z hz))) a⟩
 | .t cs,.tup ds,v,fp,hk,r=>by
  simp only[RepO]at r;simp only[Rep];obtain⟨p,xs,e,q,a⟩:=r;exact⟨p,xs,e,h _ _ q,RepT.frozen h hk a⟩
 | .d,.dct tk ks vs,v,fp,hk,r=>by
  simp only[RepO]at r;simp only[Rep];obtain⟨p,xs,o,e,q,dd,e2,rs⟩:=r;subst e2;exact⟨p,xs,o,e,.inl (hk p Pq _ q),dd,Reps.mono h rs⟩
 | .l _,.non,_,_,_,r | .l _,.bl _,_,_,_,r | .l _,.int _,_,_,_,r | .l _,.str _,_,_,_,r | .l _,.tup _,_,_,_,r | .l _,.dct _ _ _,_,_,_,r=>by simp only[RepO]at r
 | .t _,.non,_,_,_,r | .t _,.bl _,_,_,_,r | .t _,.int _,_,_,_,r | .t _,.str _,_,_,_,r | .t _,.lst _,_,_,_,r | .t _,.dct _ _ _,_,_,_,r=>by simp only[RepO]at r
 | .d,.non,_,_,_,r | .d,.bl _,_,_,_,r | .d,.int _,_,_,_,r | .d,.str _,_,_,_,r | .d,.tup _,_,_,_,r | .d,.lst _,_,_,_,r=>by simp only[RepO]at r
theorem RepT.frozen(h:Same G G'):∀{cs:List O}{ds:List D}{xs:List V}{fp:List Addr},(∀p∈fp,∀u,H p=some u->G' p=some u)->RepT K G H cs ds xs fp->Reps K G' ds xs
 |[],[],_,_,_,r=>by simp only[RepT]at r;simp only[Reps];exact r.1
 |c::cs,d::ds,xs,fp,hk,r=>by
  simp only[RepT]at r;simp only[Reps];obtain⟨y,ys,a,b,e1,e2,r1,r2⟩:=r;subst e2;exact⟨y,ys,e1,RepO.frozen h (fun p hp=>hk p (P0 _ hp)) r1,RepT.frozen h (fun p hp=>hk p (PB _ hp)) r2⟩
 |[],_::_,_,_,_,r=>by simp only[RepT]at r
 |_::_,[],_,_,_,r=>by simp only[RepT]at r
end
theorem AllO.live{P:D->V->List Addr->Prop}:∀{ds:List D}{xs:List V}{fp:List Addr},(∀d v a,P d v a->∀p∈a,∃u,H p=some u)->AllO P ds xs fp->∀p∈fp,∃u,H p=some u
 |[],_,_,_,r=>by rw[r.2];intro p hp;cases hp
 |d::ds,xs,fp,h,r=>by
  obtain⟨y,ys,a,b,e1,e2,p,q⟩:=r;subst e2;intro z hz;rcases Qd.mp hz with hz|hz
  ·exact h _ _ _ p z hz
  ·exact AllO.live h q z hz
mutual
theorem RepO.live:∀{o:O}{d:D}{v:V}{fp:List Addr},RepO K G H o d v fp->∀p∈fp,∃u,H p=some u
 | .f,d,v,fp,r=>by
  simp only[RepO]at r;rw[r.2];intro p hp;cases hp
 | .pin p c,d,v,fp,r=>by
  simp only[RepO]at r;exact RepO.live r.2
 | .l c,.lst ds,v,fp,r=>by
  simp only[RepO]at r;obtain⟨p,xs,Eu,e,q,e2,a⟩:=r;subst e2;intro z hz;rcases PJ.mp hz with rfl|hz
  ·exact⟨_,q⟩
  ·exact AllO.live (fun d v a=>RepO.live) a z hz
 | .t cs,.tup ds,v,fp,r=>by
  simp only[RepO]at r;obtain⟨p,xs,e,q,a⟩:=r;exact RepT.live a
 | .d,.dct tk ks vs,v,fp,r=>by
  simp only[RepO]at r;obtain⟨p,xs,o,e,q,dd,e2,rs⟩:=r;subst e2;intro z hz;rw[Qm]at hz;exact⟨_,hz▸q⟩
 | .l _,.non,_,_,r | .l _,.bl _,_,_,r | .l _,.int _,_,_,r | .l _,.str _,_,_,r | .l _,.tup _,_,_,r | .l _,.dct _ _ _,_,_,r=>by simp only[RepO]at r
 | .t _,.non,_,_,r | .t _,.bl _,_,_,r | .t _,.int _,_,_,r | .t _,.str _,_,_,r | .t _,.lst _,_,_,r | .t _,.dct _ _ _,_,_,r=>by simp only[RepO]at r
 | .d,.non,_,_,r | .d,.bl _,_,_,r | .d,.int _,_,_,r | .d,.str _,_,_,r | .d,.tup _,_,_,r | .d,.lst _,_,_,r=>by simp only[RepO]at r
theorem RepT.live:∀{cs:List O}{ds:List D}{xs:List V}{fp:List Addr},RepT K G H cs ds xs fp->∀p∈fp,∃u,H p=some u
 |[],[],_,_,r=>by
  simp only[RepT]at r;rw[r.2];intro p hp;cases hp
 |c::cs,d::ds,xs,fp,r=>by
  simp only[RepT]at r;obtain⟨y,ys,a,b,e1,e2,r1,r2⟩:=r;subst e2;intro z hz;rcases Qd.mp hz with hz|hz
  ·exact RepO.live r1 z hz
  ·exact RepT.live r2 z hz
 |[],_::_,_,_,r=>by simp only[RepT]at r
 |_::_,[],_,_,r=>by simp only[RepT]at r
end
theorem DictO.isM{o:HO}{tk:Bool}{ks:List D}{xs:List V}(h:DictO o tk ks xs):PV.isM o=true:=by
 cases tk with
 |true=>
  obtain⟨kvs,e,_⟩:=h;rw[e];rfl
 |false=>
  obtain⟨kvs,e,_⟩:=h;rw[e];rfl
theorem AllO.mut{P:D->V->List Addr->Prop}:∀{ds:List D}{xs:List V}{fp:List Addr},(∀d v a,P d v a->∀p∈a,∃u,H p=some u/\isM u=true)->AllO P ds xs fp->∀p∈fp,∃u,H p=some u/\isM u=true
 |[],_,_,_,r=>by rw[r.2];intro p hp;cases hp
 |d::ds,xs,fp,h,r=>by
  obtain⟨y,ys,a,b,e1,e2,p,q⟩:=r;subst e2;intro z hz;rcases Qd.mp hz with hz|hz
  ·exact h _ _ _ p z hz
  ·exact AllO.mut h q z hz
mutual
theorem RepO.mut:∀{o:O}{d:D}{v:V}{fp:List Addr},RepO K G H o d v fp->∀p∈fp,∃u,H p=some u/\isM u=true
 | .f,d,v,fp,r=>by
  simp only[RepO]at r;rw[r.2];intro p hp;cases hp
 | .pin p c,d,v,fp,r=>by
  simp only[RepO]at r;exact RepO.mut r.2
 | .l c,.lst ds,v,fp,r=>by
  simp only[RepO]at r;obtain⟨p,xs,Eu,e,q,e2,a⟩:=r;subst e2;intro z hz;rcases PJ.mp hz with rfl|hz
  ·exact⟨_,q,rfl⟩
  ·exact AllO.mut (fun d v a=>RepO.mut) a z hz
 | .t cs,.tup ds,v,fp,r=>by
  simp only[RepO]at r;obtain⟨p,xs,e,q,a⟩:=r;exact RepT.mut a
 | .d,.dct tk ks vs,v,fp,r=>by
  simp only[RepO]at r;obtain⟨p,xs,o,e,q,dd,e2,rs⟩:=r;subst e2;intro z hz;rw[Qm]at hz;exact⟨_,hz▸q,dd.isM⟩
 | .l _,.non,_,_,r | .l _,.bl _,_,_,r | .l _,.int _,_,_,r | .l _,.str _,_,_,r | .l _,.tup _,_,_,r | .l _,.dct _ _ _,_,_,r=>by simp only[RepO]at r
 | .t _,.non,_,_,r | .t _,.bl _,_,_,r | .t _,.int _,_,_,r | .t _,.str _,_,_,r | .t _,.lst _,_,_,r | .t _,.dct _ _ _,_,_,r=>by simp only[RepO]at r
 | .d,.non,_,_,r | .d,.bl _,_,_,r | .d,.int _,_,_,r | .d,.str _,_,_,r | .d,.tup _,_,_,r | .d,.lst _,_,_,r=>by simp only[RepO]at r
theorem RepT.mut:∀{cs:List O}{ds:List D}{xs:List V}{fp:List Addr},RepT K G H cs ds xs fp->∀p∈fp,∃u,H p=some u/\isM u=true
 |[],[],_,_,r=>by
  simp only[RepT]at r;rw[r.2];intro p hp;cases hp
 |c::cs,d::ds,xs,fp,r=>by
  simp only[RepT]at r;obtain⟨y,ys,a,b,e1,e2,r1,r2⟩:=r;subst e2;intro z hz;rcases Qd.mp hz with hz|hz
  ·exact RepO.mut r1 z hz
  ·exact RepT.mut r2 z hz
 |[],_::_,_,_,r=>by simp only[RepT]at r
 |_::_,[],_,_,r=>by simp only[RepT]at r
end
noncomputable def RepE(K:W.Frag)(G H:Hp):Env->List (Option V)->List Addr->Prop
 |[],vs,fp=>vs=[]/\fp=[]
 |e::es,vs,fp=>∃y ys,vs=y::ys/\match e with
  |none=>RepE K G H es ys fp
  |some r=>∃v a b,y=some v/\fp=a++b/\RepO K G H r.1 r.2 v a/\RepE K G H es ys b
theorem RepE.step(h:Same G G'):∀{es:Env}{vs:List (Option V)}{fp:List Addr},(∀p∈fp,H' p=H p)->RepE K G H es vs fp->RepE K G' H' es vs fp
 |[],_,_,_,r=>r
 |none::es,vs,fp,hk,r=>by
  obtain⟨y,ys,e,r⟩:=r;exact⟨y,ys,e,RepE.step h hk r⟩
 |some r::es,vs,fp,hk,q=>by
  obtain⟨y,ys,e,v,a,b,e1,e2,r1,r2⟩:=q;subst e2;exact⟨y,ys,e,v,a,b,e1,rfl,RepO.step h (fun p hp=>hk p (P0 _ hp)) r1,RepE.step h (fun p hp=>hk p (PB _ hp)) r2⟩
theorem RepE.live:∀{es:Env}{vs:List (Option V)}{fp:List Addr},RepE K G H es vs fp->∀p∈fp,∃u,H p=some u
 |[],_,_,r=>by
  rw[r.2];intro p hp;cases hp
 |none::es,vs,fp,r=>by
  obtain⟨y,ys,e,r⟩:=r;exact RepE.live r
 |some r::es,vs,fp,q=>by
  obtain⟨y,ys,e,v,a,b,e1,e2,r1,r2⟩:=q;subst e2;intro z hz;rcases Qd.mp hz with hz|hz
  ·exact r1.live z hz
  ·exact RepE.live r2 z hz
theorem RepE.mut:∀{es:Env}{vs:List (Option V)}{fp:List Addr},RepE K G H es vs fp->∀p∈fp,∃u,H p=some u/\isM u=true
 |[],_,_,r=>by
  rw[r.2];intro p hp;cases hp
 |none::es,vs,fp,r=>by
  obtain⟨y,ys,e,r⟩:=r;exact RepE.mut r
 |some r::es,vs,fp,q=>by
  obtain⟨y,ys,e,v,a,b,e1,e2,r1,r2⟩:=q;subst e2;intro z hz;rcases Qd.mp hz with hz|hz
  ·exact r1.mut z hz
  ·exact RepE.mut r2 z hz
theorem RepE.length:∀{es:Env}{vs:List (Option V)}{fp:List Addr},RepE K G H es vs fp->vs.length=es.length
 |[],_,_,r=>by rw[r.1];rfl
 |none::es,vs,fp,r=>by
  obtain⟨y,ys,e,r⟩:=r;rw[e,PD,PD,RepE.length r]
 |some r::es,vs,fp,q=>by
  obtain⟨y,ys,e,v,a,b,e1,e2,r1,r2⟩:=q;rw[e,PD,PD,RepE.length r2]
theorem RepE.take:∀{es:Env}{vs:List (Option V)}{fp:List Addr}{i:Nat}{r:R},RepE K G H es vs fp->es[i]?=some (some r)->
  ∃v a b,vs[i]?=some (some v)/\RepO K G H r.1 r.2 v a/\RepE K G H (es.set i none) vs b/\fp.Perm (a++b)
 |[],_,_,_,_,_,e=>by simp at e
 |none::es,vs,fp,0,r,q,e=>by simp at e
 |some r'::es,vs,fp,0,r,q,e=>by
  obtain⟨y,ys,e0,v,a,b,e1,e2,r1,r2⟩:=q;simp at e;subst e;subst e0;subst e1;exact⟨v,a,b,rfl,r1,⟨some v,ys,rfl,r2⟩,by rw[e2]⟩
 |none::es,vs,fp,i+1,r,q,e=>by
  obtain⟨y,ys,e0,q⟩:=q;obtain⟨v,a,b,g1,g2,g3,g4⟩:=RepE.take q (i:=i) (r:=r) (by simpa using e);subst e0;exact⟨v,a,b,by simpa using g1,g2,⟨y,ys,rfl,g3⟩,g4⟩
 |some r'::es,vs,fp,i+1,r,q,e=>by
  obtain⟨y,ys,e0,v',a',b',e1,e2,r1,r2⟩:=q;obtain⟨v,a,b,g1,g2,g3,g4⟩:=RepE.take r2 (i:=i) (r:=r) (by simpa using e);subst e0;refine⟨v,a,a'++b,by simpa using g1,g2,⟨y,ys,rfl,v',a',b,e1,rfl,r1,g3⟩,?_⟩;rw[e2];refine(T3 a' g4).trans ?_;rw[<-Qp,<-Qp];exact TC b T4
theorem RepE.put:∀{es:Env}{vs:List (Option V)}{b:List Addr}{i:Nat}{r:R}{v:V}{a:List Addr},RepE K G H es vs b->es[i]?=some none->RepO K G H r.1 r.2 v a->
  ∃fp,RepE K G H (es.set i (some r)) (vs.set i (some v)) fp/\fp.Perm (a++b)
 |[],_,_,_,_,_,_,_,e,_=>by simp at e
 |none::es,vs,b,0,r,v,a,q,e,ro=>by
  obtain⟨y,ys,e0,q⟩:=q;subst e0;exact⟨a++b,⟨some v,ys,rfl,v,a,b,rfl,rfl,ro,q⟩,.refl _⟩
 |some r'::es,vs,b,0,r,v,a,q,e,ro=>by simp at e
 |none::es,vs,b,i+1,r,v,a,q,e,ro=>by
  obtain⟨y,ys,e0,q⟩:=q;obtain⟨fp,g1,g2⟩:=RepE.put q (i:=i) (r:=r) (by simpa using e) ro;subst e0;exact⟨fp,⟨y,_,rfl,g1⟩,g2⟩
 |some r'::es,vs,b,i+1,r,v,a,q,e,ro=>by
  obtain⟨y,ys,e0,v',a',b',e1,e2,r1,r2⟩:=q;obtain⟨fp,g1,g2⟩:=RepE.put r2 (i:=i) (r:=r) (by simpa using e) ro;subst e0;refine⟨a'++fp,⟨y,_,rfl,v',a',fp,e1,rfl,r1,g1⟩,?_⟩;rw[e2];refine(T3 a' g2).trans ?_;rw[<-Qp,<-Qp];exact TC b' T4
structure Rel(K:W.Frag)(G H:Hp)(es:Env)(vs:List (Option V))(fp:List Addr):Prop where
 rep:RepE K G H es vs fp
 nd:fp.Nodup
 gn:∀p∈fp,G p=none
 gh:Same G H
structure Step(G H:Hp)(fp:List Addr)(G' H':Hp)(Eu:List Addr):Prop where
 gg:Same G G'
 keep:∀q u,H q=some u->q∉fp->H' q=some u
 fpn:∀q∈Eu,q∈fp\/H q=none
 gnew:∀q u,G' q=some u->G q=some u\/q∈fp\/H q=none\/isT u=true/\H q=some u
 there:∀q u,H q=some u->∃u',H' q=some u'
theorem Step.refl{fp:List Addr}:Step G H fp G H fp:=⟨.refl _,fun _ _ h _=>h,fun _ h=>.inl h,fun _ _ h=>.inl h,fun _ u h=>⟨u,h⟩⟩
theorem Step.trans{G1 H1 G2 H2:Hp}{fp EL E3:List Addr}(a:Step G H fp G1 H1 EL)(b:Step G1 H1 EL G2 H2 E3):Step G H fp G2 H2 E3:=by
 refine⟨a.gg.trans b.gg,fun q u h n=>?_,fun q hq=>?_,fun q u hq=>?_,fun q u h=>?_⟩
 ·refine b.keep q u (a.keep q u h n) fun hq=>?_
  rcases a.fpn q hq with z|z
  ·exact n z
  ·rw[z]at h;cases h
 ·rcases b.fpn q hq with z|z
  ·exact a.fpn q z
  ·cases e:H q with
   |none=>exact .inr rfl
   |some u=>
    obtain⟨u',e'⟩:=a.there q u e;rw[z]at e';cases e'
 ·rcases b.gnew q u hq with z|z|z|⟨t,z⟩
  ·exact a.gnew q u z
  ·exact .inr ((a.fpn q z).imp_right .inl)
  ·cases e:H q with
   |none=>exact .inr (.inr (.inl rfl))
   |some u=>
    obtain⟨u',e'⟩:=a.there q u e;rw[z]at e';cases e'
  ·cases e:H q with
   |none=>exact .inr (.inr (.inl rfl))
   |some u2=>
    by_cases hf:q∈fp
    ·exact .inr (.inl hf)
    ·rw[a.keep q u2 e hf]at z;cases z;exact .inr (.inr (.inr ⟨t,rfl⟩))
 ·obtain⟨u',h'⟩:=a.there q u h;exact b.there q u' h'
theorem Step.wide{fp fq Eu OW:List Addr}(a:Step G H fp G' H' Eu)(h:∀q∈fp,q∈fq)(h':∀q∈OW,q∈Eu\/q∈fq):Step G H fq G' H' OW:=
 ⟨a.gg,fun q u e n=>a.keep q u e fun z=>n (h q z),fun q hq=>(h' q hq).elim (fun z=>(a.fpn q z).imp_left (h q)) .inl,fun q u e=>(a.gnew q u e).imp_right (Or.imp_left (h q)),a.there⟩
theorem Rel.perm{es:Env}{vs:List (Option V)}{fp fq:List Addr}(r:RepE K G H es vs fq)(nd:fp.Nodup)(gn:∀p∈fp,G p=none)(gh:Same G H)(h:fp.Perm fq):Rel K G H es vs fq:=
 ⟨r,h.nodup_iff.mp nd,fun p hp=>gn p (h.mem_iff.mpr hp),gh⟩
theorem Rel.frame{r:R}{v:V}{es:Env}{vs:List (Option V)}{fp:List Addr}(q:Rel K G H (some r::es) (some v::vs) fp):
  ∃a b,fp=a++b/\RepO K G H r.1 r.2 v a/\Rel K G H es vs b/\∀(G' H':Hp) (KO:Env) (LZ:List (Option V)) (b':List Addr),Step G H b G' H' b'->Rel K G' H' KO LZ b'->
   Rel K G' H' (some r::KO) (some v::LZ) (a++b')/\Step G H (a++b) G' H' (a++b'):=by
 obtain⟨y,ys,e,v',a,b,e1,e2,r1,r2⟩:=q.rep;cases e;cases e1;subst e2;have nd:=Qq.mp q.nd;refine⟨a,b,rfl,r1,⟨r2,nd.2.1,fun p hp=>q.gn p (PB _ hp),q.gh⟩,fun G' H' KO LZ b' st k=>?_⟩;have nb:∀p∈a,p∉b:=fun p hp hb=>nd.2.2 p hp p hb rfl
 have same:∀p∈a,H' p=H p:=fun p hp=>by
  obtain⟨u,hu⟩:=r1.live p hp;rw[hu];exact st.keep p u hu (nb p hp)
 refine⟨⟨⟨some v,LZ,rfl,v,a,b',rfl,rfl,r1.step st.gg same,k.rep⟩,?_,fun p hp=>?_,k.gh⟩,st.wide (fun p hp=>PB _ hp) fun p hp=>?_⟩
 ·rw[Qq];refine⟨nd.1,k.nd,fun p hp z hz e=>?_⟩;subst e;obtain⟨u,hu⟩:=r1.live p hp;rcases st.fpn p hz with z|z
  ·exact nb p hp z
  ·rw[z]at hu;cases hu
 ·rcases Qd.mp hp with hp|hp
  ·cases e:G' p with
   |none=>rfl
   |some u=>
    exfalso;obtain⟨u',hu⟩:=r1.live p hp;rcases st.gnew p u e with z|z|z|⟨t,z⟩
    ·rw[q.gn p (P0 _ hp)]at z;cases z
    ·exact nb p hp z
    ·rw[z]at hu;cases hu
    ·obtain⟨u2,h2,hm⟩:=r1.mut p hp;rw[z]at h2;cases h2;cases u with
     |tup _=>cases hm
     |frz _ _=>cases hm
     |_=>cases t
  ·exact k.gn p hp
 ·rcases Qd.mp hp with hp|hp
  ·exact .inr (P0 _ hp)
  ·exact .inl hp
theorem Rel.freeze{r:R}{v:V}{es:Env}{vs:List (Option V)}{fp:List Addr}(q:Rel K G H (some r::es) (some v::vs) fp):
  ∃G' b,Rep K G' r.2 v/\Rel K G' H es vs b/\Step G H fp G' H b:=by
 obtain⟨y,ys,e,v',a,b,e1,e2,r1,r2⟩:=q.rep;cases e;cases e1;subst e2;have nd:=Qq.mp q.nd;have nb:∀p∈a,p∉b:=fun p hp hb=>nd.2.2 p hp p hb rfl
 have hg:Same G (fun p=>if p∈a then H p else G p):=fun p u e=>by
  show(if p∈a then H p else G p)=some u;by_cases hp:p∈a
  ·rw[PF hp];exact q.gh p u e
  ·rw[PM hp];exact e
 refine⟨fun p=>if p∈a then H p else G p,b,r1.frozen hg fun p hp u e=>?_,⟨r2.step hg fun _ _=>rfl,nd.2.1,fun p hp=>?_,fun p u e=>?_⟩,⟨hg,fun _ _ e _=>e,fun p hp=>.inl (PB _ hp),fun p u e=>?_,fun _ u e=>⟨u,e⟩⟩⟩
 ·show(if p∈a then H p else G p)=some u;rw[PF hp];exact e
 ·show(if p∈a then H p else G p)=none;rw[PM (fun z=>nb p z hp)];exact q.gn p (PB _ hp)
 ·have e:(if p∈a then H p else G p)=some u:=e;by_cases hp:p∈a
  ·rw[PF hp]at e;exact e
  ·rw[PM hp]at e;exact q.gh p u e
 ·have e:(if p∈a then H p else G p)=some u:=e;by_cases hp:p∈a
  ·exact .inr (.inl (P0 _ hp))
  ·rw[PM hp]at e;exact .inl e
end
section
variable{K:W.Frag}{G G' H H':Hp}{es:Env}{vs:List (Option V)}{fp:List Addr}
theorem oj:∀{ds:List D}{xs:List V}{fp:List Addr},AllO (RepO K G H .f) ds xs fp<->Reps K G ds xs/\fp=[]
 |[],xs,fp=>by simp only[AllO,Reps]
 |d::ds,xs,fp=>by
  simp only[AllO,Reps,RepO];constructor
  ·rintro⟨y,ys,a,b,e1,e2,⟨r,e3⟩,q⟩;obtain⟨q1,q2⟩:=oj.mp q;subst e3;subst q2;exact⟨⟨y,ys,e1,r,q1⟩,e2⟩
  ·rintro⟨⟨y,ys,e1,r,q1⟩,e⟩;exact⟨y,ys,[],[],e1,e,⟨r,rfl⟩,oj.mpr ⟨q1,rfl⟩⟩
theorem iE{d:D}{v:V}{a:List Addr}:RepO K G H .f d v a<->Rep K G d v/\a=[]:=by simp only[RepO]
theorem jW{ds:List D}{v:V}{a:List Addr}:RepO K G H (.l .f) (.lst ds) v a<->∃p xs,v=.ref p/\H p=some (.lst xs)/\a=[p]/\Reps K G ds xs:=by
 rw[RepO];constructor
 ·rintro⟨p,xs,b,e,q,e2,r⟩;obtain⟨r',eb⟩:=oj.mp r;subst eb;exact⟨p,xs,e,q,e2,r'⟩
 ·rintro⟨p,xs,e,q,e2,r⟩;exact⟨p,xs,[],e,q,e2,oj.mpr ⟨r,rfl⟩⟩
theorem Reps.length:∀{ds:List D}{xs:List V},Reps K G ds xs->xs.length=ds.length
 |[],xs,r=>by simp only[Reps]at r;rw[r];rfl
 |d::ds,xs,r=>by
  simp only[Reps]at r;obtain⟨y,ys,e,_,q⟩:=r;rw[e,PD,PD,Reps.length q]
theorem Reps.get:∀{ds:List D}{xs:List V}{i:Nat}{d:D},Reps K G ds xs->ds[i]?=some d->∃v,xs[i]?=some v/\Rep K G d v
 |[],_,_,_,_,e=>by simp at e
 |d'::ds,xs,0,d,r,e=>by
  simp only[Reps]at r;obtain⟨y,ys,e1,q,_⟩:=r;simp at e;subst e;exact⟨y,by rw[e1];rfl,q⟩
 |d'::ds,xs,i+1,d,r,e=>by
  simp only[Reps]at r;obtain⟨y,ys,e1,_,q⟩:=r;obtain⟨v,a,b⟩:=Reps.get q (i:=i) (d:=d) (by simpa using e);exact⟨v,by rw[e1];simpa using a,b⟩
theorem Reps.getV:∀{ds:List D}{xs:List V}{i:Nat}{v:V},Reps K G ds xs->xs[i]?=some v->∃d,ds[i]?=some d/\Rep K G d v:=fun{ds xs i v} r e=>by
 have hl:=r.length;have hi:i<ds.length:=by have:=(List.getElem?_eq_some_iff.mp e).1;lia
 obtain⟨v',h1,h2⟩:=r.get (List.getElem?_eq_getElem hi);rw[e]at h1;cases h1;exact⟨_,List.getElem?_eq_getElem hi,h2⟩
theorem Reps.app:∀{ds es:List D}{xs ys:List V},Reps K G ds xs->Reps K G es ys->Reps K G (ds++es) (xs++ys)
 |[],_,_,_,r,q=>by simp only[Reps]at r;rw[r];exact q
 |d::ds,es,xs,ys,r,q=>by
  simp only[Reps]at r;obtain⟨z,zs,e,r1,r2⟩:=r;rw[e];simp only[Ts,Reps];exact⟨z,_,rfl,r1,r2.app q⟩
theorem Reps.one{d:D}{v:V}(r:Rep K G d v):Reps K G [d] [v]:=by
 simp only[Reps];exact⟨v,[],rfl,r,rfl⟩
theorem Reps.nil:Reps K G [] []:=by simp only[Reps]
theorem Reps.cons{d:D}{v:V}{ds:List D}{xs:List V}(r:Rep K G d v)(q:Reps K G ds xs):Reps K G (d::ds) (v::xs):=by
 simp only[Reps];exact⟨v,xs,rfl,r,q⟩
theorem Reps.cons_iff{d:D}{v:V}{ds:List D}{xs:List V}:Reps K G (d::ds) (v::xs)<->Rep K G d v/\Reps K G ds xs:=by
 simp only[Reps];constructor
 ·rintro⟨y,ys,e,r,q⟩;cases e;exact⟨r,q⟩
 ·rintro⟨r,q⟩;exact⟨v,xs,rfl,r,q⟩
theorem Reps.take:∀{ds:List D}{xs:List V}(n:Nat),Reps K G ds xs->Reps K G (ds.take n) (xs.take n)
 |_,_,0,_=>by rw[List.take_zero,List.take_zero];exact Reps.nil
 |[],xs,n+1,r=>by simp only[Reps]at r;rw[r];exact Reps.nil
 |d::ds,xs,n+1,r=>by
  simp only[Reps]at r;obtain⟨y,ys,e,r1,r2⟩:=r;rw[e,Uk,Uk];exact .cons r1 (r2.take n)
theorem Reps.drop:∀{ds:List D}{xs:List V}(n:Nat),Reps K G ds xs->Reps K G (ds.drop n) (xs.drop n)
 |_,_,0,r=>r
 |[],xs,n+1,r=>by simp only[Reps]at r;rw[r];exact Reps.nil
 |d::ds,xs,n+1,r=>by
  simp only[Reps]at r;obtain⟨y,ys,e,r1,r2⟩:=r;rw[e,Ul,Ul];exact r2.drop n
theorem Reps.set:∀{ds:List D}{xs:List V}(n:Nat) {d:D}{v:V},Reps K G ds xs->Rep K G d v->Reps K G (ds.set n d) (xs.set n v)
 |[],xs,n,d,v,r,q=>by simp only[Reps]at r;rw[r];exact Reps.nil
 |d'::ds,xs,0,d,v,r,q=>by
  simp only[Reps]at r;obtain⟨y,ys,e,r1,r2⟩:=r;rw[e];exact .cons q r2
 |d'::ds,xs,n+1,d,v,r,q=>by
  simp only[Reps]at r;obtain⟨y,ys,e,r1,r2⟩:=r;rw[e];exact .cons r1 (r2.set n q)
theorem Step.cut{fq:List Addr}(h:∀q∈fq,q∈fp):Step G H fp G H fq:=⟨.refl _,fun _ _ e _=>e,fun q hq=>.inl (h q hq),fun _ _ e=>.inl e,fun _ u e=>⟨u,e⟩⟩
theorem Rel.drop{r:R}{y:Option V}(q:Rel K G H (some r::es) (y::vs) fp):∃b,Rel K G H es vs b/\Step G H fp G H b:=by
 obtain⟨y,ys,e,v',a,b,e1,e2,r1,r2⟩:=q.rep;cases e;cases e1;subst e2;have nd:=Qq.mp q.nd;exact⟨b,⟨r2,nd.2.1,fun p hp=>q.gn p (PB _ hp),q.gh⟩,Step.cut fun p hp=>PB _ hp⟩
theorem Rel.top{r:R}{v:V}(q:Rel K G H (some r::es) (some v::vs) fp):Rep K H r.2 v:=by
 obtain⟨y,ys,e,v',a,b,e1,e2,r1,r2⟩:=q.rep;cases e;cases e1;exact r1.frozen q.gh fun p hp u e=>e
theorem Rel.out{i:Nat}{r:R}(q:Rel K G H es vs fp)(e:es[i]?=some (some r)):∃v fq,vs[i]?=some (some v)/\Rel K G H (some r::es.set i none) (some v::vs) fq/\Step G H fp G H fq/\Step G H fq G H fp:=by
 obtain⟨v,a,b,e1,r1,r2,pm⟩:=q.rep.take e;exact⟨v,a++b,e1,Rel.perm ⟨some v,vs,rfl,v,a,b,rfl,rfl,r1,r2⟩ q.nd q.gn q.gh pm,Step.cut fun p hp=>pm.mem_iff.mpr hp,Step.cut fun p hp=>pm.mem_iff.mp hp⟩
theorem Rel.view{i:Nat}{r:R}(q:Rel K G H es vs fp)(e:es[i]?=some (some r)):∃v,vs[i]?=some (some v)/\Rep K H r.2 v:=by
 obtain⟨v,fq,e1,r1,_⟩:=q.out e;exact⟨v,e1,r1.top⟩
theorem jX{α:Type}{l:List α}{i:Nat}{x:α}(h:l[i]?=some x):l.set i x=l:=by
 apply RU;intro j;by_cases e:i=j
 ·subst e;rw[List.getElem?_set_self (List.getElem?_eq_some_iff.mp h).1,h]
 ·rw[List.getElem?_set_ne e]
theorem Rel.store{i:Nat}{r:R}{v:V}(q:Rel K G H (some r::es) (some v::vs) fp)(hi:i<es.length):∃fq,Rel K G H (es.set i (some r)) (vs.set i (some v)) fq/\Step G H fp G H fq:=by
 obtain⟨y,ys,e,v',a,b,e1,e2,r1,r2⟩:=q.rep;cases e;cases e1;subst e2;obtain⟨c,hc⟩:∃c,es[i]?=some c:=⟨_,List.getElem?_eq_getElem hi⟩
 have nd:=Qq.mp q.nd;have key:∃b',RepE K G H (es.set i none) vs b'/\(∀p∈b',p∈b)/\b'.Nodup:=by
  cases c with
  |none=>exact⟨b,by rw[jX hc];exact r2,fun _ h=>h,nd.2.1⟩
  |some r'=>
   obtain⟨v2,a2,b2,_,_,g,pm⟩:=r2.take hc;refine⟨b2,g,fun p hp=>pm.mem_iff.mpr (PB _ hp),?_⟩;exact(Qq.mp (pm.nodup_iff.mp nd.2.1)).2.1
 obtain⟨b',g,sub,ndb⟩:=key;obtain⟨fq,g2,pm⟩:=g.put (i:=i) (r:=r) (v:=v) (by rw[List.getElem?_set_self hi]) r1;rw[T5]at g2;have MJ:(a++b').Nodup:=by
  rw[Qq];exact⟨nd.1,ndb,fun p hp z hz=>nd.2.2 p hp z (sub z hz)⟩
 refine⟨fq,Rel.perm g2 MJ (fun p hp=>?_) q.gh pm.symm,Step.cut fun p hp=>?_⟩
 ·refine q.gn p ?_;rcases Qd.mp hp with hp|hp
  ·exact P0 _ hp
  ·exact PB _ (sub p hp)
 ·rcases Qd.mp (pm.mem_iff.mp hp) with hp|hp
  ·exact P0 _ hp
  ·exact PB _ (sub p hp)
theorem Rel.back{i:Nat}{r:R}{v:V}(q:Rel K G H (some r::es) (some v::vs) fp)(hi:i<es.length)(hv:vs[i]?=some (some v)):∃fq,Rel K G H (es.set i (some r)) vs fq/\Step G H fp G H fq:=by
 obtain⟨fq,g,st⟩:=q.store hi;rw[jX hv]at g;exact⟨fq,g,st⟩
theorem Rel.freezeAt{i:Nat}{r:R}(q:Rel K G H es vs fp)(e:es[i]?=some (some r)):∃v G' fq,vs[i]?=some (some v)/\Rep K G' r.2 v/\Rel K G' H (es.set i (some (.f,r.2))) vs fq/\Step G H fp G' H fq:=by
 obtain⟨v,fq,ev,g,st,_⟩:=q.out e;obtain⟨G',b,rv,g2,Ez⟩:=g.freeze;have g3:Rel K G' H (some (.f,r.2)::es.set i none) (some v::vs) b:=by
  refine⟨⟨some v,vs,rfl,v,[],b,rfl,rfl,?_,g2.rep⟩,g2.nd,g2.gn,g2.gh⟩;exact iE.mpr ⟨rv,rfl⟩
 obtain⟨fz,g4,F7⟩:=g3.back (i:=i) (by rw[Sf];exact(List.getElem?_eq_some_iff.mp e).1) ev;rw[T5]at g4;exact⟨v,G',fz,ev,rv,g4,st.trans (Ez.trans F7)⟩
theorem Rel.push{d:D}{v:V}(q:Rel K G H es vs fp)(r:Rep K G d v):Rel K G H (some (.f,d)::es) (some v::vs) fp:=by
 refine⟨⟨some v,vs,rfl,v,[],fp,rfl,rfl,?_,q.rep⟩,q.nd,q.gn,q.gh⟩;exact iE.mpr ⟨r,rfl⟩
theorem Rel.newF{p:Addr}{u:HO}(q:Rel K G H es vs fp)(hp:H p=none):Rel K (upd G p u) (upd H p u) es vs fp/\Step G H fp (upd G p u) (upd H p u) fp:=by
 have gp:G p=none:=by
  cases e:G p with
  |none=>rfl
  |some o=>rw[q.gh p o e]at hp;cases hp
 have np:p∉fp:=fun z=>by
  obtain⟨u,e⟩:=q.rep.live p z;rw[hp]at e;cases e
 have sg:Same G (upd G p u):=fun b o e=>by rw[aB (aN e gp)];exact e
 have sh:Same H (upd H p u):=fun b o e=>by rw[aB (aN e hp)];exact e
 refine⟨⟨q.rep.step sg fun z hz=>aB fun e=>np (e▸hz),q.nd,fun z hz=>?_,fun b o e=>?_⟩,⟨sg,fun b o e _=>sh b o e,fun _ h=>.inl h,fun b o e=>?_,fun b o e=>⟨o,sh b o e⟩⟩⟩
 ·have:z≠p:=fun e=>np (e▸hz)
  rw[aB this];exact q.gn z hz
 ·by_cases hb:b=p
  ·subst hb;rw[br]at e ⊢;exact e
  ·rw[aB hb]at e ⊢;exact q.gh b o e
 ·by_cases hb:b=p
  ·subst hb;exact .inr (.inr (.inl hp))
  ·rw[aB hb]at e;exact .inl e
theorem Rel.newL{p:Addr}{ds:List D}{xs:List V}(q:Rel K G H es vs fp)(hp:H p=none)(r:Reps K G ds xs):
  Rel K G (upd H p (.lst xs)) (some (.l .f,.lst ds)::es) (some (.ref p)::vs) (p::fp)/\Step G H fp G (upd H p (.lst xs)) (p::fp):=by
 have gp:G p=none:=by
  cases e:G p with
  |none=>rfl
  |some o=>rw[q.gh p o e]at hp;cases hp
 have np:p∉fp:=fun z=>by
  obtain⟨u,e⟩:=q.rep.live p z;rw[hp]at e;cases e
 have sh:Same H (upd H p (.lst xs)):=fun b o e=>by rw[aB (aN e hp)];exact e
 refine⟨⟨⟨some (.ref p),vs,rfl,.ref p,[p],fp,rfl,rfl,jW.mpr ⟨p,xs,rfl,br,rfl,r⟩,q.rep.step (.refl _) fun z hz=>aB fun e=>np (e▸hz)⟩,Qo.mpr ⟨np,q.nd⟩,fun z hz=>?_,fun b o e=>?_⟩,
  ⟨.refl _,fun b o e _=>sh b o e,fun b hb=>?_,fun b o e=>.inl e,fun b o e=>⟨o,sh b o e⟩⟩⟩
 ·rcases PJ.mp hz with rfl|hz
  ·exact gp
  ·exact q.gn z hz
 ·exact sh b o (q.gh b o e)
 ·rcases PJ.mp hb with rfl|hb
  ·exact .inr hp
  ·exact .inl hb
theorem Rel.chg{i:Nat}{ds ds':List D}(q:Rel K G H es vs fp)(e:es[i]?=some (some (.l .f,.lst ds))):∃p xs,vs[i]?=some (some (.ref p))/\H p=some (.lst xs)/\Reps K G ds xs/\
  ∀FU,Reps K G ds' FU->∃fq,Rel K G (upd H p (.lst FU)) (es.set i (some (.l .f,.lst ds'))) vs fq/\Step G H fp G (upd H p (.lst FU)) fq:=by
 obtain⟨v,fq,ev,g,st,Hc⟩:=q.out e;obtain⟨y,ys,e0,v',a,b,e1,e2,r1,r2⟩:=g.rep;cases e0;cases e1;obtain⟨p,xs,e3,hp,e4,rs⟩:=jW.mp r1;subst e3;subst e4;subst e2;have nd:=Qo.mp (show(p::b).Nodup from g.nd);refine⟨p,xs,ev,hp,rs,fun FU Gs=>?_⟩;have g2:Rel K G (upd H p (.lst FU)) (some (.l .f,.lst ds')::es.set i none) (some (.ref p)::vs) (p::b):=by
  refine⟨⟨some (.ref p),vs,rfl,.ref p,[p],b,rfl,rfl,jW.mpr ⟨p,FU,rfl,br,rfl,Gs⟩,r2.step (.refl _) fun z hz=>aB fun e=>nd.1 (e▸hz)⟩,g.nd,g.gn,fun z o ez=>?_⟩;have:z≠p:=fun w=>by
   subst w;rw[g.gn z Pq]at ez;cases ez
  rw[aB this];exact g.gh z o ez
 have Oj:Step G H (p::b) G (upd H p (.lst FU)) (p::b):=by
  refine⟨.refl _,fun z o ez nz=>?_,fun z hz=>.inl hz,fun z o ez=>.inl ez,fun z o ez=>?_⟩
  ·have:z≠p:=fun w=>nz (by rw[w];exact Pq)
   rw[aB this];exact ez
  ·by_cases w:z=p
   ·subst w;exact⟨_,br⟩
   ·exact⟨o,by rw[aB w];exact ez⟩
 obtain⟨fz,g3,E2⟩:=g2.back (i:=i) (by rw[Sf];exact(List.getElem?_eq_some_iff.mp e).1) ev;rw[T5]at g3;exact⟨fz,g3,st.trans (Oj.trans E2)⟩
end
mutual
noncomputable def cX:D->Bool
 | .tup ds=>flatDs ds
 | .lst _=>false
 | .dct _ _ _=>false
 |_=>true
noncomputable def flatDs:List D->Bool
 |[]=>true
 |d::ds=>cX d&&flatDs ds
end
mutual
noncomputable def bW:O->D->Bool
 | .f,d=>cX d
 | .l c,.lst ds=>ds.all (bW c)
 | .t cs,.tup ds=>om cs ds
 | .d,.dct _ _ vs=>flatDs vs
 | .pin _ c,d=>bW c d
 |_,_=>false
noncomputable def om:List O->List D->Bool
 |[],[]=>true
 |c::cs,d::ds=>bW c d&&om cs ds
 |_,_=>false
end
def frz:Option R->Option R:=Option.map fun r=>(.f,r.2)
theorem cK:∀ds,flatDs ds=ds.all cX
 |[]=>rfl
 |d::ds=>by rw[flatDs,SI,cK ds]
section
variable{K:W.Frag}{G G' G2 G3 H H' H2:Hp}{es:Env}{vs:List (Option V)}{fp:List Addr}
mutual
theorem Rep.flat(h:∀p u,isT u=true->G2 p=some u->G3 p=some u):∀{d:D}{v:V},cX d=true->Rep K G2 d v->Rep K G3 d v
 | .non,_,_,r=>by simpa only[Rep] using r
 | .bl _,_,_,r=>by simpa only[Rep] using r
 | .int _,_,_,r=>by simpa only[Rep] using r
 | .str _,_,_,r=>by simpa only[Rep] using r
 | .tup ds,_,e,r=>by
  simp only[Rep]at r ⊢;simp only[cX]at e;obtain⟨p,xs,ev,q,rs⟩:=r;exact⟨p,xs,ev,h _ _ rfl q,Reps.flat h e rs⟩
 | .lst ds,_,e,r=>by simp only[cX]at e;cases e
 | .dct _ _ _,_,e,r=>by simp only[cX]at e;cases e
theorem Reps.flat(h:∀p u,isT u=true->G2 p=some u->G3 p=some u):∀{ds:List D}{xs:List V},flatDs ds=true->Reps K G2 ds xs->Reps K G3 ds xs
 |[],_,_,r=>by simpa only[Reps] using r
 |d::ds,_,e,r=>by
  simp only[Reps]at r ⊢;simp only[flatDs,PL]at e;obtain⟨y,ys,ev,r1,r2⟩:=r;exact⟨y,ys,ev,Rep.flat h e.1 r1,Reps.flat h e.2 r2⟩
end
theorem AllO.clean{P P':D->V->List Addr->Prop}{c:D->Bool}:∀{ds:List D}{xs:List V}{fp:List Addr},(∀d v a,c d=true->P d v a->P' d v a)->ds.all c=true->AllO P ds xs fp->AllO P' ds xs fp
 |[],_,_,_,_,r=>r
 |d::ds,xs,fp,h,e,r=>by
  obtain⟨y,ys,a,b,e1,e2,p,q⟩:=r;rw[SI,PL]at e;exact⟨y,ys,a,b,e1,e2,h _ _ _ e.1 p,AllO.clean h e.2 q⟩
mutual
theorem RepO.clean(h:∀p u,isT u=true->G2 p=some u->G3 p=some u):∀{o:O}{d:D}{v:V}{fp:List Addr},bW o d=true->RepO K G2 H o d v fp->RepO K G3 H o d v fp
 | .f,d,v,fp,e,r=>by
  simp only[RepO]at r ⊢;simp only[bW]at e;exact⟨r.1.flat h e,r.2⟩
 | .pin p c,d,v,fp,e,r=>by
  simp only[RepO]at r ⊢;simp only[bW]at e;exact⟨r.1,RepO.clean h e r.2⟩
 | .l c,.lst ds,v,fp,e,r=>by
  rw[RepO]at r ⊢;rw[bW]at e;obtain⟨p,xs,Eu,ev,q,e2,a⟩:=r;exact⟨p,xs,Eu,ev,q,e2,AllO.clean (fun d v a=>RepO.clean h) e a⟩
 | .t cs,.tup ds,v,fp,e,r=>by
  rw[RepO]at r ⊢;rw[bW]at e;obtain⟨p,xs,ev,q,a⟩:=r;exact⟨p,xs,ev,h _ _ rfl q,RepT.clean h e a⟩
 | .d,.dct tk ks vs,v,fp,e,r=>by
  rw[RepO]at r ⊢;rw[bW]at e;obtain⟨p,xs,o,ev,q,dd,e2,rs⟩:=r;exact⟨p,xs,o,ev,q,dd,e2,rs.flat h e⟩
 | .l _,.non,_,_,_,r | .l _,.bl _,_,_,_,r | .l _,.int _,_,_,_,r | .l _,.str _,_,_,_,r | .l _,.tup _,_,_,_,r | .l _,.dct _ _ _,_,_,_,r=>by simp only[RepO]at r
 | .t _,.non,_,_,_,r | .t _,.bl _,_,_,_,r | .t _,.int _,_,_,_,r | .t _,.str _,_,_,_,r | .t _,.lst _,_,_,_,r | .t _,.dct _ _ _,_,_,_,r=>by simp only[RepO]at r
 | .d,.non,_,_,_,r | .d,.bl _,_,_,_,r | .d,.int _,_,_,_,r | .d,.str _,_,_,_,r | .d,.tup _,_,_,_,r | .d,.lst _,_,_,_,r=>by simp only[RepO]at r
theorem RepT.clean(h:∀p u,isT u=true->G2 p=some u->G3 p=some u):∀{cs:List O}{ds:List D}{xs:List V}{fp:List Addr},om cs ds=true->RepT K G2 H cs ds xs fp->RepT K G3 H cs ds xs fp
 |[],[],_,_,_,r=>by simpa only[RepT] using r
 |c::cs,d::ds,xs,fp,e,r=>by
  rw[RepT]at r ⊢;rw[om,PL]at e;obtain⟨y,ys,a,b,e1,e2,r1,r2⟩:=r;exact⟨y,ys,a,b,e1,e2,RepO.clean h e.1 r1,RepT.clean h e.2 r2⟩
 |[],_::_,_,_,_,r=>by simp only[RepT]at r
 |_::_,[],_,_,_,r=>by simp only[RepT]at r
end
theorem RepE.frz(h:Same G G'):∀{es:Env}{vs:List (Option V)}{fp:List Addr},(∀p∈fp,∀u,H p=some u->G' p=some u)->RepE K G H es vs fp->RepE K G' H' (es.map PV.frz) vs []
 |[],_,_,_,r=>⟨r.1,rfl⟩
 |none::es,vs,fp,hk,r=>by
  obtain⟨y,ys,e,r⟩:=r;exact⟨y,ys,e,RepE.frz h hk r⟩
 |some r::es,vs,fp,hk,q=>by
  obtain⟨y,ys,e,v,a,b,e1,e2,r1,r2⟩:=q;subst e2;exact⟨y,ys,e,v,[],[],e1,rfl,iE.mpr ⟨r1.frozen h (fun p hp=>hk p (P0 _ hp)),rfl⟩,RepE.frz h (fun p hp=>hk p (PB _ hp)) r2⟩
theorem RepE.rep(h:Same G G'):∀{es:Env}{vs:List (Option V)}{fp:List Addr}{i:Nat}{r:R}{v:V},(∀p∈fp,∀u,H p=some u->G' p=some u)->RepE K G H es vs fp->es[i]?=some (some r)->vs[i]?=some (some v)->Rep K G' r.2 v:=fun{es vs fp i r v} hk q e ev=>by
 obtain⟨v',a,b,e1,r1,_,pm⟩:=q.take e;rw[ev]at e1;cases e1;exact r1.frozen h fun p hp=>hk p (pm.mem_iff.mpr (P0 _ hp))
theorem Rel.lend(q:Rel K G H es vs fp):∃G1,Same G G1/\Same G1 H/\(∀(i:Nat) (r:R) (v:V),es[i]?=some (some r)->vs[i]?=some (some v)->Rep K G1 r.2 v)/\
  RepE K G1 H (es.map PV.frz) vs []/\
  ∀(H2 G2:Hp) (E3:List Addr) (r:R) (v:V),Step G1 H [] G2 H2 E3->Rel K G2 H2 [some r] [some v] E3->
   (bW r.1 r.2=true->∃G3 He,Step G H fp G3 H2 He/\Rel K G3 H2 (some r::es) (some v::vs) He)/\
   ∃G3 He,Step G H fp G3 H2 He/\Rel K G3 H2 (some r::es.map PV.frz) (some v::vs) He:=by
 have hg:Same G (fun p=>if p∈fp then H p else G p):=fun p u e=>by
  show(if p∈fp then H p else G p)=some u;by_cases hp:p∈fp
  ·rw[PF hp];exact q.gh p u e
  ·rw[PM hp];exact e
 have hh:Same (fun p=>if p∈fp then H p else G p) H:=fun p u e=>by
  have e:(if p∈fp then H p else G p)=some u:=e;by_cases hp:p∈fp
  ·rw[PF hp]at e;exact e
  ·rw[PM hp]at e;exact q.gh p u e
 have hk:∀p∈fp,∀u,H p=some u->(fun p=>if p∈fp then H p else G p) p=some u:=fun p hp u e=>by
  show(if p∈fp then H p else G p)=some u;rw[PF hp];exact e
 refine⟨fun p=>if p∈fp then H p else G p,hg,hh,fun i r v e ev=>q.rep.rep hg hk e ev,q.rep.frz hg hk,fun H2 G2 E3 r v st k=>?_⟩;obtain⟨y,ys,e0,v',a,b,e1,e2,r1,r2⟩:=k.rep;cases e0;cases e1;obtain⟨_,e3⟩:=r2;subst e3;rw[P5]at e2;subst e2;have fresh:∀p∈E3,H p=none:=fun p hp=>by
  rcases st.fpn p hp with z|z
  ·cases z
  ·exact z
 have kept:∀p∈fp,H2 p=H p:=fun p hp=>by
  obtain⟨u,hu⟩:=q.rep.live p hp;rw[hu];exact st.keep p u hu (by simp)
 refine⟨fun cl=>?_,⟨G2,E3,⟨hg.trans st.gg,fun p u e n=>st.keep p u e (by simp),fun p hp=>.inr (fresh p hp),fun p u e=>?_,st.there⟩,?_⟩⟩
 ·have apart:∀p∈E3,p∉fp:=fun p hp hf=>by
   obtain⟨u,hu⟩:=q.rep.live p hf;rw[fresh p hp]at hu;cases hu
  have g3:Same G (fun p=>if p∈fp then none else G2 p):=fun p u e=>by
   show(if p∈fp then none else G2 p)=some u;rw[PM (fun z=>by rw[q.gn p z]at e;cases e)];exact st.gg p u (hg p u e)
  refine⟨fun p=>if p∈fp then none else G2 p,E3++fp,⟨g3,fun p u e n=>st.keep p u e (by simp),fun p hp=>?_,fun p u e=>?_,st.there⟩,⟨⟨some v,vs,rfl,v,E3,fp,rfl,rfl,r1.clean (fun p u t e=>?_) cl,q.rep.step g3 kept⟩,?_,fun p hp=>?_,fun p u e=>?_⟩⟩
  ·rcases Qd.mp hp with hp|hp
   ·exact .inr (fresh p hp)
   ·exact .inl hp
  ·have e:(if p∈fp then none else G2 p)=some u:=e;by_cases hp:p∈fp
   ·rw[PF hp]at e;cases e
   ·rw[PM hp]at e;rcases st.gnew p u e with z|z|z
    ·have z:(if p∈fp then H p else G p)=some u:=z;rw[PM hp]at z;exact .inl z
    ·cases z
    ·exact .inr (.inr z)
  ·show(if p∈fp then none else G2 p)=some u;by_cases hp:p∈fp
   ·exfalso;obtain⟨u',hu,hm⟩:=q.rep.mut p hp;have:=st.gg p u' (hk p hp u' hu);rw[e]at this;cases this;cases u with
    |lst _=>cases t
    |dK _=>cases t
    |dT _=>cases t
    |_=>cases hm
   ·rw[PM hp];exact e
  ·rw[Qq];exact⟨k.nd,q.nd,fun p hp z hz e=>apart p hp (e▸hz)⟩
  ·show(if p∈fp then none else G2 p)=none;by_cases hf:p∈fp
   ·rw[PF hf]
   ·rw[PM hf];rcases Qd.mp hp with hp|hp
    ·exact k.gn p hp
    ·exact absurd hp hf
  ·have e:(if p∈fp then none else G2 p)=some u:=e;by_cases hp:p∈fp
   ·rw[PF hp]at e;cases e
   ·rw[PM hp]at e;exact k.gh p u e
 ·rcases st.gnew p u e with z|z|z
  ·have z:(if p∈fp then H p else G p)=some u:=z;by_cases hp:p∈fp
   ·exact .inr (.inl hp)
   ·rw[PM hp]at z;exact .inl z
  ·cases z
  ·exact .inr (.inr z)
 ·refine⟨⟨some v,vs,rfl,v,E3,[],rfl,(P5 _).symm,r1,q.rep.frz (hg.trans st.gg) fun p hp u e=>st.gg p u (hk p hp u e)⟩,k.nd,k.gn,k.gh⟩
end
end PV
namespace PV
open PySem PySem.Spec PyProof.Rows L2 NX
def Res.bind{α β:Type}:Res α->(α->Res β)->Res β
 | .ok a,f=>f a
 | .exc c,_=>.exc c
 | .bad,_=>.bad
inductive BindOk{α β:Type}(x:Res α)(f:α->Res β)(b:β):Prop
 |mk (a:α) (h:x=.ok a) (k:f a=.ok b):BindOk x f b
theorem ag{α β:Type}{x:Res α}{f:α->Res β}{b:β}(h:x.bind f=.ok b):BindOk x f b:=by
 cases x with
 |ok a=>exact⟨a,rfl,h⟩
 |exc c=>cases h
 |bad=>cases h
inductive Opd where
 |val (d:D)|var (i:Nat)
def OpdOk(K:W.Frag)(G:Hp)(σ:L2.St):Opd->V->Prop
 | .val d,v=>Rep K G d v
 | .var i,v=>σ[i]?=some (some v)
theorem OpdOk.mono{K:W.Frag}{G G':Hp}{σ:L2.St}{o:Opd}{v:V}(h:Same G G')(r:OpdOk K G σ o v):OpdOk K G' σ o v:=by
 cases o with
 |val d=>exact Rep.mono h r
 |var i=>exact r
def lD(K:W.Frag)(G:Hp)(σ:L2.St):List Opd->List V->Prop
 |[],vs=>vs=[]
 |o::os,vs=>∃y ys,vs=y::ys/\OpdOk K G σ o y/\lD K G σ os ys
def vZ:O->Bool
 | .f=>true
 | .l .f=>true
 | .d=>true
 | .pin _ .f=>true
 | .pin _ (.l .f)=>true
 | .pin _ .d=>true
 |_=>false
def Fu(env:PV.Env):Opd->Res D
 | .val d=>.ok d
 | .var i=>match env[i]? with
  |some (some r)=>if vZ r.1 then .ok r.2 else .bad
  |_=>.bad
def pH(env:PV.Env):Opd->Res D
 | .val d=>.ok d
 | .var i=>match env[i]? with
  |some (some r)=>.ok r.2
  |_=>.bad
def oq(env:PV.Env):List Opd->Res (List D)
 |[]=>.ok []
 |o::os=>(Fu env o).bind fun d=>(oq env os).bind fun ds=>.ok (d::ds)
def jm(env:PV.Env):List Opd->Res (List D)
 |[]=>.ok []
 |o::os=>(pH env o).bind fun d=>(jm env os).bind fun ds=>.ok (d::ds)
def Vw(K:W.Frag)(G H:Hp):D->V->Prop
 | .lst ds,v=>∃p xs,v=.ref p/\SqL K H p xs/\Reps K G ds xs
 | .dct tk ks vs,v=>∃p xs o,v=.ref p/\Rd H p o/\DictO o tk ks xs/\Reps K G vs xs
 |d,v=>Rep K G d v
def L6(K:W.Frag)(G H:Hp):List D->List V->Prop
 |[],vs=>vs=[]
 |d::ds,vs=>∃y ys,vs=y::ys/\Vw K G H d y/\L6 K G H ds ys
section
variable{K:W.Frag}{G G' H H':Hp}{es:PV.Env}{σ:L2.St}{fp:List Addr}
theorem Vw.of{d:D}{v:V}(gh:Same G H)(r:Rep K G d v):Vw K G H d v:=by
 cases d with
 |lst ds=>
  rw[Rep]at r;obtain⟨p,xs,e,q,rs⟩:=r;exact⟨p,xs,e,eJ gh q,rs⟩
 |dct tk ks vs=>
  rw[Rep]at r;obtain⟨p,xs,o,e,q,dd,rs⟩:=r;exact⟨p,xs,o,e,PV.Rd.mono gh q,dd,rs⟩
 |_=>exact r
theorem Vw.rep{d:D}{v:V}(gh:Same G H)(r:Vw K G H d v):Rep K H d v:=by
 cases d with
 |lst ds=>
  obtain⟨p,xs,e,q,rs⟩:=r;rw[Rep];exact⟨p,xs,e,q,rs.mono gh⟩
 |dct tk ks vs=>
  obtain⟨p,xs,o,e,q,dd,rs⟩:=r;rw[Rep];exact⟨p,xs,o,e,q,dd,rs.mono gh⟩
 |non=>exact Rep.mono gh r
 |bl b=>exact Rep.mono gh r
 |int i=>exact Rep.mono gh r
 |str l=>exact Rep.mono gh r
 |tup ds=>exact Rep.mono gh r
theorem RepO.vw0{o:O}{d:D}{v:V}{a:List Addr}(gh:Same G H)(hs:o=.f\/o=.l .f\/o=.d)(r:RepO K G H o d v a):Vw K G H d v:=by
 rcases hs with rfl|rfl|rfl
 ·exact Vw.of gh (iE.mp r).1
 ·cases d with
  |lst ds=>
   obtain⟨p,xs,e,q,_,rs⟩:=jW.mp r;exact⟨p,xs,e,SqL.of q,rs⟩
  |_=>simp only[RepO]at r
 ·cases d with
  |dct tk ks vs=>
   rw[RepO]at r;obtain⟨p,xs,o,e,q,dd,_,rs⟩:=r;exact⟨p,xs,o,e,.inl q,dd,rs⟩
  |_=>simp only[RepO]at r
theorem RepO.vw{o:O}{d:D}{v:V}{a:List Addr}(gh:Same G H)(hs:vZ o=true)(r:RepO K G H o d v a):Vw K G H d v:=by
 unfold vZ at hs;split at hs
 ·exact r.vw0 gh (.inl rfl)
 ·exact r.vw0 gh (.inr (.inl rfl))
 ·exact r.vw0 gh (.inr (.inr rfl))
 ·rw[RepO]at r;exact r.2.vw0 gh (.inl rfl)
 ·rw[RepO]at r;exact r.2.vw0 gh (.inr (.inl rfl))
 ·rw[RepO]at r;exact r.2.vw0 gh (.inr (.inr rfl))
 ·cases hs
theorem Rel.vw{o:Opd}{v:V}{d:D}(q:Rel K G H es σ fp)(k:OpdOk K G σ o v)(e:Fu es o=.ok d):Vw K G H d v:=by
 cases o with
 |val d'=>
  cases e;exact Vw.of q.gh k
 |var i=>
  unfold Fu at e;dsimp only at e;split at e
  ·rename_i r hr;split at e
   ·rename_i hs;cases e;obtain⟨v',a,b,ev,r1,_⟩:=q.rep.take hr;have k:σ[i]?=some (some v):=k;rw[k]at ev;cases ev;exact r1.vw q.gh hs
   ·cases e
  ·cases e
theorem Rel.vwA{o:Opd}{v:V}{d:D}(q:Rel K G H es σ fp)(k:OpdOk K G σ o v)(e:pH es o=.ok d):Rep K H d v:=by
 cases o with
 |val d'=>
  cases e;exact Rep.mono q.gh k
 |var i=>
  unfold pH at e;dsimp only at e;split at e
  ·rename_i r hr;cases e;obtain⟨v',ev,r1⟩:=q.view hr;have k:σ[i]?=some (some v):=k;rw[k]at ev;cases ev;exact r1
  ·cases e
theorem Rel.vws(q:Rel K G H es σ fp):∀{os:List Opd}{vs:List V}{ds:List D},lD K G σ os vs->oq es os=.ok ds->L6 K G H ds vs
 |[],_,_,k,e=>by
  cases e;exact k
 |o::os,_,_,⟨y,ys,e0,k1,k2⟩,e=>by
  unfold oq at e;obtain⟨d,e1,e⟩:=ag e;obtain⟨ds,e2,e⟩:=ag e;cases e;exact⟨y,ys,e0,q.vw k1 e1,Rel.vws q k2 e2⟩
theorem iF{G1:Hp}(gg:Same G G1)(ht:∀(i:Nat) (r:R) (v:V),es[i]?=some (some r)->σ[i]?=some (some v)->Rep K G1 r.2 v):∀{os:List Opd}{vs:List V}{ds:List D},lD K G σ os vs->jm es os=.ok ds->Reps K G1 ds vs
 |[],_,_,k,e=>by
  cases e;have k:_=_:=k;rw[k];exact Reps.nil
 |o::os,_,_,⟨y,ys,e0,k1,k2⟩,e=>by
  unfold jm at e;obtain⟨d,e1,e⟩:=ag e;obtain⟨ds,e2,e⟩:=ag e;cases e;rw[e0];refine .cons ?_ (iF gg ht k2 e2);cases o with
  |val d'=>
   cases e1;exact Rep.mono gg k1
  |var i=>
   unfold pH at e1;dsimp only at e1;split at e1
   ·rename_i r hr;cases e1;exact ht i r y hr k1
   ·cases e1
end
abbrev FX:=PV.Env->Res (R×PV.Env)
abbrev FO:=PV.Env->Res (Opd×PV.Env)
abbrev Fj:=PV.Env->Res (List Opd×PV.Env)
abbrev FT:=PV.Env->Res (Bool×PV.Env)
inductive Out where
 |nx (env:PV.Env)|rt (r:R)|bk (env:PV.Env)|ct (env:PV.Env)
abbrev FS:=PV.Env->Res Out
inductive tQ(K:W.Frag)(f:FX)(σ:L2.St)(H:Hp)(Q:VK):Prop
 |mk:∀G env fp r env',Rel K G H env σ fp->f env=.ok (r,env')->(∀v H' G' Eu,Step G H fp G' H' Eu->Rel K G' H' (some r::env') (some v::σ) Eu->Q v H')->tQ K f σ H Q
inductive tO(K:W.Frag)(f:FO)(σ:L2.St)(H:Hp)(Q:VK):Prop
 |mk:∀G env fp o env',Rel K G H env σ fp->f env=.ok (o,env')->(∀v H' G' Eu,Step G H fp G' H' Eu->Rel K G' H' env' σ Eu->OpdOk K G' σ o v->Q v H')->tO K f σ H Q
inductive tOs(K:W.Frag)(f:Fj)(σ:L2.St)(H:Hp)(Q:List V->Hp->Prop):Prop
 |mk:∀G env fp o env',Rel K G H env σ fp->f env=.ok (o,env')->(∀v H' G' Eu,Step G H fp G' H' Eu->Rel K G' H' env' σ Eu->lD K G' σ o v->Q v H')->tOs K f σ H Q
inductive tQT(K:W.Frag)(f:FT)(σ:L2.St)(H:Hp)(Q:Bool->Hp->Prop):Prop
 |mk:∀G env fp b env',Rel K G H env σ fp->f env=.ok (b,env')->(∀H' G' Eu,Step G H fp G' H' Eu->Rel K G' H' env' σ Eu->Q b H')->tQT K f σ H Q
inductive Mode where
 |plain|mut
def DZ(md:Mode)(K:W.Frag)(G H:Hp)(r:R)(v:V)(fp:List Addr):Prop:=match md with
 | .plain=>Rel K G H [some r] [some v] fp
 | .mut=>∃o d p c d0,r=(.t [o,.pin p c],.tup [d,d0])/\Rel K G H [some (o,d),some (.pin p c,d0)] [some v,some (.ref p)] fp
noncomputable def OutOk{md:Mode}(K:W.Frag)(G H:Hp)(fp:List Addr)(Dd:Ends):Res Out->Prop
 | .ok (.nx env')=>∀σ' H' G' Eu,Step G H fp G' H' Eu->Rel K G' H' env' σ' Eu->Dd.nx σ' H'
 | .ok (.bk env')=>∀σ' H' G' Eu,Step G H fp G' H' Eu->Rel K G' H' env' σ' Eu->Dd.bk σ' H'
 | .ok (.ct env')=>∀σ' H' G' Eu,Step G H fp G' H' Eu->Rel K G' H' env' σ' Eu->Dd.ct σ' H'
 | .ok (.rt r)=>∀v H' G' Eu,Step G H fp G' H' Eu->DZ md K G' H' r v Eu->Dd.rt v H'
 |_=>False
inductive tQS{md:Mode}(K:W.Frag)(g:FS)(Dd:Ends)(σ:L2.St)(H:Hp):Prop
 |mk:∀G env fp,Rel K G H env σ fp->OutOk (md:=md) K G H fp Dd (g env)->tQS (md:=md) K g Dd σ H
def QE(X:Cx)(e:Expr)(f:FX):Prop:=PE X e (tQ X.K f)
def QO(X:Cx)(e:Expr)(f:FO):Prop:=PE X e (tO X.K f)
def Iv(X:Cx)(es:List Expr)(f:Fj):Prop:=PA X es (tOs X.K f)
def QT(X:Cx)(e:Expr)(f:FT):Prop:=PT X e (tQT X.K f)
def QW(X:Cx)(e:Expr)(f:FT):Prop:=PW X e (tQT X.K f)
def QS{md:Mode}(X:Cx)(st:Stmt)(g:FS):Prop:=PS X st (tQS (md:=md) X.K g)
def II{md:Mode}(X:Cx)(st:List Stmt)(g:FS):Prop:=PSs X st (tQS (md:=md) X.K g)
theorem bI{X:Cx}{e:Expr}{t t':TE}(h:PE X e t)(k:∀σ H Q,t' σ H Q->t σ H Q):PE X e t':=fun pi s σ H Q I w=>h pi s σ H Q I (k σ H Q w)
theorem lE{X:Cx}{e:Expr}{t t':TT}(h:PT X e t)(k:∀σ H Q,t' σ H Q->t σ H Q):PT X e t':=fun pi s σ H Q I w=>h pi s σ H Q I (k σ H Q w)
theorem v3{X:Cx}{e:Expr}{t t':TT}(h:PW X e t)(k:∀σ H Q,t' σ H Q->t σ H Q):PW X e t':=fun wh pi s σ H Q I w=>h wh pi s σ H Q I (k σ H Q w)
theorem ot{X:Cx}{e:List Expr}{t t':TA}(h:PA X e t)(k:∀σ H Q,t' σ H Q->t σ H Q):PA X e t':=fun pos pi s σ H Q I w=>h pos pi s σ H Q I (k σ H Q w)
theorem dH{X:Cx}{e:Stmt}{t t':TS}(h:PS X e t)(k:∀D σ H,t' D σ H->t D σ H):PS X e t':=fun pi s σ H D I w=>h pi s σ H D I (k D σ H w)
theorem rh{X:Cx}{e:List Stmt}{t t':TS}(h:PSs X e t)(k:∀D σ H,t' D σ H->t D σ H):PSs X e t':=fun pi s σ H D I w=>h pi s σ H D I (k D σ H w)
theorem OutOk.imp{md:Mode}{K:W.Frag}{G H G1 H1:Hp}{fp EL:List Addr}{Dd MK:Ends}{r:Res Out}(st:Step G H fp G1 H1 EL)(h:OutOk (md:=md) K G H fp Dd r)(n:∀σ H,Dd.nx σ H->MK.nx σ H)(b:∀σ H,Dd.bk σ H->MK.bk σ H)(c:∀σ H,Dd.ct σ H->MK.ct σ H)(t:∀v H,Dd.rt v H->MK.rt v H):OutOk (md:=md) K G1 H1 EL MK r:=by
 match r,h with
 | .ok (.nx env'),h=>exact fun σ' H' G' Eu s q=>n _ _ (h σ' H' G' Eu (st.trans s) q)
 | .ok (.bk env'),h=>exact fun σ' H' G' Eu s q=>b _ _ (h σ' H' G' Eu (st.trans s) q)
 | .ok (.ct env'),h=>exact fun σ' H' G' Eu s q=>c _ _ (h σ' H' G' Eu (st.trans s) q)
 | .ok (.rt r),h=>exact fun v H' G' Eu s q=>t _ _ (h v H' G' Eu (st.trans s) q)
theorem OutOk.after{md:Mode}{K:W.Frag}{G H G1 H1:Hp}{fp EL:List Addr}{Dd:Ends}{r:Res Out}(st:Step G H fp G1 H1 EL)(h:OutOk (md:=md) K G H fp Dd r):OutOk (md:=md) K G1 H1 EL Dd r:=h.imp st (fun _ _ z=>z) (fun _ _ z=>z) (fun _ _ z=>z) fun _ _ z=>z
def aD(d:D):FX:=fun env=>.ok ((.f,d),env)
def fz:O->O
 | .pin p .f=>.pin p .f
 |_=>.f
def bh(i:Nat):FX:=fun env=>match env[i]? with
 |some (some r)=>.ok ((.f,r.2),env.set i (some (fz r.1,r.2)))
 |_=>.bad
def rj(i:Nat):FX:=fun env=>match env[i]? with
 |some (some r)=>.ok (r,env.set i none)
 |_=>.bad
def aj(f:FX):FO:=fun env=>(f env).bind fun p=>.ok (.val p.1.2,p.2)
def av(i:Nat):FO:=fun env=>match env[i]? with
 |some (some _)=>.ok (.var i,env)
 |_=>.bad
def aE:Fj:=fun env=>.ok ([],env)
def ah(f:FO)(g:Fj):Fj:=fun env=>(f env).bind fun p=>(g p.2).bind fun q=>.ok (p.1::q.1,q.2)
section
variable{X:Cx}
theorem lF{e:Expr}{v:V}{d:D}(h:PE X e (tC v))(r:∀G,Rep X.K G d v):QE X e (aD d):=bI h fun σ H Q ED=>by
 obtain⟨G,env,fp,rr,env',rel,e,k⟩:=ED;cases e;exact k v H G fp .refl (rel.push (r G))
theorem aq{i j pos}:QE X (.Constant (.int i) j pos) (aD (.int i)):=lF y0 fun G=>by rw[Rep]
theorem jn{i j pos}:QE X (.Constant (.bool i) j pos) (aD (.bl i)):=lF BQ fun G=>by rw[Rep]
theorem lG{j pos}:QE X (.Constant .none j pos) (aD .non):=lF y1 fun G=>by rw[Rep]
theorem eY{x j pos}{l:List Nat}(h:x=S l)(hl:l.length<=1000):QE X (.Constant (.str x) j pos) (aD (.str l)):=lF y3 fun G=>by
 rw[Rep,h];exact⟨rfl,by rw[line_eq];lia⟩
theorem rk{x:Str}{p:Pos}{n:Int}(h:Gi X.mg x n)(hg:Gl X x)(hd:(x==("__debug__" : Str))=false:=by decide):QE X (.Name x p) (aD (.int n)):=lF (Cf h hg hd) fun G=>by rw[Rep]
theorem aI{i:Nat}{e:Expr}(h:PE X e (tY i)):QE X e (bh i):=bI h fun σ H Q ED=>by
 obtain⟨G,env,fp,rr,env',rel,e,k⟩:=ED;unfold bh at e;split at e
 ·rename_i r hr;cases e;by_cases hf:fz r.1=.f
  ·obtain⟨v,G',fq,ev,rv,ES,st⟩:=rel.freezeAt hr;rw[hf]at k;exact⟨v,ev,k v H G' fq st (ES.push rv)⟩
  ·have hp:∃p,r.1=.pin p .f:=by
    unfold fz at hf;split at hf
    ·rename_i p hp;exact⟨p,hp⟩
    ·exact absurd rfl hf
   obtain⟨p,hp⟩:=hp;obtain⟨v,a,b,ev,r1,_,_⟩:=rel.rep.take hr;rw[hp,RepO]at r1;have es:env.set i (some (fz r.1,r.2))=env:=by
    refine jX ?_;rw[hr,hp];show some (some r)=some (some (.pin p .f,r.2));rw[<-hp]
   rw[es]at k;exact⟨v,ev,k v H G fp .refl (rel.push (iE.mp r1.2).1)⟩
 ·cases e
theorem rm{i:Nat}{e:Expr}(h:PE X e (tY i)):QE X e (rj i):=bI h fun σ H Q ED=>by
 obtain⟨G,env,fp,rr,env',rel,e,k⟩:=ED;unfold rj at e;split at e
 ·rename_i r hr;cases e;obtain⟨v,fq,ev,ES,st,_⟩:=rel.out hr;exact⟨v,ev,k v H G fq st ES⟩
 ·cases e
theorem aa{e:Expr}{f:FX}(h:QE X e f):QO X e (aj f):=bI h fun σ H Q ED=>by
 obtain⟨G,env,fp,o,env',rel,e,k⟩:=ED;obtain⟨⟨r,Eo⟩,e1,e⟩:=ag e;cases e;refine⟨G,env,fp,r,Eo,rel,e1,fun v H' G' Eu st ES=>?_⟩;obtain⟨G2,b,rv,Ep,Ez⟩:=ES.freeze;exact k v H' G2 b (st.trans Ez) Ep rv
theorem ae{i:Nat}{e:Expr}(h:PE X e (tY i)):QO X e (av i):=bI h fun σ H Q ED=>by
 obtain⟨G,env,fp,o,env',rel,e,k⟩:=ED;unfold av at e;split at e
 ·rename_i r hr;cases e;obtain⟨v,ev,_⟩:=rel.view hr;exact⟨v,ev,k v H G fp .refl rel ev⟩
 ·cases e
theorem au:Iv X [] aE:=ot qm fun σ H Q ED=>by
 obtain⟨G,env,fp,o,env',rel,e,k⟩:=ED;cases e;exact k [] H G fp .refl rel rfl
theorem af{e:Expr}{es:List Expr}{f:FO}{g:Fj}(h:QO X e f)(hs:Iv X es g)(Jr:starEach (e::es) X.env=(false,eval e X.env)::starEach es X.env:=by rfl):Iv X (e::es) (ah f g):=
 ot (jH h hs Jr) fun σ H Q ED=>by
  obtain⟨G,env,fp,o,env',rel,e,k⟩:=ED;obtain⟨⟨o1,Eo⟩,e1,e⟩:=ag e;obtain⟨⟨os,Ey⟩,e2,e⟩:=ag e;cases e;exact⟨G,env,fp,o1,Eo,rel,e1,fun v H1 G1 EL EE Es FJ=>⟨G1,Eo,EL,os,Ey,Es,e2,fun vs H2 G2 E3 Ez Ep Ii=>k _ H2 G2 E3 (EE.trans Ez) Ep ⟨v,vs,rfl,FJ.mono Ez.gg,Ii⟩⟩⟩
def ay(g:D->D->Res R)(fa fb:FO):FX:=fun env=>(fa env).bind fun p=>(fb p.2).bind fun q=>(Fu q.2 p.1).bind fun a=>(Fu q.2 q.1).bind fun b=>(g a b).bind fun r=>.ok (r,q.2)
def cj(g:D->D->Res R)(fa fb:FO):FX:=fun env=>(fa env).bind fun p=>(fb p.2).bind fun q=>(pH q.2 p.1).bind fun a=>(pH q.2 q.1).bind fun b=>(g a b).bind fun r=>.ok (r,q.2)
structure Goes(K:W.Frag)(H:Hp)(G:Hp)(fp:List Addr)(es:PV.Env)(vs:L2.St)(r:R)(Q:VK):Prop where
 rel:Rel K G H es vs fp
 goes:∀v H' G' Eu,Step G H fp G' H' Eu->Rel K G' H' (some r::es) (some v::vs) Eu->Q v H'
inductive rG(K:W.Frag)(g:D->D->Res R)(x:V)(y:V)(H:Hp)(Q:VK):Prop
 |mk:∀G fp es vs a b r,Goes K H G fp es vs r Q->Vw K G H a x->Vw K G H b y->g a b=.ok r->rG K g x y H Q
inductive rGA(K:W.Frag)(g:D->D->Res R)(x:V)(y:V)(H:Hp)(Q:VK):Prop
 |mk:∀G fp es vs a b r,Goes K H G fp es vs r Q->Rep K H a x->Rep K H b y->g a b=.ok r->rGA K g x y H Q
variable{a b c:Expr}{fa fb fc:FO}{pos:Pos}{g g':D->D->Res R}
theorem ou{σ:L2.St}{H:Hp}{Q:VK}(h:tQ X.K (ay g fa fb) σ H Q):LP (rG X.K g) (tO X.K fa) (tO X.K fb) σ H Q:=by
 obtain⟨G,env,fp,r,env',rel,e,k⟩:=h;obtain⟨⟨oa,e1⟩,ha,e⟩:=ag e;obtain⟨⟨ob,e2⟩,hb,e⟩:=ag e;obtain⟨da,JR,e⟩:=ag e;obtain⟨db,Fl,e⟩:=ag e;obtain⟨r',hr,e⟩:=ag e;cases e;exact⟨G,env,fp,oa,e1,rel,ha,fun x H1 G1 EL EE Es FJ=>⟨G1,e1,EL,ob,e2,Es,hb,fun y H2 G2 E3 Ez Ep Ii=>
  ⟨G2,E3,e2,σ,da,db,r,⟨Ep,fun v H' G' Eu st ES=>k v H' G' Eu (EE.trans (Ez.trans st)) ES⟩,Ep.vw (FJ.mono Ez.gg) JR,Ep.vw Ii Fl,hr⟩⟩⟩
theorem rp{σ:L2.St}{H:Hp}{Q:VK}(h:tQ X.K (cj g fa fb) σ H Q):LP (rGA X.K g) (tO X.K fa) (tO X.K fb) σ H Q:=by
 obtain⟨G,env,fp,r,env',rel,e,k⟩:=h;obtain⟨⟨oa,e1⟩,ha,e⟩:=ag e;obtain⟨⟨ob,e2⟩,hb,e⟩:=ag e;obtain⟨da,JR,e⟩:=ag e;obtain⟨db,Fl,e⟩:=ag e;obtain⟨r',hr,e⟩:=ag e;cases e;exact⟨G,env,fp,oa,e1,rel,ha,fun x H1 G1 EL EE Es FJ=>⟨G1,e1,EL,ob,e2,Es,hb,fun y H2 G2 E3 Ez Ep Ii=>
  ⟨G2,E3,e2,σ,da,db,r,⟨Ep,fun v H' G' Eu st ES=>k v H' G' Eu (EE.trans (Ez.trans st)) ES⟩,Ep.vwA (FJ.mono Ez.gg) JR,Ep.vwA Ii Fl,hr⟩⟩⟩
theorem aW{op:Operator}(ho:EX X (binaryOp op) (rG X.K g))(ha:QO X a fa)(hb:QO X b fb):QE X (.BinOp a op b pos) (ay g fa fb):=bI (B2 ho ha hb) fun _ _ _=>ou
theorem v5{op:CmpOp}(ho:EX X (compareOp op) (rG X.K g))(ha:QO X a fa)(hb:QO X b fb)(hm:behindInMarks op b=false):QE X (.Compare a [op] [b] pos) (ay g fa fb):=bI (qk ho ha hb hm) fun _ _ _=>ou
theorem iG{op:CmpOp}(ho:EX X (compareOp op) (rGA X.K g))(ha:QO X a fa)(hb:QO X b fb)(hm:behindInMarks op b=false):QE X (.Compare a [op] [b] pos) (cj g fa fb):=bI (qk ho ha hb hm) fun _ _ _=>rp
def E7(f:FX):FT:=fun env=>(f env).bind fun p=>match p.1.2 with
 | .bl k=>.ok (k,p.2)
 |_=>.bad
theorem uR{f:FX}{σ:L2.St}{H:Hp}{Q:Bool->Hp->Prop}(h:tQT X.K (E7 f) σ H Q):tQ X.K f σ H fun x H'=>∃k,x=.bl k/\Q k H':=by
 obtain⟨G,env,fp,k,env',rel,e,q⟩:=h;obtain⟨⟨⟨o,d⟩,Eo⟩,e1,e⟩:=ag e;dsimp only at e;split at e
 ·cases e;refine⟨G,env,fp,_,_,rel,e1,fun v H' G' Eu st ES=>?_⟩;have hv:=ES.top;rw[show((o,D.bl k):R).2=D.bl k from rfl,Rep]at hv;obtain⟨b,Ep,Ez⟩:=ES.drop;exact⟨k,hv,q H' G' b (st.trans Ez) Ep⟩
 ·cases e
theorem jx{e:Expr}{f:FX}(h:QE X e f)(he:∀whole,isTrue e X.env whole=(do let v <-whole;standAt e.pos;holding [v] (truthy v)):=by intro _;rfl):QT X e (E7 f):=lE (y4 h he) fun _ _ _=>uR
theorem iH{op:CmpOp}(ho:EX X (compareOp op) (rG X.K g))(ha:QO X a fa)(hb:QO X b fb)(hm:behindInMarks op b=false):QT X (.Compare a [op] [b] pos) (E7 (ay g fa fb)):=
 lE (ql ho ha hb hm) fun _ _ _ h=>ou (uR h)
theorem bV{op:CmpOp}(ho:EX X (compareOp op) (rGA X.K g))(ha:QO X a fa)(hb:QO X b fb)(hm:behindInMarks op b=false):QT X (.Compare a [op] [b] pos) (E7 (cj g fa fb)):=
 lE (ql ho ha hb hm) fun _ _ _ h=>rp (uR h)
def BG(f g:FT):FT:=fun env=>(f env).bind fun p=>if p.1 then g p.2 else .ok (false,p.2)
def Iw(f g:FT):FT:=fun env=>(f env).bind fun p=>if p.1 then .ok (true,p.2) else g p.2
def ow(f:FT):FT:=fun env=>(f env).bind fun p=>.ok (!p.1,p.2)
variable{ga gb:FT}{bT:List Expr}
theorem xN(h:QT X a ga):QW X (.BoolOp .And [a] pos) ga:=wL h
theorem lH(h:QT X a ga):QW X (.BoolOp .Or [a] pos) ga:=y6 h
theorem Am(h:QT X a ga)(h2:QW X (.BoolOp .And (b::bT) pos) gb):QW X (.BoolOp .And (a::b::bT) pos) (BG ga gb):=v3 (y7 h h2) fun σ H Q ED=>by
 obtain⟨G,env,fp,k,env',rel,e,q⟩:=ED;obtain⟨⟨k1,Eo⟩,e1,e⟩:=ag e;refine⟨G,env,fp,k1,Eo,rel,e1,fun H1 G1 EL EE Es=>?_⟩;dsimp only at e;cases k1 with
 |true=>exact⟨G1,Eo,EL,k,env',Es,e,fun H2 G2 E3 Ez Ep=>q H2 G2 E3 (EE.trans Ez) Ep⟩
 |false=>
  cases e;exact q H1 G1 EL EE Es
theorem jY(h:QT X a ga)(h2:QW X (.BoolOp .Or (b::bT) pos) gb):QW X (.BoolOp .Or (a::b::bT) pos) (Iw ga gb):=v3 (BR h h2) fun σ H Q ED=>by
 obtain⟨G,env,fp,k,env',rel,e,q⟩:=ED;obtain⟨⟨k1,Eo⟩,e1,e⟩:=ag e;refine⟨G,env,fp,k1,Eo,rel,e1,fun H1 G1 EL EE Es=>?_⟩;dsimp only at e;cases k1 with
 |false=>exact⟨G1,Eo,EL,k,env',Es,e,fun H2 G2 E3 Ez Ep=>q H2 G2 E3 (EE.trans Ez) Ep⟩
 |true=>
  cases e;exact q H1 G1 EL EE Es
theorem QW.qt{e:Expr}{f:FT}(h:QW X e f):QT X e f:=h.pt
theorem gJ(h:QT X a ga):QT X (.UnaryOp .Not a pos) (ow ga):=lE (y8 h) fun σ H Q ED=>by
 obtain⟨G,env,fp,k,env',rel,e,q⟩:=ED;obtain⟨⟨k1,Eo⟩,e1,e⟩:=ag e;cases e;exact⟨G,env,fp,k1,Eo,rel,e1,fun H1 G1 EL EE Es=>q H1 G1 EL EE Es⟩
def An(f g:FX):FX:=fun env=>(f env).bind fun p=>match p.1.2 with
 | .bl true=>g p.2
 | .bl false=>.ok ((.f,.bl false),p.2)
 |_=>.bad
def eOr(f g:FX):FX:=fun env=>(f env).bind fun p=>match p.1.2 with
 | .bl true=>.ok ((.f,.bl true),p.2)
 | .bl false=>g p.2
 |_=>.bad
def Cs(f:FX):FX:=fun env=>(f env).bind fun p=>match p.1.2 with
 | .bl k=>.ok ((.f,.bl (!k)),p.2)
 |_=>.bad
def eIf(c:FT)(f g:FX):FX:=fun env=>(c env).bind fun p=>if p.1 then f p.2 else g p.2
variable{ea eb:FX}
theorem rq{op}(h:QE X a ea):QE X (.BoolOp op [a] pos) ea:=y9 h
theorem bJ{K:W.Frag}{G:Hp}(k:Bool):Rep K G (.bl k) (.bl k):=by rw[Rep]
theorem bu{K:W.Frag}{G:Hp}(k:Int):Rep K G (.int k) (.int k):=by rw[Rep]
theorem jZ{K:W.Frag}{G:Hp}:Rep K G .non .non:=by rw[Rep]
theorem fD{K:W.Frag}{G:Hp}{l:List Nat}(h:l.length<=sizeLine):Rep K G (.str l) (.str (S l)):=by
 rw[Rep];exact⟨rfl,h⟩
theorem bR{K:W.Frag}{G:Hp}{k:Bool}{v:V}(h:Rep K G (.bl k) v):v=.bl k:=by rw[Rep]at h;exact h
theorem a9{K:W.Frag}{G:Hp}{k:Int}{v:V}(h:Rep K G (.int k) v):v=.int k:=by rw[Rep]at h;exact h
theorem bL{K:W.Frag}{G:Hp}{v:V}(h:Rep K G .non v):v=.non:=by rw[Rep]at h;exact h
theorem aT{K:W.Frag}{G:Hp}{l:List Nat}{v:V}(h:Rep K G (.str l) v):v=.str (S l)/\l.length<=sizeLine:=by rw[Rep]at h;exact h
inductive OfT(K:W.Frag)(G:Hp)(l:List D)(v:V):Prop
 |mk (p:Addr) (xs:List V) (e:v=.ref p) (q:SqT K G p xs) (r:Reps K G l xs):OfT K G l v
inductive OfL(K:W.Frag)(G:Hp)(l:List D)(v:V):Prop
 |mk (p:Addr) (xs:List V) (e:v=.ref p) (q:SqL K G p xs) (r:Reps K G l xs):OfL K G l v
theorem aS{K:W.Frag}{G:Hp}{l:List D}{v:V}(h:Rep K G (.tup l) v):OfT K G l v:=by
 rw[Rep]at h;obtain⟨p,xs,e,q,r⟩:=h;exact⟨p,xs,e,SqT.of q,r⟩
theorem rA{K:W.Frag}{G:Hp}{l:List D}{v:V}(h:Rep K G (.tup l) v):∃p xs,v=.ref p/\G p=some (.tup xs)/\Reps K G l xs:=by rw[Rep]at h;exact h
theorem aX{K:W.Frag}{G:Hp}{l:List D}{v:V}(h:Rep K G (.lst l) v):OfL K G l v:=by
 rw[Rep]at h;obtain⟨p,xs,e,q,r⟩:=h;exact⟨p,xs,e,q,r⟩
theorem Cu{K:W.Frag}{G H:Hp}{k:Bool}{v:V}(h:Vw K G H (.bl k) v):v=.bl k:=bR (K:=K) (G:=G) h
theorem ba{K:W.Frag}{G H:Hp}{k:Int}{v:V}(h:Vw K G H (.int k) v):v=.int k:=a9 (K:=K) (G:=G) h
theorem cU{K:W.Frag}{G H:Hp}{l:List Nat}{v:V}(h:Vw K G H (.str l) v):v=.str (S l)/\l.length<=sizeLine:=aT (K:=K) (G:=G) h
theorem fT{K:W.Frag}{G H:Hp}{l:List D}{v:V}(h:Vw K G H (.tup l) v):OfT K G l v:=aS (K:=K) (G:=G) h
theorem rB(h:QE X a ea)(h2:QE X (.BoolOp .And (b::bT) pos) eb):QE X (.BoolOp .And (a::b::bT) pos) (An ea eb):=bI (za h h2) fun σ H Q ED=>by
 obtain⟨G,env,fp,r,env',rel,e,q⟩:=ED;obtain⟨⟨⟨o,d⟩,Eo⟩,e1,e⟩:=ag e;refine⟨G,env,fp,_,Eo,rel,e1,fun v H1 G1 EL EE Es=>?_⟩;have hv:=Es.top;obtain⟨b',Ep,Ez⟩:=Es.drop;dsimp only at e hv;split at e
 ·exact⟨true,bR hv,zP ⟨G1,Eo,b',r,env',Ep,e,fun v H2 G2 E3 E2 EY=>q v H2 G2 E3 (EE.trans (Ez.trans E2)) EY⟩⟩
 ·cases e;exact⟨false,bR hv,iteF (q _ H1 G1 b' (EE.trans Ez) (Ep.push (bJ _)))⟩
 ·cases e
theorem Ao(h:QE X a ea):QE X (.UnaryOp .Not a pos) (Cs ea):=bI (zb h) fun σ H Q ED=>by
 obtain⟨G,env,fp,r,env',rel,e,q⟩:=ED;obtain⟨⟨⟨o,d⟩,Eo⟩,e1,e⟩:=ag e;refine⟨G,env,fp,_,Eo,rel,e1,fun v H1 G1 EL EE Es=>?_⟩;have hv:=Es.top;obtain⟨b',Ep,Ez⟩:=Es.drop;dsimp only at e hv;split at e
 ·cases e;exact⟨_,bR hv,q _ H1 G1 b' (EE.trans Ez) (Ep.push (bJ _))⟩
 ·cases e
noncomputable def fU(g g':D->D->Res R)(fa fb fc:FO):FX:=fun env=>(fa env).bind fun p=>(fb p.2).bind fun q=>(Fu q.2 p.1).bind fun a=>(Fu q.2 q.1).bind fun b=>(g a b).bind fun r=>match r with
 |(.f,.bl true)=>(fc q.2).bind fun t=>(Fu t.2 q.1).bind fun b=>(Fu t.2 t.1).bind fun c=>(g' b c).bind fun r=>.ok (r,t.2)
 |(.f,.bl false)=>.ok ((.f,.bl false),q.2)
 |_=>.bad
theorem uS{σ:L2.St}{H:Hp}{Q:VK}(h:tQ X.K (fU g g' fa fb fc) σ H Q):vK (rG X.K g) (rG X.K g') (tO X.K fa) (tO X.K fb) (tO X.K fc) σ H Q:=by
 obtain⟨G,env,fp,r,env',rel,e,k⟩:=h;obtain⟨⟨oa,e1⟩,ha,e⟩:=ag e;obtain⟨⟨ob,e2⟩,hb,e⟩:=ag e;obtain⟨da,JR,e⟩:=ag e;obtain⟨db,Fl,e⟩:=ag e;obtain⟨r',hr,e⟩:=ag e;refine⟨G,env,fp,oa,e1,rel,ha,fun x H1 G1 EL EE Es FJ=>⟨G1,e1,EL,ob,e2,Es,hb,fun y H2 G2 E3 Ez Ep Ii=>
  ⟨G2,E3,e2,σ,da,db,r',⟨Ep,fun v H3 G3 He E2 EY=>?_⟩,Ep.vw (FJ.mono Ez.gg) JR,Ep.vw Ii Fl,hr⟩⟩⟩
 have hv:=EY.top;obtain⟨b3,Fn,F7⟩:=EY.drop;split at e
 ·refine⟨true,bR hv,zP ?_⟩;obtain⟨⟨oc,e3⟩,hc,e⟩:=ag e;obtain⟨db',hdb',e⟩:=ag e;obtain⟨dc,hdc,e⟩:=ag e;obtain⟨r2,Lc,e⟩:=ag e;cases e;exact⟨G3,e2,b3,oc,e3,Fn,hc,fun z H5 G5 Le Gy Fz ok5=>⟨G5,Le,e3,σ,db',dc,r,⟨Fz,fun v H' G' Eu st ES=>k v H' G' Eu (EE.trans (Ez.trans (E2.trans (F7.trans (Gy.trans st))))) ES⟩,
   Fz.vw ((Ii.mono E2.gg).mono Gy.gg) hdb',Fz.vw ok5 hdc,Lc⟩⟩
 ·cases e;exact⟨false,bR hv,iteF (k _ H3 G3 b3 (EE.trans (Ez.trans (E2.trans F7))) (Fn.push (bJ _)))⟩
 ·cases e
theorem j0{op Js:CmpOp}(ho:EX X (compareOp op) (rG X.K g))(Hn:EX X (compareOp Js) (rG X.K g'))(ha:QO X a fa)(hb:QO X b fb)(hc:QO X c fc)(hm:lastMarks [op,Js] [b,c]=false:=by with_unfolding_all rfl):
  QT X (.Compare a [op,Js] [b,c] pos) (E7 (fU g g' fa fb fc)):=lE (uf ho Hn ha hb hc hm) fun _ _ _ h=>uS (uR h)
inductive rC(K:W.Frag)(g:List D->Res R)(xs:List V)(H:Hp)(Q:VK):Prop
 |mk:∀G fp es vs ds r,Goes K H G fp es vs r Q->L6 K G H ds xs->g ds=.ok r->rC K g xs H Q
def bz(g:List D->Res R)(fs:Fj):FX:=fun env=>(fs env).bind fun p=>(oq p.2 p.1).bind fun ds=>(g ds).bind fun r=>.ok (r,p.2)
theorem mS{gg:List D->Res R}{fs:Fj}{σ:L2.St}{H:Hp}{Q:VK}(h:tQ X.K (bz gg fs) σ H Q):NT (rC X.K gg) (tOs X.K fs) σ H Q:=by
 obtain⟨G,env,fp,r,env',rel,e,k⟩:=h;obtain⟨⟨os,e1⟩,ha,e⟩:=ag e;obtain⟨ds,hd,e⟩:=ag e;obtain⟨r',hr,e⟩:=ag e;cases e;exact⟨G,env,fp,os,e1,rel,ha,fun vs H1 G1 EL EE Es FJ=>⟨G1,EL,e1,σ,ds,r,⟨Es,fun v H' G' Eu st ES=>k v H' G' Eu (EE.trans st) ES⟩,Es.vws FJ hd,hr⟩⟩
variable{x:Str}{p:Pos}{e:Expr}{es:List Expr}{gg:List D->Res R}{fs:Fj}{id T:String}
theorem aP(hc:dr X (.builtin id) (rC X.K gg))(hg:Gl X x)(hm:X.mg x=none)(hv:bootBuiltins x=some (.builtin id))(ha:Iv X (e::es) fs)(hn:x≠"__name__":=by decide)(Fl:(x==("__debug__" : Str))=false:=by decide)
  (he:starEach (e::es) X.env=(false,eval e X.env)::starEach es X.env:=by rfl) (Fc:(backTo pos (starEach es X.env)).any (·.1)=false:=by rfl):QE X (.Call (.Name x p) (e::es) [] pos) (bz gg fs):=
 bI (nL hc hg hm hv ha hn Fl he Fc) fun _ _ _=>mS
theorem cw(hc:dr X (.type T) (rC X.K gg))(hg:Gl X x)(hm:X.mg x=none)(hv:bootBuiltins x=some (.type T))(ha:Iv X (e::es) fs)(hn:x≠"__name__":=by decide)(Fl:(x==("__debug__" : Str))=false:=by decide)
  (he:starEach (e::es) X.env=(false,eval e X.env)::starEach es X.env:=by rfl) (Fc:(backTo pos (starEach es X.env)).any (·.1)=false:=by rfl):QE X (.Call (.Name x p) (e::es) [] pos) (bz gg fs):=
 bI (qr hc hg hm hv ha hn Fl he Fc) fun _ _ _=>mS
inductive spF(K:W.Frag)(F:List D->Res R)(vs:List V)(H:Hp)(Q:VK)(zz:XK):Prop
 |mk:∀G ds r,Same G H->Reps K G ds vs->F ds=.ok r->(∀v H' G' Eu,Step G H [] G' H' Eu->Rel K G' H' [some r] [some v] Eu->Q v H')->spF K F vs H Q zz
def eK(F:List D->Res R)(fs:Fj):FX:=fun env=>(fs env).bind fun p=>(jm p.2 p.1).bind fun ds=>(F ds).bind fun r=>.ok (r,if bW r.1 r.2 then p.2 else p.2.map frz)
theorem bM{F:List D->Res R}{k:Nat}(C:Ct X.prog X.w X.K X.mg X.base x k (spF X.K F))(hr:Room k X.A)(hg:Gl X x)(ha:Iv X (e::es) fs)(Fl:(x==("__debug__" : Str))=false:=by decide)
  (he:starEach (e::es) X.env=(false,eval e X.env)::starEach es X.env:=by rfl) (Fc:(backTo pos (starEach es X.env)).any (·.1)=false:=by rfl):QE X (.Call (.Name x p) (e::es) [] pos) (eK F fs):=
 bI (Ce C hr hg ha Fl he Fc) fun σ H Q ED=>by
  obtain⟨G,env,fp,r,env',rel,e,k⟩:=ED;obtain⟨⟨os,e1⟩,ha,e⟩:=ag e;obtain⟨ds,hd,e⟩:=ag e;obtain⟨r',hr,e⟩:=ag e;refine⟨G,env,fp,os,e1,rel,ha,fun vs H1 G1 EL EE Es FJ=>?_⟩;show spF X.K F (vs++[]) H1 Q _;rw[P5];obtain⟨G2,ML,MN,GR,_,Hx⟩:=Es.lend;refine⟨G2,ds,r',MN,iF ML GR FJ hd,hr,fun v H' G' Eu st ES=>?_⟩;obtain⟨k1,k2⟩:=Hx H' G' Eu r' v st ES;by_cases hc:bW r'.1 r'.2=true
  ·rw[PF hc]at e;cases e;obtain⟨G3,He,E2,EY⟩:=k1 hc;exact k v H' G3 He (EE.trans E2) EY
  ·rw[PM hc]at e;cases e;obtain⟨G3,He,E2,EY⟩:=k2;exact k v H' G3 He (EE.trans E2) EY
end
def sSeq(g1 g2:FS):FS:=fun env=>(g1 env).bind fun o=>match o with
 | .nx e=>g2 e
 |o=>.ok o
def df:FS:=fun env=>.ok (.nx env)
def v7:FS:=fun _=>.bad
def cx(i:Nat)(f:FX):FS:=fun env=>(f env).bind fun p=>if i<p.2.length then .ok (.nx (p.2.set i (some p.1))) else .bad
def lI(f:FX):FS:=fun env=>(f env).bind fun p=>.ok (.nx p.2)
def eZ(f:FX):FS:=fun env=>(f env).bind fun p=>.ok (.rt p.1)
def GO(c:FT)(g h:FS):FS:=fun env=>(c env).bind fun p=>if p.1 then g p.2 else h p.2
section
variable{md:Mode}{X:Cx}{st:Stmt}{Lf:List Stmt}{g h:FS}{f:FX}{c:FT}{pos:Pos}{e:Expr}
theorem bN:II (md:=md) X [] df:=rh wM fun D σ H ⟨G,env,fp,rel,k⟩=>k σ H G fp .refl rel
theorem ax(a:QS (md:=md) X st g):II (md:=md) X [st] g:=wN a
theorem ai(a:QS (md:=md) X st g)(b:II (md:=md) X Lf h):II (md:=md) X (st::Lf) (sSeq g h):=rh (t8 a b) fun D σ H ED=>by
 obtain⟨G,env,fp,rel,k⟩:=ED;refine⟨G,env,fp,rel,?_⟩;have k:OutOk X.K G H fp D ((g env).bind fun o=>match o with | .nx e=>h e|o=>.ok o):=k;match q:g env,k with
 | .ok (.nx Eo),k=>exact fun σ1 H1 G1 EL EE Es=>⟨G1,Eo,EL,Es,OutOk.after EE k⟩
 | .ok (.bk Eo),k=>exact k
 | .ok (.ct Eo),k=>exact k
 | .ok (.rt r),k=>exact k
theorem uT:QS (md:=md) X st v7:=dH ua fun D σ H ⟨G,env,fp,rel,k⟩=>k
theorem rD{K:W.Frag}{G H:Hp}{fp:List Addr}{D:Ends}{i:Nat}{env:PV.Env}{σ:L2.St}(rel:Rel K G H env σ fp)(k:OutOk (md:=md) K G H fp D (cx i f env)):tQ K f σ H fun v H'=>D.nx (σ.set i (some v)) H':=by
 unfold cx at k;match q:f env,k with
 | .ok (r,Eo),k=>
  have k:OutOk K G H fp D (if i<Eo.length then .ok (.nx (Eo.set i (some r))) else .bad):=k;by_cases hi:i<Eo.length
  ·rw[PF hi]at k;refine⟨G,env,fp,r,Eo,rel,q,fun v H1 G1 EL EE Es=>?_⟩;obtain⟨fq,Ep,Ez⟩:=Es.store hi;exact k _ H1 G1 fq (EE.trans Ez) Ep
  ·rw[PM hi]at k;exact k.elim
theorem aJ{i:Nat}{x:Str}{pos':Pos}(hN:X.N.Nodup)(hi:X.N[i]?=some x)(hx:Loc X.env.scope x)(he:QE X e f)(hs:swapsWith e (some (.Name x pos')) pos.line X.env=pure false:=by rfl)(hf:X.fn x=true\/X.env.scope.names.lookup x=some .local:=by first|exact .inl rfl|exact .inr rfl|assumption):
  QS (md:=md) X (.Assign [.Name x pos'] e pos) (cx i f):=dH (zj (i:=i) hN hi hx he hs hf) fun D σ H ⟨G,env,fp,rel,k⟩=>rD rel k
theorem iI(he:QE X e f)(hs:swapsWith e none pos.line X.env=pure false:=by rfl):QS (md:=md) X (.Expr e pos) (lI f):=dH (wO he hs) fun D σ H ED=>by
 obtain⟨G,env,fp,rel,k⟩:=ED;unfold lI at k;match q:f env,k with
 | .ok (r,Eo),k=>
  refine⟨G,env,fp,r,Eo,rel,q,fun v H1 G1 EL EE Es=>?_⟩;obtain⟨b,Ep,Ez⟩:=Es.drop;exact k _ H1 G1 b (EE.trans Ez) Ep
theorem Rel.only{K:W.Frag}{G H:Hp}{r:R}{v:V}{es:PV.Env}{vs:L2.St}{fp:List Addr}(q:Rel K G H (some r::es) (some v::vs) fp):∃a,Rel K G H [some r] [some v] a/\Step G H fp G H a:=by
 obtain⟨y,ys,e,v',a,b,e1,e2,r1,r2⟩:=q.rep;cases e;cases e1;subst e2;have nd:=Qq.mp q.nd;exact⟨a,⟨⟨some v,[],rfl,v,a,[],rfl,(P5 _).symm,r1,rfl,rfl⟩,nd.1,fun p hp=>q.gn p (P0 _ hp),q.gh⟩,Step.cut fun p hp=>P0 _ hp⟩
theorem bq(he:QE X e f):QS (md:=.plain) X (.Return (some e) pos) (eZ f):=dH (ze he) fun D σ H ED=>by
 obtain⟨G,env,fp,rel,k⟩:=ED;unfold eZ at k;match q:f env,k with
 | .ok (r,Eo),k=>
  refine⟨G,env,fp,r,Eo,rel,q,fun v H1 G1 EL EE Es=>?_⟩;obtain⟨b,Ep,Ez⟩:=Es.only;exact k _ H1 G1 b (EE.trans Ez) Ep
theorem Rel.nilF{K:W.Frag}{G H:Hp}{es:PV.Env}{vs:L2.St}{fp:List Addr}(q:Rel K G H es vs fp):Rel K G H [] [] []:=⟨⟨rfl,rfl⟩,RK,(fun _ h=>nomatch h),q.gh⟩
theorem dO{a b:List Stmt}{ct:Expr}(hc:QT X ct c)(ha:II (md:=md) X a g)(hb:II (md:=md) X b h):QS (md:=md) X (.If ct a b pos) (GO c g h):=dH (BX hc ha hb) fun D σ H ED=>by
 obtain⟨G,env,fp,rel,k⟩:=ED;unfold GO at k;match q:c env,k with
 | .ok (true,Eo),k=>exact⟨G,env,fp,true,Eo,rel,q,fun H1 G1 EL EE Es=>zP ⟨G1,Eo,EL,Es,OutOk.after EE k⟩⟩
 | .ok (false,Eo),k=>exact⟨G,env,fp,false,Eo,rel,q,fun H1 G1 EL EE Es=>iteF ⟨G1,Eo,EL,Es,OutOk.after EE k⟩⟩
def cV(c:FT)(g:FS):Nat->FS
 | 0,_=>.bad
 |n+1,env=>(c env).bind fun p=>if p.1 then(g p.2).bind fun o=>match o with
  | .nx e=>cV c g n e
  | .ct e=>cV c g n e
  | .bk e=>.ok (.nx e)
  | .rt r=>.ok (.rt r)
  else .ok (.nx p.2)
theorem ox{ct:Expr}{body:List Stmt}(n:Nat)(hp:PassesOwn (model X.prog X.w) X.A X.env X.xe)(hc:QT X ct c)(hb:II (md:=md) X body g):QS (md:=md) X (.While ct body [] pos) (cV c g n):=
 dH (uc hp hc hb) fun D σ H ED=>by
  obtain⟨G,env,fp,rel,k⟩:=ED;refine⟨fun m σ' H'=>∃G' env' Eu,Rel X.K G' H' env' σ' Eu/\OutOk X.K G' H' Eu D (cV c g m env'),⟨n,G,env,fp,rel,k⟩,?_⟩;rintro m σ1 H1 ⟨G1,Eo,EL,Es,k1⟩;cases m with
  |zero=>exact k1.elim
  |succ m=>
   unfold cV at k1;match q:c Eo,k1 with
   | .ok (false,Ey),k1=>exact⟨G1,Eo,EL,false,Ey,Es,q,fun H2 G2 E3 Ez Ep=>iteF (k1 _ H2 G2 E3 Ez Ep)⟩
   | .ok (true,Ey),k1=>
    refine⟨G1,Eo,EL,true,Ey,Es,q,fun H2 G2 E3 Ez Ep=>zP ?_⟩;refine⟨fun σ' H'=>∃G' env' Eu,Rel X.K G' H' env' σ' Eu/\OutOk X.K G' H' Eu D (cV c g m env'),fun σ' H' z=>⟨m,QQ _,z⟩,G2,Ey,E3,Ep,?_⟩;have k2:OutOk X.K G1 H1 EL D ((g Ey).bind fun o=>match o with | .nx e=>cV c g m e | .ct e=>cV c g m e | .bk e=>.ok (.nx e) | .rt r=>.ok (.rt r)):=k1;match q2:g Ey,k2 with
    | .ok (.nx e),k2=>exact fun σ' H' G' Eu st rel=>⟨G',e,Eu,rel,OutOk.after (Ez.trans st) k2⟩
    | .ok (.ct e),k2=>exact fun σ' H' G' Eu st rel=>⟨G',e,Eu,rel,OutOk.after (Ez.trans st) k2⟩
    | .ok (.bk e),k2=>exact fun σ' H' G' Eu st rel=>k2 σ' H' G' Eu (Ez.trans st) rel
    | .ok (.rt r),k2=>exact fun v H' G' Eu st rel=>k2 v H' G' Eu (Ez.trans st) rel
def Walk(K:W.Frag)(G:Hp)(J:It)(ds:List D):Prop:=∀G' H' es vs fp,Same G G'->Rel K G' H' es vs fp->∀i:Nat,
 (∀d,ds[i]?=some d->J.go i H'/\∀x H2,J.yld i H' x H2->∃G2,Rep K G2 d x/\Rel K G2 H2 es vs fp/\Step G' H' fp G2 H2 fp)/\(i=ds.length->J.stop i H')
abbrev FI:=PV.Env->Res (List D×PV.Env)
inductive tQI(K:W.Frag)(f:FI)(σ:L2.St)(H:Hp)(R:It->Hp->Prop):Prop
 |mk:∀G env fp ds env',Rel K G H env σ fp->f env=.ok (ds,env')->(∀J H' G' Eu,Step G H fp G' H' Eu->Rel K G' H' env' σ Eu->Walk K G' J ds->R J H')->tQI K f σ H R
def QI(X:Cx)(tg e:Expr)(f:FI):Prop:=PI X tg e (tQI X.K f)
theorem iJ{X:Cx}{tg e:Expr}{t t':TI}(h:PI X tg e t)(k:∀σ H R,t' σ H R->t σ H R):PI X tg e t':=fun pi s σ H R I w=>h pi s σ H R I (k σ H R w)
abbrev FG:=D->PV.Env->Res PV.Env
inductive tQG(K:W.Frag)(a:FG)(v:V)(σ:L2.St)(H:Hp)(Q:L2.St->Hp->Prop):Prop
 |mk:∀G env fp d env',Rel K G H env σ fp->Rep K G d v->a d env=.ok env'->(∀σ' G' Eu,Step G H fp G' H Eu->Rel K G' H env' σ' Eu->Q σ' H)->tQG K a v σ H Q
def QG(X:Cx)(tg:Expr)(a:FG):Prop:=PG X tg (tQG X.K a)
def aF(i:Nat):FG:=fun d env=>if i<env.length then .ok (env.set i (some (.f,d))) else .bad
theorem wa{X:Cx}{tg:Expr}{t t':TG}(h:PG X tg t)(k:∀v σ H Q,t' v σ H Q->t v σ H Q):PG X tg t':=fun pi s σ H v u Q I r w=>h pi s σ H v u Q I r (k v σ H Q w)
theorem rE{X:Cx}{tg:List Expr}{t t':Ku}(h:KP X tg t)(k:∀v σ H Q,t' v σ H Q->t v σ H Q):KP X tg t':=fun pi s σ H v u Q I r w=>h pi s σ H v u Q I r (k v σ H Q w)
theorem aH{i:Nat}{x:Str}(hN:X.N.Nodup)(hi:X.N[i]?=some x)(hx:Loc X.env.scope x)(hf:X.fn x=true\/X.env.scope.names.lookup x=some .local:=by first|exact .inl rfl|exact .inr rfl|assumption):QG X (.Name x pos) (aF i):=
 wa (wQ (i:=i) hN hi hx hf) fun v σ H Q ED=>by
  obtain⟨G,env,fp,d,env',rel,r,e,k⟩:=ED;unfold aF at e;split at e
  ·rename_i hl;cases e;obtain⟨fq,Ep,Ez⟩:=(rel.push r).store hl;exact k _ G fq Ez Ep
  ·cases e
abbrev JS:=List D->PV.Env->Res PV.Env
inductive tQGs(K:W.Frag)(a:JS)(vs:List V)(σ:L2.St)(H:Hp)(Q:L2.St->Hp->Prop):Prop
 |mk:∀G env fp ds env',Rel K G H env σ fp->Reps K G ds vs->a ds env=.ok env'->(∀σ' G' Eu,Step G H fp G' H Eu->Rel K G' H env' σ' Eu->Q σ' H)->tQGs K a vs σ H Q
def Nx(X:Cx)(tg:List Expr)(a:JS):Prop:=KP X tg (tQGs X.K a)
def dP:JS:=fun ds env=>match ds with
 |[]=>.ok env
 |_=>.bad
def aK(a:FG)(b:JS):JS:=fun ds env=>match ds with
 |d::ds=>(a d env).bind fun e=>b ds e
 |_=>.bad
theorem fF:Nx X [] dP:=rE wR fun vs σ H Q ED=>by
 obtain⟨G,env,fp,ds,env',rel,r,e,k⟩:=ED;cases ds with
 |nil=>
  cases e;rw[Reps]at r;exact⟨r,k σ G fp .refl rel⟩
 |cons d ds=>cases e
theorem bc{tg:Expr}{Iy:List Expr}{a:FG}{b:JS}(h1:QG X tg a)(h2:Nx X Iy b)(hs:(assignEach (tg::Iy) X.env).map (·.2)=assign tg X.env::(assignEach Iy X.env).map (·.2):=by rfl):Nx X (tg::Iy) (aK a b):=
 rE (ub h1 h2 hs) fun vs σ H Q ED=>by
  obtain⟨G,env,fp,ds,env',rel,r,e,k⟩:=ED;cases ds with
  |nil=>cases e
  |cons d ds=>
   rw[Reps]at r;obtain⟨y,ys,ev,r1,r2⟩:=r;obtain⟨Eo,e1,e2⟩:=ag e;exact⟨y,ys,ev,G,env,fp,d,Eo,rel,r1,e1,fun σ1 G1 EL EE Es=>⟨G1,Eo,EL,ds,env',Es,r2.mono EE.gg,e2,fun σ2 G2 E3 Ez Ep=>k σ2 G2 E3 (EE.trans Ez) Ep⟩⟩
def kM(n:Nat)(a:JS):FG:=fun d env=>match d with
 | .tup ds=>if ds.length=n then a ds env else .bad
 |_=>.bad
theorem iK{Iy:List Expr}{k n:Nat}{a:JS}(hc:X.calm=true)(h:Nx X Iy a)(hn:(assignEach Iy X.env).length=n:=by rfl)(Jr:(assignEach Iy X.env).findIdx? (·.1)=none:=by rfl):QG X (.Tuple Iy k pos) (kM n a):=
 wa (zh hc h hn Jr) fun v σ H Q ED=>by
  obtain⟨G,env,fp,d,env',rel,r,e,k⟩:=ED;unfold kM at e;split at e
  ·rename_i ds;split at e
   ·rename_i hl;obtain⟨p,xs,ev,sq,rs⟩:=aS r;exact⟨p,xs,ev,bF rel.gh sq,rs.length.trans hl,G,env,fp,ds,env',rel,rs,e,k⟩
   ·cases e
  ·cases e
def jo(a:FG)(g:FS):List D->FS
 |[],env=>.ok (.nx env)
 |d::ds,env=>(a d env).bind fun e=>(g e).bind fun o=>match o with
  | .nx e=>jo a g ds e
  | .ct e=>jo a g ds e
  | .bk e=>.ok (.nx e)
  | .rt r=>.ok (.rt r)
def pI(f:FI)(a:FG)(g:FS):FS:=fun env=>(f env).bind fun p=>jo a g p.1 p.2
theorem e7{tg iter:Expr}{body:List Stmt}{fi:FI}{a:FG}(hp:PassesOwn (model X.prog X.w) X.A X.env X.xe)(hc:X.calm=true)(hi:QI X tg iter fi)(hg:QG X tg a)(hb:II (md:=md) X body g)(hs:∀x,foldedSetIterable iter X.env x=pure x:=by intro _;rfl):QS (md:=md) X (.For tg iter body [] pos) (pI fi a g):=
 dH (zm hp hc hi hg hb hs) fun D σ H ED=>by
  obtain⟨G,env,fp,rel,k⟩:=ED;unfold pI at k;match q:fi env,k with
  | .ok (ds,Eo),k=>
   refine⟨G,env,fp,ds,Eo,rel,q,fun J H1 G1 EL EE Es wk=>?_⟩;have k:OutOk X.K G H fp D (jo a g ds Eo):=k;refine⟨fun i m σ' H'=>m=ds.length-i/\i<=ds.length/\∃G' env' Eu,Same G1 G'/\Rel X.K G' H' env' σ' Eu/\OutOk X.K G' H' Eu D (jo a g (ds.drop i) env'),⟨_,rfl,Qg _,G1,Eo,EL,.refl _,Es,OutOk.after EE k⟩,?_⟩;rintro i m σ2 H2 ⟨rfl,hi,G2,Ey,E3,gg,Ep,k2⟩;obtain⟨w1,w2⟩:=wk G2 H2 _ _ _ gg Ep i;by_cases E9:i<ds.length
   ·have hd:ds[i]?=some ds[i]:=List.getElem?_eq_getElem E9;obtain⟨go,yl⟩:=w1 _ hd;rw[S4 E9]at k2;refine .inr ⟨go,fun σ' H'=>∃G' env' Eu,Same G1 G'/\Rel X.K G' H' env' σ' Eu/\OutOk X.K G' H' Eu D (jo a g (ds.drop (i+1)) env'),fun σ' H' z=>⟨ds.length-(i+1),by lia,rfl,E9,z⟩,fun x H3 y=>?_⟩;obtain⟨G3,rx,EY,E2⟩:=yl x H3 y;unfold jo at k2;match q3:a ds[i] Ey,k2 with
    | .ok Fo,k2=>
     refine⟨G3,Ey,E3,ds[i],Fo,EY,rx,q3,fun σ4 G4 fp4 F7 Fn=>⟨G4,Fo,fp4,Fn,?_⟩⟩;have k3:OutOk X.K G2 H2 E3 D ((g Fo).bind fun o=>match o with | .nx e=>jo a g (ds.drop (i+1)) e | .ct e=>jo a g (ds.drop (i+1)) e | .bk e=>.ok (.nx e) | .rt r=>.ok (.rt r)):=k2;match q4:g Fo,k3 with
     | .ok (.nx e),k3=>exact fun σ' H' G' Eu st rel=>⟨G',e,Eu,gg.trans (E2.gg.trans (F7.gg.trans st.gg)),rel,OutOk.after (E2.trans (F7.trans st)) k3⟩
     | .ok (.ct e),k3=>exact fun σ' H' G' Eu st rel=>⟨G',e,Eu,gg.trans (E2.gg.trans (F7.gg.trans st.gg)),rel,OutOk.after (E2.trans (F7.trans st)) k3⟩
     | .ok (.bk e),k3=>exact fun σ' H' G' Eu st rel=>k3 σ' H' G' Eu (E2.trans (F7.trans st)) rel
     | .ok (.rt r),k3=>exact fun v H' G' Eu st rel=>k3 v H' G' Eu (E2.trans (F7.trans st)) rel
   ·have e:i=ds.length:=by lia
    subst e;rw[List.drop_length]at k2;exact .inl ⟨w2 rfl,k2 σ2 H2 G2 E3 .refl Ep⟩
def Aq(f:FX):FI:=fun env=>(f env).bind fun p=>match p.1.2 with
 | .lst ds=>.ok (ds,p.2)
 |_=>.bad
def lJ(f:FX):FI:=fun env=>(f env).bind fun p=>match p.1.2 with
 | .tup ds=>.ok (ds,p.2)
 |_=>.bad
variable{tg l:Expr}
theorem lK{K:W.Frag}{G:Hp}{a:Addr}{xs:List V}{ds:List D}(sq:SqL K G a xs)(rs:Reps K G ds xs):Walk K G (LO K a) ds:=by
 intro G' H' es vs fp gg rel i;have Fw:SqL K H' a xs:=eJ rel.gh (eJ gg sq);refine⟨fun d hd=>?_,fun e=>⟨xs,Fw,by rw[rs.length];lia⟩⟩;obtain⟨x,hx,rx⟩:=rs.get hd;refine⟨⟨xs,x,Fw,hx⟩,fun y H2 ⟨e,hy⟩=>?_⟩;subst e;have:=hy xs Fw;rw[hx]at this;cases this;exact⟨G',Rep.mono gg rx,rel,.refl⟩
theorem uU{K:W.Frag}{G:Hp}{a:Addr}{xs:List V}{ds:List D}(sq:SqT K G a xs)(rs:Reps K G ds xs):Walk K G (NM K a) ds:=by
 intro G' H' es vs fp gg rel i;have Fw:SqT K H' a xs:=bF rel.gh (bF gg sq);refine⟨fun d hd=>?_,fun e=>⟨xs,Fw,by rw[rs.length];lia⟩⟩;obtain⟨x,hx,rx⟩:=rs.get hd;refine⟨⟨xs,x,Fw,hx⟩,fun y H2 ⟨e,hy⟩=>?_⟩;subst e;have:=hy xs Fw;rw[hx]at this;cases this;exact⟨G',Rep.mono gg rx,rel,.refl⟩
theorem xO(h:QE X l f):QI X tg l (Aq f):=iJ (qf h) fun σ H R ED=>by
 obtain⟨G,env,fp,ds,env',rel,e,k⟩:=ED;obtain⟨⟨⟨o,d⟩,Eo⟩,e1,e⟩:=ag e;dsimp only at e;split at e
 ·cases e;refine⟨G,env,fp,_,_,rel,e1,fun v H1 G1 EL EE Es=>?_⟩;obtain⟨G2,b,rv,Ep,Ez⟩:=Es.freeze;obtain⟨p,xs,ev,sq,rs⟩:=aX rv;exact⟨p,ev,⟨xs,eJ Ep.gh sq⟩,k _ H1 G2 b (EE.trans Ez) Ep (lK sq rs)⟩
 ·cases e
theorem rF(h:QE X l f):QI X tg l (lJ f):=iJ (zl h) fun σ H R ED=>by
 obtain⟨G,env,fp,ds,env',rel,e,k⟩:=ED;obtain⟨⟨⟨o,d⟩,Eo⟩,e1,e⟩:=ag e;dsimp only at e;split at e
 ·cases e;refine⟨G,env,fp,_,_,rel,e1,fun v H1 G1 EL EE Es=>?_⟩;obtain⟨G2,b,rv,Ep,Ez⟩:=Es.freeze;obtain⟨p,xs,ev,sq,rs⟩:=aS rv;exact⟨p,ev,⟨xs,bF Ep.gh sq⟩,k _ H1 G2 b (EE.trans Ez) Ep (uU sq rs)⟩
 ·cases e
def lN(f:FX):FI:=fun env=>(f env).bind fun p=>match p.1.2 with
 | .str l=>.ok (l.map fun c=>.str [c],p.2)
 |_=>.bad
theorem rH(h:QE X l f):QI X tg l (lN f):=iJ (zT h) fun σ H R ED=>by
 obtain⟨G,env,fp,ds,env',rel,e,k⟩:=ED;obtain⟨⟨⟨o,d⟩,Eo⟩,e1,e⟩:=ag e;dsimp only at e;split at e
 ·rename_i cs;cases e;refine⟨G,env,fp,_,_,rel,e1,fun v H1 G1 EL EE Es=>?_⟩;obtain⟨G2,b,rv,Ep,Ez⟩:=Es.freeze;obtain⟨ev,hl⟩:=aT rv;refine⟨cs,ev,k _ H1 G2 b (EE.trans Ez) Ep fun G' H' es vs Eu gg ES i=>⟨fun d hd=>?_,fun e=>?_⟩⟩
  ·rw[List.getElem?_map]at hd;cases hc:cs[i]? with
   |none=>rw[hc]at hd;cases hd
   |some c=>
    rw[hc]at hd;cases hd;refine⟨(List.getElem?_eq_some_iff.mp hc).1,fun x H2 ⟨e1,e2⟩=>?_⟩;subst e1;refine⟨G',?_,ES,.refl⟩;rw[e2];show Rep X.K G' (.str [c]) (.str (S [cs.getD i 0]));rw[List.getD_eq_getElem?_getD,hc];exact fD (by rw[line_eq];simp)
  ·rw[Pr]at e;exact e
 ·cases e
def ck(f:FO):FI:=fun env=>(f env).bind fun p=>(Fu p.2 p.1).bind fun d=>match d with
 | .int j=>if -4611686018427387904<=j/\j<4611686018427387904 then .ok ((List.range j.toNat).map fun(k:Nat)=>D.int (k:Int),p.2) else .bad
 |_=>.bad
theorem pJ{K:W.Frag}{G:Hp}(lo:Int)(n:Nat):Walk K G (Nl lo n) ((List.range n).map fun(k:Nat)=>D.int (lo+(k:Int))):=by
 intro G' H' es vs fp gg rel i;refine⟨fun d hd=>?_,fun e=>?_⟩
 ·rw[List.getElem?_map]at hd;cases hc:(List.range n)[i]? with
  |none=>rw[hc]at hd;cases hd
  |some c=>
   rw[hc]at hd;cases hd;obtain⟨h1,h2⟩:=List.getElem?_eq_some_iff.mp hc;rw[Pz]at h1;rw[RN]at h2;subst h2;refine⟨h1,fun x H2 ⟨e1,e2⟩=>?_⟩;subst e1;exact⟨G',by rw[e2];exact bu _,rel,.refl⟩
 ·rw[Pr,Pz]at e;exact Nat.le_of_eq e.symm
theorem b5{a:Expr}{fa:FO}{p pos:Pos}(hg:Gl X "range")(hm:X.mg "range" = none)(ha:QO X a fa)(hs:starEach [a] X.env=[(false,eval a X.env)]:=by rfl):QI X tg (.Call (.Name "range" p) [a] [] pos) (ck fa):=
 iJ (qg hg hm (af ha au hs) hs) fun σ H R ED=>by
  obtain⟨G,env,fp,ds,env',rel,e,k⟩:=ED;obtain⟨⟨o,Eo⟩,e1,e⟩:=ag e;obtain⟨d,e2,e⟩:=ag e;dsimp only at e;split at e
  ·rename_i j;split at e
   ·rename_i hj;cases e;refine⟨G,env,fp,[o],_,rel,by show(fa env).bind _=_;rw[e1];rfl,fun vs H1 G1 EL EE Es FJ=>?_⟩;obtain⟨y,ys,ev,k1,k2⟩:=FJ;have k2:ys=[]:=k2;subst k2;have hv:=ba (Es.vw k1 e2);subst hv;refine⟨j,ev,by lia,by lia,k _ H1 G1 EL EE Es ?_⟩;have w:=pJ (K:=X.K) (G:=G1) 0 j.toNat
    simpa using w
   ·cases e
  ·cases e
noncomputable def Cv(fs:Fj):FI:=fun env=>(fs env).bind fun p=>(oq p.2 p.1).bind fun d=>match d with
 |[.int i,.int j]=>if(-4611686018427387904<=i/\i<4611686018427387904)/\-4611686018427387904<=j/\j<4611686018427387904 then .ok ((List.range (j-i).toNat).map fun(k:Nat)=>D.int (i+(k:Int)),p.2) else .bad
 |_=>.bad
def gy(k:Bool):D->Res (List D)
 | .lst ds=>if k then .ok ds else .bad
 | .tup ds=>if k then .bad else .ok ds
 |_=>.bad
def pK(k1 k2:Bool)(fs:Fj):FI:=fun env=>(fs env).bind fun p=>match p.1 with
 |[.val d1,.val d2]=>(gy k1 d1).bind fun a=>(gy k2 d2).bind fun b=>.ok ((a.zip b).map fun z=>D.tup [z.1,z.2],p.2)
 |_=>.bad
theorem oy{K:W.Frag}{G:Hp}{k:Bool}{d:D}{ds:List D}{v:V}(e:gy k d=.ok ds)(r:Rep K G d v):∃p xs,v=.ref p/\(if k then SqL K G p xs else SqT K G p xs)/\Reps K G ds xs:=by
 cases d with
 |lst es=>
  cases k with
  |true=>
   cases e;obtain⟨p,xs,e1,q,rs⟩:=aX r;exact⟨p,xs,e1,q,rs⟩
  |false=>cases e
 |tup es=>
  cases k with
  |true=>cases e
  |false=>
   cases e;obtain⟨p,xs,e1,q,rs⟩:=aS r;exact⟨p,xs,e1,q,rs⟩
 |_=>cases e
theorem j3{K:W.Frag}{G G':Hp}{k:Bool}{p:Addr}{xs:List V}(h:Same G G')(r:if k then SqL K G p xs else SqT K G p xs):if k then SqL K G' p xs else SqT K G' p xs:=by
 cases k with
 |true=>exact eJ h r
 |false=>exact bF h r
theorem uV{K:W.Frag}{G:Hp}{k1 k2:Bool}{p1 p2:Addr}{xs ys:List V}{as bs:List D}(s1:if k1 then SqL K G p1 xs else SqT K G p1 xs)(s2:if k2 then SqL K G p2 ys else SqT K G p2 ys)(r1:Reps K G as xs)(r2:Reps K G bs ys):
  Walk K G (N4 K k1 k2 p1 p2) ((as.zip bs).map fun z=>D.tup [z.1,z.2]):=by
 intro G' H' es vs fp gg rel i;have g1:=j3 (gg.trans rel.gh) s1;have g2:=j3 (gg.trans rel.gh) s2;refine⟨fun d hd=>?_,fun e=>⟨xs,ys,g1,g2,?_⟩⟩
 ·rw[List.getElem?_map]at hd;cases hz:(as.zip bs)[i]? with
  |none=>rw[hz]at hd;cases hd
  |some z=>
   rw[hz]at hd;cases hd;obtain⟨h1,h2⟩:=List.getElem?_zip_eq_some.mp hz;obtain⟨x,hx,rx⟩:=r1.get h1;obtain⟨y,hy,ry⟩:=r2.get h2;refine⟨⟨xs,ys,x,y,g1,g2,hx,hy⟩,fun v H2 ⟨T,hT,ev,hh⟩=>?_⟩;have e2:=hh xs ys x y g1 g2 hx hy;subst e2;obtain⟨Ep,Ez⟩:=rel.newF (u:=.tup [x,y]) hT;refine⟨_,?_,Ep,Ez⟩;rw[Rep];exact⟨T,[x,y],ev,br,.cons (Rep.mono (gg.trans Ez.gg) rx) (.one (Rep.mono (gg.trans Ez.gg) ry))⟩
 ·rw[Pr,RT]at e;rw[r1.length,r2.length];exact e
theorem oz(k1 k2:Bool){Iy:List Expr}{kt:Nat}{pt:Pos}{e1 e2:Expr}{fs:Fj}{p pos:Pos}(hg:Gl X "zip")(hm:X.mg "zip" = none)(ha:Iv X [e1,e2] fs)(he:starEach [e1,e2] X.env=(false,eval e1 X.env)::starEach [e2] X.env:=by rfl)(Fc:(backTo pos (starEach [e2] X.env)).any (·.1)=false:=by rfl):
  QI X (.Tuple Iy kt pt) (.Call (.Name "zip" p) [e1,e2] [] pos) (pK k1 k2 fs):=
 iJ (zY k1 k2 hg hm ha he Fc) fun σ H R ED=>by
  obtain⟨G,env,fp,ds,env',rel,e,k⟩:=ED;obtain⟨⟨o,Eo⟩,e1,e⟩:=ag e;dsimp only at e;split at e
  ·rename_i d1 d2;obtain⟨a,ea,e⟩:=ag e;obtain⟨b,eb,e⟩:=ag e;cases e;refine⟨G,env,fp,_,_,rel,e1,fun vs H1 G1 EL EE Es FJ=>?_⟩;obtain⟨y,ys,ev,v1,z,zs,ev2,v2,e3⟩:=FJ;have e3:zs=[]:=e3;subst e3;obtain⟨p1,xs1,ep1,q1,r1⟩:=oy ea v1;obtain⟨p2,L7,ep2,q2,r2⟩:=oy eb v2;subst ep1;subst ep2;subst ev2;exact⟨p1,p2,xs1,L7,ev,j3 Es.gh q1,j3 Es.gh q2,k _ H1 G1 EL EE Es (uV q1 q2 r1 r2)⟩
  ·cases e
end
def fBody(np nn:Nat)(g:FS):List D->Res R:=fun ds=>if ds.length=np then(g (ds.map (fun d=>some (O.f,d))++List.replicate nn none)).bind fun o=>match o with
 | .rt r=>.ok r
 | .nx _=>.ok (.f,.non)
 |_=>.bad
 else .bad
theorem fV{K:W.Frag}{G H:Hp}(n:Nat):∀{ds:List D}{vs:List V},Reps K G ds vs->RepE K G H (ds.map (fun d=>some (O.f,d))++List.replicate n none) (vs.map some++List.replicate n none) []
 |[],vs,r=>by
  rw[Reps]at r;subst r;show RepE K G H (List.replicate n none) (List.replicate n none) [];induction n with
  |zero=>exact⟨rfl,rfl⟩
  |succ n ih=>exact⟨none,_,rfl,ih⟩
 |d::ds,vs,r=>by
  rw[Reps]at r;obtain⟨y,ys,e,r1,r2⟩:=r;subst e;exact⟨some y,_,rfl,y,[],[],rfl,rfl,iE.mpr ⟨r1,rfl⟩,fV n r2⟩
theorem fG{P:Program}{w:World}{K:W.Frag}{mg:Str->Option Value}{base:Heap}{x:Str}{st:Stmt}{N ps:List Str}{k:Nat}{g:FS}(Df:Def K mg x st)(sc:FnScope N ps (defScope st))
  (hb:∀(kV doc pm:Value) (an:Option Addr) (EV ct:Value) (us:List Value),us.length=ps.length->bindArgs (PySem.W.fnOf x x (dt st) (bY st) (defScope st) .none kV doc pm an EV ct) ⟨us,[]⟩=pure (ps.zip us))
  (body:∀(f:Addr) (EV:Value) (A:Around) (outer:List PySem.Env) (s:Shared) (H:Hp) (E:XK),Room k (A.deeper (envOfC x (defScope st) s.heap.objs.size f EV))->II (md:=.plain) (qp IM P w K mg base N x (defScope st) f EV A outer s H E).nox (bY st) g):
  Ct P w K mg base x (k+1) (spF K (fBody ps.length (N.length-ps.length) g)):=by
 obtain⟨f,fd,F,m⟩:=Df;refine⟨f,fd,ps,F.ok sc (fun vs H Q E h=>?_) (fun EV A outer s H vs Q E hr h=>?_),m,F.kp,F.binds hb⟩
 ·obtain⟨G,ds,r,_,rs,e,_⟩:=h;unfold fBody at e;split at e
  ·rename_i hl;rw[rs.length,hl]
  ·cases e
 ·obtain⟨G,ds,r,gh,rs,e,q⟩:=h;unfold fBody at e;split at e
  ·rename_i hl;refine⟨_,body f EV A outer s H E hr,G,ds.map (fun d=>some (O.f,d))++List.replicate (N.length-ps.length) none,[],⟨?_,RK,(fun _ h=>nomatch h),gh⟩,?_⟩
   ·have:=fV (K:=K) (G:=G) (H:=H) (N.length-ps.length) rs;unfold L2.gR;rw[rs.length,hl];exact this
   ·obtain⟨o,eo,e⟩:=ag e;rw[eo];cases o with
    |rt r'=>
     cases e;exact fun v H' G' Eu st rel=>q v H' G' Eu st rel
    |nx env'=>
     cases e;exact fun σ' H' G' Eu st rel=>q .non H' G' [] (st.trans (Step.cut fun _ h=>nomatch h)) (rel.nilF.push jZ)
    |bk env'=>cases e
    |ct env'=>cases e
  ·cases e
def cN(ix:List (Option Nat))(env:PV.Env):PV.Env:=ix.map fun j=>j.bind fun j=>match env[j]? with
 |some (some r)=>some (O.f,r.2)
 |_=>none
def fL:FT:=fun env=>.ok (true,env)
def cz(a:FG)(c:FT)(f:FX):List D->PV.Env->Res (List D)
 |[],_=>.ok []
 |d::ds,env=>(a d env).bind fun e=>(c e).bind fun p=>if p.1 then(f p.2).bind fun q=>(cz a c f ds q.2).bind fun rs=>.ok (q.1.2::rs) else cz a c f ds p.2
def dw(fi:FI)(ix:List (Option Nat))(a:FG)(c:FT)(f:FX):FX:=fun env=>(fi env).bind fun p=>(cz a c f p.1 (cN ix p.2)).bind fun ds=>if ds.length<=sizeLine then .ok ((.l .f,.lst ds),if flatDs ds then p.2 else p.2.map frz) else .bad
theorem j4:∀ds,ds.all (bW .f)=flatDs ds
 |[]=>rfl
 |d::ds=>by rw[SI,flatDs,j4 ds,bW]
theorem dQ{K:W.Frag}{G1 H:Hp}{es:PV.Env}{σ:L2.St}(ht:∀(i:Nat) (r:R) (v:V),es[i]?=some (some r)->σ[i]?=some (some v)->Rep K G1 r.2 v)(hv:∀(i:Nat) (r:R),es[i]?=some (some r)->∃v,σ[i]?=some (some v)):
  ∀ix:List (Option Nat),RepE K G1 H (cN ix es) (ju ix σ) []
 |[]=>⟨rfl,rfl⟩
 |none::ix=>⟨none,_,rfl,dQ ht hv ix⟩
 |some j::ix=>by
  show RepE K G1 H ((match es[j]? with|some (some r)=>some (O.f,r.2)|_=>none)::cN ix es) ((σ[j]?).bind id::ju ix σ) [];cases e:es[j]? with
  |none=>exact⟨_,_,rfl,dQ ht hv ix⟩
  |some r=>
   cases r with
   |none=>exact⟨_,_,rfl,dQ ht hv ix⟩
   |some r=>
    obtain⟨v,ev⟩:=hv j r e;refine⟨_,_,rfl,v,[],[],?_,rfl,iE.mpr ⟨ht j r v e ev,rfl⟩,dQ ht hv ix⟩;rw[ev];rfl
section
variable{md:Mode}{X:Cx}{scope:Scope}{N:List Str}{tg iter elt:Expr}{ifs:List Expr}{pos:Pos}{fi:FI}{a:FG}{c:FT}{f:FX}
def Ny(X:Cx)(ifs:List Expr)(c:FT):Prop:=LS X ifs (tQT X.K c)
theorem cm:Ny X [] fL:=fun pi s σ H Q I ED=>by
 obtain⟨G,env,fp,b,env',rel,e,k⟩:=ED;cases e;exact xg pi s σ H Q I (k H G fp .refl rel)
theorem xP{t:Expr}(h:QT X t c):Ny X [t] c:=xh h
end
section
variable{X:Cx}
inductive rCatS(K:W.Frag)(x:V)(y:V)(H:Hp)(Q:VK):Prop
 |mk:∀l b xs zs,x=.ref l->y=.ref b->SqL K H l xs->SqL K H b zs->xs.length+zs.length<=sizeLine->(∀p,H p=none->Q (.ref p) (upd H p (.lst (xs++zs))))->rCatS K x y H Q
theorem xQ:EX X (binaryOp .Add) (rCatS X.K):=by
 intro pi s σ H x y v u Q I rx ry h;obtain⟨l,b,xs,zs,rfl,rfl,hH,hB,hz,q⟩:=h;cases rx;cases ry;obtain⟨Er,r1,p1,_⟩:=I.list hH;obtain⟨HL,r2,p2,_⟩:=I.list hB;have l1:=r1.length;have l2:=r2.length;obtain⟨⟨cls,dd,data,sl⟩,ho,hc,n,hd⟩:=id p1.isList;obtain⟨⟨JD,Ib,data2,Ic⟩,Fx,GP,n2,hd2⟩:=id p2.isList;simp only at hc hd GP hd2;subst hc hd GP hd2;have e:Er.toArray++HL.toArray=(Er++HL).toArray:=by simp
 refine TK ⟨_,ho,rfl⟩ ⟨_,Fx,rfl⟩ noFill_list_add seq_list_add PySem.F.slot_list_add PySem.F.entry_list_add (PySem.F.args_list_add_2 _ _) (list_addW l b Er.toArray HL.toArray n n2 dd Ib sl Ic (by rw[Pu,Pu];lia)) ⟨ho,Fx,?_⟩;rw[e];exact⟨.ref _,_,I.lnew (t':=s.toks) (r1.append r2) (by rw[Qb];lia),rfl,q _ I.fresh⟩
end
noncomputable def addD:D->D->Res R
 | .int i,.int j=>.ok (.f,.int (i+j))
 | .str a,.str b=>if a.length+b.length<=sizeLine then .ok (.f,.str (a++b)) else .bad
 | .lst a,.lst b=>if a.length+b.length<=sizeLine then .ok (.l .f,.lst (a++b)) else .bad
 | .tup a,.tup b=>if a≠[]/\a.length+b.length<=sizeLine then .ok (.f,.tup (a++b)) else .bad
 |_,_=>.bad
section
variable{X:Cx}
theorem j5{K:W.Frag}{G H:Hp}{fp:List Addr}{es:PV.Env}{vs:L2.St}{ds:List D}{xs:List V}{p:Addr}(rel:Rel K G H es vs fp)(hp:H p=none)(r:Reps K G ds xs):
  ∃G',Rel K G' (upd H p (.tup xs)) (some (.f,.tup ds)::es) (some (.ref p)::vs) fp/\Step G H fp G' (upd H p (.tup xs)) fp:=by
 obtain⟨Ep,Ez⟩:=rel.newF (u:=.tup xs) hp;refine⟨_,Ep.push ?_,Ez⟩;rw[Rep];exact⟨p,xs,rfl,br,r.mono Ez.gg⟩
theorem Ar:EX X (binaryOp .Add) (rG X.K addD):=by
 rintro pi s σ H x y v u Q I rx ry ⟨G,fp,es,vs,a,b,r,⟨rel,k⟩,va,vb,e⟩;unfold addD at e;split at e
 ·rename_i i j;cases e;cases ba va;cases ba vb;exact zo pi s σ H _ _ v u Q I rx ry ⟨i,j,rfl,rfl,k _ H G fp .refl (rel.push (bu _))⟩
 ·rename_i i j;split at e
  ·rename_i hl;cases e;obtain⟨e1,h1⟩:=cU va;obtain⟨e2,h2⟩:=cU vb;subst e1;subst e2;refine pd pi s σ H _ _ v u Q I rx ry ⟨_,_,rfl,rfl,by rw[ji,ji];exact hl,?_⟩;rw[Cd];exact k _ H G fp .refl (rel.push (fD (by rw[Qb];exact hl)))
  ·cases e
 ·rename_i i j;split at e
  ·rename_i hl;cases e;obtain⟨p,xs,e1,h1,r1⟩:=va;obtain⟨p2,L7,e2,h2,r2⟩:=vb;subst e1;subst e2;refine xQ pi s σ H _ _ v u Q I rx ry ⟨p,p2,xs,L7,rfl,rfl,h1,h2,by rw[r1.length,r2.length];exact hl,fun q hq=>?_⟩;obtain⟨Ep,Ez⟩:=rel.newL hq (r1.app r2);exact k _ _ G _ Ez Ep
  ·cases e
 ·rename_i i j;split at e
  ·rename_i hl;cases e;obtain⟨p,xs,e1,h1,r1⟩:=fT va;obtain⟨p2,L7,e2,h2,r2⟩:=fT vb;subst e1;subst e2;have hx:xs≠[]:=fun z=>hl.1 (QJ (by rw[<-r1.length,z];rfl))
   refine w4 pi s σ H _ _ v u Q I rx ry ⟨p,p2,xs,L7,rfl,rfl,bF rel.gh h1,bF rel.gh h2,hx,by rw[r1.length,r2.length];exact hl.2,fun z=>?_,fun z q hq=>?_⟩
   ·have:j=[]:=QJ (by rw[<-r2.length,z];rfl);subst this;rw[P5]at k;exact k _ H G fp .refl (rel.push va)
   ·obtain⟨G',Ep,Ez⟩:=j5 rel hq (r1.app r2);exact k _ _ G' _ Ez Ep
  ·cases e
 ·cases e
def yO:D->D->Res R
 | .int i,.int j=>.ok (.f,.int (i-j))
 |_,_=>.bad
theorem wb:EX X (binaryOp .Sub) (rG X.K yO):=by
 rintro pi s σ H x y v u Q I rx ry ⟨G,fp,es,vs,a,b,r,⟨rel,k⟩,va,vb,e⟩;unfold yO at e;split at e
 ·rename_i i j;cases e;cases ba va;cases ba vb;exact zp pi s σ H _ _ v u Q I rx ry ⟨i,j,rfl,rfl,k _ H G fp .refl (rel.push (bu _))⟩
 ·cases e
def b6(i:Int):Bool:=decide (-(2 ^ 64)<i/\i<2 ^ 64)
def Cw:D->D->Res R
 | .int i,.int j=>if b6 i||b6 j then .ok (.f,.int (i*j)) else .bad
 |_,_=>.bad
theorem Au:EX X (binaryOp .Mult) (rG X.K Cw):=by
 rintro pi s σ H x y v u Q I rx ry ⟨G,fp,es,vs,a,b,r,⟨rel,k⟩,va,vb,e⟩;unfold Cw at e;split at e
 ·rename_i i j;split at e
  ·rename_i hc;cases e;cases ba va;cases ba vb;have hc:CMul i j:=by
    rw[TL]at hc;exact hc.imp QY QY
   exact zq pi s σ H _ _ v u Q I rx ry ⟨i,j,rfl,rfl,hc,k _ H G fp .refl (rel.push (bu _))⟩
  ·cases e
 ·cases e
def pL:D->D->Res R
 | .int i,.int j=>if 0<j/\j<1073741824 then .ok (.f,.int (i / j)) else .bad
 |_,_=>.bad
theorem rJ:EX X (binaryOp .FloorDiv) (rG X.K pL):=by
 rintro pi s σ H x y v u Q I rx ry ⟨G,fp,es,vs,a,b,r,⟨rel,k⟩,va,vb,e⟩;unfold pL at e;split at e
 ·rename_i i j;split at e
  ·rename_i hc;cases e;cases ba va;cases ba vb;exact wU pi s σ H _ _ v u Q I rx ry ⟨i,j,rfl,rfl,hc,k _ H G fp .refl (rel.push (bu _))⟩
  ·cases e
 ·cases e
def jy:D->D->Res R
 | .int i,.int j=>if 0<j then .ok (.f,.int (i%j)) else .bad
 |_,_=>.bad
theorem dI:EX X (binaryOp .Mod) (rG X.K jy):=by
 rintro pi s σ H x y v u Q I rx ry ⟨G,fp,es,vs,a,b,r,⟨rel,k⟩,va,vb,e⟩;unfold jy at e;split at e
 ·rename_i i j;split at e
  ·rename_i hc;cases e;cases ba va;cases ba vb;exact zr pi s σ H _ _ v u Q I rx ry ⟨i,j,rfl,rfl,hc,k _ H G fp .refl (rel.push (bu _))⟩
  ·cases e
 ·cases e
def wc:D->D->Res R
 | .int i,.int j=>if 0<=j/\j<=1000000/\i.natAbs<2 ^ 64 then .ok (.f,.int (i ^ j.toNat)) else .bad
 |_,_=>.bad
theorem Av:EX X (binaryOp .Pow) (rG X.K wc):=by
 rintro pi s σ H x y v u Q I rx ry ⟨G,fp,es,vs,a,b,r,⟨rel,k⟩,va,vb,e⟩;unfold wc at e;split at e
 ·rename_i i j;split at e
  ·rename_i hc;cases e;cases ba va;cases ba vb;exact zt pi s σ H _ _ v u Q I rx ry ⟨i,j,rfl,rfl,hc,k _ H G fp .refl (rel.push (bu _))⟩
  ·cases e
 ·cases e
def LU:D->D->Res R
 | .int i,.int j=>.ok (.f,.bl (decide (i<j)))
 | .str a,.str b=>.ok (.f,.bl (decide (a<b)))
 |_,_=>.bad
theorem Cy:EX X (compareOp .Lt) (rG X.K LU):=by
 rintro pi s σ H x y v u Q I rx ry ⟨G,fp,es,vs,a,b,r,⟨rel,k⟩,va,vb,e⟩;unfold LU at e;split at e
 ·rename_i i j;cases e;cases ba va;cases ba vb;exact B3 pi s σ H _ _ v u Q I rx ry ⟨i,j,rfl,rfl,k _ H G fp .refl (rel.push (bJ _))⟩
 ·rename_i i j;cases e;obtain⟨e1,h1⟩:=cU va;obtain⟨e2,h2⟩:=cU vb;subst e1;subst e2;refine qi pi s σ H _ _ v u Q I rx ry ⟨_,_,rfl,rfl,?_⟩;rw[bZ,bZ];exact k _ H G fp .refl (rel.push (bJ _))
 ·cases e
def Jx:D->D->Res R
 | .int i,.int j=>.ok (.f,.bl (decide (i<=j)))
 | .str a,.str b=>.ok (.f,.bl (!decide (b<a)))
 |_,_=>.bad
theorem uW:EX X (compareOp .LtE) (rG X.K Jx):=by
 rintro pi s σ H x y v u Q I rx ry ⟨G,fp,es,vs,a,b,r,⟨rel,k⟩,va,vb,e⟩;unfold Jx at e;split at e
 ·rename_i i j;cases e;cases ba va;cases ba vb;exact L2.B4 pi s σ H _ _ v u Q I rx ry ⟨i,j,rfl,rfl,k _ H G fp .refl (rel.push (bJ _))⟩
 ·rename_i i j;cases e;obtain⟨e1,h1⟩:=cU va;obtain⟨e2,h2⟩:=cU vb;subst e1;subst e2;refine qB pi s σ H _ _ v u Q I rx ry ⟨_,_,rfl,rfl,?_⟩;rw[bZ,bZ];exact k _ H G fp .refl (rel.push (bJ _))
 ·cases e
def Lg:D->D->Res R
 | .int i,.int j=>.ok (.f,.bl (decide (j<i)))
 |_,_=>.bad
theorem xR:EX X (compareOp .Gt) (rG X.K Lg):=by
 rintro pi s σ H x y v u Q I rx ry ⟨G,fp,es,vs,a,b,r,⟨rel,k⟩,va,vb,e⟩;unfold Lg at e;split at e
 ·rename_i i j;cases e;cases ba va;cases ba vb;exact B5 pi s σ H _ _ v u Q I rx ry ⟨i,j,rfl,rfl,k _ H G fp .refl (rel.push (bJ _))⟩
 ·cases e
def Ol:D->D->Res R
 | .int i,.int j=>.ok (.f,.bl (decide (j<=i)))
 |_,_=>.bad
theorem Cz:EX X (compareOp .GtE) (rG X.K Ol):=by
 rintro pi s σ H x y v u Q I rx ry ⟨G,fp,es,vs,a,b,r,⟨rel,k⟩,va,vb,e⟩;unfold Ol at e;split at e
 ·rename_i i j;cases e;cases ba va;cases ba vb;exact B6 pi s σ H _ _ v u Q I rx ry ⟨i,j,rfl,rfl,k _ H G fp .refl (rel.push (bJ _))⟩
 ·cases e
end
abbrev FDs:=PV.Env->Res (List D×PV.Env)
inductive tDs(K:W.Frag)(f:FDs)(σ:L2.St)(H:Hp)(Q:List V->Hp->Prop):Prop
 |mk:∀G env fp ds env',Rel K G H env σ fp->f env=.ok (ds,env')->(∀vs H' G' Eu,Step G H fp G' H' Eu->Rel K G' H' env' σ Eu->Reps K G' ds vs->Q vs H')->tDs K f σ H Q
def MO(X:Cx)(es:List Expr)(f:FDs):Prop:=PA X es (tDs X.K f)
def cY:FDs:=fun env=>.ok ([],env)
def aU(f:FX)(g:FDs):FDs:=fun env=>(f env).bind fun p=>(g p.2).bind fun q=>.ok (p.1.2::q.1,q.2)
section
variable{X:Cx}
theorem bw:MO X [] cY:=ot qm fun σ H Q ED=>by
 obtain⟨G,env,fp,o,env',rel,e,k⟩:=ED;cases e;exact k [] H G fp .refl rel .nil
theorem aA{e:Expr}{es:List Expr}{f:FX}{g:FDs}(h:QE X e f)(hs:MO X es g)(Jr:starEach (e::es) X.env=(false,eval e X.env)::starEach es X.env:=by rfl):MO X (e::es) (aU f g):=
 ot (jH h hs Jr) fun σ H Q ED=>by
  obtain⟨G,env,fp,o,env',rel,e,k⟩:=ED;obtain⟨⟨r,Eo⟩,e1,e⟩:=ag e;obtain⟨⟨ds,Ey⟩,e2,e⟩:=ag e;cases e;refine⟨G,env,fp,r,Eo,rel,e1,fun v H1 G1 EL EE Es=>?_⟩;obtain⟨G2,b,rv,Ep,Ez⟩:=Es.freeze;exact⟨G2,Eo,b,ds,Ey,Ep,e2,fun vs H3 G3 He E2 EY rs=>k _ H3 G3 He (EE.trans (Ez.trans E2)) EY (.cons (Rep.mono E2.gg rv) rs)⟩
def lO(fs:FDs):FX:=fun env=>(fs env).bind fun p=>if p.1.length<=1000 then .ok ((.f,.tup p.1),p.2) else .bad
def yP(fs:FDs):FX:=fun env=>(fs env).bind fun p=>if p.1.length<=1000 then .ok ((.l .f,.lst p.1),p.2) else .bad
variable{es:List Expr}{fs:FDs}{pos:Pos}
theorem cO{x1}(h:MO X es fs):QE X (.Tuple es x1 pos) (lO fs):=bI (zw h) fun σ H Q ED=>by
 obtain⟨G,env,fp,r,env',rel,e,k⟩:=ED;obtain⟨⟨ds,Eo⟩,e1,e⟩:=ag e;dsimp only at e;split at e
 ·rename_i hl;cases e;refine⟨G,env,fp,ds,env',rel,e1,fun vs H1 G1 EL EE Es rs=>⟨by rw[rs.length,line_eq];lia,fun p hp=>?_⟩⟩;obtain⟨G2,Ep,Ez⟩:=j5 Es hp rs;exact k _ _ G2 _ (EE.trans Ez) Ep
 ·cases e
theorem oA(h:MO X es fs):QE X (.List es pos) (yP fs):=bI (zx h) fun σ H Q ED=>by
 obtain⟨G,env,fp,r,env',rel,e,k⟩:=ED;obtain⟨⟨ds,Eo⟩,e1,e⟩:=ag e;dsimp only at e;split at e
 ·rename_i hl;cases e;refine⟨G,env,fp,ds,env',rel,e1,fun vs H1 G1 EL EE Es rs=>⟨by rw[rs.length,line_eq];lia,fun p hp=>?_⟩⟩;obtain⟨Ep,Ez⟩:=Es.newL hp rs;exact k _ _ G1 _ (EE.trans Ez) Ep
 ·cases e
noncomputable def EB:D->D->Res R
 | .lst ds,.int i=>match Ft ds i with
  |some d=>.ok (.f,d)
  |none=>.bad
 | .tup ds,.int i=>match Ft ds i with
  |some d=>.ok (.f,d)
  |none=>.bad
 | .str l,.int i=>match Ft l i with
  |some c=>.ok (.f,.str [c])
  |none=>.bad
 |_,_=>.bad
theorem oB{K:W.Frag}{G:Hp}{ds:List D}{xs:List V}{i:Int}{d:D}(r:Reps K G ds xs)(e:Ft ds i=some d):∃v,Ft xs i=some v/\Rep K G d v:=by
 unfold Ft at e ⊢;rw[r.length];cases hn:ixN ds.length i with
 |none=>rw[hn]at e;cases e
 |some j=>
  rw[hn]at e;exact r.get e
theorem CA:Mp X (rG X.K EB):=by
 rintro value slice pi s σ H x y v u Q I rx ry ⟨G,fp,es,vs,a,b,r,⟨rel,k⟩,va,vb,e⟩ hs;unfold EB at e;split at e
 ·rename_i ds i;split at e
  ·rename_i d hd;cases e;obtain⟨p,xs,ev,sq,rs⟩:=va;subst ev;cases ba vb;obtain⟨w',hw,Iq⟩:=oB rs hd;exact w5 value slice pi s σ H _ _ v u Q I rx ry ⟨p,xs,i,w',rfl,rfl,sq,hw,k _ H G fp .refl (rel.push Iq)⟩ hs
  ·cases e
 ·rename_i ds i;split at e
  ·rename_i d hd;cases e;obtain⟨p,xs,ev,sq,rs⟩:=fT va;subst ev;cases ba vb;obtain⟨w',hw,Iq⟩:=oB rs hd;exact zJ value slice pi s σ H _ _ v u Q I rx ry ⟨p,xs,i,w',rfl,rfl,bF rel.gh sq,hw,k _ H G fp .refl (rel.push Iq)⟩ hs
  ·cases e
 ·rename_i l i;split at e
  ·rename_i c hc;cases e;obtain⟨ev,hl⟩:=cU va;subst ev;cases ba vb;refine zL value slice pi s σ H _ _ v u Q I rx ry ⟨_,i,c,rfl,rfl,by rw[ji];exact hl,by rw[bZ];exact hc,?_⟩ hs;exact k _ H G fp .refl (rel.push (fD (l:=[c]) (by rw[line_eq];simp)))
  ·cases e
 ·cases e
variable{a b:Expr}{fa fb:FO}
theorem aG(ha:QO X a fa)(hb:QO X b fb)(hs:qy b:=by exact fun _ _=>rfl):QE X (.Subscript a b pos) (ay EB fa fb):=bI (Ca CA ha hb hs) fun _ _ _=>ou
abbrev FP:=PV.Env->Res (Option Int×PV.Env)
inductive tQP(K:W.Frag)(f:FP)(σ:L2.St)(H:Hp)(Q:Option Int->Hp->Prop):Prop
 |mk:∀G env fp i env',Rel K G H env σ fp->f env=.ok (i,env')->(∀H' G' Eu,Step G H fp G' H' Eu->Rel K G' H' env' σ Eu->Q i H')->tQP K f σ H Q
def QP(X:Cx)(e:Option Expr)(f:FP):Prop:=PO X e (tQP X.K f)
def pM:FP:=fun env=>.ok (none,env)
def pN(f:FX):FP:=fun env=>(f env).bind fun p=>match p.1.2 with
 | .int i=>.ok (some i,p.2)
 |_=>.bad
theorem we{X:Cx}{e:Option Expr}{t t':TO}(h:PO X e t)(k:∀σ H Q,t' σ H Q->t σ H Q):PO X e t':=fun pi s σ H Q I w=>h pi s σ H Q I (k σ H Q w)
theorem j6:QP X none pM:=we wY fun σ H Q ED=>by
 obtain⟨G,env,fp,i,env',rel,e,k⟩:=ED;cases e;exact k H G fp .refl rel
theorem j7{e:Expr}{f:FX}(h:QE X e f):QP X (some e) (pN f):=we (wZ h) fun σ H Q ED=>by
 obtain⟨G,env,fp,i,env',rel,e,k⟩:=ED;obtain⟨⟨⟨o,d⟩,Eo⟩,e1,e⟩:=ag e;dsimp only at e;split at e
 ·rename_i j;cases e;refine⟨G,env,fp,_,_,rel,e1,fun v H1 G1 EL EE Es=>?_⟩;have hv:=Es.top;obtain⟨b,Ep,Ez⟩:=Es.drop;exact⟨j,a9 hv,k H1 G1 b (EE.trans Ez) Ep⟩
 ·cases e
def kN{α:Type}(xs:List α)(lo hi:Option Int):List α:=(xs.drop (HT.sIx xs.length 0 lo)).take (HT.sIx xs.length xs.length hi-HT.sIx xs.length 0 lo)
noncomputable def L8(k:D)(lo hi:Option Int):Res R:=match k with
 | .lst ds=>.ok (.l .f,.lst (kN ds lo hi))
 | .tup ds=>if ¬ (HT.sIx ds.length 0 lo=0/\HT.sIx ds.length ds.length hi=ds.length) then .ok (.f,.tup (kN ds lo hi)) else .bad
 | .str l=>.ok (.f,.str (kN l lo hi))
 |_=>.bad
def eSl(fa:FO)(lo hi:FP):FX:=fun env=>(fa env).bind fun p=>(lo p.2).bind fun q=>(hi q.2).bind fun t=>(Fu t.2 p.1).bind fun d=>(L8 d q.1 t.1).bind fun r=>.ok (r,t.2)
theorem oC{K:W.Frag}{G:Hp}{ds:List D}{xs:List V}{lo hi:Option Int}(r:Reps K G ds xs):Reps K G (kN ds lo hi) (vL xs lo hi):=by
 unfold kN vL;rw[r.length];exact(r.drop _).take _
theorem xS{α:Type}(xs:List α)(lo hi:Option Int):(kN xs lo hi).length<=xs.length:=by
 unfold kN;rw[Qe,RF];lia
inductive rSl(K:W.Frag)(x:V)(lo:Option Int)(hi:Option Int)(H:Hp)(Q:VK):Prop
 |mk:∀G fp es vs d r,Goes K H G fp es vs r Q->Vw K G H d x->L8 d lo hi=.ok r->rSl K x lo hi H Q
theorem Aw:KR X (rSl X.K):=by
 rintro pi s σ H x v vl vu lo hi sl Q I rx hs pl pu ⟨G,fp,es,vs,d,r,⟨rel,k⟩,vd,e⟩;unfold L8 at e;split at e
 ·rename_i ds;cases e;obtain⟨p,xs,ev,sq,rs⟩:=vd;subst ev;refine w6 pi s σ H _ v vl vu lo hi sl Q I rx hs pl pu ⟨p,xs,rfl,sq,fun q hq=>?_⟩;obtain⟨Ep,Ez⟩:=rel.newL hq (oC (lo:=lo) (hi:=hi) rs);exact k _ _ G _ Ez Ep
 ·rename_i ds;split at e
  ·rename_i hw;cases e;obtain⟨p,xs,ev,sq,rs⟩:=fT vd;subst ev;refine zI pi s σ H _ v vl vu lo hi sl Q I rx hs pl pu ⟨p,xs,rfl,bF rel.gh sq,by rw[rs.length];exact hw,fun q hq=>?_⟩;obtain⟨G2,Ep,Ez⟩:=j5 rel hq (oC (lo:=lo) (hi:=hi) rs);exact k _ _ G2 _ Ez Ep
  ·cases e
 ·rename_i l;cases e;obtain⟨ev,hl⟩:=cU vd;subst ev;exact zS pi s σ H _ v vl vu lo hi sl Q I rx hs pl pu ⟨l,rfl,hl,k _ H G fp .refl (rel.push (fD (l:=zR l lo hi) (Qc (xS l lo hi) hl)))⟩
 ·cases e
def rK(env:PV.Env)(i:Nat):Bool:=match env[i]? with
 |some (some (_,.lst _))=>true
 |_=>false
theorem uX{K:W.Frag}{G H:Hp}{es:PV.Env}{σ:L2.St}{fp:List Addr}{i:Nat}(rel:Rel K G H es σ fp)(h:rK es i=true):∃v,σ[i]?=some (some v)/\NW K "list" v H:=by
 unfold rK at h;split at h
 ·rename_i o ds hr;obtain⟨v,ev,rv⟩:=rel.view hr;obtain⟨p,xs,e,sq,_⟩:=aX rv;subst e;exact⟨_,ev,.inl ⟨rfl,xs,sq⟩⟩
 ·cases h
def xT(i:Nat)(f:FX):FX:=fun env=>if rK env i then(f env).bind fun p=>match p.2[i]? with
 |some (some (.l .f,.lst ds))=>if ds.length<sizeLine then .ok ((.f,.non),p.2.set i (some (.l .f,.lst (ds++[p.1.2])))) else .bad
 |_=>.bad
 else .bad
theorem fW{i:Nat}{o e:Expr}{f:FX}{apos EH:Pos}(ho:PE X o (tY i))(he:QE X e f)
  (FN:attributeBase o "append" X.env (eval o X.env)=eval o X.env:=by rfl)
  (GQ:((backTo EH (starEach [e] X.env)).all (fun x=>!x.1)&&(backToKw EH (keywordEach [] X.env)).all (fun x=>x.1.isSome)&&decide ([e].length+([]:List Keyword).length+(if([]:List Keyword).isEmpty then 0 else 1)<30))=true:=by rfl)
  (FQ:(apos.endLine==EH.line)=true:=by rfl) (hs:starEach [e] X.env=(false,eval e X.env)::starEach [] X.env:=by rfl) (Fh:(backTo EH (starEach [] X.env)).any (·.1)=false:=by rfl):
  QE X (.Call (.Attribute o "append" apos) [e] [] EH) (xT i f):=by
 refine bI (zO PySem.F.plainAttrs_list PySem.F.slot_list_append PySem.F.type_list_append k4 ho (aA he bw hs) FN GQ FQ hs Fh) fun σ H Q EM=>?_
 obtain⟨G,env,fp,r,env',rel,e,k⟩:=EM;unfold xT at e;split at e
 ·rename_i hil;obtain⟨v,ev,ty⟩:=uX rel hil;obtain⟨⟨r1,Eo⟩,e1,e⟩:=ag e;dsimp only at e;split at e
  ·rename_i ds JF;split at e
   ·rename_i hl;cases e;refine⟨v,ev,ty,G,env,fp,[r1.2],Eo,rel,by show(f env).bind _=_;rw[e1];rfl,fun vs H1 G1 EL EE Es rs=>?_⟩;rw[Reps]at rs;obtain⟨y,ys,eys,ry,rn⟩:=rs;rw[Reps]at rn;subst rn;obtain⟨p,xs,ep,hp,MP,cg⟩:=Es.chg (ds':=ds++[r1.2]) JF;rw[ev]at ep;cases ep;obtain⟨fq,Ep,Ez⟩:=cg (xs++[y]) (MP.app (.one ry));exact⟨p,xs,y,rfl,eys,hp,by rw[MP.length];exact hl,k _ _ G1 fq (EE.trans Ez) (Ep.push jZ)⟩
   ·cases e
  ·cases e
 ·cases e
def CB:List D->Res R
 |[.lst ds]=>.ok (.f,.int ds.length)
 |[.tup ds]=>.ok (.f,.int ds.length)
 |[.str l]=>.ok (.f,.int l.length)
 |_=>.bad
theorem oD{K:W.Frag}{G H:Hp}{d:D}{xs:List V}(h:L6 K G H [d] xs):∃v,xs=[v]/\Vw K G H d v:=by
 obtain⟨y,ys,e,v1,e2⟩:=h;have e2:ys=[]:=e2;subst e2;exact⟨y,e,v1⟩
theorem Ax:dr X (.builtin "len") (rC X.K CB):=by
 rintro pi s σ H xs us Q I rx ⟨G,fp,es,vs,ds,r,⟨rel,k⟩,vd,e⟩;unfold CB at e;split at e
 ·rename_i ds;cases e;obtain⟨v,ev,p,ys,ep,sq,rs⟩:=oD vd;subst ev;subst ep;refine gI pi s σ H _ us Q I rx ⟨p,ys,rfl,.inl sq,?_⟩;rw[rs.length];exact k _ H G fp .refl (rel.push (bu _))
 ·rename_i ds;cases e;obtain⟨v,ev,vt⟩:=oD vd;obtain⟨p,ys,ep,sq,rs⟩:=fT vt;subst ev;subst ep;refine gI pi s σ H _ us Q I rx ⟨p,ys,rfl,.inr (bF rel.gh sq),?_⟩;rw[rs.length];exact k _ H G fp .refl (rel.push (bu _))
 ·rename_i l;cases e;obtain⟨v,ev,vt⟩:=oD vd;obtain⟨ep,hl⟩:=cU vt;subst ev;subst ep;refine kY pi s σ H _ us Q I rx ⟨S l,rfl,by rw[ji];exact hl,?_⟩;rw[ji];exact k _ H G fp .refl (rel.push (bu _))
 ·cases e
def D0:List D->Res R
 |[.lst ds]=>.ok (.l .f,.lst ds)
 |[.tup ds]=>.ok (.l .f,.lst ds)
 |_=>.bad
def fX:List D->Res R
 |[.lst ds]=>.ok (.f,.tup ds)
 |[.tup ds]=>.ok (.f,.tup ds)
 |_=>.bad
theorem eL:dr X (.type "tuple") (rC X.K fX):=by
 rintro pi s σ H xs us Q I rx ⟨G,fp,es,vs,ds,r,⟨rel,k⟩,vd,e⟩;unfold fX at e;split at e
 ·rename_i ds;cases e;obtain⟨v,ev,p,ys,ep,sq,rs⟩:=oD vd;subst ev;subst ep;refine fO pi s σ H _ us Q I rx ⟨p,ys,rfl,.inl ⟨sq,fun q hq=>?_⟩⟩;obtain⟨G2,Ep,Ez⟩:=j5 rel hq rs;exact k _ _ G2 _ Ez Ep
 ·rename_i ds;cases e;obtain⟨v,ev,vt⟩:=oD vd;obtain⟨p,ys,ep,sq,rs⟩:=fT vt;subst ev;subst ep;exact fO pi s σ H _ us Q I rx ⟨p,ys,rfl,.inr ⟨bF rel.gh sq,k _ H G fp .refl (rel.push vt)⟩⟩
 ·cases e
def lP:List D->Option (List Bool)
 |[]=>some []
 | .bl b::ds=>(lP ds).map (b:: ·)
 |_=>none
def e8:List D->Option (List Int)
 |[]=>some []
 | .int b::ds=>(e8 ds).map (b:: ·)
 |_=>none
theorem jz{K:W.Frag}{G:Hp}:∀{ds:List D}{bs:List Bool}{xs:List V},lP ds=some bs->Reps K G ds xs->xs=bs.map V.bl
 |[],_,_,e,r=>by
  cases e;rw[Reps]at r;exact r
 | .bl b::ds,_,_,e,r=>by
  rw[lP,P9]at e;obtain⟨bs,e1,e2⟩:=e;subst e2;rw[Reps]at r;obtain⟨y,ys,e3,r1,r2⟩:=r;rw[e3,bR r1,jz e1 r2];rfl
 | .non::_,_,_,e,_ | .int _::_,_,_,e,_ | .str _::_,_,_,e,_ | .tup _::_,_,_,e,_ | .lst _::_,_,_,e,_ | .dct _ _ _::_,_,_,e,_=>by simp[lP]at e
theorem iL{K:W.Frag}{G:Hp}:∀{ds:List D}{bs:List Int}{xs:List V},e8 ds=some bs->Reps K G ds xs->xs=bs.map V.int
 |[],_,_,e,r=>by
  cases e;rw[Reps]at r;exact r
 | .int b::ds,_,_,e,r=>by
  rw[e8,P9]at e;obtain⟨bs,e1,e2⟩:=e;subst e2;rw[Reps]at r;obtain⟨y,ys,e3,r1,r2⟩:=r;rw[e3,a9 r1,iL e1 r2];rfl
 | .non::_,_,_,e,_ | .bl _::_,_,_,e,_ | .str _::_,_,_,e,_ | .tup _::_,_,_,e,_ | .lst _::_,_,_,e,_ | .dct _ _ _::_,_,_,e,_=>by simp[e8]at e
theorem rL(ns:List Bool):lP (ns.map D.bl)=some ns:=by
 induction ns with
 |nil=>rfl
 |cons n ns ih=>rw[PY,lP,ih];rfl
def oE:D->Option (List D)
 | .lst ds=>some ds
 | .tup ds=>some ds
 |_=>none
theorem xU{K:W.Frag}{G H:Hp}{d:D}{ds:List D}{v:V}(gh:Same G H)(e:oE d=some ds)(h:Vw K G H d v):∃p xs,v=.ref p/\(SqL K H p xs\/SqT K H p xs)/\Reps K G ds xs:=by
 cases d with
 |lst es=>
  cases e;obtain⟨p,xs,ev,sq,rs⟩:=h;exact⟨p,xs,ev,.inl sq,rs⟩
 |tup es=>
  cases e;obtain⟨p,xs,ev,sq,rs⟩:=aS h;exact⟨p,xs,ev,.inr (bF gh sq),rs⟩
 |_=>cases e
def yQ:List D->Res R
 |[d]=>match(oE d).bind lP with
  |some bs=>.ok (.f,.bl (bs.all id))
  |none=>.bad
 |_=>.bad
theorem uY(bs:List Bool):(bs.map V.bl).all Cg=true:=by
 rw[QL,P7];intro b _;rfl
theorem xV(bs:List Bool):(bs.map V.bl).all zU=bs.all id:=by
 rw[QL];rfl
theorem wg(hc:X.calm=true):dr X (.builtin "all") (rC X.K yQ):=by
 rintro pi s σ H xs us Q I rx ⟨G,fp,es,vs,ds,r,⟨rel,k⟩,vd,e⟩;unfold yQ at e;split at e
 ·rename_i d;split at e
  ·rename_i bs hb;cases e;obtain⟨l,hl,hb⟩:=RC.mp hb;obtain⟨v,ev,vt⟩:=oD vd;obtain⟨p,ys,ep,sq,rs⟩:=xU rel.gh hl vt;have:=jz hb rs;subst this;subst ev;subst ep;refine uw hc pi s σ H _ us Q I rx ⟨p,_,rfl,sq,uY bs,?_⟩;rw[xV];exact k _ H G fp .refl (rel.push (bJ _))
  ·cases e
 ·cases e
def maxD:List D->Res R
 |[d]=>match(oE d).bind e8 with
  |some (n::ns)=>.ok (.f,.int (zV (n::ns)))
  |_=>.bad
 |[.int i,.int j]=>.ok (.f,.int (if i<j then j else i))
 |_=>.bad
end
mutual
noncomputable def Ew:D->D->Bool
 | .non,.non=>true
 | .bl a,.bl b=>a==b
 | .bl a,.int j=>(if a then 1 else 0)==j
 | .int i,.bl b=>i==(if b then 1 else 0)
 | .int i,.int j=>i==j
 | .str a,.str b=>a==b
 | .tup a,.tup b=>gA a b
 | .lst a,.lst b=>gA a b
 |_,_=>false
noncomputable def gA:List D->List D->Bool
 |[],[]=>true
 |a::as,b::bs=>Ew a b&&gA as bs
 |_,_=>false
end
mutual
noncomputable def plainD:Nat->D->Bool
 |n+1,.tup ds=>plainDs n ds
 |n+1,.lst ds=>plainDs n ds
 | 0,.tup _=>false
 | 0,.lst _=>false
 |_,.dct _ _ _=>false
 |_,_=>true
noncomputable def plainDs:Nat->List D->Bool
 |_,[]=>true
 |n,d::ds=>plainD n d&&plainDs n ds
end
theorem plainDs_mem:∀{n:Nat}{ds:List D},plainDs n ds=true->∀{i:Nat}{d:D},ds[i]?=some d->plainD n d=true
 |_,[],_,_,_,e=>by simp at e
 |n,a::ds,h,0,d,e=>by
  rw[plainDs,PL]at h;simp at e;rw[<-e];exact h.1
 |n,a::ds,h,i+1,d,e=>by
  rw[plainDs,PL]at h;exact plainDs_mem h.2 (i:=i) (by simpa using e)
theorem fY:∀{a b:List D},a.length≠b.length->gA a b=false
 |[],[],h=>absurd rfl h
 |[],_::_,_=>by simp only[gA]
 |_::_,[],_=>by simp only[gA]
 |x::xs,y::ys,h=>by
  rw[gA,fY (fun e=>h (by simp[e])),RM]
theorem dg:∀{a b:List D},a.length=b.length->(List.range a.length).all (fun j=>Ew (a.getD j .non) (b.getD j .non))=gA a b
 |[],[],_=>rfl
 |[],_::_,h=>by simp at h
 |_::_,[],h=>by simp at h
 |x::xs,y::ys,h=>by
  rw[gA,<-dg (a:=xs) (b:=ys) (by simpa using h),PD,List.range_succ_eq_map,SI,QL];rfl
section
variable{X:Cx}{pi:List (Addr×Obj)}{σ:L2.St}{H:Hp}{s:Shared}
theorem iM(I:Inv X pi σ H s){p:Addr}{xs ys:List V}(h:SqL X.K H p xs)(h':SqT X.K H p ys):False:=by
 obtain⟨us,_,p1,_⟩:=I.list h;obtain⟨ws,_,p2,_⟩:=I.tuple h';exact SeqAt.ne_of_list_tuple p1.isList (show s.heap.IsTuple p ws.toArray from p2) rfl
mutual
theorem j8(I:Inv X pi σ H s):∀(d e:D) (x:V) (n:Nat),plainD n d=true->Rep X.K H d x->Rep X.K H e x->d=e
 | .non,e,x,n,_,r,q=>by
  cases bL r;cases e with
  |non=>rfl
  |bl b=>cases bR q
  |int i=>cases a9 q
  |str l=>cases(aT q).1
  |tup l=>obtain⟨p,xs,ev,_⟩:=aS q;cases ev
  |lst l=>obtain⟨p,xs,ev,_⟩:=aX q;cases ev
  |dct tk ks vs=>rw[Rep]at q;obtain⟨p,xs,o,ev,_⟩:=q;cases ev
 | .bl b,e,x,n,_,r,q=>by
  cases bR r;cases e with
  |non=>cases bL q
  |bl b=>cases bR q;rfl
  |int i=>cases a9 q
  |str l=>cases(aT q).1
  |tup l=>obtain⟨p,xs,ev,_⟩:=aS q;cases ev
  |lst l=>obtain⟨p,xs,ev,_⟩:=aX q;cases ev
  |dct tk ks vs=>rw[Rep]at q;obtain⟨p,xs,o,ev,_⟩:=q;cases ev
 | .int i,e,x,n,_,r,q=>by
  cases a9 r;cases e with
  |non=>cases bL q
  |bl b=>cases bR q
  |int i=>cases a9 q;rfl
  |str l=>cases(aT q).1
  |tup l=>obtain⟨p,xs,ev,_⟩:=aS q;cases ev
  |lst l=>obtain⟨p,xs,ev,_⟩:=aX q;cases ev
  |dct tk ks vs=>rw[Rep]at q;obtain⟨p,xs,o,ev,_⟩:=q;cases ev
 | .str l,e,x,n,_,r,q=>by
  have hr:=(aT r).1;subst hr;cases e with
  |non=>cases bL q
  |bl b=>cases bR q
  |int i=>cases a9 q
  |str l'=>
   have hq:=(aT q).1;injection hq with hq;rw[S_inj hq]
  |tup l=>obtain⟨p,xs,ev,_⟩:=aS q;cases ev
  |lst l=>obtain⟨p,xs,ev,_⟩:=aX q;cases ev
  |dct tk ks vs=>rw[Rep]at q;obtain⟨p,xs,o,ev,_⟩:=q;cases ev
 | .tup l,e,x,n,h,r,q=>by
  obtain⟨p,xs,ev,sq,rs⟩:=aS r;subst ev;cases e with
  |non=>cases bL q
  |bl b=>cases bR q
  |int i=>cases a9 q
  |str l=>cases(aT q).1
  |tup l'=>
   obtain⟨p',FU,Gd,Fw,Gs⟩:=aS q;cases Gd;have:=I.tuple_inj sq Fw;subst this;cases n with
   |zero=>simp only[plainD]at h;cases h
   |succ n=>
    simp only[plainD]at h;rw[j9 I l l' xs n h rs Gs]
  |lst l'=>
   obtain⟨p',FU,Gd,Fw,Gs⟩:=aX q;cases Gd;exact(iM I Fw sq).elim
  |dct tk ks vs=>
   exfalso;rw[Rep]at q;obtain⟨p',FU,o,Gd,rd,dd,_⟩:=q;cases Gd;obtain⟨Er,_,ip,_⟩:=I.tuple sq;obtain⟨ob,ho,hc,_⟩:=ip;have K7:=rd.ok I.hok;cases tk with
   |true=>
    obtain⟨kvs,eo,_⟩:=dd;subst eo;obtain⟨_,_,_,_,o2,_,_,Fx,ex,_⟩:=K7;rw[ho]at Fx;cases Fx;rw[ex.1]at hc;exact absurd hc (by decide)
   |false=>
    obtain⟨kvs,eo,_⟩:=dd;subst eo;obtain⟨_,_,_,_,o2,_,_,Fx,ex,_⟩:=K7;rw[ho]at Fx;cases Fx;rw[ex.1]at hc;exact absurd hc (by decide)
 | .lst l,e,x,n,h,r,q=>by
  obtain⟨p,xs,ev,sq,rs⟩:=aX r;subst ev;cases e with
  |non=>cases bL q
  |bl b=>cases bR q
  |int i=>cases a9 q
  |str l=>cases(aT q).1
  |tup l'=>
   obtain⟨p',FU,Gd,Fw,Gs⟩:=aS q;cases Gd;exact(iM I sq Fw).elim
  |lst l'=>
   obtain⟨p',FU,Gd,Fw,Gs⟩:=aX q;cases Gd;have:=I.list_inj sq Fw;subst this;cases n with
   |zero=>simp only[plainD]at h;cases h
   |succ n=>
    simp only[plainD]at h;rw[j9 I l l' xs n h rs Gs]
  |dct tk ks vs=>
   exfalso;rw[Rep]at q;obtain⟨p',FU,o,Gd,rd,dd,_⟩:=q;cases Gd;obtain⟨Er,_,ip,_⟩:=I.list sq;obtain⟨ob,_,ho,hc,_⟩:=ip;have K7:=rd.ok I.hok;cases tk with
   |true=>
    obtain⟨kvs,eo,_⟩:=dd;subst eo;obtain⟨_,_,_,_,o2,_,_,Fx,ex,_⟩:=K7;rw[ho]at Fx;cases Fx;rw[ex.1]at hc;exact absurd hc (by decide)
   |false=>
    obtain⟨kvs,eo,_⟩:=dd;subst eo;obtain⟨_,_,_,_,o2,_,_,Fx,ex,_⟩:=K7;rw[ho]at Fx;cases Fx;rw[ex.1]at hc;exact absurd hc (by decide)
 | .dct _ _ _,_,_,n,h,_,_=>by cases n <;> (simp only[plainD]at h;cases h)
theorem j9(I:Inv X pi σ H s):∀(ds es:List D) (xs:List V) (n:Nat),plainDs n ds=true->Reps X.K H ds xs->Reps X.K H es xs->ds=es
 |[],es,xs,n,_,r,q=>by
  rw[Reps]at r;subst r;cases es with
  |nil=>rfl
  |cons e es=>
   rw[Reps]at q;obtain⟨y,ys,ev,_⟩:=q;cases ev
 |d::ds,es,xs,n,h,r,q=>by
  rw[Reps]at r;obtain⟨y,ys,ev,r1,r2⟩:=r;subst ev;rw[plainDs,PL]at h;cases es with
  |nil=>
   rw[Reps]at q;cases q
  |cons e es=>
   rw[Reps]at q;obtain⟨y',ys',ev,q1,q2⟩:=q;cases ev;rw[j8 I d e y n h.1 r1 q1,j9 I ds es ys n h.2 r2 q2]
end
mutual
theorem fZ:∀(d:D) (n:Nat),plainD n d=true->Ew d d=true
 | .non,_,_=>by simp only[Ew]
 | .bl _,_,_=>by simp only[Ew,Qi]
 | .int _,_,_=>by simp only[Ew,Qi]
 | .str _,_,_=>by simp only[Ew,Qi]
 | .tup ds,0,h=>by simp only[plainD]at h;cases h
 | .tup ds,n+1,h=>by simp only[plainD]at h;simp only[Ew];exact iN ds n h
 | .lst ds,0,h=>by simp only[plainD]at h;cases h
 | .lst ds,n+1,h=>by simp only[plainD]at h;simp only[Ew];exact iN ds n h
 | .dct _ _ _,n,h=>by cases n <;> (simp only[plainD]at h;cases h)
theorem iN:∀(ds:List D) (n:Nat),plainDs n ds=true->gA ds ds=true
 |[],_,_=>by simp only[gA]
 |d::ds,n,h=>by
  rw[plainDs,PL]at h;rw[gA,fZ d n h.1,iN ds n h.2];rfl
end
open PySem.SeqAt
theorem bf{n:Nat}{tk:Bool}{ks vs:List D}(h:plainD n (.dct tk ks vs)=true):False:=by cases n <;> (simp only[plainD]at h;cases h)
mutual
theorem Ay(I:Inv X pi σ H s):∀(d e:D) (x y:V) (v u:Value) (A:Around) (n:Nat),plainD n d=true->plainD n e=true->A.units+n<cLine->Rep X.K H d x->Rep X.K H e y->RelV x v->RelV y u->EqAt A s v u (Ew d e)
 | .non,e,x,y,v,u,A,n,h,h',hu,r,q,rx,ry=>by
  cases bL r;cases rx;cases e with
  |non=>cases bL q;cases ry;simp only[Ew];exact .same _
  |bl b=>cases bR q;cases ry;simp only[Ew];exact .none_bool _
  |int i=>cases a9 q;obtain⟨t,rfl⟩:=ry;simp only[Ew];exact .none_int _ _
  |str l=>cases(aT q).1;obtain⟨t,rfl⟩:=ry;simp only[Ew];exact .none_str _ _
  |tup l=>obtain⟨p,xs,rfl,sq,_⟩:=aS q;cases ry;obtain⟨Er,_,ip,_⟩:=I.tuple sq;simp only[Ew];exact .none_tuple (show s.heap.IsTuple p Er.toArray from ip) (by lia)
  |lst l=>obtain⟨p,xs,rfl,sq,_⟩:=aX q;cases ry;obtain⟨Er,_,ip,_⟩:=I.list sq;simp only[Ew];exact .none_list ip.isList (by lia)
  |dct tk ks vs=>exact(bf h').elim
 | .bl b,e,x,y,v,u,A,n,h,h',hu,r,q,rx,ry=>by
  cases bR r;cases rx;cases e with
  |non=>cases bL q;cases ry;simp only[Ew];exact .bool_none _
  |bl b=>cases bR q;cases ry;simp only[Ew];exact .bool_bool _ _
  |int i=>cases a9 q;obtain⟨t,rfl⟩:=ry;simp only[Ew];exact .bool_int _ _ _
  |str l=>cases(aT q).1;obtain⟨t,rfl⟩:=ry;simp only[Ew];exact .bool_str _ _ _
  |tup l=>obtain⟨p,xs,rfl,sq,_⟩:=aS q;cases ry;obtain⟨Er,_,ip,_⟩:=I.tuple sq;simp only[Ew];exact .bool_tuple _ (show s.heap.IsTuple p Er.toArray from ip) (by lia)
  |lst l=>obtain⟨p,xs,rfl,sq,_⟩:=aX q;cases ry;obtain⟨Er,_,ip,_⟩:=I.list sq;simp only[Ew];exact .bool_list _ ip.isList (by lia)
  |dct tk ks vs=>exact(bf h').elim
 | .int b,e,x,y,v,u,A,n,h,h',hu,r,q,rx,ry=>by
  cases a9 r;obtain⟨t0,rfl⟩:=rx;cases e with
  |non=>cases bL q;cases ry;simp only[Ew];exact .int_none _ _
  |bl b=>cases bR q;cases ry;simp only[Ew];exact .int_bool _ _ _
  |int i=>cases a9 q;obtain⟨t,rfl⟩:=ry;simp only[Ew];exact .int_int _ _ _ _
  |str l=>cases(aT q).1;obtain⟨t,rfl⟩:=ry;simp only[Ew];exact .int_str _ _ _ _
  |tup l=>obtain⟨p,xs,rfl,sq,_⟩:=aS q;cases ry;obtain⟨Er,_,ip,_⟩:=I.tuple sq;simp only[Ew];exact .int_tuple _ _ (show s.heap.IsTuple p Er.toArray from ip) (by lia)
  |lst l=>obtain⟨p,xs,rfl,sq,_⟩:=aX q;cases ry;obtain⟨Er,_,ip,_⟩:=I.list sq;simp only[Ew];exact .int_list _ _ ip.isList (by lia)
  |dct tk ks vs=>exact(bf h').elim
 | .str b,e,x,y,v,u,A,n,h,h',hu,r,q,rx,ry=>by
  have hr:=(aT r).1;subst hr;obtain⟨t0,rfl⟩:=rx;cases e with
  |non=>cases bL q;cases ry;simp only[Ew];exact .str_none _ _
  |bl b=>cases bR q;cases ry;simp only[Ew];exact .str_bool _ _ _
  |int i=>cases a9 q;obtain⟨t,rfl⟩:=ry;simp only[Ew];exact .str_int _ _ _ _
  |str l=>
   have hq:=(aT q).1;subst hq;obtain⟨t,rfl⟩:=ry;have e1:(b==l)=(S b==S l):=by
    rw[P8,Ql,Ql];exact⟨fun z=>by rw[z],S_inj⟩
   simp only[Ew,e1];exact .str_str _ _ _ _
  |tup l=>obtain⟨p,xs,rfl,sq,_⟩:=aS q;cases ry;obtain⟨Er,_,ip,_⟩:=I.tuple sq;simp only[Ew];exact .str_tuple _ _ (show s.heap.IsTuple p Er.toArray from ip) (by lia)
  |lst l=>obtain⟨p,xs,rfl,sq,_⟩:=aX q;cases ry;obtain⟨Er,_,ip,_⟩:=I.list sq;simp only[Ew];exact .str_list _ _ ip.isList (by lia)
  |dct tk ks vs=>exact(bf h').elim
 | .tup l,e,x,y,v,u,A,n,h,h',hu,r,q,rx,ry=>by
  have rr:=r;obtain⟨p,xs,ev,sq,rs⟩:=aS r;subst ev;cases rx;obtain⟨Er,vl,ip,_⟩:=I.tuple sq;have ip:s.heap.IsTuple p Er.toArray:=ip;cases e with
  |non=>cases bL q;cases ry;simp only[Ew];exact .tuple_none ip (by lia)
  |bl b=>cases bR q;cases ry;simp only[Ew];exact .tuple_bool _ ip (by lia)
  |int i=>cases a9 q;obtain⟨t,rfl⟩:=ry;simp only[Ew];exact .tuple_int _ _ ip (by lia)
  |str l=>cases(aT q).1;obtain⟨t,rfl⟩:=ry;simp only[Ew];exact .tuple_str _ _ ip (by lia)
  |tup l'=>
   obtain⟨p',FU,Gd,Fw,Gs⟩:=aS q;subst Gd;cases ry;by_cases hp:p=p'
   ·subst hp;have hz:=j8 I _ _ _ n h rr q;rw[<-hz,fZ _ n h];exact .same _
   ·obtain⟨its',IV,FK,_⟩:=I.tuple Fw;have FK:s.heap.IsTuple p' its'.toArray:=FK;cases n with
    |zero=>simp only[plainD]at h;cases h
    |succ n=>
     simp only[plainD]at h h';have l1:=vl.length;have l2:=IV.length;have l3:=rs.length;have l4:=Gs.length;have key:=RcAt.tuples (A:=A) (e:=fun j=>Ew (l.getD j .non) (l'.getD j .non)) ip FK (by lia) fun j h1 h2=>by
      simp only[Pu]at h1 h2;have g1:l[j]?=some (l[j]'(by lia)):=List.getElem?_eq_getElem _;have g2:l'[j]?=some (l'[j]'(by lia)):=List.getElem?_eq_getElem _;obtain⟨w1,Iz,IW⟩:=rs.get g1;obtain⟨w2,IX,JT⟩:=Gs.get g2;obtain⟨u1,Hy,IY⟩:=vl.get Iz;obtain⟨u2,Hw,JU⟩:=IV.get IX;have q1:Er.toArray[j]=u1:=by rw[List.getElem?_eq_getElem h1]at Hy;simpa using Hy
      have q2:its'.toArray[j]=u2:=by rw[List.getElem?_eq_getElem h2]at Hw;simpa using Hw
      rw[q1,q2,List.getD_eq_getElem?_getD,List.getD_eq_getElem?_getD,g1,g2];exact lQ I l j _ g1 _ w1 w2 u1 u2 A.in1 n (plainDs_mem h g1) (plainDs_mem h' g2) (by show A.units+1+n<cLine;lia) IW JT IY JU
     simp only[Ew];have fin:((List.range (min Er.toArray.size its'.toArray.size)).all (fun j=>Ew (l.getD j .non) (l'.getD j .non))&&Er.toArray.size==its'.toArray.size)=gA l l':=by
      simp only[Pu];by_cases hl:l.length=l'.length
      ·rw[<-dg hl,show min Er.length its'.length=l.length by lia,show(Er.length==its'.length)=true by rw[Ql];lia,UD]
      ·rw[fY hl,show(Er.length==its'.length)=false by rw[Rz];lia,RM]
     rw[<-fin];exact .of_refs hp key
  |lst l'=>obtain⟨p',FU,Gd,Fw,_⟩:=aX q;subst Gd;cases ry;obtain⟨its',_,FK,_⟩:=I.list Fw;simp only[Ew];exact .tuple_list ip FK.isList (by lia)
  |dct tk ks vs=>exact(bf h').elim
 | .lst l,e,x,y,v,u,A,n,h,h',hu,r,q,rx,ry=>by
  have rr:=r;obtain⟨p,xs,ev,sq,rs⟩:=aX r;subst ev;cases rx;obtain⟨Er,vl,ip,_⟩:=I.list sq;have ip:=ip.isList;cases e with
  |non=>cases bL q;cases ry;simp only[Ew];exact .list_none ip (by lia)
  |bl b=>cases bR q;cases ry;simp only[Ew];exact .list_bool _ ip (by lia)
  |int i=>cases a9 q;obtain⟨t,rfl⟩:=ry;simp only[Ew];exact .list_int _ _ ip (by lia)
  |str l=>cases(aT q).1;obtain⟨t,rfl⟩:=ry;simp only[Ew];exact .list_str _ _ ip (by lia)
  |lst l'=>
   obtain⟨p',FU,Gd,Fw,Gs⟩:=aX q;subst Gd;cases ry;by_cases hp:p=p'
   ·subst hp;have hz:=j8 I _ _ _ n h rr q;rw[<-hz,fZ _ n h];exact .same _
   ·obtain⟨its',IV,FK,_⟩:=I.list Fw;have FK:=FK.isList;cases n with
    |zero=>simp only[plainD]at h;cases h
    |succ n=>
     simp only[plainD]at h h';have l1:=vl.length;have l2:=IV.length;have l3:=rs.length;have l4:=Gs.length;simp only[Ew];by_cases hl:l.length=l'.length
     ·have key:=RcAt.lists (A:=A) (e:=fun j=>Ew (l.getD j .non) (l'.getD j .non)) ip FK (by simp only[Pu];lia) (by lia) fun j h1 h2=>by
       simp only[Pu]at h1 h2;have g1:l[j]?=some (l[j]'(by lia)):=List.getElem?_eq_getElem _;have g2:l'[j]?=some (l'[j]'(by lia)):=List.getElem?_eq_getElem _;obtain⟨w1,Iz,IW⟩:=rs.get g1;obtain⟨w2,IX,JT⟩:=Gs.get g2;obtain⟨u1,Hy,IY⟩:=vl.get Iz;obtain⟨u2,Hw,JU⟩:=IV.get IX;have q1:Er.toArray[j]=u1:=by rw[List.getElem?_eq_getElem h1]at Hy;simpa using Hy
       have q2:its'.toArray[j]=u2:=by rw[List.getElem?_eq_getElem h2]at Hw;simpa using Hw
       rw[q1,q2,List.getD_eq_getElem?_getD,List.getD_eq_getElem?_getD,g1,g2];exact lQ I l j _ g1 _ w1 w2 u1 u2 A.in1 n (plainDs_mem h g1) (plainDs_mem h' g2) (by show A.units+1+n<cLine;lia) IW JT IY JU
      rw[<-dg hl,show l.length=Er.toArray.size by simp only[Pu];lia];exact .of_refs hp key
     ·rw[fY hl];exact .of_refs hp (RcAt.lists_lengths ip FK (by simp only[Pu,Wf];lia) (by lia))
  |tup l'=>obtain⟨p',FU,Gd,Fw,_⟩:=aS q;subst Gd;cases ry;obtain⟨its',_,FK,_⟩:=I.tuple Fw;simp only[Ew];exact .list_tuple ip (show s.heap.IsTuple p' its'.toArray from FK) (by lia)
  |dct tk ks vs=>exact(bf h').elim
 | .dct _ _ _,_,_,_,_,_,_,n,h,_,_,_,_,_,_=>(bf h).elim
theorem lQ(I:Inv X pi σ H s):∀(ds:List D) (j:Nat) (d:D),ds[j]?=some d->∀(e:D) (x y:V) (v u:Value) (A:Around) (n:Nat),plainD n d=true->plainD n e=true->A.units+n<cLine->Rep X.K H d x->Rep X.K H e y->RelV x v->RelV y u->EqAt A s v u (Ew d e)
 |[],_,_,hj=>by simp at hj
 |d'::ds,0,d,hj=>by
  simp at hj;subst hj;exact Ay I d'
 |d'::ds,j+1,d,hj=>lQ I ds j d (by simpa using hj)
end
end
section
variable{X:Cx}
def HG(a b:D):Res R:=if plainD 40 a&&plainD 40 b then .ok (.f,.bl (Ew a b)) else .bad
def Hz(a b:D):Res R:=if plainD 40 a&&plainD 40 b then .ok (.f,.bl (!Ew a b)) else .bad
open PySem.SeqAt in
theorem Az{pi:List (Addr×Obj)}{σ:L2.St}{H:Hp}{s:Shared}(I:Inv X pi σ H s){d e:D}{x y:V}{v u:Value}{A:Around}(h:plainD 40 d=true)(h':plainD 40 e=true)(hu:A.units+64<cLine)(r:Rep X.K H d x)(q:Rep X.K H e y)(rx:RelV x v)(ry:RelV y u):
  RcAt A s v u (Ew d e)/\RcNeAt A s v u (!Ew d e):=by
 cases d with
 |non=>
  cases bL r;cases rx;cases e with
  |non=>cases bL q;cases ry;simp only[Ew];exact⟨.none_none,.none_none⟩
  |bl b=>cases bR q;cases ry;simp only[Ew];exact⟨.none_bool _,.none_bool _⟩
  |int i=>cases a9 q;obtain⟨t,rfl⟩:=ry;simp only[Ew];exact⟨.none_int _ _,.none_int _ _⟩
  |str l=>cases(aT q).1;obtain⟨t,rfl⟩:=ry;simp only[Ew];exact⟨.none_str _ _,.none_str _ _⟩
  |tup l=>obtain⟨p,xs,rfl,sq,_⟩:=aS q;cases ry;obtain⟨Er,_,ip,_⟩:=I.tuple sq;simp only[Ew];exact⟨.none_tuple (show s.heap.IsTuple p Er.toArray from ip) (by lia),.none_tuple (show s.heap.IsTuple p Er.toArray from ip) (by lia)⟩
  |lst l=>obtain⟨p,xs,rfl,sq,_⟩:=aX q;cases ry;obtain⟨Er,_,ip,_⟩:=I.list sq;simp only[Ew];exact⟨.none_list ip.isList (by lia),.none_list ip.isList (by lia)⟩
  |dct tk ks vs=>exact(bf h').elim
 |bl b=>
  cases bR r;cases rx;cases e with
  |non=>cases bL q;cases ry;simp only[Ew];exact⟨.bool_none _,.bool_none _⟩
  |bl b=>cases bR q;cases ry;simp only[Ew];exact⟨.bool_bool _ _,.bool_bool _ _⟩
  |int i=>cases a9 q;obtain⟨t,rfl⟩:=ry;simp only[Ew];exact⟨.bool_int _ _ _,.bool_int _ _ _⟩
  |str l=>cases(aT q).1;obtain⟨t,rfl⟩:=ry;simp only[Ew];exact⟨.bool_str _ _ _,.bool_str _ _ _⟩
  |tup l=>obtain⟨p,xs,rfl,sq,_⟩:=aS q;cases ry;obtain⟨Er,_,ip,_⟩:=I.tuple sq;simp only[Ew];exact⟨.bool_tuple _ (show s.heap.IsTuple p Er.toArray from ip) (by lia),.bool_tuple _ (show s.heap.IsTuple p Er.toArray from ip) (by lia)⟩
  |lst l=>obtain⟨p,xs,rfl,sq,_⟩:=aX q;cases ry;obtain⟨Er,_,ip,_⟩:=I.list sq;simp only[Ew];exact⟨.bool_list _ ip.isList (by lia),.bool_list _ ip.isList (by lia)⟩
  |dct tk ks vs=>exact(bf h').elim
 |int b=>
  cases a9 r;obtain⟨t0,rfl⟩:=rx;cases e with
  |non=>cases bL q;cases ry;simp only[Ew];exact⟨.int_none _ _,.int_none _ _⟩
  |bl b=>cases bR q;cases ry;simp only[Ew];exact⟨.int_bool _ _ _,.int_bool _ _ _⟩
  |int i=>cases a9 q;obtain⟨t,rfl⟩:=ry;simp only[Ew];exact⟨.int_int _ _ _ _,.int_int _ _ _ _⟩
  |str l=>cases(aT q).1;obtain⟨t,rfl⟩:=ry;simp only[Ew];exact⟨.int_str _ _ _ _,.int_str _ _ _ _⟩
  |tup l=>obtain⟨p,xs,rfl,sq,_⟩:=aS q;cases ry;obtain⟨Er,_,ip,_⟩:=I.tuple sq;simp only[Ew];exact⟨.int_tuple _ _ (show s.heap.IsTuple p Er.toArray from ip) (by lia),.int_tuple _ _ (show s.heap.IsTuple p Er.toArray from ip) (by lia)⟩
  |lst l=>obtain⟨p,xs,rfl,sq,_⟩:=aX q;cases ry;obtain⟨Er,_,ip,_⟩:=I.list sq;simp only[Ew];exact⟨.int_list _ _ ip.isList (by lia),.int_list _ _ ip.isList (by lia)⟩
  |dct tk ks vs=>exact(bf h').elim
 |str b=>
  have hr:=(aT r).1;subst hr;obtain⟨t0,rfl⟩:=rx;cases e with
  |non=>cases bL q;cases ry;simp only[Ew];exact⟨.str_none _ _,.str_none _ _⟩
  |bl b=>cases bR q;cases ry;simp only[Ew];exact⟨.str_bool _ _ _,.str_bool _ _ _⟩
  |int i=>cases a9 q;obtain⟨t,rfl⟩:=ry;simp only[Ew];exact⟨.str_int _ _ _ _,.str_int _ _ _ _⟩
  |str l=>
   have hq:=(aT q).1;subst hq;obtain⟨t,rfl⟩:=ry;have e1:(b==l)=(S b==S l):=by
    rw[P8,Ql,Ql];exact⟨fun z=>by rw[z],S_inj⟩
   simp only[Ew,e1];exact⟨.str_str _ _ _ _,.str_str _ _ _ _⟩
  |tup l=>obtain⟨p,xs,rfl,sq,_⟩:=aS q;cases ry;obtain⟨Er,_,ip,_⟩:=I.tuple sq;simp only[Ew];exact⟨.str_tuple _ _ (show s.heap.IsTuple p Er.toArray from ip) (by lia),.str_tuple _ _ (show s.heap.IsTuple p Er.toArray from ip) (by lia)⟩
  |lst l=>obtain⟨p,xs,rfl,sq,_⟩:=aX q;cases ry;obtain⟨Er,_,ip,_⟩:=I.list sq;simp only[Ew];exact⟨.str_list _ _ ip.isList (by lia),.str_list _ _ ip.isList (by lia)⟩
  |dct tk ks vs=>exact(bf h').elim
 |tup l=>
  obtain⟨p,xs,ev,sq,rs⟩:=aS r;subst ev;cases rx;obtain⟨Er,vl,ip,_⟩:=I.tuple sq;have ip:s.heap.IsTuple p Er.toArray:=ip;cases e with
  |non=>cases bL q;cases ry;simp only[Ew];exact⟨.tuple_none ip (by lia),.tuple_none ip (by lia)⟩
  |bl b=>cases bR q;cases ry;simp only[Ew];exact⟨.tuple_bool _ ip (by lia),.tuple_bool _ ip (by lia)⟩
  |int i=>cases a9 q;obtain⟨t,rfl⟩:=ry;simp only[Ew];exact⟨.tuple_int _ _ ip (by lia),.tuple_int _ _ ip (by lia)⟩
  |str l=>cases(aT q).1;obtain⟨t,rfl⟩:=ry;simp only[Ew];exact⟨.tuple_str _ _ ip (by lia),.tuple_str _ _ ip (by lia)⟩
  |tup l'=>
   obtain⟨p',FU,Gd,Fw,Gs⟩:=aS q;subst Gd;cases ry;obtain⟨its',IV,FK,_⟩:=I.tuple Fw;have FK:s.heap.IsTuple p' its'.toArray:=FK;simp only[plainD]at h h';have l1:=vl.length;have l2:=IV.length;have l3:=rs.length;have l4:=Gs.length;have el:∀j (h1:j<Er.toArray.size) (h2:j<its'.toArray.size),EqAt A.in1 s Er.toArray[j] its'.toArray[j] ((fun j=>Ew (l.getD j .non) (l'.getD j .non)) j):=fun j h1 h2=>by
    simp only[Pu]at h1 h2;have g1:l[j]?=some (l[j]'(by lia)):=List.getElem?_eq_getElem _;have g2:l'[j]?=some (l'[j]'(by lia)):=List.getElem?_eq_getElem _;obtain⟨w1,Iz,IW⟩:=rs.get g1;obtain⟨w2,IX,JT⟩:=Gs.get g2;obtain⟨u1,Hy,IY⟩:=vl.get Iz;obtain⟨u2,Hw,JU⟩:=IV.get IX;have q1:Er.toArray[j]=u1:=by rw[List.getElem?_eq_getElem h1]at Hy;simpa using Hy
    have q2:its'.toArray[j]=u2:=by rw[List.getElem?_eq_getElem h2]at Hw;simpa using Hw
    dsimp only;rw[q1,q2,List.getD_eq_getElem?_getD,List.getD_eq_getElem?_getD,g1,g2];exact lQ I l j _ g1 _ w1 w2 u1 u2 A.in1 39 (plainDs_mem h g1) (plainDs_mem h' g2) (by show A.units+1+39<cLine;lia) IW JT IY JU
   simp only[Ew];have fin:((List.range (min Er.toArray.size its'.toArray.size)).all (fun j=>Ew (l.getD j .non) (l'.getD j .non))&&Er.toArray.size==its'.toArray.size)=gA l l':=by
    simp only[Pu];by_cases hl:l.length=l'.length
    ·rw[<-dg hl,show min Er.length its'.length=l.length by lia,show(Er.length==its'.length)=true by rw[Ql];lia,UD]
    ·rw[fY hl,show(Er.length==its'.length)=false by rw[Rz];lia,RM]
   rw[<-fin];exact⟨.tuples ip FK (by lia) el,.tuples ip FK (by lia) el⟩
  |lst l'=>obtain⟨p',FU,Gd,Fw,_⟩:=aX q;subst Gd;cases ry;obtain⟨its',_,FK,_⟩:=I.list Fw;simp only[Ew];exact⟨.tuple_list ip FK.isList (by lia),.tuple_list ip FK.isList (by lia)⟩
  |dct tk ks vs=>exact(bf h').elim
 |lst l=>
  obtain⟨p,xs,ev,sq,rs⟩:=aX r;subst ev;cases rx;obtain⟨Er,vl,ip,_⟩:=I.list sq;have ip:=ip.isList;cases e with
  |non=>cases bL q;cases ry;simp only[Ew];exact⟨.list_none ip (by lia),.list_none ip (by lia)⟩
  |bl b=>cases bR q;cases ry;simp only[Ew];exact⟨.list_bool _ ip (by lia),.list_bool _ ip (by lia)⟩
  |int i=>cases a9 q;obtain⟨t,rfl⟩:=ry;simp only[Ew];exact⟨.list_int _ _ ip (by lia),.list_int _ _ ip (by lia)⟩
  |str l=>cases(aT q).1;obtain⟨t,rfl⟩:=ry;simp only[Ew];exact⟨.list_str _ _ ip (by lia),.list_str _ _ ip (by lia)⟩
  |lst l'=>
   obtain⟨p',FU,Gd,Fw,Gs⟩:=aX q;subst Gd;cases ry;obtain⟨its',IV,FK,_⟩:=I.list Fw;have FK:=FK.isList;simp only[plainD]at h h';have l1:=vl.length;have l2:=IV.length;have l3:=rs.length;have l4:=Gs.length;simp only[Ew];by_cases hl:l.length=l'.length
   ·have el:∀j (h1:j<Er.toArray.size) (h2:j<its'.toArray.size),EqAt A.in1 s Er.toArray[j] its'.toArray[j] ((fun j=>Ew (l.getD j .non) (l'.getD j .non)) j):=fun j h1 h2=>by
     simp only[Pu]at h1 h2;have g1:l[j]?=some (l[j]'(by lia)):=List.getElem?_eq_getElem _;have g2:l'[j]?=some (l'[j]'(by lia)):=List.getElem?_eq_getElem _;obtain⟨w1,Iz,IW⟩:=rs.get g1;obtain⟨w2,IX,JT⟩:=Gs.get g2;obtain⟨u1,Hy,IY⟩:=vl.get Iz;obtain⟨u2,Hw,JU⟩:=IV.get IX;have q1:Er.toArray[j]=u1:=by rw[List.getElem?_eq_getElem h1]at Hy;simpa using Hy
     have q2:its'.toArray[j]=u2:=by rw[List.getElem?_eq_getElem h2]at Hw;simpa using Hw
     dsimp only;rw[q1,q2,List.getD_eq_getElem?_getD,List.getD_eq_getElem?_getD,g1,g2];exact lQ I l j _ g1 _ w1 w2 u1 u2 A.in1 39 (plainDs_mem h g1) (plainDs_mem h' g2) (by show A.units+1+39<cLine;lia) IW JT IY JU
    rw[<-dg hl,show l.length=Er.toArray.size by simp only[Pu];lia];exact⟨.lists ip FK (by simp only[Pu];lia) (by lia) el,.lists ip FK (by simp only[Pu];lia) (by lia) el⟩
   ·rw[fY hl];exact⟨.lists_lengths ip FK (by simp only[Pu,Wf];lia) (by lia),.lists_lengths ip FK (by simp only[Pu,Wf];lia) (by lia)⟩
  |tup l'=>obtain⟨p',FU,Gd,Fw,_⟩:=aS q;subst Gd;cases ry;obtain⟨its',_,FK,_⟩:=I.tuple Fw;simp only[Ew];exact⟨.list_tuple ip (show s.heap.IsTuple p' its'.toArray from FK) (by lia),.list_tuple ip (show s.heap.IsTuple p' its'.toArray from FK) (by lia)⟩
  |dct tk ks vs=>exact(bf h').elim
 |dct tk ks vs=>exact(bf h).elim
theorem pO(hu:X.A.units+64<cLine):EX X (compareOp .Eq) (rGA X.K HG):=by
 rintro pi s σ H x y v u Q I rx ry ⟨G,fp,es,vs,a,b,r,⟨rel,k⟩,va,vb,e⟩;unfold HG at e;split at e
 ·rename_i hp;cases e;rw[PL]at hp;exact(Az I hp.1 hp.2 hu va vb rx ry).1 _ _ _ _ ⟨.bl _,H,I,rfl,k _ H G fp .refl (rel.push (bJ _))⟩
 ·cases e
theorem lR(hu:X.A.units+64<cLine):EX X (compareOp .NotEq) (rGA X.K Hz):=by
 rintro pi s σ H x y v u Q I rx ry ⟨G,fp,es,vs,a,b,r,⟨rel,k⟩,va,vb,e⟩;unfold Hz at e;split at e
 ·rename_i hp;cases e;rw[PL]at hp;exact(Az I hp.1 hp.2 hu va vb rx ry).2 _ _ _ _ ⟨.bl _,H,I,rfl,k _ H G fp .refl (rel.push (bJ _))⟩
 ·cases e
def wj(a:D)(ds:List D):Bool:=ds.any fun d=>Ew d a
noncomputable def IJ(a b:D):Res R:=match b with
 | .lst ds=>if plainD 40 a&&plainDs 40 ds then .ok (.f,.bl (wj a ds)) else .bad
 | .tup ds=>if plainD 40 a&&plainDs 40 ds then .ok (.f,.bl (wj a ds)) else .bad
 | .str l=>match a with
  | .str [c]=>.ok (.f,.bl (decide (c∈l)))
  |_=>.bad
 |_=>.bad
def AB(a b:D):Res R:=(IJ a b).bind fun r=>match r.2 with
 | .bl k=>.ok (.f,.bl (!k))
 |_=>.bad
open PySem.SeqAt in
theorem oF{pi:List (Addr×Obj)}{σ:L2.St}{H:Hp}{s:Shared}(I:Inv X pi σ H s){a:D}{x:V}{v:Value}{A:Around}(h:plainD 40 a=true)(hu:A.units+64<cLine)(r:Rep X.K H a x)(rx:RelV x v):
  ∀(ds:List D) (xs:List V) (us:List Value),plainDs 40 ds=true->Reps X.K H ds xs->Vals xs us->∃e:Value->Bool,us.any e=wj a ds/\∀u∈us,EqAt A s u v (e u):=by
 classical
 intro ds xs us hp rs vl;refine⟨fun u=>decide (∃(j:Nat) (d:D),ds[j]?=some d/\us[j]?=some u/\Ew d a=true),?_,fun u K9=>?_⟩
 ·rw[P8,RI];unfold wj;rw[RI];constructor
  ·rintro⟨u,_,hd⟩;obtain⟨j,d,h1,_,h2⟩:=QY hd;exact⟨d,Qf h1,h2⟩
  ·rintro⟨d,hd,h2⟩;obtain⟨j,hj⟩:=Q3.mp hd;obtain⟨w1,Iz,IW⟩:=rs.get hj;obtain⟨u1,Hy,IY⟩:=vl.get Iz;exact⟨u1,Qf Hy,PR ⟨j,d,hj,Hy,h2⟩⟩
 ·obtain⟨j,hj⟩:=Q3.mp K9;have l1:=vl.length;have l2:=rs.length;have hjl:=(List.getElem?_eq_some_iff.mp hj).1;have g1:ds[j]?=some (ds[j]'(by lia)):=List.getElem?_eq_getElem _;obtain⟨w1,Iz,IW⟩:=rs.get g1;obtain⟨u1,Hy,IY⟩:=vl.get Iz;rw[hj]at Hy;cases Hy;have z:=Ay I _ _ w1 x u v A 40 (plainDs_mem hp g1) h (by lia) IW r IY rx;have e:decide (∃(j:Nat) (d:D),ds[j]?=some d/\us[j]?=some u/\Ew d a=true)=Ew (ds[j]'(by lia)) a:=by
   rw[P8,PQ];constructor
   ·rintro⟨j2,d2,k1,k2,k3⟩;obtain⟨w2,IX,JT⟩:=rs.get k1;obtain⟨u2,Hw,JU⟩:=vl.get IX;rw[k2]at Hw;cases Hw;have:=IY.inj JU;subst this;rw[j8 I _ _ _ 40 (plainDs_mem hp g1) IW JT];exact k3
   ·intro k3;exact⟨j,_,g1,hj,k3⟩
  show EqAt A s u v (decide (∃(j:Nat) (d:D),ds[j]?=some d/\us[j]?=some u/\Ew d a=true));rw[e];exact z
theorem lS(l:List Nat)(c:Nat):(!(Builtin.Str.occurrences (S l) (S [c]) 0 (S l).length 1).isEmpty)=decide (c∈l):=by
 have h:=PySem.StrLaws.found_one (S l) c;rw[bZ]at h;exact h
theorem ka{e:Value->Bool}(us:List Value):us.toArray.any e=us.any e:=by simp
theorem CD(hu:X.A.units+65<cLine):EX X (compareOp .In) (rGA X.K IJ):=by
 rintro pi s σ H x y v u Q I rx ry ⟨G,fp,es,vs,a,b,r,⟨rel,k⟩,va,vb,e⟩;unfold IJ at e;split at e
 ·rename_i ds;split at e
  ·rename_i hp;cases e;rw[PL]at hp;obtain⟨p,xs,ev,sq,rs⟩:=aX vb;subst ev;cases ry;obtain⟨Er,vl,ip,_⟩:=I.list sq;obtain⟨ef,e1,e2⟩:=oF (A:=X.A.in1) I hp.1 (by show X.A.units+1+64<cLine;lia) va rx ds xs Er hp.2 rs vl;refine SeqAt.in_listAt ef ip.isList (fun z hz=>e2 z (by simpa using hz)) ?_;rw[ka,e1];exact⟨.bl _,H,I,rfl,k _ H G fp .refl (rel.push (bJ _))⟩
  ·cases e
 ·rename_i ds;split at e
  ·rename_i hp;cases e;rw[PL]at hp;obtain⟨p,xs,ev,sq,rs⟩:=aS vb;subst ev;cases ry;obtain⟨Er,vl,ip,_⟩:=I.tuple sq;obtain⟨ef,e1,e2⟩:=oF (A:=X.A.in1) I hp.1 (by show X.A.units+1+64<cLine;lia) va rx ds xs Er hp.2 rs vl;refine SeqAt.in_tupleAt ef (show s.heap.IsTuple p Er.toArray from ip) (fun z hz=>e2 z (by simpa using hz)) ?_;rw[ka,e1];exact⟨.bl _,H,I,rfl,k _ H G fp .refl (rel.push (bJ _))⟩
  ·cases e
 ·rename_i l;split at e
  ·rename_i c;cases e;obtain⟨e1,h1⟩:=aT va;obtain⟨e2,h2⟩:=aT vb;subst e1;subst e2;refine qj pi s σ H _ _ v u Q I rx ry ⟨_,_,rfl,rfl,?_⟩;rw[lS];exact k _ H G fp .refl (rel.push (bJ _))
  ·cases e
 ·cases e
theorem AD(hu:X.A.units+65<cLine):EX X (compareOp .NotIn) (rGA X.K AB):=by
 rintro pi s σ H x y v u Q I rx ry ⟨G,fp,es,vs,a,b,r,⟨rel,k⟩,va,vb,e⟩;unfold AB at e;obtain⟨r0,e0,e⟩:=ag e;unfold IJ at e0;split at e0
 ·rename_i ds;split at e0
  ·rename_i hp;cases e0;cases e;rw[PL]at hp;obtain⟨p,xs,ev,sq,rs⟩:=aX vb;subst ev;cases ry;obtain⟨Er,vl,ip,_⟩:=I.list sq;obtain⟨ef,e1,e2⟩:=oF (A:=X.A.in1) I hp.1 (by show X.A.units+1+64<cLine;lia) va rx ds xs Er hp.2 rs vl;refine SeqAt.notIn_listAt ef ip.isList (fun z hz=>e2 z (by simpa using hz)) ?_;rw[ka,e1];exact⟨.bl _,H,I,rfl,k _ H G fp .refl (rel.push (bJ _))⟩
  ·cases e0
 ·rename_i ds;split at e0
  ·rename_i hp;cases e0;cases e;rw[PL]at hp;obtain⟨p,xs,ev,sq,rs⟩:=aS vb;subst ev;cases ry;obtain⟨Er,vl,ip,_⟩:=I.tuple sq;obtain⟨ef,e1,e2⟩:=oF (A:=X.A.in1) I hp.1 (by show X.A.units+1+64<cLine;lia) va rx ds xs Er hp.2 rs vl;refine SeqAt.notIn_tupleAt ef (show s.heap.IsTuple p Er.toArray from ip) (fun z hz=>e2 z (by simpa using hz)) ?_;rw[ka,e1];exact⟨.bl _,H,I,rfl,k _ H G fp .refl (rel.push (bJ _))⟩
  ·cases e0
 ·rename_i l;split at e0
  ·rename_i c;cases e0;cases e;obtain⟨e1,h1⟩:=aT va;obtain⟨e2,h2⟩:=aT vb;subst e1;subst e2;refine kQ pi s σ H _ _ v u Q I rx ry ⟨_,_,rfl,rfl,?_⟩;rw[lS];exact k _ H G fp .refl (rel.push (bJ _))
  ·cases e0
 ·cases e0
def Om(a b:D):Res R:=match b with
 | .bl k=>.ok (.f,.bl (match a with | .bl j=>j==k|_=>false))
 | .non=>.ok (.f,.bl (match a with | .non=>true|_=>false))
 |_=>.bad
def tP(a b:D):Res R:=(Om a b).bind fun r=>match r.2 with
 | .bl k=>.ok (.f,.bl (!k))
 |_=>.bad
theorem uZ{K:W.Frag}{H:Hp}{a b:D}{x y:V}{v u:Value}{r:R}(va:Rep K H a x)(vb:Rep K H b y)(rx:RelV x v)(ry:RelV y u)(e:Om a b=.ok r):plainIs v u=true/\r=(.f,.bl (v==u)):=by
 unfold Om at e;split at e
 ·rename_i k;cases e;cases bR vb;cases ry;cases a with
  |non=>cases bL va;cases rx;exact⟨rfl,rfl⟩
  |bl j=>cases bR va;cases rx;refine⟨rfl,?_⟩;cases j <;> cases k <;> rfl
  |int i=>cases a9 va;obtain⟨t,rfl⟩:=rx;exact⟨rfl,rfl⟩
  |str l=>cases(aT va).1;obtain⟨t,rfl⟩:=rx;exact⟨rfl,rfl⟩
  |tup l=>obtain⟨p,xs,rfl,_⟩:=aS va;cases rx;exact⟨rfl,rfl⟩
  |lst l=>obtain⟨p,xs,rfl,_⟩:=aX va;cases rx;exact⟨rfl,rfl⟩
  |dct tk ks vs=>rw[Rep]at va;obtain⟨p,xs,o,rfl,_⟩:=va;cases rx;exact⟨rfl,rfl⟩
 ·cases e;cases bL vb;cases ry;cases a with
  |non=>cases bL va;cases rx;exact⟨rfl,rfl⟩
  |bl j=>cases bR va;cases rx;exact⟨rfl,rfl⟩
  |int i=>cases a9 va;obtain⟨t,rfl⟩:=rx;exact⟨rfl,rfl⟩
  |str l=>cases(aT va).1;obtain⟨t,rfl⟩:=rx;exact⟨rfl,rfl⟩
  |tup l=>obtain⟨p,xs,rfl,_⟩:=aS va;cases rx;exact⟨rfl,rfl⟩
  |lst l=>obtain⟨p,xs,rfl,_⟩:=aX va;cases rx;exact⟨rfl,rfl⟩
  |dct tk ks vs=>rw[Rep]at va;obtain⟨p,xs,o,rfl,_⟩:=va;cases rx;exact⟨rfl,rfl⟩
 ·cases e
theorem rM:EX X (compareOp .IsNot) (rGA X.K tP):=by
 rintro pi s σ H x y v u Q I rx ry ⟨G,fp,es,vs,a,b,r,⟨rel,k⟩,va,vb,e⟩;obtain⟨r0,e0,e⟩:=ag e;obtain⟨h1,h2⟩:=uZ va vb rx ry e0;subst h2;cases e;exact wpAny_isNot_plain h1 ⟨.bl _,H,I,rfl,k _ H G fp .refl (rel.push (bJ _))⟩
end
section
variable{X:Cx}
def D1(f g:FX):FX:=fun env=>(f env).bind fun p=>(g p.2).bind fun q=>match(oE p.1.2).bind e8,q.1.2 with
 |some ns,.int d=>.ok ((.f,.int (NX.maxD ns d)),q.2)
 |_,_=>.bad
def xW:List D->Res R
 |[.bl b]=>.ok (.f,.int (if b then 1 else 0))
 |[.int i]=>.ok (.f,.int i)
 |_=>.bad
theorem wm:dr X (.type "int") (rC X.K xW):=by
 rintro pi s σ H xs us Q I rx ⟨G,fp,es,vs,ds,r,⟨rel,k⟩,vd,e⟩;unfold xW at e;split at e
 ·rename_i b;cases e;obtain⟨v,ev,v1⟩:=oD vd;subst ev;cases Cu v1;obtain⟨u,rfl,ru⟩:=fN rx;cases ru;exact call_int_bool ⟨.int _,H,I.tok _,⟨_,rfl⟩,k _ H G fp .refl (rel.push (bu _))⟩
 ·rename_i i;cases e;obtain⟨v,ev,v1⟩:=oD vd;subst ev;cases ba v1;obtain⟨u,rfl,t,rfl⟩:=fN rx;first
   |exact UE ⟨.int _,H,I.tok _,⟨_,rfl⟩,k _ H G fp .refl (rel.push (bu _))⟩
   |exact UE ⟨.int _,H,I,⟨_,rfl⟩,k _ H G fp .refl (rel.push (bu _))⟩
 ·cases e
def mT:D->String
 | .non=>"NoneType"
 | .bl _=>"bool"
 | .int _=>"int"
 | .str _=>"str"
 | .tup _=>"tuple"
 | .lst _=>"list"
 | .dct _ _ _=>"dict"
def u3(T:String)(d:D):Bool:=mT d==T||(mT d == "bool" && T == "int")
def MQ(T:String)(f:FO):FX:=fun env=>(f env).bind fun p=>(pH p.2 p.1).bind fun d=>.ok ((.f,.bl (u3 T d)),p.2)
theorem AE(K:W.Frag)(d:D){T:String}(hT:T = "int"\/T = "bool"\/T = "str"\/T = "list"\/T = "tuple"\/T = "dict"):PySem.W.kitOne K (.type (mT d)) (.type T)=some (u3 T d):=by
 rcases hT with rfl|rfl|rfl|rfl|rfl|rfl <;> cases d <;> (unfold PySem.W.kitOne PySem.W.kitCls PySem.W.subIn;kernel_rfl)
theorem u4:dr X (.builtin "isinstance") (fun xs H Q=>∃d x T,xs=[x,.ty T]/\Rep X.K H d x/\(T = "int"\/T = "bool"\/T = "str"\/T = "list"\/T = "tuple"\/T = "dict")/\Q (.bl (u3 T d)) H):=by
 intro pi s σ H xs us Q I r h;obtain⟨d,x,T,rfl,rd,hT,q⟩:=h;obtain⟨u,w',rfl,r1,r2⟩:=zv r;cases(show w'=Value.type T from r2);have e:=AE X.K d hT;have fin:∀tk,EP X pi σ Q (.bool (u3 T d)) {s with toks:=tk}:=fun tk=>⟨.bl (u3 T d),H,I.tok tk,rfl,q⟩
 cases d with
 |non=>cases bL rd;cases(show u=Value.none from r1);exact Rj PySem.W.kitx_none I.kIn True.intro e (fun z=>nomatch z) fin
 |bl y=>cases bR rd;cases(show u=Value.bool y from r1);exact Rj PySem.W.kitx_bool I.kIn True.intro e (fun z=>nomatch z) fin
 |int i=>cases a9 rd;obtain⟨t,z⟩:=(show ∃t,u=Value.int i t from r1);cases z;exact Rj PySem.W.kitx_int I.kIn True.intro e (fun z=>nomatch z) fin
 |str l=>
  have hr:=(aT rd).1;subst hr;obtain⟨t,z⟩:=(show ∃t,u=Value.str (S l) t from r1)
  cases z;exact Rj PySem.W.kitx_str I.kIn True.intro e (fun z=>nomatch z) fin
 |lst l=>
  obtain⟨p,xs,ev,sq,_⟩:=aX rd;subst ev;cases(show u=Value.ref p from r1);obtain⟨Er,_,ip,_⟩:=I.list sq;obtain⟨o,ho,hc,_⟩:=ip.isList;exact Rj PySem.W.kitx_list I.kIn ⟨o,ho,hc⟩ e (fun z=>nomatch z) fin
 |tup l=>
  obtain⟨p,xs,ev,sq,_⟩:=aS rd;subst ev;cases(show u=Value.ref p from r1);obtain⟨Er,_,ip,_⟩:=I.tuple sq;obtain⟨o,ho,hc,_⟩:=ip;exact Rj PySem.W.kitx_tuple I.kIn ⟨o,ho,hc⟩ e (fun z=>nomatch z) fin
 |dct tk ks vs=>
  rw[Rep]at rd;obtain⟨p,xs,o,ev,hr,dd,_⟩:=rd;subst ev;cases(show u=Value.ref p from r1);have ok:=hr.ok I.hok;cases tk with
  |true=>
   obtain⟨kvs,eo,_⟩:=dd;subst eo;obtain⟨_,_,_,_,o2,_,_,Fx,ex,_⟩:=ok;exact Rj PySem.W.kitx_dict I.kIn ⟨o2,Fx,ex.1⟩ e (fun z=>nomatch z) fin
  |false=>
   obtain⟨kvs,eo,_⟩:=dd;subst eo;obtain⟨_,_,_,_,o2,_,_,Fx,ex,_⟩:=ok;exact Rj PySem.W.kitx_dict I.kIn ⟨o2,Fx,ex.1⟩ e (fun z=>nomatch z) fin
theorem xX{T:String}{x:Str}{e:Expr}{f:FO}{p q pos:Pos}(hT:T = "int"\/T = "bool"\/T = "str"\/T = "list"\/T = "tuple"\/T = "dict")(he:QO X e f)(hg:Gl X "isinstance")(hm:X.mg "isinstance" = none)(Jw:Gl X x)(JQ:X.mg x=none)(L9:bootBuiltins x=some (.type T))(hn:x≠"__name__":=by decide)(Fl:(x==("__debug__" : Str))=false:=by decide)
  (hs:starEach [e,.Name x q] X.env=(false,eval e X.env)::starEach [.Name x q] X.env:=by rfl) (hs2:starEach [.Name x q] X.env=(false,eval (.Name x q) X.env)::starEach [] X.env:=by rfl) (Fc:(backTo pos (starEach [.Name x q] X.env)).any (·.1)=false:=by rfl):
  QE X (.Call (.Name "isinstance" p) [e,.Name x q] [] pos) (MQ T f):=
 bI (nL u4 hg hm jK (jH he (jH (wK (v:=.ty T) Jw JQ L9 rfl hn Fl) qm hs2) hs) (by decide) (by decide) hs Fc) fun σ H Q ED=>by
  obtain⟨G,env,fp,r,env',rel,e,k⟩:=ED;obtain⟨⟨o,Eo⟩,e1,e⟩:=ag e;obtain⟨d,e2,e⟩:=ag e;cases e;exact⟨G,env,fp,o,_,rel,e1,fun v H1 G1 EL EE Es FJ=>⟨d,v,T,rfl,Es.vwA FJ e2,hT,k _ H1 G1 EL EE (Es.push (bJ _))⟩⟩
def GU{α:Type}(f g:PV.Env->Res α):PV.Env->Res α:=fun env=>match f env with
 | .ok a=>.ok a
 |_=>g env
theorem wo{α:Type}{f g:PV.Env->Res α}{env:PV.Env}{a:α}(h:GU f g env=.ok a):f env=.ok a\/g env=.ok a:=by
 unfold GU at h;split at h
 ·rename_i b hb;cases h;exact .inl hb
 ·exact .inr h
theorem rN{tg e:Expr}{f g:FI}(h:QI X tg e f)(h2:QI X tg e g):QI X tg e (GU f g):=fun pi s σ H R I ED=>by
 obtain⟨G,env,fp,ds,env',rel,ee,k⟩:=ED;rcases wo ee with z|z
 ·exact h pi s σ H R I ⟨G,env,fp,ds,env',rel,z,k⟩
 ·exact h2 pi s σ H R I ⟨G,env,fp,ds,env',rel,z,k⟩
end
section
variable{α:Type}
def ins(lt:α->α->Bool)(x:α):List α->List α
 |[]=>[x]
 |y::ys=>if lt y x then y::ins lt x ys else x::y::ys
def cZ(lt:α->α->Bool)(l:List α):List α:=l.foldr (ins lt) []
structure Ord(lt:α->α->Bool):Prop where
 irr:∀a,lt a a=false
 trans:∀a b c,lt a b=true->lt b c=true->lt a c=true
 tot:∀a b,lt a b=false->lt b a=false->a=b
theorem kc(lt:α->α->Bool)(x:α):∀l,(ins lt x l).Perm (x::l)
 |[]=>.refl _
 |y::ys=>by
  unfold ins;split
  ·exact(List.Perm.cons y (kc lt x ys)).trans (List.Perm.swap x y ys)
  ·exact .refl _
theorem dh(lt:α->α->Bool):∀l,(cZ lt l).Perm l
 |[]=>.refl _
 |x::l=>(kc lt x _).trans (List.Perm.cons x (dh lt l))
theorem jA{lt:α->α->Bool}(o:Ord lt)(x:α):∀l:List α,l.Pairwise (fun a b=>lt b a=false)->(ins lt x l).Pairwise (fun a b=>lt b a=false)
 |[],_=>by simp[ins]
 |y::ys,h=>by
  rw[QN]at h;unfold ins;split
  ·rename_i hy;rw[QN];refine⟨fun z hz=>?_,jA o x ys h.2⟩;rcases PJ.mp ((kc lt x ys).mem_iff.mp hz) with rfl|hz
   ·cases e:lt z y with
    |false=>rfl
    |true=>
     have:=o.trans y z y hy e;rw[o.irr]at this;cases this
   ·exact h.1 z hz
  ·rename_i hy;have hy:lt y x=false:=by simpa using hy
   rw[QN,QN];refine⟨fun z hz=>?_,h⟩;rcases PJ.mp hz with rfl|KA
   ·exact hy
   ·cases e:lt z x with
    |false=>rfl
    |true=>
     exfalso;cases e2:lt x y with
     |true=>
      have:=o.trans z x y e e2;rw[h.1 z KA]at this;cases this
     |false=>
      have hxy:=o.tot x y e2 hy;rw[hxy,h.1 z KA]at e;cases e
theorem cW{lt:α->α->Bool}(o:Ord lt):∀l:List α,(cZ lt l).Pairwise (fun a b=>lt b a=false)
 |[]=>.nil
 |x::l=>jA o x _ (cW o l)
theorem lT{lt:α->α->Bool}(o:Ord lt):∀{a b:List α},a.Perm b->a.Pairwise (fun a b=>lt b a=false)->b.Pairwise (fun a b=>lt b a=false)->a=b
 |[],_,p,_,_=>p.nil_eq
 |x::xs,[],p,_,_=>absurd p.length_eq (by simp)
 |x::xs,y::ys,p,ha,hb=>by
  rw[QN]at ha hb;have hx:x∈y::ys:=p.mem_iff.mp Pq;have hy:y∈x::xs:=p.mem_iff.mpr Pq;have e:x=y:=by
   rcases PJ.mp hx with e|hx
   ·exact e
   ·rcases PJ.mp hy with e|hy
    ·exact e.symm
    ·exact o.tot x y (hb.1 x hx) (ha.1 y hy)
  subst e;rw[lT o p.cons_inv ha.2 hb.2]
theorem dR{lt:α->α->Bool}(o:Ord lt){l ms:List α}(p:ms.Perm l)(h:ms.Pairwise (fun a b=>lt b a=false)):ms=cZ lt l:=lT o (p.trans (dh lt l).symm) h (cW o l)
end
def ltI(a b:Int):Bool:=decide (a<b)
def Hq(a b:List Nat):Bool:=decide (a<b)
theorem xY:Ord ltI:=⟨fun a=>by simp[ltI],fun a b c=>by simp only[ltI,PQ];lia,fun a b=>by simp only[ltI,Qn];lia⟩
theorem mU:Ord Hq:=by
 refine⟨fun a=>?_,fun a b c h1 h2=>?_,fun a b h1 h2=>?_⟩
 ·unfold Hq;rw[Qn];exact List.lt_irrefl a
 ·unfold Hq at *;rw[PQ] at *;exact List.lt_trans h1 h2
 ·unfold Hq at *;rw[Qn] at *;exact List.le_antisymm (Tg.mp h2) (Tg.mp h1)
theorem iO:Ord cu:=⟨fC,eD,eE⟩
def dJ:List D->Option (List (List Nat))
 |[]=>some []
 | .str b::ds=>(dJ ds).map (b:: ·)
 |_=>none
def iP:D->Option Key
 | .int i=>some (.inl i)
 | .str l=>some (.inr (S l))
 |_=>none
def cB:List D->Option (List Key)
 |[]=>some []
 |d::ds=>(iP d).bind fun k=>(cB ds).map (k:: ·)
def bO:D->Option (List Key)
 | .tup ds=>cB ds
 |_=>none
def gK:List D->Option (List (List Key))
 |[]=>some []
 |d::ds=>(bO d).bind fun k=>(gK ds).map (k:: ·)
def kT(k:List Key):D:=.tup (k.map kD)
section
variable{K:W.Frag}{G:Hp}
theorem fH:∀{ds:List D}{bs:List (List Nat)}{xs:List V},dJ ds=some bs->Reps K G ds xs->xs=bs.map (fun l=>V.str (S l))/\∀l∈bs,l.length<=sizeLine
 |[],_,_,e,r=>by
  cases e;rw[Reps]at r;exact⟨r,fun _ h=>nomatch h⟩
 |d::ds,_,_,e,r=>by
  cases d with
  |str b=>
   rw[dJ,P9]at e;obtain⟨bs,e1,e2⟩:=e;subst e2;rw[Reps]at r;obtain⟨y,ys,e3,r1,r2⟩:=r;obtain⟨h1,h2⟩:=fH e1 r2;obtain⟨h3,h4⟩:=aT r1;subst h3;refine⟨by rw[e3,h1];rfl,fun l hl=>?_⟩;rcases PJ.mp hl with rfl|hl
   ·exact h4
   ·exact h2 l hl
  |_=>simp[dJ]at e
theorem gB{d:D}{k:Key}{v:V}(e:iP d=some k)(r:Rep K G d v):v=kV k/\d=kD k:=by
 cases d with
 |int i=>
  cases e;exact⟨a9 r,rfl⟩
 |str l=>
  cases e;refine⟨(aT r).1,?_⟩;show D.str l=D.str (S l).cps.toList;rw[bZ]
 |_=>cases e
theorem gL:∀{ds:List D}{ks:List Key}{xs:List V},cB ds=some ks->Reps K G ds xs->xs=ks.map kV/\ds=ks.map kD
 |[],_,_,e,r=>by
  cases e;rw[Reps]at r;exact⟨r,rfl⟩
 |d::ds,_,_,e,r=>by
  rw[cB,RC]at e;obtain⟨k,e1,e⟩:=e;rw[P9]at e;obtain⟨ks,e2,e3⟩:=e;subst e3;rw[Reps]at r;obtain⟨y,ys,e4,r1,r2⟩:=r;obtain⟨h1,h2⟩:=gB e1 r1;obtain⟨h3,h4⟩:=gL e2 r2;rw[e4,h1,h2,h3,h4];exact⟨rfl,rfl⟩
theorem bj{d:D}{ks:List Key}{v:V}(e:bO d=some ks)(r:Rep K G d v):∃p,v=.ref p/\G p=some (.tup (ks.map kV))/\d=kT ks:=by
 cases d with
 |tup ds=>
  obtain⟨p,xs,ev,g,rs⟩:=rA r;obtain⟨h1,h2⟩:=gL e rs;subst h1;exact⟨p,ev,g,by rw[h2];rfl⟩
 |_=>cases e
theorem iQ:∀{ds:List D}{GC:List (List Key)}{xs:List V},gK ds=some GC->Reps K G ds xs->∃al:List (Addr×List Key),xs=al.map (fun a=>V.ref a.1)/\GC=al.map (·.2)/\ds=al.map (fun a=>kT a.2)/\∀a∈al,G a.1=some (.tup (a.2.map kV))/\Rep K G (kT a.2) (.ref a.1)
 |[],_,_,e,r=>by
  cases e;rw[Reps]at r;exact⟨[],r,rfl,rfl,fun _ h=>nomatch h⟩
 |d::ds,_,_,e,r=>by
  rw[gK,RC]at e;obtain⟨k,e1,e⟩:=e;rw[P9]at e;obtain⟨ks,e2,e3⟩:=e;subst e3;rw[Reps]at r;obtain⟨y,ys,e4,r1,r2⟩:=r;obtain⟨p,h1,h2,h5⟩:=bj e1 r1;obtain⟨al,h3,h4,h6,h7⟩:=iQ e2 r2;subst h1;refine⟨(p,k)::al,by rw[e4,h3];rfl,by rw[h4];rfl,by rw[h5,h6];rfl,fun a ha=>?_⟩;rcases PJ.mp ha with rfl|ha
  ·exact⟨h2,by rw[<-h5];exact r1⟩
  ·exact h7 a ha
theorem dy{α:Type}{f:α->D}{g:α->V}:∀{l:List α},(∀a∈l,Rep K G (f a) (g a))->Reps K G (l.map f) (l.map g)
 |[],_=>Reps.nil
 |a::l,h=>.cons (h a Pq) (dy fun b hb=>h b (Px _ hb))
end
def sameKinds(k:List Key)(GC:List (List Key)):Bool:=!k.isEmpty&&GC.all fun j=>kinds j==kinds k
noncomputable def iR(ds:List D):Option (List D):=match e8 ds with
 |some ns=>some ((cZ ltI ns).map D.int)
 |none=>match dJ ds with
  |some ls=>some ((cZ Hq ls).map D.str)
  |none=>match gK ds with
   |some (k::GC)=>if sameKinds k GC then some ((cZ cu (k::GC)).map kT) else none
   |_=>none
noncomputable def dS:List D->Res R
 |[.lst ds]=>if ds.length<64 then match iR ds with
  |some l=>.ok (.l .f,.lst l)
  |none=>.bad
  else .bad
 |[.dct true ks _]=>if ks.length<64 then match ks,gK ks with
  |[],_=>.ok (.l .f,.lst [])
  |_,some (k::GC)=>if sameKinds k GC then .ok (.l .f,.lst ((cZ cu (k::GC)).map kT)) else .bad
  |_,_=>.bad
  else .bad
 |_=>.bad
theorem f7{k:List Key}{GC:List (List Key)}(h:sameKinds k GC=true):∃top t,∀j∈k::GC,kinds j=top::t:=by
 unfold sameKinds at h;rw[PL,P7]at h;cases k with
 |nil=>simp at h
 |cons a k=>
  refine⟨a.isLeft,kinds k,fun j hj=>?_⟩;rcases PJ.mp hj with rfl|hj
  ·rfl
  ·exact Ql.mp (h.2 j hj)
def gM(H G:Hp):Hp:=fun p=>match H p with
 |some (HO.tup xs)=>some (HO.tup xs)
 |_=>G p
theorem pP{H G:Hp}{p:Addr}{xs:List V}(e:H p=some (.tup xs)):gM H G p=some (.tup xs):=by
 unfold gM;rw[e]
theorem iS{H G:Hp}{p:Addr}{u:HO}(e:gM H G p=some u):G p=some u\/(isT u=true/\H p=some u):=by
 unfold gM at e;split at e
 ·rename_i xs hx;cases e;exact .inr ⟨rfl,hx⟩
 ·exact .inl e
theorem rO{H G:Hp}(gh:Same G H):Same G (gM H G):=fun p u e=>by
 unfold gM;rw[gh p u e];cases u with
 |tup xs=>rfl
 |_=>exact e
theorem Rel.addT{K:W.Frag}{G H:Hp}{es:PV.Env}{vs:L2.St}{fp:List Addr}(q:Rel K G H es vs fp):∃G',Rel K G' H es vs fp/\Step G H fp G' H fp/\∀p xs,H p=some (.tup xs)->G' p=some (.tup xs):=by
 have gg:=rO q.gh;refine⟨gM H G,⟨q.rep.step gg fun _ _=>rfl,q.nd,fun p hp=>?_,fun p u e=>?_⟩,⟨gg,fun _ _ e _=>e,fun _ h=>.inl h,fun p u e=>(iS e).imp_right fun z=>.inr (.inr z),fun _ u e=>⟨u,e⟩⟩,fun p xs e=>pP e⟩
 ·cases e:gM H G p with
  |none=>rfl
  |some u=>
   exfalso;rcases iS e with z|⟨t,z⟩
   ·rw[q.gn p hp]at z;cases z
   ·obtain⟨u2,h2,hm⟩:=q.rep.mut p hp;rw[z]at h2;cases h2;cases u with
    |tup _=>cases hm
    |frz _ _=>cases hm
    |_=>cases t
 ·rcases iS e with z|z
  ·exact q.gh p u z
  ·exact z.2
theorem AF{K:W.Frag}{G:Hp}{k:Key}(h:uQ k):Rep K G (kD k) (kV k):=by
 cases k with
 |inl i=>exact bu i
 |inr x=>
  have:=fD (K:=K) (G:=G) (l:=x.cps.toList) h;rw[k8]at this;exact this
theorem AG(k:Key):iP (kD k)=some k:=by
 cases k with
 |inl i=>rfl
 |inr x=>
  show some (Sum.inr (S x.cps.toList))=_;rw[k8]
theorem iT:∀ks:List Key,cB (ks.map kD)=some ks
 |[]=>rfl
 |k::ks=>by
  rw[PY,cB,AG,iT ks];rfl
theorem gC:∀GC:List (List Key),gK (GC.map kT)=some GC
 |[]=>rfl
 |k::GC=>by
  rw[PY,gK];show(cB (k.map kD)).bind _=_;rw[iT,gC GC];rfl
section
variable{X:Cx}
theorem OX{α:Type}{lt:α->α->Bool}{p:α->α->Prop}(h:∀a b,p a b->lt b a=false){l:List α}(q:l.Pairwise p):l.Pairwise (fun a b=>lt b a=false):=q.imp (h _ _)
theorem lU(hc:X.calm=true):dr X (.builtin "sorted") (rC X.K dS):=by
 rintro pi s σ H xs us Q I rx ⟨G,fp,es,vs,ds,r,⟨rel,k⟩,vd,e⟩;unfold dS at e;split at e
 ·rename_i ds;split at e
  ·rename_i Iu;split at e
   ·rename_i l hl;cases e;obtain⟨v,ev,p,ys,ep,sq,rs⟩:=oD vd;subst ev;subst ep;unfold iR at hl;split at hl
    ·rename_i ns Np;cases hl;have hy:=iL Np rs;subst hy;have hlen:ns.length<64:=by have:=rs.length;rw[Pr]at this;lia
     refine gT hc pi s σ H _ us Q I rx ⟨p,ns,rfl,sq,hlen,fun q ms hq pm sm=>?_⟩;have em:=dR xY pm (OX (fun a b h=>by unfold ltI;rw[Qn];lia) sm);subst em;obtain⟨Ep,Ez⟩:=rel.newL hq (dy (K:=X.K) (G:=G) (f:=D.int) (g:=V.int) fun a _=>bu a);exact k _ _ G _ Ez Ep
    ·split at hl
     ·rename_i ls hls;cases hl;obtain⟨hy,hz⟩:=fH hls rs;subst hy;have hlen:ls.length<64:=by have:=rs.length;rw[Pr]at this;lia
      refine gU hc pi s σ H _ us Q I rx ⟨p,ls,rfl,sq,hlen,fun q ms hq pm sm=>?_⟩;have em:=dR mU pm (OX (fun a b h=>by unfold Hq;rw[Qn];exact h) sm);obtain⟨Ep,Ez⟩:=rel.newL hq (dy (K:=X.K) (G:=G) (f:=D.str) (g:=fun l=>V.str (S l)) (l:=ms) fun a ha=>fD (hz a (pm.mem_iff.mp ha)));rw[<-em]at k;exact k _ _ G _ Ez Ep
     ·split at hl
      ·rename_i kk GC hk;split at hl
       ·rename_i hsk;cases hl;obtain⟨al,h1,h2,h3,h4⟩:=iQ hk rs;obtain⟨top,t,GD⟩:=f7 hsk;subst h1;have hlen:al.length<64:=by have:=rs.length;rw[Pr]at this;lia
        refine gW hc pi s σ H _ us Q I rx ⟨p,al,top,t,rfl,sq,fun a ha=>⟨SqT.of (rel.gh _ _ (h4 a ha).1),GD a.2 (by rw[h2];exact QD.mpr ⟨a,ha,rfl⟩)⟩,hlen,fun q ms hq pm sm=>?_⟩;have em:ms.map (·.2)=cZ cu (kk::GC):=by
         rw[h2];refine dR iO (pm.map _) ?_;rw[Rx];exact sm
        obtain⟨Ep,Ez⟩:=rel.newL hq (dy (K:=X.K) (G:=G) (f:=fun a:Addr×List Key=>kT a.2) (g:=fun a=>V.ref a.1) (l:=ms) fun a ha=>(h4 a (pm.mem_iff.mp ha)).2);have ek:ms.map (fun a=>kT a.2)=(cZ cu (kk::GC)).map kT:=by rw[<-em,P2];rfl
        rw[ek]at Ep;exact k _ _ G _ Ez Ep
       ·cases hl
      ·cases hl
   ·cases e
  ·cases e
 ·rename_i ks vv;split at e
  ·rename_i Iu;obtain⟨v,ev,vt⟩:=oD vd;obtain⟨p,ys,o,ep,rd,dd,rs⟩:=vt;subst ev;subst ep;obtain⟨kvs,eo,ek,ex,HR⟩:=dd;subst eo;have ek:ks=(kvs.map (·.1)).map kT:=by rw[ek,P2];rfl
   have hlen:kvs.length<64:=by rw[ek,Pr,Pr]at Iu;exact Iu
   have go:∀(top:Bool) (t:List Bool),(∀kv∈kvs,kinds kv.1=top::t)->r=(.l .f,.lst ((cZ cu (kvs.map (·.1))).map kT))->wpAny (model X.prog X.w) X.A (call (.builtin "sorted") us) (EP X pi σ Q) X.xe s:=fun top t GD er=>by
    subst er;refine jl hc pi s σ H _ us Q I rx ⟨p,kvs,top,t,rfl,rd,GD,hlen,fun q ms hq hm pm sm=>?_⟩;have em:ms.map (·.2)=cZ cu (kvs.map (·.1)):=by
     refine dR iO pm ?_;rw[Rx];exact sm
    obtain⟨G2,Ep,Ez,ht⟩:=rel.addT;have GR:∀a∈ms,Rep X.K G2 (kT a.2) (.ref a.1):=fun a ha=>by
     unfold kT;rw[Rep];refine⟨a.1,_,rfl,ht _ _ (hm a ha),?_⟩;refine dy (f:=kD) (g:=kV) fun key Ge=>AF ?_
     have:a.2∈kvs.map (·.1):=pm.mem_iff.mp (QD.mpr ⟨a,ha,rfl⟩);obtain⟨kv,Hu,e2⟩:=QD.mp this;exact HR kv Hu key (by rw[e2];exact Ge)
    obtain⟨EY,E2⟩:=Ep.newL hq (dy (K:=X.K) (G:=G2) (f:=fun a:Addr×List Key=>kT a.2) (g:=fun a=>V.ref a.1) (l:=ms) GR);have ek:ms.map (fun a=>kT a.2)=(cZ cu (kvs.map (·.1))).map kT:=by rw[<-em,P2];rfl
    rw[ek]at EY;exact k _ _ G2 _ (Ez.trans E2) EY
   rw[ek,gC]at e;split at e
   ·rename_i hnil;cases e;have:kvs=[]:=by
     cases kvs with
     |nil=>rfl
     |cons a b=>cases hnil
    subst this;exact go true [] (fun _ h=>nomatch h) rfl
   ·rename_i kk GC heq JO;split at e
    ·rename_i hsk;cases e;obtain⟨top,t,GD⟩:=f7 hsk;have heq:kvs.map (·.1)=kk::GC:=by
      injection heq
     refine go top t (fun kv Hu=>GD kv.1 ?_) (by rw[heq]);rw[<-heq];exact QD.mpr ⟨kv,Hu,rfl⟩
    ·cases e
   ·cases e
  ·cases e
 ·cases e
def IZ(a b:D):Res R:=match bO a,bO b with
 |some ks,some js=>if kinds ks==kinds js then .ok (.f,.bl (cu ks js)) else .bad
 |_,_=>LU a b
def Jy(a b:D):Res R:=match bO a,bO b with
 |some ks,some js=>if kinds ks==kinds js then .ok (.f,.bl (!cu ks js)) else .bad
 |_,_=>match a,b with
  | .str a,.str b=>.ok (.f,.bl (!decide (a<b)))
  |a,b=>Ol a b
theorem lV(hu:X.A.units<cLine):EX X (compareOp .Lt) (rG X.K IZ):=by
 rintro pi s σ H x y v u Q I rx ry ⟨G,fp,es,vs,a,b,r,⟨rel,k⟩,va,vb,e⟩;unfold IZ at e;split at e
 ·rename_i ks js h1 h2;split at e
  ·rename_i hk;cases e;have ra:Rep X.K G a x:=by cases a <;> first|exact va|cases h1
   have rb:Rep X.K G b y:=by cases b <;> first|exact vb|cases h2
   obtain⟨p,e1,g1,_⟩:=bj h1 ra;obtain⟨p2,e2,g2,_⟩:=bj h2 rb;subst e1;subst e2;exact z9 hu pi s σ H _ _ v u Q I rx ry ⟨p,p2,ks,js,rfl,rfl,SqT.of (rel.gh _ _ g1),SqT.of (rel.gh _ _ g2),Ql.mp hk,k _ H G fp .refl (rel.push (bJ _))⟩
  ·cases e
 ·exact Cy pi s σ H x y v u Q I rx ry ⟨G,fp,es,vs,a,b,r,⟨rel,k⟩,va,vb,e⟩
theorem rP(hu:X.A.units<cLine):EX X (compareOp .GtE) (rG X.K Jy):=by
 rintro pi s σ H x y v u Q I rx ry ⟨G,fp,es,vs,a,b,r,⟨rel,k⟩,va,vb,e⟩;unfold Jy at e;split at e
 ·rename_i ks js h1 h2;split at e
  ·rename_i hk;cases e;have ra:Rep X.K G a x:=by cases a <;> first|exact va|cases h1
   have rb:Rep X.K G b y:=by cases b <;> first|exact vb|cases h2
   obtain⟨p,e1,g1,_⟩:=bj h1 ra;obtain⟨p2,e2,g2,_⟩:=bj h2 rb;subst e1;subst e2;exact Aa hu pi s σ H _ _ v u Q I rx ry ⟨p,p2,ks,js,rfl,rfl,SqT.of (rel.gh _ _ g1),SqT.of (rel.gh _ _ g2),Ql.mp hk,k _ H G fp .refl (rel.push (bJ _))⟩
  ·cases e
 ·split at e
  ·rename_i l l';cases e;obtain⟨e1,h1⟩:=cU va;obtain⟨e2,h2⟩:=cU vb;subst e1;subst e2;obtain⟨t,rfl⟩:=rx;obtain⟨t',rfl⟩:=ry;refine PySem.P.ge_str ?_;rw[bZ,bZ];exact⟨.bl _,H,I,rfl,k _ H G fp .refl (rel.push (bJ _))⟩
  ·exact Cz pi s σ H x y v u Q I rx ry ⟨G,fp,es,vs,_,_,r,⟨rel,k⟩,va,vb,e⟩
end
def eNewD(tk:Bool):FX:=fun env=>.ok ((.d,.dct tk [] []),env)
section
variable{md:Mode}{X:Cx}
def pQ(ks vs:List D)(k v:D):List D×List D:=if ks.any (Ew k) then(ks,(ks.zip vs).map fun p=>if Ew k p.1 then v else p.2) else(ks++[k],vs++[v])
def cG(tk:Bool)(k:D):Bool:=if tk then(bO k).isSome else(iP k).isSome
noncomputable def BH(i:Nat)(fk fv:FX):FS:=fun env=>(fv env).bind fun p=>(fk p.2).bind fun q=>match p.2[i]?,q.2[i]? with
 |some (some _),some (some (.d,.dct tk ks vs))=>if cG tk q.1.2&&decide (ks.length<sizeLine) then .ok (.nx (q.2.set i (some (.d,.dct tk (pQ ks vs q.1.2 p.1.2).1 (pQ ks vs q.1.2 p.1.2).2)))) else .bad
 |_,_=>.bad
theorem rQ(a b:Key):Ew (kD a) (kD b)=decide (a=b):=by
 cases a with
 |inl i=>
  cases b with
  |inl j=>simp only[kD,Ew];rw[P8];simp
  |inr y=>simp only[kD,Ew];simp
 |inr x=>
  cases b with
  |inl j=>simp only[kD,Ew];simp
  |inr y=>
   simp only[kD,Ew];rw[P8];simp only[Ql,PQ,Sum.inr.injEq];exact⟨fun h=>by rw[<-k8 x,<-k8 y,h],fun h=>by rw[h]⟩
theorem rR:∀a b:List Key,gA (a.map kD) (b.map kD)=decide (a=b)
 |[],[]=>by simp[gA]
 |[],_::_=>by simp[gA]
 |_::_,[]=>by simp[gA]
 |a::r,b::t=>by
  rw[PY,PY,gA,rQ,rR r t,P8];simp
theorem oG(a b:List Key):Ew (kT a) (kT b)=decide (a=b):=by
 unfold kT;rw[Ew];exact rR a b
theorem lW{κ:Type}[DecidableEq κ]{K:W.Frag}{G:Hp}(f:κ->D)(hf:∀a b,Ew (f a) (f b)=decide (a=b)){kvs:List (κ×V)}{vs:List D}{k:κ}{v:D}{y:V}(r:Reps K G vs (kvs.map (·.2)))(ry:Rep K G v y):
  (jk kvs k y).map (fun kv=>f kv.1)=(pQ (kvs.map fun kv=>f kv.1) vs (f k) v).1/\Reps K G (pQ (kvs.map fun kv=>f kv.1) vs (f k) v).2 ((jk kvs k y).map (·.2)):=by
 have e:(kvs.map fun kv=>f kv.1).any (Ew (f k))=kvs.any fun kv=>decide (kv.1=k):=by
  rw[SW];congr 1
  funext kv
  show Ew (f k) (f kv.1)=_;rw[hf,P8];simp only[PQ];exact⟨fun z=>z.symm,fun z=>z.symm⟩
 unfold pQ jk;rw[e];split
 ·refine⟨?_,?_⟩
  ·rw[P2];refine Qh fun kv _=>?_
   show f (if kv.1=k then(kv.1,y) else kv).1=f kv.1;split <;> rfl
  ·rename_i hany;clear e hany;induction kvs generalizing vs with
   |nil=>
    have:vs=[]:=QJ (by rw[<-r.length];rfl);subst this;exact Reps.nil
   |cons kv kvs ih=>
    cases vs with
    |nil=>have:=r.length;simp at this
    |cons d vs=>
     rw[PY,Reps.cons_iff]at r;rw[PY,Qu,PY,PY,PY];refine .cons ?_ (ih r.2);show Rep K G (if Ew (f k) (f kv.1)=true then v else d) (if kv.1=k then(kv.1,y) else kv).2;rw[hf];by_cases hk:kv.1=k
     ·rw[PF (by simp[hk]),PF hk];exact ry
     ·rw[PM (by simp;exact fun z=>hk z.symm),PM hk];exact r.1
 ·refine⟨?_,?_⟩
  ·rw[P6];rfl
  ·rw[P6];exact r.app (.one ry)
theorem Rel.chgD{K:W.Frag}{G H:Hp}{es:PV.Env}{vs:L2.St}{fp:List Addr}{i:Nat}{tk:Bool}{ks ws:List D}(q:Rel K G H es vs fp)(e:es[i]?=some (some (.d,.dct tk ks ws))):∃p xs u,vs[i]?=some (some (.ref p))/\H p=some u/\DictO u tk ks xs/\Reps K G ws xs/\
  ∀u' F6 FU L3,DictO u' tk F6 FU->Reps K G L3 FU->∃fq,Rel K G (upd H p u') (es.set i (some (.d,.dct tk F6 L3))) vs fq/\Step G H fp G (upd H p u') fq:=by
 obtain⟨v,fq,ev,g,st,Hc⟩:=q.out e;obtain⟨y,ys,e0,v',a,b,e1,e2,r1,r2⟩:=g.rep;cases e0;cases e1;rw[RepO]at r1;obtain⟨p,xs,u,e3,hp,dd,e4,rs⟩:=r1;subst e3;subst e4;subst e2;have nd:=Qo.mp (show(p::b).Nodup from g.nd);refine⟨p,xs,u,ev,hp,dd,rs,fun u' F6 FU L3 Ky Gs=>?_⟩;have g2:Rel K G (upd H p u') (some (.d,.dct tk F6 L3)::es.set i none) (some (.ref p)::vs) (p::b):=by
  refine⟨⟨some (.ref p),vs,rfl,.ref p,[p],b,rfl,rfl,?_,r2.step (.refl _) fun z hz=>aB fun e=>nd.1 (e▸hz)⟩,g.nd,g.gn,fun z o ez=>?_⟩
  ·rw[RepO];exact⟨p,FU,u',rfl,br,Ky,rfl,Gs⟩
  ·have:z≠p:=fun w=>by
    subst w;rw[g.gn z Pq]at ez;cases ez
   rw[aB this];exact g.gh z o ez
 have Oj:Step G H (p::b) G (upd H p u') (p::b):=by
  refine⟨.refl _,fun z o ez nz=>?_,fun z hz=>.inl hz,fun z o ez=>.inl ez,fun z o ez=>?_⟩
  ·have:z≠p:=fun w=>nz (by rw[w];exact Pq)
   rw[aB this];exact ez
  ·by_cases w:z=p
   ·subst w;exact⟨_,br⟩
   ·exact⟨o,by rw[aB w];exact ez⟩
 obtain⟨fz,g3,E2⟩:=g2.back (i:=i) (by rw[Sf];exact(List.getElem?_eq_some_iff.mp e).1) ev;rw[T5]at g3;exact⟨fz,g3,st.trans (Oj.trans E2)⟩
theorem wq{K:W.Frag}{G:Hp}{d:D}{k:Key}{v:V}(e:iP d=some k)(r:Rep K G d v):uQ k:=by
 cases d with
 |int i=>cases e;trivial
 |str l=>
  cases e;show(S l).cps.toList.length<=sizeLine;rw[bZ];exact(aT r).2
 |_=>cases e
theorem mV{K:W.Frag}{G:Hp}:∀{ds:List D}{ks:List Key}{xs:List V},cB ds=some ks->Reps K G ds xs->∀k∈ks,uQ k
 |[],_,_,e,_=>by
  cases e;exact fun _ h=>nomatch h
 |d::ds,_,_,e,r=>by
  rw[cB,RC]at e;obtain⟨k,e1,e⟩:=e;rw[P9]at e;obtain⟨ks,e2,e3⟩:=e;subst e3;rw[Reps]at r;obtain⟨y,ys,e4,r1,r2⟩:=r;intro z hz;rcases PJ.mp hz with rfl|hz
  ·exact wq e1 r1
  ·exact mV e2 r2 z hz
theorem oH{κ:Type}[DecidableEq κ]{P:κ->Prop}{kvs:List (κ×V)}{k:κ}{y:V}(h:∀kv∈kvs,P kv.1)(hk:P k):∀kv∈jk kvs k y,P kv.1:=by
 intro kv Hu;unfold jk at Hu;split at Hu
 ·obtain⟨z,hz,e⟩:=QD.mp Hu;rw[<-e];split
  ·exact h z hz
  ·exact h z hz
 ·rcases Qd.mp Hu with Hu|Hu
  ·exact h kv Hu
  ·rw[Qm]at Hu;rw[Hu];exact hk
theorem AH{i:Nat}{o ix value:Expr}{fk fv:FX}{pos pos':Pos}(hu:X.A.units+1<cLine)(ho:PE X o (tY i))(hi:QE X ix fk)(hv:QE X value fv)(hs:swapsWith value (some (.Subscript o ix pos')) pos.line X.env=pure false:=by rfl):
  QS (md:=md) X (.Assign [.Subscript o ix pos'] value pos) (BH i fk fv):=dH (xu hu ho hi hv hs) fun Dd σ H ED=>by
 obtain⟨G,env,fp,rel,k⟩:=ED;unfold BH at k;match q1:fv env,k with
 | .ok (r1,Eo),k=>
  have k:OutOk X.K G H fp Dd ((fk Eo).bind fun q=>match Eo[i]?,q.2[i]? with
   |some (some _),some (some (.d,.dct tk ks vs))=>if cG tk q.1.2&&decide (ks.length<sizeLine) then .ok (.nx (q.2.set i (some (.d,.dct tk (pQ ks vs q.1.2 r1.2).1 (pQ ks vs q.1.2 r1.2).2)))) else .bad
   |_,_=>.bad):=k
  match q2:fk Eo,k with
  | .ok (r2,Ey),k=>
   have k:OutOk X.K G H fp Dd (match Eo[i]?,Ey[i]? with
    |some (some _),some (some (.d,.dct tk ks vs))=>if cG tk r2.2&&decide (ks.length<sizeLine) then .ok (.nx (Ey.set i (some (.d,.dct tk (pQ ks vs r2.2 r1.2).1 (pQ ks vs r2.2 r1.2).2)))) else .bad
    |_,_=>.bad):=k
   split at k
   ·rename_i rr tk ks ws h1 h2;split at k
    ·rename_i hc;rw[PL,PQ]at hc;refine⟨G,env,fp,r1,Eo,rel,q1,fun y H1 G1 EL EE Es=>?_⟩;obtain⟨G2,b,ry,Ep,Ez⟩:=Es.freeze;obtain⟨v0,MR,_⟩:=Ep.view h1;refine⟨v0,MR,G2,Eo,b,r2,Ey,Ep,q2,fun z H3 G3 He E2 EY=>?_⟩;obtain⟨G4,b4,rz,Fn,F7⟩:=EY.freeze;obtain⟨p,xs,u,ep,hp,dd,rs,cg⟩:=Fn.chgD h2;rw[MR]at ep;cases ep;have Nz:Rep X.K G4 r1.2 y:=Rep.mono (E2.gg.trans F7.gg) ry;cases tk with
     |true=>
      obtain⟨kvs,eu,ek,ex,HR⟩:=dd;subst eu;subst ex;have hk:=hc.1;unfold cG at hk;rw[PF rfl,Qx]at hk;obtain⟨kk,hk⟩:=hk;obtain⟨pz,ez,gz,dz⟩:=bj hk rz;subst ez;obtain⟨t1,t2⟩:=lW (K:=X.K) (G:=G4) kT oG (k:=kk) rs Nz;have ek:ks=kvs.map fun kv=>kT kv.1:=ek
      rw[<-ek,<-dz]at t1 t2;have hfk:∀key∈kk,uQ key:=by
       cases hd:r2.2 with
       |tup ds=>
        rw[hd]at hk rz;obtain⟨_,FU,_,_,Gs⟩:=rA rz;exact mV hk Gs
       |_=>rw[hd]at hk;cases hk
      obtain⟨fq,Fz,Gy⟩:=cg (.dT (jk kvs kk y)) _ _ _ ⟨jk kvs kk y,rfl,t1.symm,rfl,oH (P:=fun ks=>∀k∈ks,uQ k) HR hfk⟩ t2;have hlen:kvs.length<sizeLine:=by have:=hc.2;rw[ek,Pr]at this;exact this
      exact⟨p,_,rfl,DPut.t hp (Fn.gh _ _ gz) hlen,k _ _ G4 fq (EE.trans (Ez.trans (E2.trans (F7.trans Gy)))) Fz⟩
     |false=>
      obtain⟨kvs,eu,ek,ex,HR⟩:=dd;subst eu;subst ex;have hk:=hc.1;unfold cG at hk;rw[PM Pt,Qx]at hk;obtain⟨kk,hk⟩:=hk;obtain⟨ez,dz⟩:=gB hk rz;subst ez;obtain⟨t1,t2⟩:=lW (K:=X.K) (G:=G4) kD rQ (k:=kk) rs Nz;rw[<-ek,<-dz]at t1 t2;obtain⟨fq,Fz,Gy⟩:=cg (.dK (jk kvs kk y)) _ _ _ ⟨jk kvs kk y,rfl,t1.symm,rfl,oH (P:=uQ) HR (wq hk rz)⟩ t2;have hlen:kvs.length<sizeLine:=by have:=hc.2;rw[ek,Pr]at this;exact this
      exact⟨p,_,rfl,DPut.k hp hlen,k _ _ G4 fq (EE.trans (Ez.trans (E2.trans (F7.trans Gy)))) Fz⟩
    ·exact k.elim
   ·exact k.elim
end
end PV
namespace NX
open PySem PySem.Spec PyProof.Rows L2
section
variable{prog:Program}{w:World}{A:Around}{E:Value->Shared->Prop}{s:Shared}{d:Addr}{es:Array DictEntry}{ep:Nat}
theorem ke(nm:(d==sysModules)=false):MeetsIn prog w (Builtin.«dict.__len__» ⟨[.ref d],[]⟩) (fun _ R s=>RawD s.heap d es ep/\R (.ok (.ret (.int es.size s.toks))) {s with toks:=s.toks+1}):=
 .of_wp fun A R s ED=>by
  obtain⟨⟨o,g,_,dat⟩,h⟩:=ED;show wpAny _ _ (dictSize d >>= fun _=>_) _ _ s;unfold dictSize;refine Po (Po (So g dat (Pp ?_)));show wpAny _ _ (Builtin.Dict.pendingCount d >>= fun _=>_) _ _ s;refine Po (wpAny_pendingCount_other nm (wpAny_ret_mkInt ?_));rw[UZ];exact h
theorem xZ{Q:Value->Shared->Prop}(nm:(d==sysModules)=false)(x:RawD s.heap d es ep)(hf:(es.size:Int)<2 ^ 63)(h:Q (.int es.size (s.toks+1)) {s with toks:=s.toks+1+1}):wpAny (model prog w) A (call (.builtin "len") [.ref d]) Q E s:=by
 have ty:=hJ x;refine R1 kind_len plain_len entry_len (args_len1 _) ?_;unfold Builtin.«len»;refine Po (m:=oneArg "len" _) (Pp (Po (m:=callSpecial? (.ref d) (Str.ofString "__len__")) (wpAny_callSpecial?_slot (name:=Str.ofString "__len__") ty F.slot_dict_len
  (call_meetsIn F.slot_dict_len ty F.entry_dict_len (F.args_dict_len_1 _) (ke (es:=es) (ep:=ep) nm) ⟨x,?_⟩))))
 show wpAny _ _ _ _ _ {s with toks:=s.toks+1};refine Po (QH (Pp (Po (Ui ?_))));show wpAny _ _ (if((es.size:Nat):Int)<0 then _ else _) _ _ _;rw[PM (Int.not_lt.mpr (Int.natCast_nonneg _))];show wpAny _ _ (if((es.size:Nat):Int)>=2 ^ 63 then _ else _) _ _ _;rw[PM (Int.not_le.mpr hf)];exact Po (wpAny_mkInt (Pp ⟨_,rfl,h⟩))
end
end NX
namespace PV
open PySem PySem.Spec PyProof.Rows L2 NX
section
variable{X:Cx}
def iU:List D->Res R
 |[.dct _ ks _]=>.ok (.f,.int ks.length)
 |ds=>CB ds
theorem AI{pi:List (Addr×Obj)}{σ:L2.St}{H:Hp}{s:Shared}(I:Inv X pi σ H s){p:Addr}{o:HO}{tk:Bool}{ks:List D}{xs:List V}(rd:Rd H p o)(dd:DictO o tk ks xs):(p==sysModules)=false/\∃es ep,RawD s.heap p es ep/\es.size=ks.length/\ks.length<=sizeLine:=by
 have ok:=rd.ok I.hok;cases tk with
 |true=>
  obtain⟨kvs,eo,ek,_⟩:=dd;subst eo;obtain⟨z,nm,ws,r,o2,es,ep,h1,h2,h3,h4,_⟩:=ok;refine⟨nm,es,ep,⟨o2,h1,h2,h3⟩,?_,by rw[ek,Pr];exact z⟩;have:=Qt List.length h4;rw[Pr,Pw,<-SE r]at this;rw[ek,Pr];exact this
 |false=>
  obtain⟨kvs,eo,ek,_⟩:=dd;subst eo;obtain⟨z,nm,ws,r,o2,es,ep,h1,h2,h3,h4,h5,_⟩:=ok;refine⟨nm,es,ep,⟨o2,h1,h2,h3⟩,?_,by rw[ek,Pr];exact z⟩;have l1:=h5.length;have l2:kvs.length=ws.length:=SE r;rw[ek,Pr];rw[Pw]at l1;lia
theorem bP:dr X (.builtin "len") (rC X.K iU):=by
 rintro pi s σ H xs us Q I rx ⟨G,fp,es,vs,ds,r,⟨rel,k⟩,vd,e⟩;unfold iU at e;split at e
 ·rename_i tk ks ws;cases e;obtain⟨v,ev,p,ys,o,ep,rd,dd,_⟩:=oD vd;subst ev;subst ep;obtain⟨u,rfl,ru⟩:=fN rx;cases ru;obtain⟨nm,en,ep,raw,h1,h2⟩:=AI I rd dd;refine xZ nm raw (by rw[h1];rw[Qs]at h2;lia) ?_;refine⟨.int ks.length,H,I.tok _,⟨_,by rw[h1]⟩,k _ H G fp .refl (rel.push (bu _))⟩
 ·exact Ax pi s σ H xs us Q I rx ⟨G,fp,es,vs,_,r,⟨rel,k⟩,vd,e⟩
def CF(g:List Nat->List D->Res R)(fa:FO)(fs:Fj):FX:=fun env=>(fa env).bind fun p=>match Fu p.2 p.1 with
 | .ok (.str l)=>(fs p.2).bind fun q=>(oq q.2 q.1).bind fun ds=>(g l ds).bind fun r=>.ok (r,q.2)
 |_=>.bad
inductive rMtS(K:W.Frag)(g:List Nat->List D->Res R)(x:V)(xs:List V)(H:Hp)(Q:VK):Prop
 |mk:∀G fp es vs l ds r,Goes K H G fp es vs r Q->x=.str (S l)->l.length<=sizeLine->L6 K G H ds xs->g l ds=.ok r->rMtS K g x xs H Q
theorem AJ{g:List Nat->List D->Res R}{id:String}{name:Str}{o e:Expr}{es:List Expr}{fa:FO}{fs:Fj}{apos EH:Pos}(slot:Slot "str" name id)(JG:typeOf (.builtin id)=pure (.type "method_descriptor"))(hm:LQ X id (rMtS X.K g))(ho:QO X o fa)(ha:Iv X (e::es) fs)
  (FN:attributeBase o name X.env (eval o X.env)=eval o X.env:=by rfl)
  (GQ:((backTo EH (starEach (e::es) X.env)).all (fun x=>!x.1)&&(backToKw EH (keywordEach [] X.env)).all (fun x=>x.1.isSome)&&decide ((e::es).length+([]:List Keyword).length+(if([]:List Keyword).isEmpty then 0 else 1)<30))=true:=by rfl)
  (FQ:(apos.endLine==EH.line)=true:=by rfl) (hs:starEach (e::es) X.env=(false,eval e X.env)::starEach es X.env:=by rfl) (Fh:(backTo EH (starEach es X.env)).any (·.1)=false:=by rfl):
  QE X (.Call (.Attribute o name apos) (e::es) [] EH) (CF g fa fs):=by
 refine bI (zO PySem.F.plainAttrs_str slot JG hm ho ha FN GQ FQ hs Fh) fun σ H Q EM=>?_
 obtain⟨G,env,fp,r,env',rel,e,k⟩:=EM;obtain⟨⟨oa,Eo⟩,e1,e⟩:=ag e;dsimp only at e;split at e
 ·rename_i l hl;obtain⟨⟨os,Ey⟩,e2,e⟩:=ag e;obtain⟨ds,e3,e⟩:=ag e;obtain⟨r',e4,e⟩:=ag e;cases e;refine⟨G,env,fp,oa,Eo,rel,e1,fun v H1 G1 EL EE Es FJ=>?_⟩;obtain⟨ev,hz⟩:=cU (Es.vw FJ hl);subst ev;exact⟨rfl,G1,Eo,EL,os,Ey,Es,e2,fun vs H2 G2 E3 Ez Ep Ii=>⟨G2,E3,Ey,σ,l,ds,r,⟨Ep,fun v H' G' Eu st ES=>k v H' G' Eu (EE.trans (Ez.trans st)) ES⟩,rfl,hz,Ep.vws Ii e3,e4⟩⟩
 ·cases e
end
theorem fnok_of{P:Program}{w:World}{K:W.Frag}{mg:Str->Option Value}{base:Heap}{x:Str}{st:Stmt}{N ps:List Str}{k:Nat}{g:FS}{f:Addr}{fd:FuncData}(F:Fun K x x st f fd)(sc:FnScope N ps (defScope st))
  (body:∀(EV:Value) (A:Around) (outer:List PySem.Env) (s:Shared) (H:Hp) (E:XK),Room k (A.deeper (envOfC x (defScope st) s.heap.objs.size f EV))->II (md:=.plain) (qp IM P w K mg base N x (defScope st) f EV A outer s H E).nox (bY st) g):
  FnOk P w K mg base IM (k+1) f fd ps (spF K (fBody ps.length (N.length-ps.length) g)):=by
 refine F.ok sc (fun vs H Q E h=>?_) (fun EV A outer s H vs Q E hr h=>?_)
 ·obtain⟨G,ds,r,_,rs,e,_⟩:=h;unfold fBody at e;split at e
  ·rename_i hl;rw[rs.length,hl]
  ·cases e
 ·obtain⟨G,ds,r,gh,rs,e,q⟩:=h;unfold fBody at e;split at e
  ·rename_i hl;refine⟨_,body EV A outer s H E hr,G,ds.map (fun d=>some (O.f,d))++List.replicate (N.length-ps.length) none,[],⟨?_,RK,(fun _ h=>nomatch h),gh⟩,?_⟩
   ·have:=fV (K:=K) (G:=G) (H:=H) (N.length-ps.length) rs;unfold L2.gR;rw[rs.length,hl];exact this
   ·obtain⟨o,eo,e⟩:=ag e;rw[eo];cases o with
    |rt r'=>
     cases e;exact fun v H' G' Eu st rel=>q v H' G' Eu st rel
    |nx env'=>
     cases e;exact fun σ' H' G' Eu st rel=>q .non H' G' [] (st.trans (Step.cut fun _ h=>nomatch h)) (rel.nilF.push jZ)
    |bk env'=>cases e
    |ct env'=>cases e
  ·cases e
def ve(K:W.Frag):Sp:=fun vs H Q _=>∃(a:Addr) (ns:List Int),vs=[.ref a]/\SqL K H a (ns.map V.int)/\ns.length<=63/\∀H',Q (.bl true) H'
theorem AK{K:W.Frag}{F:List D->Res R}(h:∀ns:List Int,ns.length<=63->∃o,F [.lst (ns.map D.int)]=.ok (o,.bl true)):∀vs H Q E,ve K vs H Q E->spF K F vs H Q E:=by
 rintro vs H Q E ⟨a,ns,rfl,sq,hl,q⟩;obtain⟨o,e⟩:=h ns hl;refine⟨H,_,_,.refl _,?_,e,fun v H' G' Eu st rel=>?_⟩
 ·refine .one ?_;rw[Rep];exact⟨a,_,rfl,sq,dy fun n _=>bu n⟩
 ·rw[bR rel.top];exact q H'
theorem _root_.L2.Room.u65{k:Nat}{A:Around}(r:Room k A):A.units+65<cLine:=by have:=r.un;lia
def BI(f:FX)(a:FG):FS:=fun env=>(f env).bind fun p=>(a p.1.2 p.2).bind fun e=>.ok (.nx e)
theorem AL{X:Cx}{tg e:Expr}{f:FX}{a:FG}{pos:Pos}(he:QE X e f)(hg:QG X tg a)(hs:swapsWithSole [tg] e pos.line X.env=pure false:=by rfl)(hw:swappedStores [tg] e X.env=pure none:=by rfl)
  (h1:(assignEach [tg] X.env).map (·.2)=[assign tg X.env]:=by rfl):QS (md:=md) X (.Assign [tg] e pos) (BI f a):=dH (zi he hg hs hw h1) fun Dd σ H ED=>by
 obtain⟨G,env,fp,rel,k⟩:=ED;unfold BI at k;match q:f env,k with
 | .ok (r,Eo),k=>
  have k:OutOk X.K G H fp Dd ((a r.2 Eo).bind fun e=>.ok (.nx e)):=k;match q2:a r.2 Eo,k with
  | .ok Ey,k=>
   refine⟨G,env,fp,r,Eo,rel,q,fun v H1 G1 EL EE Es=>?_⟩;obtain⟨G2,b,rv,Ep,Ez⟩:=Es.freeze;exact⟨G2,Eo,b,r.2,Ey,Ep,rv,q2,fun σ' G' Eu st ES=>k σ' H1 G' Eu (EE.trans (Ez.trans st)) ES⟩
theorem D2{l:PySem.W.OpenLaw}{q:Program}{loose:List Str}{XP:(Str->Option Value)->Heap->Prop}{YP:World->Heap->Prop}{d:DefRec}{K:Params->W.Frag}{k:Nat}{x:Str}(hn:l.most=some 63)(Mq:d.params.defaults=[])(hr:Room k PySem.callerA)
  (hY:∀(w:World) (h:Heap),YP w h->(K w.params).In h)
  (F:∀(w:World) (mg:Str->Option Value) (fa:Addr) (h:Heap),(K w.params).In h->h.Ns mainGlobals mg->mg d.name=some (.ref fa)->
   ∃fd:FuncData,(∀(s:Shared) (u:Value),BindsTo s fd ⟨[u],[]⟩ [(x,u)])/\∀base:Heap,(K w.params).In base->base.Ns mainGlobals mg->FnOk l.prog w (K w.params) mg base IM k fa fd [x] (ve (K w.params))):
  PySem.W.WalkO q loose XP YP l.row.toRowW d [] (fun f vs=>PySem.call f vs):=
 L2.xa (n:=63) (k:=k) (x:=x) (CX:=fun _=>IM) (sp:=fun w=>ve (K w.params)) hn (by decide) Mq hr hY F (fun _ _ a ns hl _ hS=>⟨a,ns,rfl,hS,hl,fun _=>rfl⟩) fun _ _ _ _ _ z=>z
theorem wt:bootBuiltins "all" = some (.builtin "all"):=by decide +kernel
theorem lX:bootBuiltins "sorted" = some (.builtin "sorted"):=by decide +kernel
theorem AM{K:W.Frag}{h:Heap}{mg:Str->Option Value}{x:Str}{st:Stmt}{f:Addr}{oc:Value}{od an:Option Addr}{Ip:Array (Option Value)}{kV doc pm EV ct:Value}(X:K.In h)(G:h.Ns mainGlobals mg)
  (a:PySem.W.nsIn K mainGlobals x=some (some (.ref f))) (l:K.lookup f=some ⟨oc,od,.func (PySem.W.fnOf x x (dt st) (bY st) (defScope st) .none kV doc pm an EV ct),Ip⟩)
  (c:PySem.W.codeIn K EV x=true) (k:PySem.W.keepIn K (.ref f)=true):Def K mg x st:=⟨f,_,vN l c k,SG X G a⟩
theorem CG{K:W.Frag}{h:Heap}{mg:Str->Option Value}{x:Str}{n:Int}{t:Tok}(X:K.In h)(G:h.Ns mainGlobals mg)(a:PySem.W.nsIn K mainGlobals x=some (some (.int n t))):Gi mg x n:=⟨t,SG X G a⟩
inductive tQL(K:W.Frag)(f:FI)(σ:L2.St)(H:Hp)(R:It->Hp->Prop):Prop
 |mk:∀G env fp ds env',Rel K G H env σ fp->f env=.ok (ds,env')->(∀J H' G' Eu,Step G H fp G' H' Eu->Rel K G' H' env' σ Eu->(∀G2,Same G' G2->(∀(i:Nat) (r:PV.R) (v:V),env'[i]?=some (some r)->σ[i]?=some (some v)->Rep K G2 r.2 v)->Walk K G2 J ds)->R J H')->tQL K f σ H R
def Lh(X:Cx)(tg e:Expr)(f:FI):Prop:=PI X tg e (tQL X.K f)
theorem Walk.mono{K:W.Frag}{G G2:Hp}{J:It}{ds:List D}(w:Walk K G J ds)(gg:Same G G2):Walk K G2 J ds:=fun G' H' es vs fp g rel=>w G' H' es vs fp (gg.trans g) rel
theorem wu{K:W.Frag}{fi:FI}{ix:List (Option Nat)}{a:FG}{c:FT}{f:FX}{σ:L2.St}{H:Hp}{Q:VK}(h:tQ K (dw fi ix a c f) σ H Q):xf (tQL K fi) ix (tQG K a) (tQT K c) (tQ K f) σ H Q:=by
 obtain⟨G,env,fp,r,env',rel,e,k⟩:=h;obtain⟨⟨ds,Eo⟩,e1,e⟩:=ag e;obtain⟨rs,e2,e⟩:=ag e;refine⟨G,env,fp,ds,Eo,rel,e1,fun J H1 G1 EL EE Es wk D hD=>?_⟩;dsimp only at e e2;split at e
 ·rename_i hz;have er:r=(.l .f,.lst rs):=by cases e;rfl
  have ee:env'=if flatDs rs then Eo else Eo.map frz:=by cases e;rfl
  subst er;obtain⟨G2,ML,MN,GR,hrE,Hx⟩:=Es.lend;have wk2:=wk G2 ML GR;have Ep:Rel K G2 H1 (cN ix Eo) (ju ix σ) []:=⟨dQ GR (fun i r er=>let⟨v,ev,_⟩:=Es.view er;⟨v,ev⟩) ix,RK,(fun _ h=>nomatch h),MN⟩
  obtain⟨EY,E2⟩:=Ep.newL (ds:=[]) (xs:=[]) hD .nil;refine⟨fun i m σ1 H2=>m=ds.length-i/\i<=ds.length/\∃G' es Eu acc bT,Step G2 H1 [] G' H2 Eu/\Rel K G' H2 (some (.l .f,.lst acc)::es) (some (.ref D)::σ1) Eu/\cz a c f (ds.drop i) es=.ok bT/\acc++bT=rs,
   ⟨_,rfl,Qg _,G2,cN ix Eo,_,[],rs,E2,EY,e2,rfl⟩,?_⟩
  rintro i m σ1 H2 ⟨rfl,hi,G3,es,He,acc,bT,F7,Fn,e4,I0⟩;obtain⟨w1,w2⟩:=wk2 G3 H2 _ _ _ F7.gg Fn i;by_cases E9:i<ds.length
  ·have hd:ds[i]?=some ds[i]:=List.getElem?_eq_getElem E9;obtain⟨go,yl⟩:=w1 _ hd;rw[S4 E9]at e4;unfold cz at e4;obtain⟨GA,h1,e4⟩:=ag e4;obtain⟨⟨b,MS⟩,h2,e4⟩:=ag e4;dsimp only at e4;refine .inr ⟨go,fun x H3 y=>?_⟩;obtain⟨G4,rx,Fz,Gy⟩:=yl x H3 y;obtain⟨fa,fb,OY,ra,relb,bk⟩:=Fz.frame;refine⟨G4,es,fb,ds[i],GA,relb,rx,h1,fun σ2 G5 Le st6 rel6=>?_⟩;refine⟨G5,GA,Le,b,MS,rel6,h2,fun H6 G6 OZ st7 MT=>?_⟩;have MU:=st6.trans st7;cases b with
   |false=>
    refine iteF ⟨ds.length-(i+1),by lia,rfl,E9,?_⟩;obtain⟨Li,MW⟩:=bk G6 H6 MS σ2 OZ MU MT;rw[<-OY]at MW;exact⟨G6,MS,_,acc,bT,F7.trans (Gy.trans MW),Li,e4,I0⟩
   |true=>
    have e4:((f MS).bind fun q=>(cz a c f (ds.drop (i+1)) q.2).bind fun rs=>.ok (q.1.2::rs))=.ok bT:=e4;obtain⟨⟨r,Oo⟩,h3,e4⟩:=ag e4;obtain⟨MX,h4,e4⟩:=ag e4;cases e4;refine zP ⟨G6,MS,OZ,r,Oo,MT,h3,fun v H7 G7 fp7 st8 rel8=>?_⟩;obtain⟨G8,fp8,rv,rel9,st9⟩:=rel8.freeze;obtain⟨Li,MW⟩:=bk G8 H7 Oo σ2 fp8 (MU.trans (st8.trans st9)) rel9;rw[<-OY]at MW;obtain⟨p,xs,ep,hp,MP,cg⟩:=Li.chg (i:=0) (ds:=acc) (ds':=acc++[r.2]) rfl;have ep:some (some (V.ref D))=some (some (V.ref p)):=ep;cases ep;obtain⟨fq,rely,sty⟩:=cg (xs++[v]) (MP.app (.one rv));refine⟨xs,hp,?_,ds.length-(i+1),by lia,rfl,E9,G8,Oo,fq,acc++[r.2],MX,F7.trans (Gy.trans (MW.trans sty)),rely,h4,?_⟩
    ·rw[MP.length];have:=Qt List.length I0;rw[Qb,PD]at this;lia
    ·rw[<-I0,Qp];rfl
  ·have ei:i=ds.length:=by lia
   subst ei;rw[List.drop_length]at e4;cases e4;rw[P5]at I0;subst I0;refine .inl ⟨w2 rfl,?_⟩;obtain⟨fa,relo,sto⟩:=Fn.only;obtain⟨k1,k2⟩:=Hx H2 G3 fa _ _ (F7.trans sto) relo;rw[ee]at k;by_cases hc:flatDs acc=true
   ·rw[PF hc]at k;obtain⟨G5,Le,Gy,Fz⟩:=k1 (by rw[bW,j4];exact hc);exact k _ H2 G5 Le (EE.trans Gy) Fz
   ·rw[PM hc]at k;obtain⟨G5,Le,Gy,Fz⟩:=k2;exact k _ H2 G5 Le (EE.trans Gy) Fz
 ·cases e
section
variable{md:Mode}{X:Cx}{scope:Scope}{N:List Str}{tg iter elt:Expr}{ifs:List Expr}{pos:Pos}{fi:FI}{a:FG}{c:FT}{f:FX}
variable{l e:Expr}{g fj:FI}
theorem cD(h:QI X tg e fi):Lh X tg e fi:=iJ h fun σ H R ⟨G,env,fp,ds,env',rel,e,k⟩=>⟨G,env,fp,ds,env',rel,e,fun J H' G' Eu st ES wk=>k J H' G' Eu st ES fun _ gg _=>wk.mono gg⟩
theorem oI(h:Lh X tg e fi)(h2:Lh X tg e fj):Lh X tg e (GU fi fj):=fun pi s σ H R I ED=>by
 obtain⟨G,env,fp,ds,env',rel,ee,k⟩:=ED;rcases wo ee with z|z
 ·exact h pi s σ H R I ⟨G,env,fp,ds,env',rel,z,k⟩
 ·exact h2 pi s σ H R I ⟨G,env,fp,ds,env',rel,z,k⟩
def pR(i:Nat):FI:=fun env=>match env[i]? with
 |some (some (_,.lst ds))=>.ok (ds,env)
 |_=>.bad
theorem rS{i:Nat}(h:PE X l (tY i)):Lh X tg l (pR i):=iJ (qf h) fun σ H R ED=>by
 obtain⟨G,env,fp,ds,env',rel,e,k⟩:=ED;unfold pR at e;split at e
 ·rename_i o ds hr;cases e;obtain⟨v,ev,rv⟩:=rel.view hr;obtain⟨p,xs,O0,sq,rs⟩:=aX rv;refine⟨v,ev,p,O0,⟨xs,sq⟩,k _ H G fp .refl rel fun G2 gg GR=>?_⟩;obtain⟨p',FU,MY,Fw,Gs⟩:=aX (GR i _ v hr ev);rw[O0]at MY;cases MY;exact lK Fw Gs
 ·cases e
theorem cH(ix:List (Option Nat))(N:List Str)(hc:X.calm=true)(hi:Lh X tg iter fi)(hg:∀C s H fp pn,QG (bH X scope N C s H fp pn) tg a)(ht:∀C s H fp pn,Ny (bH X scope N C s H fp pn) ifs c)(he:∀C s H fp pn,QE (bH X scope N C s H fp pn) elt f)
  (hf:fP scope X.env=true:=by rfl) (hk:scope.kind=.function:=by rfl) (E4:∀y∈scope.names,y.2≠.cell:=by decide +kernel) (Fy:∀y∈scope.names,y.2=.local->scope.names.lookup y.1=some .local:=by decide +kernel) (Gh:vP X scope N ix=true:=by rfl)
  (hs:∀x,foldedSetIterable iter X.env x=pure x:=by intro _;rfl):QE X (.ListComp elt [⟨tg,iter,ifs,0⟩] scope pos) (dw fi ix a c f):=
 bI (xi (g:=tQG X.K a) (tc:=tQT X.K c) (te:=tQ X.K f) ix N hc hi hg ht he hf hk E4 Fy Gh hs) fun _ _ _=>wu
theorem f9{i:Nat}{y:Str}{py IQ:Pos}(ix:List (Option Nat))(N:List Str)(hN:X.N.Nodup)(N1:X.N[i]?=some y)(hy:Loc X.env.scope y)(hc:X.calm=true)(hi:Lh X tg iter fi)(hg:∀C s H fp pn,QG (bH X scope N C s H fp pn) tg a)(ht:∀C s H fp pn,Ny (bH X scope N C s H fp pn) ifs c)
  (he:∀C s H fp pn,QE (bH X scope N C s H fp pn) elt f) (N2:swapsWith (.ListComp elt [⟨tg,iter,ifs,0⟩] scope pos) (some (.Name y py)) IQ.line X.env=pure true:=by rfl)
  (hf:fP scope X.env=true:=by rfl) (hk:scope.kind=.function:=by rfl) (E4:∀y∈scope.names,y.2≠.cell:=by decide +kernel) (Fy:∀y∈scope.names,y.2=.local->scope.names.lookup y.1=some .local:=by decide +kernel) (Gh:vP X scope N ix=true:=by rfl)
  (hs:∀x,foldedSetIterable iter X.env x=pure x:=by intro _;rfl) (JB:X.fn y=true\/X.env.scope.names.lookup y=some .local:=by first|exact .inl rfl|exact .inr rfl):
  QS (md:=md) X (.Assign [.Name y py] (.ListComp elt [⟨tg,iter,ifs,0⟩] scope pos) IQ) (cx i (dw fi ix a c f)):=
 dH (xj (i:=i) (g:=tQG X.K a) (tc:=tQT X.K c) (te:=tQ X.K f) ix N hN N1 hy hc hi hg ht he N2 hf hk E4 Fy Gh hs JB) fun D σ H ⟨G,env,fp,rel,k⟩=>wu (rD rel k)
end
section
variable{X:Cx}{a:Expr}{pos:Pos}{fa:FO}
def El(fa:FO):FX:=fun env=>(fa env).bind fun p=>(Fu p.2 p.1).bind fun d=>match d with
 | .int i=>.ok ((.f,.int (-i)),p.2)
 |_=>.bad
theorem rT{i:Int}(h:i.natAbs<2 ^ 1000):Builtin.Int.intBits i<=2 ^ 20:=by
 unfold Builtin.Int.intBits;split
 ·exact Qg _
 ·rename_i h0;have h1:i.natAbs≠0:=by
   intro e;rw[Int.natAbs_eq_zero]at e;exact h0 (by rw[e];rfl)
  have:=(Nat.log2_lt h1).mpr h;have e:(2:Nat) ^ 20=1048576:=by decide
  lia
theorem x3:EX X (binaryOp .Mult) (rI (fun i j=>i.natAbs<2 ^ 1000/\j.natAbs<2 ^ 1000) fun i j=>.int (i*j)):=Mm fun _ _ _ _ _ _ _ hc q=>mul_int q (.of_bits (rT hc.1) (rT hc.2))
theorem lY{α:Type}:∀(ls:List (Array α)) (acc:Array α),(ls.foldl (·++·) acc).toList=acc.toList++(ls.map Array.toList).flatten
 |[],acc=>by simp
 |a::ls,acc=>by
  rw[QF,lY ls,Array.toList_append,PY,Rb,Qp]
theorem CI(l:List Nat)(n:Nat):(⟨(List.replicate n (S l).cps).foldl (·++·) #[]⟩:Str)=S (List.replicate n l).flatten:=by
 have h:((List.replicate n (S l).cps).foldl (·++·) #[]).toList=(List.replicate n l).flatten:=by
  rw[lY,List.map_replicate];simp only[bZ,TY]
 show Str.mk _=Str.mk _;rw[<-h]
theorem x4(a b:Int):Cw (.int a) (.int b)=if b6 a||b6 b then .ok (.f,.int (a*b)) else .bad:=rfl
noncomputable def yR:D->D->Res R
 | .int i,.int j=>if b6 i||b6 j then .ok (.f,.int (i*j)) else if i.natAbs<2 ^ 1000/\j.natAbs<2 ^ 1000 then .ok (.f,.int (i*j)) else .bad
 | .str l,.int k=>if 2<=k/\k<=1000/\1<=l.length/\l.length<=1000 then .ok (.f,.str (List.replicate k.toNat l).flatten) else .bad
 |_,_=>.bad
theorem x5:EX X (binaryOp .Mult) (rG X.K yR):=by
 rintro pi s σ H x y v u Q I rx ry ⟨G,fp,es,vs,a,b,r,⟨rel,k⟩,va,vb,e⟩;unfold yR at e;split at e
 ·rename_i i j;split at e
  ·rename_i hc;exact Au pi s σ H x y v u Q I rx ry ⟨G,fp,es,vs,.int i,.int j,r,⟨rel,k⟩,va,vb,by rw[x4,PF hc];exact e⟩
  ·split at e
   ·rename_i hc;cases e;cases ba va;cases ba vb;exact x3 pi s σ H _ _ v u Q I rx ry ⟨i,j,rfl,rfl,hc,k _ H G fp .refl (rel.push (bu _))⟩
   ·cases e
 ·rename_i l j;split at e
  ·rename_i hc;cases e;obtain⟨ev,hl⟩:=cU va;subst ev;cases ba vb;obtain⟨t,rfl⟩:=rx;obtain⟨t',rfl⟩:=ry;have hlen:(S l).length=l.length:=ji l;have hz:(List.replicate j.toNat l).flatten.length<=1000000:=by
    rw[jJ];exact Nat.mul_le_mul (by lia:j.toNat<=1000) hc.2.2.2
   have KA:(List.replicate j.toNat l).flatten.length<=sizeLine:=Qc hz (by decide);refine PySem.P.mul_str ?_ ?_ ?_ ?_
   ·rw[PN (by lia),PN (by lia)];rfl
   ·intro _ _;rw[hlen];have h1:1000<=(2 ^ 63-1) / j:=(Int.le_ediv_iff_mul_le (by lia)).mpr (by lia);lia
   ·intro _ _;unfold Builtin.Str.tooLong;rw[Qn,hlen,TR,<-jJ];lia
   ·rw[PM (by lia),PM (by rw[hlen,TL,Ql,Ql];lia),CI];refine⟨?_,?_⟩
    ·rw[ji];exact KA
    ·exact⟨.str (S (List.replicate j.toNat l).flatten),H,I.tok _,⟨_,rfl⟩,k _ H G fp .refl (rel.push (fD KA))⟩
  ·cases e
 ·cases e
end
end PV
namespace HT
open PySem PySem.Spec PyProof.Rows L2
variable{prog:Program}{w:World}{A:Around}{E:Value->Shared->Prop}{s:Shared}
theorem gc{t sl:Addr}{items:Array Value}{vl vu:Value}{lo hi:Option Int}{Q:Value->Shared->Prop}(ht:IsTup s.heap t items)(hs:s.heap.IsSliceOf sl vl vu .none)(pl:IsPart vl lo)(pu:IsPart vu hi)
  (hw:sIx items.size 0 lo=0/\sIx items.size items.size hi=items.size) (h:Q (.ref t) s):wpAny (model prog w) A (getItem (.ref t) (.ref sl)) Q E s:=by
 obtain⟨os,JE,Nm,JF⟩:=id hs;have NU:s.TypeIs (.ref sl) "slice":=⟨os,JE,Nm⟩
 unfold getItem;try with_reducible refine QH ?_
 first|refine Po (Pp ?_)|skip
 refine Po (wpAny_sequenceKey ht.typeIs (by decide) ?_);refine Po (wpAny_callSpecial?_slot (name:=Str.ofString "__getitem__") ht.typeIs QU
  (QA QU ht.typeIs entry_tuple_getitem ?_ (args_tuple_getitem _ _)))
 show wpAny _ _ (Builtin.Tuple.tupleItemsOf (.ref t) >>= _) _ _ s;refine Po (tupleItemsOf_ ht ?_);refine Po (RP NU ?_);rw[PF (by decide)];refine Po (dF hs pl pu ?_);have hyes:(((sIx items.size 0 lo:Nat):Int)==0&&(1:Int)==1&&(sIx items.size items.size hi-sIx items.size 0 lo)==items.size)=true:=by
  rw[hw.1,hw.2];simp
 show wpAny _ _ (if(((sIx items.size 0 lo:Nat):Int)==0&&(1:Int)==1&&(sIx items.size items.size hi-sIx items.size 0 lo)==items.size)=true then _ else _) _ _ s;rw[PF hyes];refine Po (m:=Builtin.Tuple.tupleIsExact _) ?_;unfold Builtin.Tuple.tupleIsExact;refine Po (RP ht.typeIs (Pp ?_));rw[PF (by decide)];exact Po (UM (Pp ⟨_,rfl,Pp h⟩))
end HT
namespace PV
open PySem PySem.Spec PyProof.Rows L2 NX
section
variable{X:Cx}{pos:Pos}{fa:FO}
theorem x6:KR X (fun x lo hi H Q=>∃a xs,x=.ref a/\SqT X.K H a xs/\(HT.sIx xs.length 0 lo=0/\HT.sIx xs.length xs.length hi=xs.length)/\Q x H):=by
 intro pi s σ H x v vl vu lo hi sl Q I rx hs pl pu h;obtain⟨a,xs,rfl,hx,hw,q⟩:=h;cases rx;obtain⟨Er,r,ht,hz⟩:=I.tuple hx;have hlen:Er.toArray.size=xs.length:=by rw[Pu];exact r.length.symm
 refine⟨"tuple",_,PyProof.Rows.slot_tuple_getitem.lookup,ht.typeIs,?_⟩;exact HT.gc ht hs pl pu (by rw[hlen];exact hw) ⟨.ref a,H,I,rfl,q⟩
def Lj(k:D)(lo hi:Option Int):Res R:=match k with
 | .tup ds=>if HT.sIx ds.length 0 lo=0/\HT.sIx ds.length ds.length hi=ds.length then .ok (.f,.tup ds) else L8 k lo hi
 |_=>L8 k lo hi
def yS(fa:FO)(lo hi:FP):FX:=fun env=>(fa env).bind fun p=>(lo p.2).bind fun q=>(hi q.2).bind fun t=>(Fu t.2 p.1).bind fun d=>(Lj d q.1 t.1).bind fun r=>.ok (r,t.2)
inductive rSlW(K:W.Frag)(x:V)(lo:Option Int)(hi:Option Int)(H:Hp)(Q:VK):Prop
 |mk:∀G fp es vs d r,Goes K H G fp es vs r Q->Vw K G H d x->Lj d lo hi=.ok r->rSlW K x lo hi H Q
theorem AN:KR X (rSlW X.K):=by
 rintro pi s σ H x v vl vu lo hi sl Q I rx hs pl pu ⟨G,fp,es,vs,d,r,⟨rel,k⟩,vd,e⟩;unfold Lj at e;split at e
 ·rename_i ds;split at e
  ·rename_i hw;cases e;obtain⟨p,xs,ev,sq,rs⟩:=fT vd;subst ev;refine x6 pi s σ H _ v vl vu lo hi sl Q I rx hs pl pu ⟨p,xs,rfl,bF rel.gh sq,by rw[rs.length];exact hw,?_⟩;exact k _ H G fp .refl (rel.push vd)
  ·exact Aw pi s σ H x v vl vu lo hi sl Q I rx hs pl pu ⟨G,fp,es,vs,_,r,⟨rel,k⟩,vd,e⟩
 ·exact Aw pi s σ H x v vl vu lo hi sl Q I rx hs pl pu ⟨G,fp,es,vs,_,r,⟨rel,k⟩,vd,e⟩
theorem oJ{e:Expr}{lo hi:Option Expr}{p2:Pos}{fl fh:FP}(he:QO X e fa)(hl:QP X lo fl)(hh:QP X hi fh):QE X (.Subscript e (.Slice lo hi none p2) pos) (yS fa fl fh):=
 bI (uh AN he hl hh) fun σ H Q ED=>by
  obtain⟨G,env,fp,r,env',rel,e,k⟩:=ED;obtain⟨⟨o,Eo⟩,e1,e⟩:=ag e;obtain⟨⟨i,Ey⟩,e2,e⟩:=ag e;obtain⟨⟨j,Fo⟩,e3,e⟩:=ag e;obtain⟨d,e4,e⟩:=ag e;obtain⟨r',e5,e⟩:=ag e;cases e;exact⟨G,env,fp,o,Eo,rel,e1,fun v H1 G1 EL EE Es FJ=>⟨G1,Eo,EL,i,Ey,Es,e2,fun H2 G2 E3 Ez Ep=>⟨G2,Ey,E3,j,Fo,Ep,e3,fun H3 G3 He E2 EY=>
   ⟨G3,He,Fo,σ,d,r,⟨EY,fun v H' G' Eu st ES=>k v H' G' Eu (EE.trans (Ez.trans (E2.trans st))) ES⟩,EY.vw ((FJ.mono Ez.gg).mono E2.gg) e4,e5⟩⟩⟩⟩
end
end PV
namespace L2
open PySem PySem.Spec PyProof.Rows
section
variable{X:Cx}{tg:Expr}
def rU(i j c:Int):Prop:=(-1048576<=i/\i<=1048576)/\(-1048576<=j/\j<=1048576)/\(c = -1\/1<=c)/\c<=1048576
instance (i j c:Int):Decidable (rU i j c):=by unfold rU;infer_instance
end
end L2
namespace PV
open PySem PySem.Spec PyProof.Rows L2 NX
section
variable{X:Cx}{tg:Expr}
def Em:List D->Res R
 |[d]=>match(oE d).bind e8 with
  |some (n::ns)=>.ok (.f,.int (Ci (n::ns)))
  |_=>.bad
 |[.int i,.int j]=>.ok (.f,.int (if j<i then j else i))
 |_=>.bad
def En:List D->Res R
 |[.int i]=>.ok (.f,.int (if i<0 then -i else i))
 |_=>.bad
noncomputable def CJ(fs:Fj):FI:=fun env=>(fs env).bind fun p=>(oq p.2 p.1).bind fun d=>match d with
 |[.int i,.int j,.int c]=>if rU i j c then .ok ((List.range (Builtin.Range.rangeSize i j c).toNat).map fun(k:Nat)=>D.int (i+(k:Int)*c),p.2) else .bad
 |_=>.bad
end
end PV
namespace NX
open PySem PySem.Spec PyProof.Rows L2
section
open PySem.SeqAt
open PySem.AutoSeq1 (wpAny_loadPart')
theorem iV{M:Model}{A:Around}{E:Value->Shared->Prop}{s:Shared}{β:Type}(f:Nat->β->Sem (ForInStep β))(n:Nat)(I:Nat->β->Shared->Prop)(Q:β->Shared->Prop)
  (turn:∀(i:Nat) (b:β) (s:Shared),i<n->I i b s->wpAny M A (f i b) (fun r s'=>match r with | .yield b'=>I (i+1) b' s' | .done b'=>Q b' s') E s)
  (fin:∀(b:β) (s:Shared),I n b s->Q b s) (b:β) (h:I 0 b s):wpAny M A (forIn [0:n] b f) Q E s:=by
 rw[Std.Legacy.Range.forIn_eq_forIn_range'];refine RH f (fun bT b s=>∃i,i<=n/\bT=List.range' i (n-i)/\I i b s) Q ?_ ?_ _ b ?_
 ·rintro x bT b s ⟨i,hi,hr,h⟩;by_cases Ho:i<n
  ·have e:n-i=(n-(i+1))+1:=by lia
   rw[e,Sw]at hr;injection hr with h1 h2;subst h1;refine EG (turn x b s Ho h) fun r s' O1=>?_
   cases r with
   |yield b'=>exact⟨x+1,by lia,h2,O1⟩
   |done b'=>exact O1
  ·have e:n-i=0:=by lia
   rw[e]at hr;cases hr
 ·rintro b s ⟨i,hi,hr,h⟩;by_cases Ho:i<n
  ·have e:n-i=(n-(i+1))+1:=by lia
   rw[e,Sw]at hr;cases hr
  ·have e:i=n:=by lia
   subst e;exact fin b s h
 ·refine⟨0,Qg _,?_,h⟩;simp[Std.Legacy.Range.size]
theorem gX(l:Addr)(items:Array Value)(n:Nat)(dd:Option Addr)(sl:Array (Option Value))(ns:List Str)(c:Str)(t:Tok)(hi:Vals (ns.map V.str) items.toList)(i:Nat)(hx:ns[i]?=some c)(h0:∀j,j<i->ns[j]?≠some c):
  Meets (Builtin.«tuple.index» ⟨[.ref l,.str c t],[]⟩)
   (fun _ R s=>s.heap.get? l=some {cls:=.type "tuple",dict:=dd,data:=.seq items n,slots:=sl}/\R (.ok (.ret (.int (i:Int) s.toks))) {s with toks:=s.toks+1}):=
 .of_wp fun prog w A R s h=>by
  obtain⟨hp,g,d,tk,os⟩:=s;obtain⟨hl,h⟩:=h;have z1:items.size=ns.length:=by have:=hi.length;simp at this;lia
  have Ho:i<ns.length:=(List.getElem?_eq_some_iff.mp hx).1;have key:∀(j:Nat),j<ns.length->∃(b:Str) (u:Tok),items[j]?=some (.str b u)/\ns[j]?=some b:=by
   intro j hj;obtain⟨v,hv,hr⟩:=hi.get (i:=j) (x:=V.str ns[j]) (by simp[hj]);obtain⟨u,rfl⟩:=hr;exact⟨ns[j],u,by rw[<-Array.getElem?_toList];exact hv,by simp[hj]⟩
  wp_walk using wpAny_loadPart' hl,iV _ _ (fun j b s'=>b.1=none/\s'=⟨hp,g,d,tk,os⟩/\j<=i) _
  case turn=>
   rintro j ⟨b1,b2⟩ s' hj ⟨hb,rfl,O2⟩;simp only at hb;subst hb;obtain⟨b,u,e1,e2⟩:=key j (by lia);have he:EqAt A.in1 ⟨hp,g,d,tk,os⟩ (.str b u) (.str c t) (b==c):=EqAt.str_str b u c t;by_cases hbc:b=c
   ·have hji2:j=i:=by
     rcases U0 j i with E9|hge
     ·exact absurd (by rw[e2,hbc]) (h0 j E9)
     ·lia
    subst hji2 hbc;rw[e1];refine Po (he prog w _ _ ?_);rw[show(b==b)=true from Qi b]
    wp_walk
    exact⟨_,rfl,h⟩
   ·rw[e1];refine Po (he prog w _ _ ?_);rw[show(b==c)=false from Rz.mpr hbc]
    wp_walk
    refine⟨rfl,rfl,?_⟩;rcases U0 j i with E9|hge
    ·exact E9
    ·have:j=i:=by lia
     subst this;rw[e2]at hx;cases hx;exact absurd rfl hbc
  case fin=>
   rintro⟨b1,b2⟩ s' ⟨hb,rfl,O2⟩;rw[Nat.min_self]at O2;lia
  case h=>exact⟨rfl,rfl,Qg _⟩
end
end NX
namespace L2
open PySem PySem.Spec PyProof.Rows
section
variable{X:Cx}{o e:Expr}{es:List Expr}{to:TE}{t:TA}{name:Str}{apos EH:Pos}{id:String}{r:V->List V->Hp->VK->Prop}
def D3(K:W.Frag)(r:V->List V->Hp->VK->Prop)(to:TE)(t:TA):TE:=fun σ H Q=>to σ H fun x H1=>(∃p ys,x=.ref p/\SqT K H1 p ys)/\t σ H1 fun xs H2=>r x xs H2 Q
theorem AO(slot:Slot "tuple" name id)(JG:typeOf (.builtin id)=pure (.type "method_descriptor"))(hm:LQ X id r)(ho:PE X o to)(ha:PA X (e::es) t)
  (FN:attributeBase o name X.env (eval o X.env)=eval o X.env:=by rfl)
  (GQ:((backTo EH (starEach (e::es) X.env)).all (fun x=>!x.1)&&(backToKw EH (keywordEach [] X.env)).all (fun x=>x.1.isSome)
   && decide ((e::es).length+([]:List Keyword).length+(if([]:List Keyword).isEmpty then 0 else 1)<30))=true:=by rfl)
  (FQ:(apos.endLine==EH.line)=true:=by rfl) (hs:starEach (e::es) X.env=(false,eval e X.env)::starEach es X.env:=by rfl) (Fh:(backTo EH (starEach es X.env)).any (·.1)=false:=by rfl):
  PE X (.Call (.Attribute o name apos) (e::es) [] EH) (D3 X.K r to t):=by
 intro pi s σ H Q I h;refine wpAny_Call_method_late FN GQ FQ rfl (EG (ho pi s σ H _ I h) fun v s1 EM=>?_);obtain⟨x,H1,I1,r1,⟨p,ys,ex,sq⟩,q1⟩:=EM;subst ex;cases r1;obtain⟨Er,_,⟨ob,ho,hc,⟨n,hd⟩,hn⟩,_⟩:=I1.tupleN sq;refine⟨"tuple",id,PySem.F.plainAttrs_tuple,slot,JG,⟨ob,ho,hc⟩,fun a e2=>?_,?_⟩
 ·cases e2;exact⟨ob,ho,hn⟩
 have hA:=ha EH pi s1 σ H1 _ I1 q1;rw[hs]at hA ⊢;refine Sl (by show(false||(backTo EH (starEach es X.env)).any (·.1))=false;rw[Fh] <;> rfl) (RZ ?_);exact EG hA fun us s2 ⟨vs,H2,I2,r2,q2⟩=>hm pi s2 σ H2 (.ref p) vs _ us Q I2 rfl r2 q2
end
end L2
namespace PV
open PySem PySem.Spec PyProof.Rows L2 NX
section
variable{X:Cx}
noncomputable def AQ(g:List D->List D->Res R)(fa:FO)(fs:Fj):FX:=fun env=>(fa env).bind fun p=>(Fu p.2 p.1).bind fun a=>match a with
 | .tup _=>(fs p.2).bind fun q=>(Fu q.2 p.1).bind fun a2=>match a2 with
  | .tup l=>(oq q.2 q.1).bind fun ds=>(g l ds).bind fun r=>.ok (r,q.2)
  |_=>.bad
 |_=>.bad
inductive rMtT(K:W.Frag)(g:List D->List D->Res R)(x:V)(xs:List V)(H:Hp)(Q:VK):Prop
 |mk:∀G fp es vs l ds r,Goes K H G fp es vs r Q->Vw K G H (.tup l) x->L6 K G H ds xs->g l ds=.ok r->rMtT K g x xs H Q
theorem rV{g:List D->List D->Res R}{id:String}{name:Str}{o e:Expr}{es:List Expr}{fa:FO}{fs:Fj}{apos EH:Pos}(slot:Slot "tuple" name id)(JG:typeOf (.builtin id)=pure (.type "method_descriptor"))(hm:LQ X id (rMtT X.K g))(ho:QO X o fa)(ha:Iv X (e::es) fs)
  (FN:attributeBase o name X.env (eval o X.env)=eval o X.env:=by rfl)
  (GQ:((backTo EH (starEach (e::es) X.env)).all (fun x=>!x.1)&&(backToKw EH (keywordEach [] X.env)).all (fun x=>x.1.isSome)&&decide ((e::es).length+([]:List Keyword).length+(if([]:List Keyword).isEmpty then 0 else 1)<30))=true:=by rfl)
  (FQ:(apos.endLine==EH.line)=true:=by rfl) (hs:starEach (e::es) X.env=(false,eval e X.env)::starEach es X.env:=by rfl) (Fh:(backTo EH (starEach es X.env)).any (·.1)=false:=by rfl):
  QE X (.Call (.Attribute o name apos) (e::es) [] EH) (AQ g fa fs):=by
 refine bI (AO slot JG hm ho ha FN GQ FQ hs Fh) fun σ H Q EM=>?_
 obtain⟨G,env,fp,r,env',rel,e,k⟩:=EM;obtain⟨⟨oa,Eo⟩,e1,e⟩:=ag e;obtain⟨da,JR,e⟩:=ag e;dsimp only at e;split at e
 ·obtain⟨⟨os,Ey⟩,e2,e⟩:=ag e;obtain⟨d2,hd2,e⟩:=ag e;dsimp only at e;split at e
  ·obtain⟨ds,e3,e⟩:=ag e;obtain⟨r',e4,e⟩:=ag e;cases e;refine⟨G,env,fp,oa,Eo,rel,e1,fun v H1 G1 EL EE Es FJ=>?_⟩;obtain⟨p,xs,ev,sq,_⟩:=aS (Vw.rep Es.gh (Es.vw FJ JR));exact⟨⟨p,xs,ev,sq⟩,G1,Eo,EL,os,_,Es,e2,fun vs H2 G2 E3 Ez Ep Ii=>⟨G2,E3,_,σ,_,ds,r,⟨Ep,fun v H' G' Eu st ES=>k v H' G' Eu (EE.trans (Ez.trans st)) ES⟩,Ep.vw (FJ.mono Ez.gg) hd2,Ep.vws Ii e3,e4⟩⟩
  ·cases e
 ·cases e
def lZ(l:List D):List D->Res R
 |[.str c]=>match dJ l with
  |some bs=>if c∈bs then .ok (.f,.int (bs.idxOf c:Nat)) else .bad
  |none=>.bad
 |_=>.bad
theorem AR{a b:List Nat}(h:S a=S b):a=b:=by
 have:=Qt (fun s:Str=>s.cps.toList) h;simpa only[bZ] using this
theorem oK:∀(bs:List (List Nat)) (c:List Nat) (j:Nat),bs[j]?=some c->bs.idxOf c<=j
 |[],c,j,h=>by simp at h
 |b::bs,c,0,h=>by
  simp at h;subst h;simp[List.idxOf_cons]
 |b::bs,c,j+1,h=>by
  rw[List.getElem?_cons_succ]at h;have:=oK bs c j h;rw[List.idxOf_cons];cases b==c with
  |true=>exact Qg _
  |false=>exact Nat.succ_le_succ this
theorem fI:LQ X "tuple.index" (rMtT X.K lZ):=by
 rintro pi s σ H x xs v us Q I rx rv ⟨G,fp,es,vs,l,ds,r,⟨rel,k⟩,vx,vd,e⟩;unfold lZ at e;split at e
 ·rename_i c;split at e
  ·rename_i bs hb;split at e
   ·rename_i hc;cases e;obtain⟨p,ys,ev,sq,rs⟩:=aS (Vw.rep rel.gh vx);obtain⟨hy,_⟩:=fH hb rs;subst ev;cases rx;obtain⟨w',ew,vc⟩:=oD vd;obtain⟨ev,_⟩:=cU vc;subst ew;subst ev;obtain⟨u,rfl,t',rfl⟩:=fN rv;obtain⟨Er,vl,⟨ob,h1,h2,⟨n,h3⟩,h4⟩,_⟩:=I.tupleN sq;subst hy;obtain⟨cls,dict,data,slots⟩:=ob;dsimp only at h2 h3 h4;subst h2 h3 h4;have E9:=Rk hc;refine PySem.call_meets Ry ⟨_,h1,rfl⟩ PySem.F.entry_tuple_index (PySem.F.args_tuple_index_2 _ _) (gX p Er.toArray n _ _ (bs.map S) (S c) t' (by rw[P2];exact vl) (bs.idxOf c) ?_ ?_) ⟨h1,⟨.int (bs.idxOf c:Nat),H,I.tok _,⟨_,rfl⟩,k _ H G fp .refl (rel.push (bu _))⟩⟩
    ·rw[List.getElem?_map,List.getElem?_eq_getElem E9,List.getElem_idxOf E9];rfl
    ·intro j hj he;rw[List.getElem?_map,List.getElem?_eq_getElem (by lia)]at he;have he:=AR (PZ he);have:=oK bs c j (by rw[List.getElem?_eq_getElem (by lia),he]);lia
   ·cases e
  ·cases e
 ·cases e
def dU(a b:D):Res R:=match a,b with
 | .tup [],.tup l=>.ok (.f,.tup l)
 |a,b=>addD a b
theorem bo:EX X (binaryOp .Add) (rG X.K dU):=by
 rintro pi s σ H x y v u Q I rx ry ⟨G,fp,es,vs,a,b,r,⟨rel,k⟩,va,vb,e⟩;unfold dU at e;split at e
 ·rename_i l;cases e;obtain⟨p,xs,e1,h1,r1⟩:=fT va;obtain⟨p2,L7,e2,h2,r2⟩:=fT vb;subst e1;subst e2;cases rx;cases ry;have hx:xs=[]:=QJ (by rw[r1.length];rfl);subst hx;obtain⟨Er,v1,⟨⟨cls,dd,data,sl⟩,ho,hc,n,hd⟩,_⟩:=I.tuple (bF rel.gh h1);obtain⟨HL,v2,⟨⟨JD,Ib,data2,Ic⟩,Fx,GP,n2,hd2⟩,_⟩:=I.tuple (bF rel.gh h2);dsimp only at hc hd GP hd2;subst hc hd GP hd2;cases v1;exact TK ⟨_,ho,rfl⟩ ⟨_,Fx,rfl⟩ To Uu Sk Se (R7 _ _) (tuple_addW0 p p2 _ _ n n2 dd Ib sl Ic rfl) ⟨ho,Fx,⟨.ref p2,H,I,rfl,k _ H G fp .refl (rel.push vb)⟩⟩
 ·exact Ar pi s σ H _ _ v u Q I rx ry ⟨G,fp,es,vs,a,b,r,⟨rel,k⟩,va,vb,e⟩
def pS(fs:Fj):FI:=GU (pK true true fs) (GU (pK true false fs) (GU (pK false true fs) (pK false false fs)))
theorem mW{Iy:List Expr}{kt:Nat}{pt:Pos}{e1 e2:Expr}{fs:Fj}{p pos:Pos}(hg:Gl X "zip")(hm:X.mg "zip" = none)(ha:Iv X [e1,e2] fs)(he:starEach [e1,e2] X.env=(false,eval e1 X.env)::starEach [e2] X.env:=by rfl)(Fc:(backTo pos (starEach [e2] X.env)).any (·.1)=false:=by rfl):
  QI X (.Tuple Iy kt pt) (.Call (.Name "zip" p) [e1,e2] [] pos) (pS fs):=rN (oz true true hg hm ha he Fc) (rN (oz true false hg hm ha he Fc) (rN (oz false true hg hm ha he Fc) (oz false false hg hm ha he Fc)))
end
end PV
namespace NX
open PySem PySem.Spec PyProof.Rows L2
section
open PySem.AutoSeq1 (wpAny_loadPart')
theorem l5(l:Addr)(items:Array Value)(n:Nat)(dd:Option Addr)(sl:Array (Option Value))(x:Int)(u:Tok)(h1:¬ (!Builtin.List.listFitsIndex x)=true)(h2:¬ items.size*x.toNat>(2 ^ 63-1) / 8)(h3:¬ Builtin.List.listTooLong (items.size*x.toNat)=true)(h4:(List.foldl (fun x1 x2=>x1++x2) #[] (List.replicate (if items.isEmpty=true then 0 else x.toNat) items)).size<=sizeLine):
  Meets (Builtin.«list.__mul__» ⟨[.ref l,.int x u],[]⟩)
   (fun _ R s=>s.heap.get? l=some {cls:=.type "list",dict:=dd,data:=.seq items n,slots:=sl}/\R (.ok (.ret (.ref s.heap.objs.size))) {s with heap:=s.heap.push {cls:=.type "list",data:=.seq (List.foldl (fun x1 x2=>x1++x2) #[] (List.replicate (if items.isEmpty=true then 0 else x.toNat) items))}}):=
 .of_wp fun prog w A R s h=>by
  obtain⟨hp,g,d,tk,os⟩:=s;obtain⟨hl,h⟩:=h
  wp_walk using wpAny_loadPart' hl
  rw[PM (by lia)]
  wp_walk
  exact⟨_,rfl,h⟩
theorem l6(a:Int)(t:Tok)(l:Addr)(T:String)(items:Array Value)(n:Nat)(dd:Option Addr)(sl:Array (Option Value)):
  Meets (Builtin.«int.__rmul__» ⟨[.int a t,.ref l],[]⟩)
   (fun _ R s=>s.heap.get? l=some {cls:=.type "list",dict:=dd,data:=.seq items n,slots:=sl}/\R (.ok (.ret .notImplemented)) s):=
 .of_wp fun prog w A R s h=>by
  obtain⟨hp,g,d,tk,os⟩:=s;obtain⟨hl,h⟩:=h
  wp_walk using wpAny_loadPart' hl
  exact⟨_,rfl,h⟩
end
end NX
namespace PV
open PySem PySem.Spec PyProof.Rows L2 NX
section
variable{md:Mode}{X:Cx}
inductive rRepS(K:W.Frag)(x:V)(y:V)(H:Hp)(Q:VK):Prop
 |mk:∀l k xs,x=.ref l->y=.int k->SqL K H l xs->-(2 ^ 62)<=k->k<2 ^ 62->xs.length*k.toNat<=sizeLine->(∀p,H p=none->Q (.ref p) (upd H p (.lst (List.replicate k.toNat xs).flatten)))->rRepS K x y H Q
theorem x9:EX X (binaryOp .Mult) (rRepS X.K):=by
 intro pi s σ H x y v u Q I rx ry h;obtain⟨l,k,xs,rfl,rfl,hH,h1,h2,hz,q⟩:=h;cases rx;obtain⟨t,rfl⟩:=ry;obtain⟨Er,r,p1,_⟩:=I.list hH;have hl:=r.length;obtain⟨⟨cls,dd,data,sl⟩,ho,hc,n,hd⟩:=id p1.isList;simp only at hc hd;subst hc hd;have hlen:Er.toArray.size*k.toNat<=sizeLine:=by rw[Pu,<-hl];exact hz
 have hcap:¬ Er.toArray.size*k.toNat>(2 ^ 63-1) / 8:=by
  have:(sizeLine:Nat)<=(2 ^ 63-1) / 8:=by decide
  lia
 have HR:¬ (!Builtin.List.listFitsIndex k)=true:=by
  rw[fitsIndex_both (by lia) (by lia)];exact Pt
 have MZ:¬ Builtin.List.listTooLong (Er.toArray.size*k.toNat)=true:=by
  rw[uo hlen];exact Pt
 have M1:List.foldl (fun x1 x2=>x1++x2) #[] (List.replicate (if Er.toArray.isEmpty=true then 0 else k.toNat) Er.toArray)=(List.replicate k.toNat Er).flatten.toArray:=by
  have f0:∀m:Nat,List.foldl (fun x1 x2=>x1++x2) #[] (List.replicate m Er.toArray)=(List.replicate m Er).flatten.toArray:=fun m=>by
   have:=kZ Er m [];rw[TY]at this;exact this
  rw[f0];cases Er with
  |nil=>simp
  |cons a r'=>rw[PM (by simp)]
 have hsz:(List.foldl (fun x1 x2=>x1++x2) #[] (List.replicate (if Er.toArray.isEmpty=true then 0 else k.toNat) Er.toArray)).size<=sizeLine:=by
  rw[M1,Pu,jJ,TR];rw[Pu]at hlen;exact hlen
 refine wpAny_binaryOp_repeat_ref (T:="list") (U:="int") (by decide) ⟨_,ho,rfl⟩ (fun s'=>T8 s' k t) noFill_list_mul F.fills_int_mul F.slot_int_rmul repeat_list F.slot_int_index.lookup
  (call_meets F.slot_int_rmul (T8 s k t) F.entry_int_rmul (F.args_int_rmul_2 _ _) (l6 k t l "" Er.toArray n dd sl)
   ⟨ho,rfl,⟨_,ho,rfl⟩,call_meets F.slot_list_mul ⟨_,ho,rfl⟩ F.entry_list_mul (F.args_list_mul_2 _ _) (l5 l Er.toArray n dd sl k t HR hcap MZ hsz) ⟨ho,?_⟩⟩)
 rw[M1];exact⟨.ref _,_,I.lnew (t':=s.toks) (r.rep k.toNat) (by rw[jJ,TR];exact hz),rfl,q _ I.fresh⟩
theorem oM{K:W.Frag}{G:Hp}{ds:List D}{xs:List V}(r:Reps K G ds xs):∀n:Nat,Reps K G (List.replicate n ds).flatten (List.replicate n xs).flatten
 | 0=>.nil
 |n+1=>by
  rw[QV,QV,Rb,Rb];exact r.app (oM r n)
def mX(a b:D):Res R:=match a,b with
 | .lst ds,.int k=>if 0<=k/\k<1000000/\ds.length*k.toNat<=sizeLine then .ok (.l .f,.lst (List.replicate k.toNat ds).flatten) else .bad
 |a,b=>yR a b
theorem dA:EX X (binaryOp .Mult) (rG X.K mX):=by
 rintro pi s σ H x y v u Q I rx ry ⟨G,fp,es,vs,a,b,r,⟨rel,k⟩,va,vb,e⟩;unfold mX at e;split at e
 ·rename_i ds j;split at e
  ·rename_i hj;cases e;obtain⟨p,xs,e1,h1,r1⟩:=va;subst e1;cases ba vb;refine x9 pi s σ H _ _ v u Q I rx ry ⟨p,j,xs,rfl,rfl,h1,by lia,by lia,by rw[r1.length];exact hj.2.2,fun q hq=>?_⟩;obtain⟨Ep,Ez⟩:=rel.newL hq (oM r1 j.toNat);exact k _ _ G _ Ez Ep
  ·cases e
 ·exact x5 pi s σ H _ _ v u Q I rx ry ⟨G,fp,es,vs,a,b,r,⟨rel,k⟩,va,vb,e⟩
def CK(td ty tv:TE):TS:=fun Dd σ H=>tv σ H fun v H1=>td σ H1 fun x H2=>ty σ H2 fun y H3=>zM x y v H3 fun H4=>Dd.nx σ H4
theorem ya{o i value:Expr}{td ty tv:TE}{pos pos':Pos}(ho:PE X o td)(hi:PE X i ty)(hv:PE X value tv)(hs:swapsWith value (some (.Subscript o i pos')) pos.line X.env=pure false):
  PS X (.Assign [.Subscript o i pos'] value pos) (CK td ty tv):=by
 intro pi s σ H Dd I h;refine wpAny_Assign_Subscript (EG (hv pi s σ H _ I h) fun r s1 ⟨v,H1,I1,rv,q1⟩=>EG (ho pi s1 σ H1 _ I1 q1) fun u s2 ⟨x,H2,I2,rx,q2⟩=>EG (hi pi s2 σ H2 _ I2 q2) fun iv s3 ⟨y,H3,I3,ry,q3⟩=>?_) hs;exact EG (uk pi s3 σ H3 x y v u iv r _ I3 rx ry rv q3) fun _ s4 ⟨H4,I4,q4⟩=>⟨σ,H4,I4,q4⟩
noncomputable def vf(i:Nat)(fk fv:FX):FS:=fun env=>(fv env).bind fun p=>(fk p.2).bind fun q=>match p.2[i]?,q.2[i]? with
 |some (some _),some (some (.l .f,.lst ds))=>(match q.1.2 with
  | .int k=>(match ixN ds.length k with
   |some j=>.ok (.nx (q.2.set i (some (.l .f,.lst (ds.set j p.1.2)))))
   |none=>.bad)
  |_=>.bad)
 |_,_=>.bad
theorem yb{i:Nat}{o ix value:Expr}{fk fv:FX}{pos pos':Pos}(ho:PE X o (tY i))(hi:QE X ix fk)(hv:QE X value fv)(hs:swapsWith value (some (.Subscript o ix pos')) pos.line X.env=pure false:=by rfl):
  QS (md:=md) X (.Assign [.Subscript o ix pos'] value pos) (vf i fk fv):=dH (ya ho hi hv hs) fun Dd σ H ED=>by
 obtain⟨G,env,fp,rel,k⟩:=ED;unfold vf at k;match q1:fv env,k with
 | .ok (r1,Eo),k=>
  have k:OutOk X.K G H fp Dd ((fk Eo).bind fun q=>match Eo[i]?,q.2[i]? with
   |some (some _),some (some (.l .f,.lst ds))=>(match q.1.2 with
    | .int k=>(match ixN ds.length k with
     |some j=>.ok (.nx (q.2.set i (some (.l .f,.lst (ds.set j r1.2)))))
     |none=>.bad)
    |_=>.bad)
   |_,_=>.bad):=k
  match q2:fk Eo,k with
  | .ok (r2,Ey),k=>
   have k:OutOk X.K G H fp Dd (match Eo[i]?,Ey[i]? with
    |some (some _),some (some (.l .f,.lst ds))=>(match r2.2 with
     | .int k=>(match ixN ds.length k with
      |some j=>.ok (.nx (Ey.set i (some (.l .f,.lst (ds.set j r1.2)))))
      |none=>.bad)
     |_=>.bad)
    |_,_=>.bad):=k
   split at k
   ·rename_i rr ds h1 h2;split at k
    ·rename_i kk Gr;split at k
     ·rename_i j hj;refine⟨G,env,fp,r1,Eo,rel,q1,fun y H1 G1 EL EE Es=>?_⟩;obtain⟨G2,b,ry,Ep,Ez⟩:=Es.freeze;obtain⟨v0,MR,_⟩:=Ep.view h1;refine⟨v0,MR,G2,Eo,b,r2,Ey,Ep,q2,fun z H3 G3 He E2 EY=>?_⟩;obtain⟨G4,b4,rz,Fn,F7⟩:=EY.freeze;have Nz:Rep X.K G4 r1.2 y:=Rep.mono (E2.gg.trans F7.gg) ry;obtain⟨p,xs,ep,hp,rs,cg⟩:=Fn.chg (ds':=ds.set j r1.2) h2;rw[MR]at ep;cases ep;rw[Gr]at rz;have hz:=a9 rz;obtain⟨fq,Fz,Gy⟩:=cg _ (rs.set j Nz);exact⟨p,xs,kk,j,rfl,hz,hp,by rw[rs.length];exact hj,k _ _ G4 fq (EE.trans (Ez.trans (E2.trans (F7.trans Gy)))) Fz⟩
     ·exact k.elim
    ·exact k.elim
   ·exact k.elim
end
section
variable{X:Cx}
theorem Rel.own{K:W.Frag}{G H:Hp}{es:PV.Env}{vs:L2.St}{fp:List Addr}{p:Addr}{u:HO}{tk:Bool}{ks ws:List D}{xs:List V}(q:Rel K G H es vs fp)(np:p∉fp)(gp:G p=none)(h:DictO u tk ks xs)(rs:Reps K G ws xs):
  Rel K G (upd H p u) (some (.d,.dct tk ks ws)::es) (some (.ref p)::vs) (p::fp):=by
 refine⟨⟨some (.ref p),vs,rfl,.ref p,[p],fp,rfl,rfl,?_,q.rep.step (.refl _) fun z hz=>aB fun e=>np (e▸hz)⟩,Qo.mpr ⟨np,q.nd⟩,fun z hz=>?_,fun b o e=>?_⟩
 ·rw[RepO];exact⟨p,xs,u,rfl,br,h,rfl,rs⟩
 ·rcases PJ.mp hz with rfl|hz
  ·exact gp
  ·exact q.gn z hz
 ·rw[aB fun z=>by subst z;rw[gp]at e;cases e];exact q.gh b o e
theorem Rel.aside{K:W.Frag}{G H:Hp}{es:PV.Env}{vs:L2.St}{fp:List Addr}{p:Addr}{u:HO}(q:Rel K G H es vs fp)(hp:H p=none):Rel K G (upd H p u) es vs fp:=by
 have np:p∉fp:=fun z=>by
  obtain⟨u,e⟩:=q.rep.live p z;rw[hp]at e;cases e
 exact⟨q.rep.step (.refl _) fun z hz=>aB fun e=>np (e▸hz),q.nd,q.gn,fun b o e=>by rw[aB (aN (q.gh b o e) hp)];exact q.gh b o e⟩
theorem Step.aside{K:W.Frag}{G H G2 H2:Hp}{es:PV.Env}{vs:L2.St}{fp E3:List Addr}{p:Addr}{u u2:HO}(q:Rel K G H es vs fp)(hp:H p=none)(hu:isT u=false)(st:Step G (upd H p u) fp G2 H2 E3):
  Step G H fp G2 (upd H2 p u2) (p::E3)/\p∉E3/\G2 p=none/\H2 p=some u:=by
 have np:p∉fp:=fun z=>by
  obtain⟨u,e⟩:=q.rep.live p z;rw[hp]at e;cases e
 have ne:∀{b o},H b=some o->b≠p:=fun e=>aN e hp
 refine⟨⟨st.gg,fun b o e nb=>?_,fun b hb=>?_,fun b o e=>?_,fun b o e=>?_⟩,fun z=>?_,?_,st.keep p u br np⟩
 ·rw[aB (ne e)];exact st.keep b o (by rw[aB (ne e)];exact e) nb
 ·rcases PJ.mp hb with rfl|hb
  ·exact .inr hp
  ·rcases st.fpn b hb with h|h
   ·exact .inl h
   ·by_cases e:b=p
    ·subst e;exact .inr hp
    ·rw[aB e]at h;exact .inr h
 ·rcases st.gnew b o e with h|h|h|⟨h1,h2⟩
  ·exact .inl h
  ·exact .inr (.inl h)
  ·by_cases e:b=p
   ·subst e;exact .inr (.inr (.inl hp))
   ·rw[aB e]at h;exact .inr (.inr (.inl h))
  ·by_cases e:b=p
   ·subst e;exact .inr (.inr (.inl hp))
   ·rw[aB e]at h2;exact .inr (.inr (.inr ⟨h1,h2⟩))
 ·obtain⟨o',h⟩:=st.there b o (by rw[aB (ne e)];exact e);exact⟨o',by rw[aB (ne e)];exact h⟩
 ·rcases st.fpn p z with h|h
  ·exact np h
  ·rw[br]at h;cases h
 ·cases e:G2 p with
  |none=>rfl
  |some o=>
   rcases st.gnew p o e with h|h|h|⟨h1,h2⟩
   ·have:=q.gh p o h;rw[hp]at this;cases this
   ·exact absurd h np
   ·rw[br]at h;cases h
   ·rw[br]at h2;cases h2;rw[hu]at h1;cases h1
def Dm(fk fv:FX):FX:=fun env=>(fk env).bind fun p=>(fv p.2).bind fun q=>if cG false p.1.2 then .ok ((.d,.dct false [p.1.2] [q.1.2]),q.2) else .bad
def getD(ks vs:List D)(k:D):Option D:=((ks.zip vs).find? fun p=>Ew k p.1).map (·.2)
theorem iW{κ:Type}[DecidableEq κ]{K:W.Frag}{G:Hp}(f:κ->D)(hf:∀a b,Ew (f a) (f b)=decide (a=b)){k:κ}:∀{kvs:List (κ×V)}{vs:List D},Reps K G vs (kvs.map (·.2))->((getD (kvs.map fun kv=>f kv.1) vs (f k)).isSome=(ll kvs k).isSome)/\∀d,getD (kvs.map fun kv=>f kv.1) vs (f k)=some d->∃v,ll kvs k=some v/\Rep K G d v
 |[],vs,r=>⟨rfl,fun d h=>nomatch h⟩
 |kv::kvs,vs,r=>by
  cases vs with
  |nil=>have:=r.length;simp at this
  |cons d0 vs=>
   rw[PY,Reps.cons_iff]at r;obtain⟨h1,h2⟩:=iW f hf (k:=k) r.2;unfold getD ll at h1 h2 ⊢;rw[PY,Qu];have e:Ew (f k) (f kv.1)=decide (kv.1=k):=by
    rw[hf,P8,PQ,PQ];exact⟨fun z=>z.symm,fun z=>z.symm⟩
   by_cases hk:kv.1=k
   ·rw[List.find?_cons_of_pos (by show Ew (f k) (f kv.1)=true;rw[e];exact PR hk),List.find?_cons_of_pos (by exact PR hk)];refine⟨rfl,fun d h=>?_⟩;cases h;exact⟨_,rfl,r.1⟩
   ·rw[List.find?_cons_of_neg (by show ¬ Ew (f k) (f kv.1)=true;rw[e];simpa using hk),List.find?_cons_of_neg (by simpa using hk)];exact⟨h1,h2⟩
theorem mY{K:W.Frag}{G H:Hp}(gh:Same G H){tk:Bool}{ks vs:List D}{xs:List V}{o:HO}{p:Addr}{b:D}{y:V}(rd:Rd H p o)(dd:DictO o tk ks xs)(rs:Reps K G vs xs)(hk:cG tk b=true)(ry:Rep K G b y):
  ∃ov,DGet H p y ov/\(getD ks vs b).isSome=ov.isSome/\∀d,getD ks vs b=some d->∃v,ov=some v/\Rep K G d v:=by
 unfold cG at hk;cases tk with
 |true=>
  rw[PF rfl,Qx]at hk;obtain⟨kk,hk⟩:=hk;obtain⟨pz,ez,gz,dz⟩:=bj hk ry;obtain⟨kvs,eo,ek,ex,_⟩:=dd;subst eo ex ez dz;have ek:ks=kvs.map fun kv=>kT kv.1:=ek
  obtain⟨h1,h2⟩:=iW (K:=K) (G:=G) kT oG (k:=kk) rs;rw[<-ek]at h1 h2;exact⟨ll kvs kk,.inr ⟨kvs,kk,pz,rd,rfl,gh _ _ gz,rfl⟩,h1,h2⟩
 |false=>
  rw[PM Pt,Qx]at hk;obtain⟨kk,hk⟩:=hk;obtain⟨ez,dz⟩:=gB hk ry;obtain⟨kvs,eo,ek,ex,_⟩:=dd;subst eo ex ez dz;obtain⟨h1,h2⟩:=iW (K:=K) (G:=G) kD rQ (k:=kk) rs;rw[<-ek]at h1 h2;exact⟨ll kvs kk,.inl ⟨kvs,kk,rd,rfl,rfl⟩,h1,h2⟩
def Lk(a b:D):Res R:=match a with
 | .dct tk ks vs=>if cG tk b then(match getD ks vs b with
  |some d=>.ok (.f,d)
  |none=>.bad) else .bad
 |_=>.bad
theorem CL{a b:Expr}{fa fb:FO}{pos:Pos}(hu:X.A.units+1<cLine)(ha:QO X a fa)(hb:QO X b fb)(hs:NoSl b:=by exact fun _ _=>rfl):QE X (.Subscript a b pos) (ay Lk fa fb):=
 bI (xt hu ha hb hs) fun σ H Q h=>by
  obtain⟨G,env,fp,r,env',rel,e,k⟩:=h;obtain⟨⟨oa,e1⟩,ha,e⟩:=ag e;obtain⟨⟨ob,e2⟩,hb,e⟩:=ag e;obtain⟨da,JR,e⟩:=ag e;obtain⟨db,Fl,e⟩:=ag e;obtain⟨r',hr,e⟩:=ag e;cases e;refine⟨G,env,fp,oa,e1,rel,ha,fun x H1 G1 EL EE Es FJ=>⟨G1,e1,EL,ob,e2,Es,hb,fun y H2 G2 E3 Ez Ep Ii=>?_⟩⟩;have va:=Ep.vw (FJ.mono Ez.gg) JR;have vb:=Ep.vw Ii Fl;unfold Lk at hr;split at hr
  ·rename_i tk ks vs;split at hr
   ·rename_i Ge;split at hr
    ·rename_i d hd;cases hr;obtain⟨p,xs,o,ev,rd,dd,rs⟩:=va;subst ev;have vb':Rep X.K G2 db y:=by
      cases db with
      |lst l=>cases tk <;> simp[cG,bO,iP]at Ge
      |dct _ _ _=>cases tk <;> simp[cG,bO,iP]at Ge
      |_=>exact vb
     obtain⟨ov,g,_,h2⟩:=mY Ep.gh rd dd rs Ge vb';obtain⟨v,ho,rv⟩:=h2 d hd;subst ho;exact⟨p,v,rfl,g,k _ H2 G2 E3 (EE.trans Ez) (Ep.push rv)⟩
    ·cases hr
   ·cases hr
  ·cases hr
def NA(a b:D):Res R:=match b with
 | .dct tk ks vs=>if cG tk a then .ok (.f,.bl (getD ks vs a).isSome) else .bad
 |_=>IJ a b
def vg(a b:D):Res R:=match b with
 | .dct tk ks vs=>if cG tk a then .ok (.f,.bl (!(getD ks vs a).isSome)) else .bad
 |_=>AB a b
theorem AS(hu:X.A.units+65<cLine):EX X (compareOp .In) (rGA X.K NA):=by
 rintro pi s σ H x y v u Q I rx ry ⟨G,fp,es,vs,a,b,r,⟨rel,k⟩,va,vb,e⟩;unfold NA at e;split at e
 ·rename_i tk ks ws;split at e
  ·rename_i Ge;cases e;obtain⟨p,xs,o,ev,rd,dd,rs⟩:=vb;subst ev;cases ry;obtain⟨ov,g,h1,_⟩:=mY (K:=X.K) (G:=H) (fun _ _ z=>z) rd dd rs Ge va;exact DY (by lia) I g rx fun s' I'=>⟨.bl ov.isSome,H,I',rfl,by rw[<-h1];exact k _ H G fp .refl (rel.push (bJ _))⟩
  ·cases e
 ·exact CD hu pi s σ H x y v u Q I rx ry ⟨G,fp,es,vs,a,b,r,⟨rel,k⟩,va,vb,e⟩
theorem rW(hu:X.A.units+65<cLine):EX X (compareOp .NotIn) (rGA X.K vg):=by
 rintro pi s σ H x y v u Q I rx ry ⟨G,fp,es,vs,a,b,r,⟨rel,k⟩,va,vb,e⟩;unfold vg at e;split at e
 ·rename_i tk ks ws;split at e
  ·rename_i Ge;cases e;obtain⟨p,xs,o,ev,rd,dd,rs⟩:=vb;subst ev;cases ry;obtain⟨ov,g,h1,_⟩:=mY (K:=X.K) (G:=H) (fun _ _ z=>z) rd dd rs Ge va;exact xq (by lia) I g rx fun s' I'=>⟨.bl (!ov.isSome),H,I',rfl,by rw[<-h1];exact k _ H G fp .refl (rel.push (bJ _))⟩
  ·cases e
 ·exact AD hu pi s σ H x y v u Q I rx ry ⟨G,fp,es,vs,a,b,r,⟨rel,k⟩,va,vb,e⟩
end
section
variable{K:W.Frag}{G G' H H':Hp}{es:PV.Env}{vs:L2.St}{fp:List Addr}
end
section
variable{X:Cx}
end
section
variable{X:Cx}{x:Str}{p pos:Pos}{e:Expr}{es:List Expr}{fs:Fj}
end
section
variable{K:W.Frag}{G G' H H':Hp}
end
section
variable{X:Cx}{md:Mode}
end
end PV
namespace NX
open PySem PySem.Spec PyProof.Rows L2
end NX
namespace PV
open PySem PySem.Spec PyProof.Rows L2 NX
section
variable{X:Cx}
end
end PV
namespace NX
open PySem PySem.Spec PyProof.Rows L2
section
variable{prog:Program}{w:World}{A:Around}{E:Value->Shared->Prop}{s:Shared}
end
section
variable{prog:Program}{w:World}{A:Around}{E:Value->Shared->Prop}{s:Shared}
end
section
variable{X:Cx}{e:Expr}{ta:TA}{p p2 pos Gb:Pos}
end
end NX
namespace PV
open PySem PySem.Spec PyProof.Rows L2 NX
section
variable{X:Cx}{e:Expr}{fs:Fj}{p p2 pos Gb:Pos}
theorem vh{K:W.Frag}{σ:L2.St}{H:Hp}{Q Q':List V->Hp->Prop}(h:tOs K fs σ H Q)(k:∀vs H,Q vs H->Q' vs H):tOs K fs σ H Q':=by
 obtain⟨G,env,fp,o,env',rel,e,q⟩:=h;exact⟨G,env,fp,o,env',rel,e,fun vs H' G' Eu st ES ok=>k _ _ (q vs H' G' Eu st ES ok)⟩
end
end PV
namespace NX
open PySem PySem.Spec PyProof.Rows L2
section
open PySem.AutoSeq1 (wpAny_loadPart')
end
end NX
namespace PV
open PySem PySem.Spec PyProof.Rows L2 NX
section
variable{X:Cx}
end
section
variable{md:Mode}{X:Cx}{scope:Scope}{N:List Str}{tg iter elt:Expr}{ifs:List Expr}{pos:Pos}{fi:FI}{a:FG}{c:FT}{f:FX}{j k0:Nat}
end
section
variable{X:Cx}{x:Str}{p pos:Pos}{e:Expr}{es:List Expr}{f0:FX}{fs:Fj}
end
def joinL(sep:List Nat):List (List Nat)->List Nat
 |[]=>[]
 |[x]=>x
 |x::y::r=>x++sep++joinL sep (y::r)
def rX(sep:List Nat):List D->Res R
 |[.lst ds]=>match dJ ds with
  |some ys=>if(ys.map List.length).sum+ys.length*sep.length<=16777216 then .ok (.f,.str (joinL sep ys)) else .bad
  |none=>.bad
 |_=>.bad
theorem rY(sep:List Nat):∀ys:List (List Nat),Str.join (S sep) (ys.map S)=S (joinL sep ys)
 |[]=>rfl
 |[x]=>rfl
 |x::y::r=>by
  have ih:=rY sep (y::r);show S x++S sep++Str.join (S sep) ((y::r).map S)=S (x++sep++joinL sep (y::r));rw[ih];apply Str.ext';simp[Str.cps_append]
theorem AU(sep:List Nat):∀ys:List (List Nat),Txt.join (S sep) (ys.map S)=S (joinL sep ys)
 |ys=>by
  show Builtin.Str.glued (S sep) (ys.map S)=_;rw[StrLaws.glued_eq_join];exact rY sep ys
theorem l7(sep:List Nat):∀ys:List (List Nat),(joinL sep ys).length<=(ys.map List.length).sum+ys.length*sep.length
 |[]=>Qg _
 |[x]=>by
  show x.length<=_;rw[PY,Tj];lia
 |x::y::r=>by
  have ih:=l7 sep (y::r);show(x++sep++joinL sep (y::r)).length<=_;rw[Qb,Qb,PY,Tj,PD,Vt];lia
theorem l8{K:W.Frag}{G:Hp}:∀{ds:List D}{ys:List (List Nat)}{xs:List V}{us:List Value},dJ ds=some ys->Reps K G ds xs->Vals xs us->StrsAre us (ys.map S)
 |[],ys,xs,us,e,r,v=>by
  cases e;rw[Reps]at r;subst r;cases v;exact .nil
 | .str b::ds,ys,xs,us,e,r,v=>by
  rw[Reps]at r;obtain⟨y,zs,ex,r1,r2⟩:=r;subst ex;cases v with
  |cons h t=>
   rw[dJ,P9]at e;obtain⟨ws,hw,rfl⟩:=e;rw[Rep]at r1;obtain⟨r1,_⟩:=r1;subst r1;obtain⟨tk,rfl⟩:=h;exact .cons _ tk (l8 hw r2 t)
 | .non::_,_,_,_,e,_,_ | .bl _::_,_,_,_,e,_,_ | .int _::_,_,_,_,e,_,_ | .tup _::_,_,_,_,e,_,_ | .lst _::_,_,_,_,e,_,_ | .dct _ _ _::_,_,_,_,e,_,_=>by cases e
section
variable{X:Cx}
theorem yc:LQ X "str.join" (rMtS X.K rX):=by
 rintro pi s σ H x xs v us Q I rx rv ⟨G,fp,es,vs,l,ds,r,⟨rel,k⟩,ex,hz,vd,e⟩;unfold rX at e;split at e
 ·rename_i ds;split at e
  ·rename_i ys NZ;split at e
   ·rename_i hb;cases e;subst ex;obtain⟨w',ew,p,zs,ep,sq,rs⟩:=oD vd;subst ew ep;obtain⟨t,rfl⟩:=rx;obtain⟨u,rfl,ru⟩:=fN rv;cases ru;obtain⟨Er,r',pl,KA⟩:=I.list sq;refine join_list pl.isList (ys:=ys.map S) (l8 NZ rs r') ?_ fun t' kk=>?_
    ·rw[P2,Pr];have e1:((fun x:Str=>x.length)∘S)=List.length:=by funext z;exact ji z
     rw[e1,ji];exact hb
    ·rw[AU];refine⟨.str (S (joinL l ys)),H,I.tok _,⟨_,rfl⟩,k _ H G fp .refl (rel.push ?_)⟩;rw[Rep];have:=l7 l ys;exact⟨rfl,by rw[line_eq];lia⟩
   ·cases e
  ·cases e
 ·cases e
end
end PV
namespace NX
open PySem PySem.Spec PyProof.Rows L2
section
variable{prog:Program}{w:World}{A:Around}{R:Result->Shared->Prop}{it:Addr}{fp wr:List Addr}{n:Nat}{Pv:Nat->Value->Prop}{Sx:Nat->Heap->Prop}{kw:List (Str×Value)}
end
section
variable{X:Cx}{e k:Expr}{te tk:TE}{p pos Mn:Pos}
end
end NX
namespace PV
open PySem PySem.Spec PyProof.Rows L2 NX
section
variable{X:Cx}
end
section
variable{X:Cx}
end
section
variable{K:W.Frag}{G G' H H':Hp}{es:PV.Env}{vs:L2.St}{fp:List Addr}
end
section
variable{X:Cx}{x:Str}{p pos:Pos}{e:Expr}{es:List Expr}{f0:FX}{fs:Fj}
end
theorem vals_pick{xs:List V}{us:List Value}(r:Vals xs us):∀ix:List Nat,Vals (ix.filterMap fun i=>xs[i]?) (ix.filterMap fun i=>us[i]?)
 |[]=>.nil
 |i::ix=>by
  have ih:=vals_pick r ix;cases e:xs[i]? with
  |none=>
   rw[Rw e,Rw (r.none_of e)];exact ih
  |some d=>
   obtain⟨v,e2,rv⟩:=r.get e;rw[Q5 e,Q5 e2];exact .cons rv ih
section
variable{X:Cx}{pos:Pos}{fa:FO}
end
section
variable{X:Cx}
end
section
variable{X:Cx}{scope:Scope}{N:List Str}{tg iter elt:Expr}{ifs:List Expr}{pos:Pos}{fi:FI}{a:FG}{c:FT}{f:FX}
end
end PV
namespace L2
open PySem PySem.Spec PyProof.Rows NX
section
variable{X:Cx}{tg:Expr}
end
end L2
namespace PV
open PySem PySem.Spec PyProof.Rows L2 NX
section
variable{X:Cx}{tg:Expr}
def rZ(fk fv:FX):FX:=fun env=>(fk env).bind fun p=>(fv p.2).bind fun q=>if cG true p.1.2 then .ok ((.d,.dct true [p.1.2] [q.1.2]),q.2) else .bad
theorem vi{k v:Expr}{fk fv:FX}{pos:Pos}(hu:X.A.units+1<cLine)(hk:QE X k fk)(hv:QE X v fv):QE X (.Dict [some k] [v] pos) (rZ fk fv):=
 bI (qP hu hk hv) fun σ H Q hq p hp=>by
  obtain⟨G,env,fp,r,env',rel,e,kk⟩:=hq;obtain⟨⟨r1,Eo⟩,e1,e⟩:=ag e;obtain⟨⟨r2,Ey⟩,e2,e⟩:=ag e;dsimp only at e;split at e
  ·rename_i Ge;cases e;refine⟨G,env,fp,r1,Eo,rel.aside hp,e1,fun x H1 G1 EL EE Es=>?_⟩;obtain⟨G2,b,rx,Ep,Ez⟩:=Es.freeze;refine⟨G2,Eo,b,r2,_,Ep,e2,fun y H3 G3 He E2 EY=>?_⟩;obtain⟨G4,b4,ry,Fn,F7⟩:=EY.freeze;have Oq:Rep X.K G4 r1.2 x:=Rep.mono (E2.gg.trans F7.gg) rx;unfold cG at Ge;rw[PF rfl,Qx]at Ge;obtain⟨kd,KY⟩:=Ge;obtain⟨b',ex,gb,dx⟩:=bj KY Oq;have fk:∀k∈kd,uQ k:=by
    generalize r1.2=d at KY Oq;cases d with
    |tup ds=>
     obtain⟨_,xs,_,_,rs⟩:=aS Oq;exact mV KY rs
    |_=>cases KY
   obtain⟨st,np,gp,N8⟩:=Step.aside (u2:=.dT [(kd,y)]) rel hp rfl (EE.trans (Ez.trans (E2.trans F7)));exact⟨N8,kd,b',ex,Fn.gh _ _ gb,kk _ _ G4 _ st (Fn.own np gp ⟨[(kd,y)],rfl,by rw[dx];rfl,rfl,fun kv Hu=>by rw[Qm.mp Hu];exact fk⟩ (.one ry))⟩
  ·cases e
end
abbrev FB:=PV.Env->Bool
def yT(g:FS)(x:FB):FB:=fun env=>match g env with
 | .ok (.nx e)=>x e
 |_=>false
def NB(c:FT)(x:FB):FB:=fun env=>match c env with
 | .ok (true,e)=>x e
 |_=>false
def r6(fs:Fj):FB:=fun env=>match fs env with
 | .ok (os,_)=>decide (os.length<=3)
 |_=>false
inductive tX(K:W.Frag)(x:FB)(Ww:Hp->Prop)(σ:L2.St)(H:Hp):Prop
 |mk:∀G env fp,Rel K G H env σ fp->x env=true->(∀H' G' Eu,Step G H fp G' H' Eu->Rel K G' H' [] [] []->Ww H')->tX K x Ww σ H
def QX(X:Cx)(st:List Stmt)(x:FB)(Ww:Hp->Prop):Prop:=PX X st (tX X.K x Ww)
section
variable{X:Cx}{st:Stmt}{Lf:List Stmt}{g:FS}{x:FB}{Ww:Hp->Prop}{c:FT}{pos np EH:Pos}{e:Expr}{es:List Expr}{fs:Fj}{C:Addr}{y:Str}
theorem r9(a:QS (md:=.plain) X.nox st g)(b:QX X Lf x Ww):QX X (st::Lf) (yT g x) Ww:=qQ (xB (Ae a) b) fun σ H ED=>by
 obtain⟨G,env,fp,rel,e,k⟩:=ED;unfold yT at e;match q:g env,e with
 | .ok (.nx Eo),e=>
  refine⟨G,env,fp,rel,?_⟩;rw[q];exact fun σ1 H1 G1 EL EE Es=>⟨G1,Eo,EL,Es,e,fun H' G' Eu st r=>k H' G' Eu (EE.trans st) r⟩
theorem CM{a b:List Stmt}{ct:Expr}(hc:QT X.nox ct c)(ha:QX X a x Ww):QX X (.If ct a b pos::Lf) (NB c x) Ww:=qQ (Co (PT.nox hc) ha) fun σ H ED=>by
 obtain⟨G,env,fp,rel,e,k⟩:=ED;unfold NB at e;match q:c env,e with
 | .ok (true,Eo),e=>exact⟨G,env,fp,true,Eo,rel,q,fun H1 G1 EL EE Es=>⟨rfl,G1,Eo,EL,Es,e,fun H' G' Eu st r=>k H' G' Eu (EE.trans st) r⟩⟩
theorem oN{K:W.Frag}{G:Hp}{σ:L2.St}:∀{os:List Opd}{vs:List V},lD K G σ os vs->vs.length=os.length
 |[],_,r=>by have r:_=[]:=r;rw[r];rfl
 |_::_,_,⟨y,ys,e,_,q⟩=>by rw[e,PD,PD,oN q]
theorem vj(O:K4 X.mg X.base y C)(acc:Acc X C Ww)(hc:X.calm=true)(hg:Gl X y)(ha:Iv X.nox (e::es) fs)(Fl:(y==("__debug__" : Str))=false:=by decide)
  (he:starEach (e::es) X.env=(false,eval e X.env)::starEach es X.env:=by rfl) (Fc:(backTo EH (starEach es X.env)).any (·.1)=false:=by rfl):
  QX X (.Raise (some (.Call (.Name y np) (e::es) [] EH)) none pos::Lf) (r6 fs) Ww:=qQ (uG O acc hc hg (Af ha) Fl he Fc) fun σ H ED=>by
 obtain⟨G,env,fp,rel,e,k⟩:=ED;unfold r6 at e;match q:fs env,e with
 | .ok (os,Eo),e=>
  refine⟨G,env,fp,os,Eo,rel,q,fun vs H1 G1 EL EE Es FJ=>⟨?_,k H1 G1 EL EE Es.nilF⟩⟩;rw[oN FJ];have e:decide (os.length<=3)=true:=e;have:=QY e;rw[line_eq];lia
end
inductive spX(K:W.Frag)(C:Addr)(F:List D->Bool)(vs:List V)(H:Hp)(Q:VK)(E:XK):Prop
 |mk:∀G ds,Same G H->Reps K G ds vs->F ds=true->(∀H' G' Eu,Step G H [] G' H' Eu->Rel K G' H' [] [] []->E (.ref C) none H')->spX K C F vs H Q E
def se(np nn:Nat)(x:FB):List D->Bool:=fun ds=>decide (ds.length=np)&&x (ds.map (fun d=>some (O.f,d))++List.replicate nn none)
theorem AV{P:Program}{w:World}{K:W.Frag}{mg:Str->Option Value}{base:Heap}{x:Str}{st:Stmt}{N ps:List Str}{k:Nat}{gx:FB}{C:Addr}(Df:Def K mg x st)(sc:FnScope N ps (defScope st))
  (hb:∀(kV doc pm:Value) (an:Option Addr) (EV ct:Value) (us:List Value),us.length=ps.length->bindArgs (PySem.W.fnOf x x (dt st) (bY st) (defScope st) .none kV doc pm an EV ct) ⟨us,[]⟩=pure (ps.zip us))
  (body:∀(f:Addr) (EV:Value) (A:Around) (outer:List PySem.Env) (s:Shared) (H:Hp) (E:XK),Room k (A.deeper (envOfC x (defScope st) s.heap.objs.size f EV))->QX (qp (L5 P w base C) P w K mg base N x (defScope st) f EV A outer s H E) (bY st) gx (fun H'=>E (.ref C) none H')):
  CtX P w K mg base x (k+1) C (spX K C (se ps.length (N.length-ps.length) gx)):=by
 obtain⟨f,fd,F,m⟩:=Df;refine⟨f,fd,ps,xC F sc (fun vs H Q E h=>?_) (fun EV A outer s H vs Q E hr h=>?_),m,F.kp,F.binds hb⟩
 ·obtain⟨G,ds,_,rs,e,_⟩:=h;unfold se at e;have:=QY ((PL _ _).mp e).1;rw[rs.length,this]
 ·obtain⟨G,ds,gh,rs,e,q⟩:=h;unfold se at e;have hl:=QY ((PL _ _).mp e).1;have e:=((PL _ _).mp e).2;refine⟨_,body f EV A outer s H E hr,G,ds.map (fun d=>some (O.f,d))++List.replicate (N.length-ps.length) none,[],⟨?_,RK,(fun _ h=>nomatch h),gh⟩,e,q⟩;have:=fV (K:=K) (G:=G) (H:=H) (N.length-ps.length) rs;unfold L2.gR;rw[rs.length,hl];exact this
abbrev JV:=PV.Env->Option PV.Env
inductive tQX(K:W.Frag)(x:JV)(σ:L2.St)(H:Hp)(Ww:Hp->Prop):Prop
 |mk:∀G env fp env',Rel K G H env σ fp->x env=some env'->(∀H' G' Eu,Step G H fp G' H' Eu->Rel K G' H' env' σ Eu->Ww H')->tQX K x σ H Ww
def BJ(F:List D->Bool)(fs:Fj):JV:=fun env=>match fs env with
 | .ok (os,e)=>match jm e os with
  | .ok ds=>if F ds then some e else none
  |_=>none
 |_=>none
def O3(X:Cx)(e:Expr)(C:Addr)(x:JV):Prop:=Oc X e C (tQX X.K x)
def O4(X:Cx)(st:List Stmt)(C:Addr)(x:JV):Prop:=Od X st C (tQX X.K x)
def AW(x:JV)(g h:FS):FS:=fun env=>match x env with
 |some e=>h e
 |none=>g env
section
variable{md:Mode}{X:Cx}{x:Str}{p pos:Pos}{e a b:Expr}{es:List Expr}{C:Addr}{F:List D->Bool}{fs:Fj}{k:Nat}{xe:JV}{bT:List Stmt}
theorem yd(c:CtX X.prog X.w X.K X.mg X.base x k C (spX X.K C F))(hr:Room k X.A)(hg:Gl X x)(ha:Iv X.nox (e::es) fs)(Fl:(x==("__debug__" : Str))=false:=by decide)
  (he:starEach (e::es) X.env=(false,eval e X.env)::starEach es X.env:=by rfl) (Fc:(backTo pos (starEach es X.env)).any (·.1)=false:=by rfl):O3 X (.Call (.Name x p) (e::es) [] pos) C (BJ F fs):=
 fun pi s σ H Ww I ⟨G,env,fp,env',rel,e,kk⟩=>uH c hr hg ha Fl he Fc pi s σ H Ww I (by
  unfold BJ at e;match q:fs env,e with
  | .ok (os,e1),e=>
   dsimp only at e;match q2:jm e1 os,e with
   | .ok ds,e=>
    dsimp only at e;split at e
    ·rename_i hF;cases e;refine⟨G,env,fp,os,_,rel,q,fun vs H1 G1 EL EE Es FJ=>?_⟩;obtain⟨G2,ML,MN,GR,_,Hx⟩:=Es.lend;refine⟨G2,ds,MN,iF ML GR FJ q2,hF,fun H' G' Eu st ES=>?_⟩;obtain⟨k1,_⟩:=Hx H' G' [] (.f,.non) .non (st.trans (Step.cut fun _ h=>nomatch h)) (ES.push jZ);obtain⟨G3,He,E2,EY⟩:=k1 rfl;obtain⟨fq,Fn,F7⟩:=EY.drop;exact kk H' G3 fq (EE.trans (E2.trans F7)) Fn
    ·cases e)
theorem vk(h:O3 X e C xe)(hs:swapsWith e none pos.line X.env=pure false:=by rfl):O4 X (.Expr e pos::bT) C xe:=uI h hs
theorem AX{body Hv:List Stmt}{b0:Stmt}{np K5:Pos}{g h:FS}(O:K4 X.mg X.base x C)(hg:Gl X x)(hn:II (md:=md) X.nox body g)(hx:O4 X body C xe)(hh:∀a,II (md:=md) (handX X a) (b0::Hv) h)
  (hs:X.stack=X.env::X.outer:=by rfl) (hf:X.env.frame=some X.env.locals:=by rfl) (Fl:(x==("__debug__" : Str))=false:=by decide):
  QS (md:=md) X (.Try body [.ExceptHandler (some (.Name x np)) none (b0::Hv) K5] [] [] pos) (AW xe g h):=dH (Ag (t:=tQS (md:=md) X.K g) (th:=tQS (md:=md) X.K h) (tx:=tQX X.K xe) O hg hn hx (fun a=>hh a) hs hf Fl) fun D σ H ED=>by
 obtain⟨G,env,fp,rel,kk⟩:=ED;unfold AW at kk;cases q:xe env with
 |none=>
  rw[q]at kk;exact .inl ⟨G,env,fp,rel,kk⟩
 |some e=>
  rw[q]at kk;exact .inr ⟨G,env,fp,e,rel,q,fun H' G' Eu st ES=>⟨G',e,Eu,ES,OutOk.after st kk⟩⟩
end
section
variable{X:Cx}{x:Str}{p pos:Pos}{e:Expr}{es:List Expr}{fs:Fj}
end
section
variable{X:Cx}{x:Str}{p pos:Pos}{e:Expr}{es:List Expr}{f0:FX}{fs:Fj}
end
end PV
namespace NX
open PySem PySem.Spec PyProof.Rows L2
end NX
namespace PV
open PySem PySem.Spec PyProof.Rows L2 NX
section
variable{K:W.Frag}{G H:Hp}{es:PV.Env}{vs:L2.St}{fp:List Addr}
end
section
variable{md:Mode}{X:Cx}
end
section
variable{X:Cx}
end
end PV
namespace NX
open PySem PySem.Spec PyProof.Rows L2
section
variable{X:Cx}
end
end NX
namespace PV
open PySem PySem.Spec PyProof.Rows L2 NX
section
variable{X:Cx}
end
inductive Ext:Hp->Hp->Prop
 |refl {H:Hp}:Ext H H
 |new {H H1:Hp}{p:Addr}{xs:List V}:Ext H H1->H1 p=none->Ext H (upd H1 p (.tup xs))
theorem Ext.trans{H H1 H2:Hp}(a:Ext H H1)(b:Ext H1 H2):Ext H H2:=by
 induction b with
 |refl=>exact a
 |new _ hp ih=>exact .new ih hp
inductive BExp where
 |con (b:Bool)|var (j:Nat)|not (x:BExp)|and (x y:BExp)
section
variable{X:Cx}{a:Addr}{o:Obj}{i:Nat}{e b:Expr}{bT:List Expr}{x y:BExp}{pos p q:Pos}{n:Str}
inductive Cls(mg:Str->Option Value):List Expr->List Addr->Prop
 |nil:Cls mg [] []
 |cons {x:Str}{p:Pos}{es:List Expr}{c:Addr}{cs:List Addr}:mg x=some (.ref c)->Cls mg es cs->Cls mg (.Name x p::es) (c::cs)
variable{C:Addr}{vs:Array Value}
end
section
variable{md:Mode}{X:Cx}{x:Str}{pos:Pos}{C:Addr}{xe:JV}
end
end PV
namespace PV
open PySem PySem.Spec L2 NX
section
variable{X:Cx}
end
end PV
namespace PV
open PySem PySem.Spec PyProof.Rows L2 NX
section
variable{K:W.Frag}{G H:Hp}
theorem AllO.length{P:D->V->List Addr->Prop}:∀{ds:List D}{xs:List V}{fp:List Addr},AllO P ds xs fp->xs.length=ds.length
 |[],xs,fp,r=>by
  rw[r.1];rfl
 |d'::ds,xs,fp,r=>by
  obtain⟨y,ys,a1,b1,e1,e2,p,r⟩:=r;subst e1;rw[PD,PD,r.length]
end
section
variable{md:Mode}{X:Cx}{scope:Scope}{N:List Str}{tg iter elt:Expr}{ifs:List Expr}{pos:Pos}{fi:FI}{a:FG}{c:FT}{f:FX}
end
section
variable{X:Cx}{x:Str}{p pos KQ:Pos}{e1 e2 e3:Expr}{fo:FO}{fb:FX}
end
section
variable{X:Cx}{x:Str}{p pos p1 p2 q1 q2:Pos}{o o':Expr}{j1 j2:_}
end
section
variable{K:W.Frag}{G H:Hp}
end
section
variable{X:Cx}{a b:Expr}{fa fb:FX}{pos:Pos}
end
section
variable{K:W.Frag}{G H:Hp}
end
section
variable{X:Cx}
end
section
variable{X:Cx}
end
section
variable{K:W.Frag}{G H:Hp}
end
section
variable{X:Cx}{a b:Expr}{fa fb:FX}{pos:Pos}
end
section
variable{md:Mode}{X:Cx}{pos KQ:Pos}
end
section
variable{X:Cx}{C:Addr}{pos:Pos}{bT a b:List Stmt}{ct:Expr}
end
section
variable{X:Cx}{x y:Str}{p pos pos' EH:Pos}{e:Expr}{es:List Expr}{C:Addr}{F:List D->Bool}{fs:Fj}{k:Nat}{bT:List Stmt}{Ww:Hp->Prop}
end
section
variable{X:Cx}{a:Addr}{i j jc:Nat}{x1 x2:BExp}{e1 e2 vc:Expr}{n nc:Str}{pos pos1 Gb pos' pos'' bp p:Pos}
end
section
variable{md:Mode}{X:Cx}{x:Str}{pos:Pos}{C:Addr}{xe:JV}
end
section
variable{X:Cx}
end
section
variable{K:W.Frag}{G H:Hp}
end
section
variable{X:Cx}{pos:Pos}
end
end PV
namespace NX
namespace ST
def memB{K:Type}[DecidableEq K](k:List K)(L:List (List K)):Bool:=decide (k∈L)
theorem memB_iff{K:Type}[DecidableEq K]{k:List K}{L:List (List K)}:memB k L=true<->k∈L:=decide_eq_true_iff
theorem met_succ{K:Type}[DecidableEq K](kf:Nat->List K)(i:Nat):met kf (i+1)=if memB (kf i) (met kf i) then met kf i else kf i::met kf i:=by
 rw[met];unfold memB;by_cases h:kf i∈met kf i
 ·rw[PF h,PF (PR h)]
 ·rw[PM h,PM (by rw[PN h];exact Pt)]
end ST
end NX
namespace PV
open PySem PySem.Spec PyProof.Rows L2 NX
def dst:List D->List D->List D
 |acc,[]=>acc
 |acc,d::ds=>dst (if acc.any (Ew d) then acc else d::acc) ds
def l9:List D->Res R
 |[.lst ds]=>if ds.length<=76&&ds.all (cG true) then .ok (.f,.int ((dst [] ds).length:Nat)) else .bad
 |_=>.bad
theorem AY(k:List Key)(L:List (List Key)):(L.map kT).any (Ew (kT k))=ST.memB k L:=by
 rw[SW,P8,RI,ST.memB_iff];constructor
 ·rintro⟨b,hb,e⟩;have e:Ew (kT k) (kT b)=true:=e;rw[oG,PQ]at e;rw[e];exact hb
 ·intro h;exact⟨k,h,by show Ew (kT k) (kT k)=true;rw[oG];exact PR rfl⟩
theorem sf(ks:List (List Key)):∀(r:List (List Key)) (i:Nat),ks.drop i=r->dst ((ST.met (fun i=>ks.getD i []) i).map kT) (r.map kT)=(ST.met (fun i=>ks.getD i []) (i+r.length)).map kT
 |[],i,_=>rfl
 |k::r,i,h=>by
  have hi:ks.getD i []=k:=by
   rw[List.getD_eq_getElem?_getD,<-List.head?_drop,h];rfl
  have hd:ks.drop (i+1)=r:=by
   rw[<-List.tail_drop,h];rfl
  have ih:=sf ks r (i+1) hd;rw[PY,dst,AY,PD,show i+(r.length+1)=i+1+r.length by lia,<-ih];congr 1
  rw[ST.met_succ];rw[hi];cases ST.memB k (ST.met (fun i=>ks.getD i []) i) with
  |true=>rw[PF rfl,PF rfl]
  |false=>rw[PM Pt,PM Pt,PY]
section
variable{X:Cx}{e:Expr}{fs:Fj}{p p2 pos Gb:Pos}
theorem si(hc:X.calm=true)(hu:X.A.units+8<cLine)(hg:Gl X "len")(hm:X.mg "len" = none)(Jw:Gl X "set")(JQ:X.mg "set" = none)(ha:Iv X [e] fs)
  (he:backTo pos (starEach [.Call (.Name "set" p2) [e] [] Gb] X.env)=[(false,eval (.Call (.Name "set" p2) [e] [] Gb) X.env)]:=by rfl)
  (Oi:starEach [e] X.env=(false,eval e X.env)::starEach [] X.env:=by rfl) (Ld:(backTo Gb (starEach [] X.env)).any (·.1)=false:=by rfl):
  QE X (.Call (.Name "len" p) [.Call (.Name "set" p2) [e] [] Gb] [] pos) (bz l9 fs):=
 bI (ST.pe_lenS hc hu hg hm Jw JQ ha he Oi Ld) fun σ H Q h=>by
  refine vh (mS h) fun xs H1 EM=>?_
  obtain⟨G,fp,es,vs,ds,r,⟨rel,k⟩,vd,e⟩:=EM;unfold l9 at e;split at e
  ·rename_i ds;split at e
   ·rename_i hcnd;cases e;rw[PL,PQ,P7]at hcnd;obtain⟨OV,FR⟩:=hcnd;obtain⟨v,ev,p,ys,ep,sq,rs⟩:=oD vd;subst ev ep;have hlen:=rs.length;have O5:∀(i:Nat) d,ds[i]?=some d->∃kk,bO d=some kk:=fun i d hd=>by
     have:=FR d (Qf hd);unfold cG at this;rw[PF rfl,Qx]at this;exact this
    have GV:∀(i:Nat) y,ys[i]?=some y->∃b,y=.ref b/\H1 b=some (.tup (((ds.map fun d=>(bO d).getD []).getD i []).map kV))/\ds[i]?=some (kT ((ds.map fun d=>(bO d).getD []).getD i [])):=fun i y hy=>by
     obtain⟨d,hd,rd⟩:=rs.getV hy;obtain⟨kk,Gr⟩:=O5 i d hd;obtain⟨b,eb,gb,Ot⟩:=bj Gr rd;have eg:(ds.map fun d=>(bO d).getD []).getD i []=kk:=by
      rw[List.getD_eq_getElem?_getD,List.getElem?_map,hd,SR,Gr];rfl
     rw[eg];exact⟨b,eb,rel.gh _ _ gb,by rw[hd,Ot]⟩
    have JF:(ds.map fun d=>(bO d).getD []).map kT=ds:=by
     refine RU fun i=>?_
     cases hd:ds[i]? with
     |none=>rw[List.getElem?_map,List.getElem?_map,hd];rfl
     |some d=>
      obtain⟨y,hy,rd⟩:=rs.get hd;obtain⟨kk,Gr⟩:=O5 i d hd;obtain⟨b,eb,gb,Ot⟩:=bj Gr rd;rw[List.getElem?_map,List.getElem?_map,hd,SR,SR,Gr,Ot];rfl
    have M3:=sf (ds.map fun d=>(bO d).getD []) _ 0 rfl;rw[S1,JF,Q8,Pr]at M3;refine⟨p,ys,fun i=>(ds.map fun d=>(bO d).getD []).getD i [],rfl,sq,by lia,fun i y hy=>?_,?_⟩
    ·obtain⟨b,eb,gb,_⟩:=GV i y hy;exact⟨b,eb,gb⟩
    ·have HP:(dst [] ds).length=(ST.met (fun i=>(ds.map fun d=>(bO d).getD []).getD i []) ys.length).length:=by
      rw[hlen];have:=Qt List.length M3;rw[Pr]at this;exact this
     rw[<-HP];exact k _ H1 G fp .refl (rel.push (bu _))
   ·cases e
  ·cases e
end
end PV
namespace LW
open PySem L2 NX PV
abbrev sj(f:FX):FI:=GU (Aq f) (GU (lJ f) (lN f))
def dW:FS:=(eZ (bz fX (ah (aj (dw (sj (ay EB (av 0) (aj (aD (.int 1))))) [none] (aF 0) fL (ay EB (av 0) (aj (aD (.int 0)))))) aE)))
def bx:List D->Res R:=fBody 1 0 dW
noncomputable def oO:FS:=(sSeq (cx 3 (AQ lZ (aj (ay EB (av 0) (aj (aD (.int 0))))) (ah (av 2) aE)))
  (eZ (bz yQ (ah (aj (dw (pS (ah (aj (bh 1)) (ah (aj (ay EB (av 0) (aj (aD (.int 1))))) aE))) [none,none,some 3] (kM 2 (aK (aF 0) (aK (aF 1) dP))) fL (ay Jy (av 0) (aj (ay EB (aj (ay EB (av 1) (aj (aD (.int 1))))) (av 2)))))) aE))))
def eQ:List D->Res R:=fBody 3 1 oO
noncomputable def sk:FS:=(sSeq (GO (ow (E7 (eK eQ (ah (av 0) (ah (av 1) (ah (av 2) aE))))))
  (eZ (aD .non))
  df)
  (sSeq (cx 3 (AQ lZ (aj (ay EB (av 0) (aj (aD (.int 0))))) (ah (av 2) aE)))
  (eZ (bz fX (ah (aj (dw (pS (ah (aj (bh 1)) (ah (aj (ay EB (av 0) (aj (aD (.int 1))))) aE))) [none,none,some 3] (kM 2 (aK (aF 0) (aK (aF 1) dP))) fL (ay dU (aj (ay yO (av 0) (aj (ay EB (aj (ay EB (av 1) (aj (aD (.int 1))))) (av 2))))) (aj (ay EB (aj (ay EB (av 1) (aj (aD (.int 2))))) (av 2)))))) aE)))))
def dX:List D->Res R:=fBody 3 1 sk
noncomputable def cI:FS:=(sSeq (cx 7 (eK dX (ah (av 0) (ah (av 5) (ah (av 6) aE)))))
  (GO (E7 (cj tP (av 7) (aj (aD .non))))
  (sSeq (GO (E7 (cj vg (av 7) (av 2)))
  (sSeq (BH 2 (bh 7) (bz iU (ah (av 1) aE)))
  (lI (xT 1 (lO (aU (bh 7) (aU (ay dU (aj (ay EB (aj (ay EB (av 1) (av 4))) (aj (aD (.int 1))))) (aj (lO (aU (bh 6) cY)))) (aU (bh 4) cY)))))))
  df)
  (lI (xT 3 (lO (aU (bh 4) (aU (bh 6) (aU (ay Lk (av 2) (av 7)) cY)))))))
  df))
def dY:FS:=(pI (sj (ay EB (av 0) (aj (aD (.int 0))))) (aF 6)
  cI)
def gf:FS:=(cx 4 (ay dU (av 4) (aj (aD (.int 1)))))
def dB:FS:=(sSeq (cx 5 (ay EB (aj (ay EB (av 1) (av 4))) (aj (aD (.int 0)))))
  (sSeq dY
  gf))
def gN:FS:=(cV (E7 (fU IZ Jx (av 4) (aj (bz iU (ah (av 1) aE))) (aj (aD (.int 12)))))
  dB 100000)
def gj:FS:=(eZ (lO (aU (bh 1) (aU (bh 3) cY))))
noncomputable def jB:FS:=(sSeq (cx 1 (yP (aU (lO (aU (eK bx (ah (av 0) aE)) (aU (lO cY) (aU (aD .non) cY)))) cY)))
  (sSeq (cx 2 (rZ (ay EB (aj (ay EB (av 1) (aj (aD (.int 0))))) (aj (aD (.int 0)))) (aD (.int 0))))
  (sSeq (cx 3 (yP cY))
  (sSeq (cx 4 (aD (.int 0)))
  (sSeq gN
  gj)))))
def aV:List D->Res R:=fBody 1 7 jB
noncomputable def oP:FS:=(sSeq (cx 1 (eK aV (ah (av 0) aE)))
  (sSeq (cx 2 (dw (sj (ay EB (av 1) (aj (aD (.int 0))))) [none,none,none] (kM 3 (aK (aF 0) (aK (aF 1) (aK (aF 2) dP)))) fL (bh 0)))
  (sSeq (GO (E7 (ay Lg (aj (bz iU (ah (av 2) aE))) (aj (aD (.int 12)))))
  v7
  df)
  (eZ (lO (aU (lO (aU (ay EB (av 0) (aj (aD (.int 0)))) (aU (ay EB (av 1) (aj (aD (.int 1)))) cY))) (aU (bh 2) cY)))))))
def cJ:List D->Res R:=fBody 1 2 oP
noncomputable def b7:List D->Bool:=se 1 2 (yT (cx 1 (eK aV (ah (av 0) aE)))
  (yT (cx 2 (dw (sj (ay EB (av 1) (aj (aD (.int 0))))) [none,none,none] (kM 3 (aK (aF 0) (aK (aF 1) (aK (aF 2) dP)))) fL (bh 0)))
  (NB (E7 (ay Lg (aj (bz iU (ah (av 2) aE))) (aj (aD (.int 12))))) (r6 (ah (aj (aD (.str [116,104,101,32,114,117,110,32,104,97,115,32,109,111,114,101,32,116,104,97,110,32,49,50,32,109,97,114,107,105,110,103,115]))) aE)))))
def oQ:FS:=(eZ (bz yQ (ah (aj (dw (pS (ah (aj (bh 0)) (ah (aj (bh 1)) aE))) [none,none] (kM 2 (aK (aF 0) (aK (aF 1) dP))) fL (ay Jy (av 0) (av 1)))) aE)))
def dC:List D->Res R:=fBody 2 0 oQ
def bt:FS:=(cx 2 (ay EB (aj (ay EB (av 0) (av 2))) (aj (aD (.int 2)))))
def cP:FS:=(cV (BG (E7 (cj tP (av 2) (aj (aD .non)))) (ow (E7 (eK dC (ah (aj (ay EB (aj (ay EB (av 0) (av 1))) (aj (aD (.int 0))))) (ah (aj (ay EB (aj (ay EB (av 0) (av 2))) (aj (aD (.int 0))))) aE))))))
  bt 100000)
def cE:FS:=(eZ (rj 2))
def di:FS:=(sSeq (cx 2 (ay EB (aj (ay EB (av 0) (av 1))) (aj (aD (.int 2)))))
  (sSeq cP
  cE))
def aO:List D->Res R:=fBody 2 1 di
noncomputable def cv:FS:=(sSeq (cx 3 (eK aO (ah (av 1) (ah (av 2) aE))))
  (GO (E7 (cj tP (av 3) (aj (aD .non))))
  (sSeq (cx 4 (ay EB (aj (ay EB (av 1) (av 3))) (aj (aD (.int 1)))))
  (eZ (lO (aU (aD (.str [103,114,111,119,115])) (aU (bh 4) (aU (yS (aj (ay EB (aj (ay EB (av 1) (av 2))) (aj (aD (.int 1))))) (pN (bz iU (ah (av 4) aE))) pM) cY))))))
  df))
def gk:FS:=(pI (ck (aj (ay dU (aj (aD (.int 12))) (aj (aD (.int 1)))))) (aF 2)
  cv)
def e9:FS:=(eZ (lO (aU (aD (.str [98,101,121,111,110,100])) cY)))
noncomputable def iX:FS:=(sSeq (cx 1 (ay EB (aj (eK aV (ah (av 0) aE))) (aj (aD (.int 0)))))
  (sSeq (GO (E7 (ay Jx (aj (bz iU (ah (av 1) aE))) (aj (aD (.int 12)))))
  (eZ (lO (aU (aD (.str [101,110,100,115])) (aU (bz iU (ah (av 1) aE)) cY))))
  df)
  (sSeq gk
  e9)))
def aY:List D->Res R:=fBody 1 4 iX
def fe:FS:=(sSeq (GO (E7 (ay IZ (av 1) (aj (bz iU (ah (av 0) aE)))))
  (eZ (ay EB (av 0) (av 1)))
  df)
  (eZ (aD (.int 0))))
def aw:List D->Res R:=fBody 2 0 fe
noncomputable def gO:FS:=(sSeq (cx 2 (ay dU (aj (ay jy (av 0) (aj (aD (.int 2147483647))))) (aj (ay mX (aj (aD (.int 48271))) (aj (ay dU (av 1) (aj (aD (.int 1)))))))))
  (sSeq (cx 2 (ay jy (aj (ay dU (aj (ay mX (av 2) (av 2))) (aj (ay mX (aj (aD (.int 69621))) (av 1))))) (aj (aD (.int 2147483647)))))
  (eZ (ay jy (aj (ay dU (aj (ay dU (aj (ay mX (av 2) (av 2))) (aj (ay mX (aj (aD (.int 16807))) (av 1))))) (aj (aD (.int 1))))) (aj (aD (.int 2147483647)))))))
def bC:List D->Res R:=fBody 2 1 gO
noncomputable def b8:FS:=(sSeq (cx 7 (yS (av 2) pM (pN (bh 3))))
  (sSeq (vf 7 (bh 4) (ay jy (aj (ay dU (aj (ay EB (av 7) (av 4))) (av 6))) (aj (aD (.int 26)))))
  (sSeq (GO (E7 (cj HG (aj (ay jy (aj (ay pL (av 0) (aj (aD (.int 64))))) (aj (aD (.int 4))))) (aj (aD (.int 1)))))
  (cx 7 (yS (av 2) pM (pN (ay dU (av 6) (aj (aD (.int 1)))))))
  df)
  (lI (xT 5 (CF rX (aj (aD (.str []))) (ah (aj (dw (GU (pR 7) (GU (lJ (bh 7)) (lN (bh 7)))) [none,some 1] (aF 0) fL (ay EB (av 1) (av 0)))) aE)))))))
def fm:FS:=(pI (ck (aj (aD (.int 5)))) (aF 6)
  b8)
def dZ:FS:=(sSeq (GO (E7 (cj NA (aj (aD (.str [109,111,118,101,115]))) (av 5)))
  (cx 5 (dw (GU (pR 5) (GU (lJ (bh 5)) (lN (bh 5)))) [none] (aF 0) fL (ay dU (aj (aD (.str [115]))) (av 0))))
  df)
  (eZ (bz dS (ah (av 5) aE))))
noncomputable def gP:FS:=(sSeq (cx 1 (aD (.str [97,98,99,100,101,102,103,104,105,106,107,108,109,110,111,112,113,114,115,116,117,118,119,120,121,122])))
  (sSeq (cx 2 (dw (ck (aj (aD (.int 8)))) [none,some 0] (aF 0) fL (ay jy (aj (eK bC (ah (av 1) (ah (av 0) aE)))) (aj (aD (.int 26))))))
  (sSeq (cx 3 (ay dU (aj (aD (.int 1))) (aj (ay jy (av 0) (aj (aD (.int 8)))))))
  (sSeq (cx 4 (ay jy (aj (ay pL (av 0) (aj (aD (.int 8))))) (av 3)))
  (sSeq (cx 5 (yP cY))
  (sSeq fm
  dZ))))))
def bX:List D->Res R:=fBody 1 7 gP
def gQ:FS:=(eZ (An (MQ "int" (av 0)) (Cs (MQ "bool" (av 0)))))
def bD:List D->Res R:=fBody 1 0 gQ
noncomputable def b9:FS:=(sSeq (cx 5 (ay dU (aj (aD (.int 1))) (aj (ay jy (aj (eK aw (ah (av 0) (ah (aj (ay dU (aj (aD (.int 6))) (av 4))) aE)))) (aj (ay wc (aj (aD (.int 10))) (aj (aD (.int 50)))))))))
  (sSeq (cx 6 (bz fX (ah (aj (dw (ck (aj (bz iU (ah (av 1) aE)))) [none,some 5,some 4] (aF 0) fL (ay mX (av 1) (aj (bz xW (ah (aj (cj HG (av 0) (av 2))) aE)))))) aE)))
  (sSeq (cx 7 (ay dU (aj (ay mX (av 5) (aj (ay EB (av 2) (av 4))))) (aj (ay jy (aj (eK aw (ah (av 0) (ah (aj (ay dU (aj (aD (.int 10))) (av 4))) aE)))) (av 5)))))
  (lI (xT 3 (lO (aU (bh 7) (aU (bh 6) (aU (bz fX (ah (aj (dw (ck (aj (bz iU (ah (av 1) aE)))) [none] (aF 0) fL (aD (.int 0)))) aE)) cY)))))))))
def d5:FS:=(pI (ck (aj (bz iU (ah (av 1) aE)))) (aF 4)
  b9)
def gm:FS:=(eZ (lO (aU (bh 1) (aU (bh 3) cY))))
def jC:FS:=(sSeq (cx 3 (yP cY))
  (sSeq d5
  gm))
def cM:List D->Res R:=fBody 3 5 jC
noncomputable def a7:FS:=(sSeq (cx 5 (ay mX (aj (ay EB (aj (ay EB (aj (ay EB (aj (ay EB (av 0) (aj (aD (.int 1))))) (av 4))) (aj (aD (.int 1))))) (av 4))) (aj (bz xW (ah (aj (cj HG (av 4) (av 3))) aE)))))
  (GO (Iw (E7 (ay IZ (aj (ay EB (aj (ay EB (av 1) (aj (ay EB (av 2) (aj (aD (.int 0))))))) (av 4))) (av 5))) (E7 (cj Hz (aj (ay EB (aj (ay EB (av 1) (aj (ay EB (av 2) (aj (aD (.int 2))))))) (av 4))) (aj (ay yO (aj (ay EB (aj (ay EB (av 1) (aj (ay EB (av 2) (aj (aD (.int 0))))))) (av 4))) (av 5))))))
  (eZ (aD (.bl false)))
  df))
def cb:FS:=(pI (ck (aj (bz iU (ah (aj (ay EB (av 0) (aj (aD (.int 1))))) aE)))) (aF 4)
  a7)
def cQ:FS:=(eZ (aD (.bl true)))
noncomputable def dM:FS:=(sSeq (GO (Iw (ow (E7 (MQ "tuple" (av 2)))) (Iw (E7 (cj Hz (aj (bz iU (ah (av 2) aE))) (aj (aD (.int 3))))) (E7 (cj vg (aj (ay EB (av 2) (aj (aD (.int 1))))) (aj (ay EB (av 0) (aj (aD (.int 0)))))))))
  (eZ (aD (.bl false)))
  df)
  (sSeq (cx 3 (AQ lZ (aj (ay EB (av 0) (aj (aD (.int 0))))) (ah (aj (ay EB (av 2) (aj (aD (.int 1))))) aE)))
  (sSeq cb
  cQ)))
def aM:List D->Res R:=fBody 3 3 dM
def fu:FS:=(sSeq (cx 1 (aD (.bl false)))
  (sSeq (AW (BJ b7 (ah (av 0) aE))
  (lI (eK cJ (ah (av 0) aE)))
  (cx 1 (aD (.bl true))))
  (eZ (rj 1))))
def bK:List D->Res R:=fBody 1 1 fu
noncomputable def hV:FS:=(cx 12 (ay dU (av 12) (aj (bz iU (ah (aj (dw (ck (av 1)) [none,some 9,some 4] (aF 0) (E7 (ay Jy (aj (ay EB (av 1) (av 0))) (aj (ay EB (aj (ay EB (aj (ay EB (aj (ay EB (av 2) (aj (aD (.int 1))))) (av 0))) (aj (aD (.int 1))))) (av 0))))) (bh 0))) aE)))))
def kg:FS:=(pI (sj (bh 8)) (aF 9)
  hV)
noncomputable def oR:FS:=(eZ (An (cj HG (av 12) (aj (bz iU (ah (aj (ay EB (av 7) (aj (aD (.int 1))))) aE)))) (cj HG (aj (ay EB (av 8) (aj (aD (.int 0))))) (aj (bz fX (ah (aj (dw (sj (ay EB (av 4) (aj (aD (.int 1))))) [none,none,none] (kM 3 (aK (aF 0) (aK (aF 1) (aK (aF 2) dP)))) fL (bh 0))) aE))))))
noncomputable def hX:FS:=(sSeq (GO (Iw (ow (E7 (eK bD (ah (aj (ay EB (av 11) (aj (aD (.int 0))))) aE)))) (Iw (ow (E7 (fU Jx IZ (aj (aD (.int 0))) (aj (ay EB (av 11) (aj (aD (.int 0))))) (av 5)))) (ow (E7 (fU Jx IZ (aj (aD (.int 0))) (aj (ay EB (av 11) (aj (aD (.int 2))))) (av 5))))))
  (eZ (aD (.bl false)))
  df)
  (GO (ow (E7 (eK aM (ah (av 4) (ah (av 8) (ah (av 11) aE))))))
  (eZ (aD (.bl false)))
  df))
def kh:FS:=(pI (sj (ay EB (av 7) (aj (aD (.int 1))))) (aF 11)
  hX)
def oS:FS:=(sSeq (cx 12 (aD (.int 0)))
  (sSeq kg
  oR))
def h8:FS:=(GO (ow (E7 (eK bD (ah (av 10) aE))))
  (eZ (aD (.bl false)))
  df)
def m6:FS:=(pI (sj (bh 9)) (aF 10)
  h8)
def ki:FS:=m6
def kj:FS:=(pI (sj (bh 8)) (aF 9)
  ki)
def oT:FS:=(sSeq kh
  oS)
def h9:FS:=(cx 5 (ay mX (av 5) (aj (ay dU (av 6) (aj (aD (.int 1)))))))
def kl:FS:=(pI (sj (bh 3)) (aF 6)
  h9)
noncomputable def eR:FS:=(sSeq (GO (E7 (ay Lg (av 5) (aj (aD (.int 12)))))
  (eZ (An (eK bK (ah (av 4) aE)) (cj HG (aj (eK aY (ah (av 4) aE))) (aj (lO (aU (aD (.str [98,101,121,111,110,100])) cY))))))
  df)
  (sSeq (BI (eK cJ (ah (av 4) aE)) (kM 2 (aK (aF 7) (aK (aF 8) dP))))
  (sSeq (GO (Iw (E7 (cj Hz (aj (eK aY (ah (av 4) aE))) (aj (lO (aU (aD (.str [101,110,100,115])) (aU (bh 5) cY)))))) (Iw (E7 (cj Hz (aj (bz iU (ah (av 8) aE))) (av 5))) (E7 (cj Hz (aj (bz l9 (ah (av 8) aE))) (av 5)))))
  (eZ (aD (.bl false)))
  df)
  (sSeq (GO (Iw (E7 (cj Hz (aj (ay EB (av 7) (aj (aD (.int 0))))) (av 2))) (Iw (E7 (cj Hz (aj (ay EB (av 7) (aj (aD (.int 1))))) (aj (bz dS (ah (aj (ay EB (av 7) (aj (aD (.int 1))))) aE))))) (E7 (cj Hz (aj (bz l9 (ah (aj (ay EB (av 7) (aj (aD (.int 1))))) aE))) (aj (bz iU (ah (aj (ay EB (av 7) (aj (aD (.int 1))))) aE)))))))
  (eZ (aD (.bl false)))
  df)
  (sSeq kj
  oT)))))
noncomputable def AZ:FS:=(sSeq (cx 1 (ay dU (aj (aD (.int 1))) (aj (ay jy (aj (eK aw (ah (av 0) (ah (aj (aD (.int 1))) aE)))) (aj (aD (.int 4)))))))
  (sSeq (cx 2 (bz fX (ah (aj (yS (aj (eK bX (ah (aj (eK aw (ah (av 0) (ah (aj (aD (.int 0))) aE)))) aE))) pM (pN (bh 1)))) aE)))
  (sSeq (cx 3 (dw (ck (av 1)) [none,some 0] (aF 0) fL (ay jy (aj (eK aw (ah (av 1) (ah (aj (ay dU (aj (aD (.int 2))) (av 0))) aE)))) (aj (aD (.int 5))))))
  (sSeq (cx 4 (eK cM (ah (av 0) (ah (av 2) (ah (av 3) aE)))))
  (sSeq (cx 5 (aD (.int 1)))
  (sSeq kl
  eR))))))
def ye:List D->Res R:=fBody 1 12 AZ
end LW
namespace LW
open PySem PySem.Spec PyProof.Rows L2 NX PV
theorem wx{α:Type}{Q:List α->Prop}(h:∀a,Q [a]):∀us,us.length=1->Q us
 |[a],_=>h a
theorem BK{α:Type}{Q:List α->Prop}(h:∀a b,Q [a,b]):∀us,us.length=2->Q us
 |[a,b],_=>h a b
theorem BL{α:Type}{Q:List α->Prop}(h:∀a b c,Q [a,b,c]):∀us,us.length=3->Q us
 |[a,b,c],_=>h a b c
theorem fw{X:Cx}{tg e:Expr}{f:FX}(h:QE X e f):QI X tg e (GU (Aq f) (GU (lJ f) (lN f))):=rN (xO h) (rN (rF h) (rH h))
def top(i:Nat):Stmt:=PySem.Challenge.pw_netfinder_k21_runs_of_places_apart.main.body.getD i (.Pass ⟨0,0,0,0⟩)
theorem D4:Str.ofString "the run has more than 12 markings" = S [116,104,101,32,114,117,110,32,104,97,115,32,109,111,114,101,32,116,104,97,110,32,49,50,32,109,97,114,107,105,110,103,115]:=by decide +kernel
theorem Dn:Str.ofString "beyond" = S [98,101,121,111,110,100]:=by decide +kernel
theorem D5:Str.ofString "grows" = S [103,114,111,119,115]:=by decide +kernel
theorem Dp:Str.ofString "ends" = S [101,110,100,115]:=by decide +kernel
theorem D6:Str.ofString "moves" = S [109,111,118,101,115]:=by decide +kernel
theorem D7:Str.ofString "s" = S [115]:=by decide +kernel
theorem D8:Str.ofString "" = S []:=by decide +kernel
theorem D9:Str.ofString "abcdefghijklmnopqrstuvwxyz" = S [97,98,99,100,101,102,103,104,105,106,107,108,109,110,111,112,113,114,115,116,117,118,119,120,121,122]:=by decide +kernel
section
variable{P:Program}{w:World}{K:W.Frag}{mg:Str->Option Value}{base:Heap}
abbrev cR:Stmt:=top 5
theorem gY:FnScope ["net"] ["net"] (defScope cR):=fs
theorem gZ(Df:Def K mg "first_marking" cR)(ER:mg "tuple" = none):Ct P w K mg base "first_marking" 1 (spF K bx):=
 fG Df gY (fun _ _ _ _ _ _=>wx fun _=>rfl) fun f EV A outer s H E hr=>
  (ax (bq (cw eL (by rfl) ER du (af (aa (cH [none] ["place"] rfl (cD (fw (aG (ae (pv 0)) (aa aq)))) (fun _ _ _ _ _=>(aH (i:=0) (show List.Nodup (["place"]:List Str) from by decide +kernel) rfl (lo rfl))) (fun _ _ _ _ _=>cm) (fun _ _ _ _ _=>(aG (ae (pv 0)) (aa aq))))) au))))
abbrev km:Stmt:=top 6
theorem ma:FnScope ["net","marking","move","at"] ["net","marking","move"] (defScope km):=fs
theorem so(Df:Def K mg "can_go" km)(G0:mg "all" = none)(Gj:mg "zip" = none):Ct P w K mg base "can_go" 1 (spF K eQ):=
 fG Df ma (fun _ _ _ _ _ _=>BL fun _ _ _=>rfl) fun f EV A outer s H E hr=>
  (ai (aJ (i:=3) ma.nd rfl (lo rfl) (rV Ry R8 fI (aa (aG (ae (pv 0)) (aa aq))) (af (ae (pv 2)) au)))
  (ax (bq (aP (wg rfl) (by rfl) G0 wt (af (aa (cH [none,none,some 3] ["beads","place","at"] rfl (cD (mW (by rfl) Gj (af (aa (aI (pv 1))) (af (aa (aG (ae (pv 0)) (aa aq))) au)))) (fun _ _ _ _ _=>(have h:=(show List.Nodup (["beads","place","at"]:List Str) from by decide +kernel);(iK rfl (bc (aH (i:=0) h rfl (lo rfl)) (bc (aH (i:=1) h rfl (lo rfl)) fF))))) (fun _ _ _ _ _=>cm) (fun _ _ _ _ _=>(v5 (rP hr.units0) (ae (pv 0)) (aa (aG (aa (aG (ae (pv 1)) (aa aq))) (ae (pv 2)))) (bB _))))) au)))))
abbrev m7:Stmt:=top 7
theorem oU:FnScope ["net","marking","move","at"] ["net","marking","move"] (defScope m7):=fs
theorem vm(Df:Def K mg "moved" m7)(Ja:Ct P w K mg base "can_go" 1 (spF K eQ))(ER:mg "tuple" = none)(Gj:mg "zip" = none):Ct P w K mg base "moved" 2 (spF K dX):=
 fG Df oU (fun _ _ _ _ _ _=>BL fun _ _ _=>rfl) fun f EV A outer s H E hr=>
  (ai (dO (gJ (jx (bM Ja hr.m (by rfl) (af (ae (pv 0)) (af (ae (pv 1)) (af (ae (pv 2)) au))))))
  (ax (bq lG))
  bN)
  (ai (aJ (i:=3) oU.nd rfl (lo rfl) (rV Ry R8 fI (aa (aG (ae (pv 0)) (aa aq))) (af (ae (pv 2)) au)))
  (ax (bq (cw eL (by rfl) ER du (af (aa (cH [none,none,some 3] ["beads","place","at"] rfl (cD (mW (by rfl) Gj (af (aa (aI (pv 1))) (af (aa (aG (ae (pv 0)) (aa aq))) au)))) (fun _ _ _ _ _=>(have h:=(show List.Nodup (["beads","place","at"]:List Str) from by decide +kernel);(iK rfl (bc (aH (i:=0) h rfl (lo rfl)) (bc (aH (i:=1) h rfl (lo rfl)) fF))))) (fun _ _ _ _ _=>cm) (fun _ _ _ _ _=>(aW bo (aa (aW wb (ae (pv 0)) (aa (aG (aa (aG (ae (pv 1)) (aa aq))) (ae (pv 2)))))) (aa (aG (aa (aG (ae (pv 1)) (aa aq))) (ae (pv 2)))))))) au))))))
abbrev gD:Stmt:=top 9
theorem bG:FnScope ["net","met","numbers","arcs","looked_at","marking","move","coming"] ["net"] (defScope gD):=fs
theorem m9(Df:Def K mg "explored" gD)(Gu:Ct P w K mg base "first_marking" 1 (spF K bx))(JW:Ct P w K mg base "moved" 2 (spF K dX))(Et:Gi mg "MOST_STATES" (12))(EF:mg "len" = none):Ct P w K mg base "explored" 3 (spF K aV):=
 fG Df bG (fun _ _ _ _ _ _=>wx fun _=>rfl) fun f EV A outer s H E hr=>
  (ai (aJ (i:=1) bG.nd rfl (lo rfl) (oA (aA (cO (aA (bM Gu hr.m (by rfl) (af (ae (pv 0)) au)) (aA (cO bw) (aA lG bw)))) bw)))
  (ai (aJ (i:=2) bG.nd rfl (lo rfl) (vi (hu_of hr) (aG (aa (aG (ae (pv 1)) (aa aq))) (aa aq)) aq))
  (ai (aJ (i:=3) bG.nd rfl (lo rfl) (oA bw))
  (ai (aJ (i:=4) bG.nd rfl (lo rfl) aq)
  (ai (ox 100000 Qz (j0 (lV hr.units0) uW (ae (pv 4)) (aa (aP bP (by rfl) EF bt_len (af (ae (pv 1)) au))) (aa (rk Et (by rfl))))
  (ai (aJ (i:=5) bG.nd rfl (lo rfl) (aG (aa (aG (ae (pv 1)) (ae (pv 4)))) (aa aq)))
  (ai (e7 Qz rfl (fw (aG (ae (pv 0)) (aa aq))) (aH (i:=6) bG.nd rfl (lo rfl))
  (ai (aJ (i:=7) bG.nd rfl (lo rfl) (bM JW hr.m (by rfl) (af (ae (pv 0)) (af (ae (pv 5)) (af (ae (pv 6)) au)))))
  (ax (dO (bV rM (ae (pv 7)) (aa lG) (bB _))
  (ai (dO (bV (rW hr.u65) (ae (pv 7)) (ae (pv 2)) (by with_unfolding_all rfl))
  (ai (AH (hu_of hr) (pv 2) (aI (pv 7)) (aP bP (by rfl) EF bt_len (af (ae (pv 1)) au)))
  (ax (iI (fW (pv 1) (cO (aA (aI (pv 7)) (aA (aW bo (aa (aG (aa (aG (ae (pv 1)) (ae (pv 4)))) (aa aq))) (aa (cO (aA (aI (pv 6)) bw)))) (aA (aI (pv 4)) bw))))))))
  bN)
  (ax (iI (fW (pv 3) (cO (aA (aI (pv 4)) (aA (aI (pv 6)) (aA (CL (hu_of hr) (ae (pv 2)) (ae (pv 7))) bw))))))))
  bN))))
  (ax (aJ (i:=4) bG.nd rfl (lo rfl) (aW bo (ae (pv 4)) (aa aq)))))))
  (ax (bq (cO (aA (aI (pv 1)) (aA (aI (pv 3)) bw))))))))))
abbrev ia:Stmt:=top 10
theorem dj:FnScope ["net","found","markings"] ["net"] (defScope ia):=fs
theorem sr(Df:Def K mg "run_of" ia)(E6:Ct P w K mg base "explored" 3 (spF K aV))(Et:Gi mg "MOST_STATES" (12))(EF:mg "len" = none):Ct P w K mg base "run_of" 4 (spF K cJ):=
 fG Df dj (fun _ _ _ _ _ _=>wx fun _=>rfl) fun f EV A outer s H E hr=>
  (ai (aJ (i:=1) dj.nd rfl (lo rfl) (bM E6 hr.m (by rfl) (af (ae (pv 0)) au)))
  (ai (f9 (i:=2) [none,none,none] ["marking","way","ahead"] dj.nd rfl (lo rfl) rfl (cD (fw (aG (ae (pv 1)) (aa aq)))) (fun _ _ _ _ _=>(have h:=(show List.Nodup (["marking","way","ahead"]:List Str) from by decide +kernel);(iK rfl (bc (aH (i:=0) h rfl (lo rfl)) (bc (aH (i:=1) h rfl (lo rfl)) (bc (aH (i:=2) h rfl (lo rfl)) fF)))))) (fun _ _ _ _ _=>cm) (fun _ _ _ _ _=>(aI (pv 0))))
  (ai (dO (iH xR (aa (aP bP (by rfl) EF bt_len (af (ae (pv 2)) au))) (aa (rk Et (by rfl))) (bB _))
  (ax uT)
  bN)
  (ax (bq (cO (aA (cO (aA (aG (ae (pv 0)) (aa aq)) (aA (aG (ae (pv 1)) (aa aq)) bw))) (aA (aI (pv 2)) bw))))))))
theorem pT(Df:Def K mg "run_of" ia){EC:Addr}(E6:Ct P w K mg base "explored" 3 (spF K aV))(ET:K4 mg base "TooGreat" EC)(Et:Gi mg "MOST_STATES" (12))(EF:mg "len" = none):CtX P w K mg base "run_of" 4 EC (spX K EC b7):=
 AV Df dj (fun _ _ _ _ _ _=>wx fun _=>rfl) fun f EV A outer s H E hr=>
  (r9 (aJ (i:=1) dj.nd rfl (lo rfl) (bM E6 hr.m (by rfl) (af (ae (pv 0)) au)))
  (r9 (f9 (i:=2) [none,none,none] ["marking","way","ahead"] dj.nd rfl (lo rfl) rfl (cD (fw (aG (ae (pv 1)) (aa aq)))) (fun _ _ _ _ _=>(have h:=(show List.Nodup (["marking","way","ahead"]:List Str) from by decide +kernel);(iK rfl (bc (aH (i:=0) h rfl (lo rfl)) (bc (aH (i:=1) h rfl (lo rfl)) (bc (aH (i:=2) h rfl (lo rfl)) fF)))))) (fun _ _ _ _ _=>cm) (fun _ _ _ _ _=>(aI (pv 0))))
  (CM (iH xR (aa (aP bP (by rfl) EF bt_len (af (ae (pv 2)) au))) (aa (rk Et (by rfl))) (bB _)) (vj ET Ac rfl (by rfl) (af (aa (eY D4 (by decide))) au)))))
abbrev kn:Stmt:=top 11
theorem su:FnScope ["marking","other"] ["marking","other"] (defScope kn):=fs
theorem sv(Df:Def K mg "covers" kn)(G0:mg "all" = none)(Gj:mg "zip" = none):Ct P w K mg base "covers" 1 (spF K dC):=
 fG Df su (fun _ _ _ _ _ _=>BK fun _ _=>rfl) fun f EV A outer s H E hr=>
  (ax (bq (aP (wg rfl) (by rfl) G0 wt (af (aa (cH [none,none] ["beads","fewer"] rfl (cD (mW (by rfl) Gj (af (aa (aI (pv 0))) (af (aa (aI (pv 1))) au)))) (fun _ _ _ _ _=>(have h:=(show List.Nodup (["beads","fewer"]:List Str) from by decide +kernel);(iK rfl (bc (aH (i:=0) h rfl (lo rfl)) (bc (aH (i:=1) h rfl (lo rfl)) fF))))) (fun _ _ _ _ _=>cm) (fun _ _ _ _ _=>(v5 (rP hr.units0) (ae (pv 0)) (ae (pv 1)) (bB _))))) au))))
abbrev cn:Stmt:=top 12
theorem cf:FnScope ["met","number","ahead"] ["met","number"] (defScope cn):=fs
theorem gq(Df:Def K mg "nearest_covered" cn)(Jb:Ct P w K mg base "covers" 1 (spF K dC)):Ct P w K mg base "nearest_covered" 2 (spF K aO):=
 fG Df cf (fun _ _ _ _ _ _=>BK fun _ _=>rfl) fun f EV A outer s H E hr=>
  (ai (aJ (i:=2) cf.nd rfl (lo rfl) (aG (aa (aG (ae (pv 0)) (ae (pv 1)))) (aa aq)))
  (ai (ox 100000 Qz (QW.qt (Am (bV rM (ae (pv 2)) (aa lG) (bB _)) (xN (gJ (jx (bM Jb hr.m (by rfl) (af (aa (aG (aa (aG (ae (pv 0)) (ae (pv 1)))) (aa aq))) (af (aa (aG (aa (aG (ae (pv 0)) (ae (pv 2)))) (aa aq))) au))))))))
  (ax (aJ (i:=2) cf.nd rfl (lo rfl) (aG (aa (aG (ae (pv 0)) (ae (pv 2)))) (aa aq)))))
  (ax (bq (rm (pv 2))))))
abbrev fJ:Stmt:=top 13
theorem cA:FnScope ["net","met","number","ahead","way"] ["net"] (defScope fJ):=fs
theorem me(Df:Def K mg "growth_of" fJ)(E6:Ct P w K mg base "explored" 3 (spF K aV))(FV:Ct P w K mg base "nearest_covered" 2 (spF K aO))(Et:Gi mg "MOST_STATES" (12))(EF:mg "len" = none)(EJ:mg "range" = none):Ct P w K mg base "growth_of" 4 (spF K aY):=
 fG Df cA (fun _ _ _ _ _ _=>wx fun _=>rfl) fun f EV A outer s H E hr=>
  (ai (aJ (i:=1) cA.nd rfl (lo rfl) (aG (aa (bM E6 hr.m (by rfl) (af (ae (pv 0)) au))) (aa aq)))
  (ai (dO (iH uW (aa (aP bP (by rfl) EF bt_len (af (ae (pv 1)) au))) (aa (rk Et (by rfl))) (bB _))
  (ax (bq (cO (aA (eY Dp (by decide)) (aA (aP bP (by rfl) EF bt_len (af (ae (pv 1)) au)) bw)))))
  bN)
  (ai (e7 Qz rfl (b5 (by rfl) EJ (aa (aW bo (aa (rk Et (by rfl))) (aa aq)))) (aH (i:=2) cA.nd rfl (lo rfl))
  (ai (aJ (i:=3) cA.nd rfl (lo rfl) (bM FV hr.m (by rfl) (af (ae (pv 1)) (af (ae (pv 2)) au))))
  (ax (dO (bV rM (ae (pv 3)) (aa lG) (bB _))
  (ai (aJ (i:=4) cA.nd rfl (lo rfl) (aG (aa (aG (ae (pv 1)) (ae (pv 3)))) (aa aq)))
  (ax (bq (cO (aA (eY D5 (by decide)) (aA (aI (pv 4)) (aA (oJ (aa (aG (aa (aG (ae (pv 1)) (ae (pv 2)))) (aa aq))) (j7 (aP bP (by rfl) EF bt_len (af (ae (pv 4)) au))) j6) bw)))))))
  bN))))
  (ax (bq (cO (aA (eY Dn (by decide)) bw)))))))
abbrev c5:Stmt:=top 15
theorem iY:FnScope ["_law_script","_law_k"] ["_law_script","_law_k"] (defScope c5):=fs
theorem iZ(Df:Def K mg "_law_cell_at" c5)(EF:mg "len" = none):Ct P w K mg base "_law_cell_at" 1 (spF K aw):=
 fG Df iY (fun _ _ _ _ _ _=>BK fun _ _=>rfl) fun f EV A outer s H E hr=>
  (ai (dO (iH (lV hr.units0) (ae (pv 1)) (aa (aP bP (by rfl) EF bt_len (af (ae (pv 0)) au))) (bB _))
  (ax (bq (aG (ae (pv 0)) (ae (pv 1)))))
  bN)
  (ax (bq aq)))
abbrev d7:Stmt:=top 16
theorem dD:FnScope ["_law_cell","_law_k","_law_number"] ["_law_cell","_law_k"] (defScope d7):=fs
theorem ko(Df:Def K mg "_law_mixed" d7):Ct P w K mg base "_law_mixed" 1 (spF K bC):=
 fG Df dD (fun _ _ _ _ _ _=>BK fun _ _=>rfl) fun f EV A outer s H E hr=>
  (ai (aJ (i:=2) dD.nd rfl (lo rfl) (aW bo (aa (aW dI (ae (pv 0)) (aa aq))) (aa (aW dA (aa aq) (aa (aW bo (ae (pv 1)) (aa aq)))))))
  (ai (aJ (i:=2) dD.nd rfl (lo rfl) (aW dI (aa (aW bo (aa (aW dA (ae (pv 2)) (ae (pv 2)))) (aa (aW dA (aa aq) (ae (pv 1)))))) (aa aq)))
  (ax (bq (aW dI (aa (aW bo (aa (aW bo (aa (aW dA (ae (pv 2)) (ae (pv 2)))) (aa (aW dA (aa aq) (ae (pv 1)))))) (aa aq))) (aa aq))))))
abbrev d8:Stmt:=top 17
theorem aQ:FnScope ["_law_cell","_law_letters","_law_base","_law_width","_law_spot","_law_names_here","_law_k","_law_moved_on"] ["_law_cell"] (defScope d8):=fs
theorem kq(Df:Def K mg "_law_names" d8)(Hf:Ct P w K mg base "_law_mixed" 1 (spF K bC))(EJ:mg "range" = none)(Fe:mg "sorted" = none):Ct P w K mg base "_law_names" 2 (spF K bX):=
 fG Df aQ (fun _ _ _ _ _ _=>wx fun _=>rfl) fun f EV A outer s H E hr=>
  (ai (aJ (i:=1) aQ.nd rfl (lo rfl) (eY D9 (by decide)))
  (ai (f9 (i:=2) [none,some 0] ["_law_j","_law_cell"] aQ.nd rfl (lo rfl) rfl (cD (b5 (by rfl) EJ (aa aq))) (fun _ _ _ _ _=>(aH (i:=0) (show List.Nodup (["_law_j","_law_cell"]:List Str) from by decide +kernel) rfl (lo rfl))) (fun _ _ _ _ _=>cm) (fun _ _ _ _ _=>(aW dI (aa (bM Hf hr.m (by rfl) (af (ae (pv 1)) (af (ae (pv 0)) au)))) (aa aq))))
  (ai (aJ (i:=3) aQ.nd rfl (lo rfl) (aW bo (aa aq) (aa (aW dI (ae (pv 0)) (aa aq)))))
  (ai (aJ (i:=4) aQ.nd rfl (lo rfl) (aW dI (aa (aW rJ (ae (pv 0)) (aa aq))) (ae (pv 3))))
  (ai (aJ (i:=5) aQ.nd rfl (lo rfl) (oA bw))
  (ai (e7 Qz rfl (b5 (by rfl) EJ (aa aq)) (aH (i:=6) aQ.nd rfl (lo rfl))
  (ai (aJ (i:=7) aQ.nd rfl (lo rfl) (oJ (ae (pv 2)) j6 (j7 (aI (pv 3)))))
  (ai (yb (pv 7) (aI (pv 4)) (aW dI (aa (aW bo (aa (aG (ae (pv 7)) (ae (pv 4)))) (ae (pv 6)))) (aa aq)))
  (ai (dO (bV (pO hr.units) (aa (aW dI (aa (aW rJ (ae (pv 0)) (aa aq))) (aa aq))) (aa aq) (bB _))
  (ax (aJ (i:=7) aQ.nd rfl (lo rfl) (oJ (ae (pv 2)) j6 (j7 (aW bo (ae (pv 6)) (aa aq))))))
  bN)
  (ax (iI (fW (pv 5) (AJ PySem.F.slot_str_join PySem.F.type_str_join yc (aa (eY D8 (by decide))) (af (aa (cH [none,some 1] ["_law_j","_law_letters"] rfl (oI (rS (pv 7)) (oI (cD (rF (aI (pv 7)))) (cD (rH (aI (pv 7)))))) (fun _ _ _ _ _=>(aH (i:=0) (show List.Nodup (["_law_j","_law_letters"]:List Str) from by decide +kernel) rfl (lo rfl))) (fun _ _ _ _ _=>cm) (fun _ _ _ _ _=>(aG (ae (pv 1)) (ae (pv 0)))))) au)))))))))
  (ai (dO (bV (AS hr.u65) (aa (eY D6 (by decide))) (ae (pv 5)) (by with_unfolding_all rfl))
  (ax (f9 (i:=5) [none] ["_law_name"] aQ.nd rfl (lo rfl) rfl (oI (rS (pv 5)) (oI (cD (rF (aI (pv 5)))) (cD (rH (aI (pv 5)))))) (fun _ _ _ _ _=>(aH (i:=0) (show List.Nodup (["_law_name"]:List Str) from by decide +kernel) rfl (lo rfl))) (fun _ _ _ _ _=>cm) (fun _ _ _ _ _=>(aW bo (aa (eY D7 (by decide))) (ae (pv 0))))))
  bN)
  (ax (bq (aP (lU rfl) (by rfl) Fe lX (af (ae (pv 5)) au)))))))))))
abbrev d9:Stmt:=top 18
theorem kr:FnScope ["_law_found"] ["_law_found"] (defScope d9):=fs
theorem ku(Df:Def K mg "_law_whole" d9)(Hg:mg "bool" = none)(Gk:mg "int" = none)(EN:mg "isinstance" = none):Ct P w K mg base "_law_whole" 1 (spF K bD):=
 fG Df kr (fun _ _ _ _ _ _=>wx fun _=>rfl) fun f EV A outer s H E hr=>
  (ax (bq (rB (xX (T:="int") (by decide) (ae (pv 0)) (by rfl) EN (by rfl) Gk qD) (rq (Ao (xX (T:="bool") (by decide) (ae (pv 0)) (by rfl) EN (by rfl) Hg xc))))))
abbrev gE:Stmt:=top 19
theorem cp:FnScope ["_law_script","_law_moves","_law_goings","_law_places","_law_k","_law_take","_law_takes","_law_beads"] ["_law_script","_law_moves","_law_goings"] (defScope gE):=fs
theorem ng(Df:Def K mg "_law_net" gE)(EK:Ct P w K mg base "_law_cell_at" 1 (spF K aw))(Gk:mg "int" = none)(EF:mg "len" = none)(EJ:mg "range" = none)(ER:mg "tuple" = none):Ct P w K mg base "_law_net" 2 (spF K cM):=
 fG Df cp (fun _ _ _ _ _ _=>BL fun _ _ _=>rfl) fun f EV A outer s H E hr=>
  (ai (aJ (i:=3) cp.nd rfl (lo rfl) (oA bw))
  (ai (e7 Qz rfl (b5 (by rfl) EJ (aa (aP bP (by rfl) EF bt_len (af (ae (pv 1)) au)))) (aH (i:=4) cp.nd rfl (lo rfl))
  (ai (aJ (i:=5) cp.nd rfl (lo rfl) (aW bo (aa aq) (aa (aW dI (aa (bM EK hr.m (by rfl) (af (ae (pv 0)) (af (aa (aW bo (aa aq) (ae (pv 4)))) au)))) (aa (aW Av (aa aq) (aa aq)))))))
  (ai (aJ (i:=6) cp.nd rfl (lo rfl) (cw eL (by rfl) ER du (af (aa (cH [none,some 5,some 4] ["_law_j","_law_take","_law_k"] rfl (cD (b5 (by rfl) EJ (aa (aP bP (by rfl) EF bt_len (af (ae (pv 1)) au))))) (fun _ _ _ _ _=>(aH (i:=0) (show List.Nodup (["_law_j","_law_take","_law_k"]:List Str) from by decide +kernel) rfl (lo rfl))) (fun _ _ _ _ _=>cm) (fun _ _ _ _ _=>(aW dA (ae (pv 1)) (aa (cw wm (by rfl) Gk qD (af (aa (iG (pO hr.units) (ae (pv 0)) (ae (pv 2)) (bB _))) au))))))) au)))
  (ai (aJ (i:=7) cp.nd rfl (lo rfl) (aW bo (aa (aW dA (ae (pv 5)) (aa (aG (ae (pv 2)) (ae (pv 4)))))) (aa (aW dI (aa (bM EK hr.m (by rfl) (af (ae (pv 0)) (af (aa (aW bo (aa aq) (ae (pv 4)))) au)))) (ae (pv 5))))))
  (ax (iI (fW (pv 3) (cO (aA (aI (pv 7)) (aA (aI (pv 6)) (aA (cw eL (by rfl) ER du (af (aa (cH [none] ["_law_j"] rfl (cD (b5 (by rfl) EJ (aa (aP bP (by rfl) EF bt_len (af (ae (pv 1)) au))))) (fun _ _ _ _ _=>(aH (i:=0) (show List.Nodup (["_law_j"]:List Str) from by decide +kernel) rfl (lo rfl))) (fun _ _ _ _ _=>cm) (fun _ _ _ _ _=>aq))) au)) bw)))))))))))
  (ax (bq (cO (aA (aI (pv 1)) (aA (aI (pv 3)) bw)))))))
abbrev cC:Stmt:=top 20
theorem bQ:FnScope ["_law_net_here","_law_markings","_law_arc","_law_k","_law_j","_law_taken"] ["_law_net_here","_law_markings","_law_arc"] (defScope cC):=fs
theorem gF(Df:Def K mg "_law_arc_right" cC)(Gk:mg "int" = none)(EN:mg "isinstance" = none)(EF:mg "len" = none)(EJ:mg "range" = none)(ER:mg "tuple" = none):Ct P w K mg base "_law_arc_right" 1 (spF K aM):=
 fG Df bQ (fun _ _ _ _ _ _=>BL fun _ _ _=>rfl) fun f EV A outer s H E hr=>
  (ai (dO (QW.qt (jY (gJ (jx (xX (T:="tuple") (by decide) (ae (pv 2)) (by rfl) EN (by rfl) ER du))) (jY (bV (lR hr.units) (aa (aP bP (by rfl) EF bt_len (af (ae (pv 2)) au))) (aa aq) (bB _)) (lH (bV (rW hr.u65) (aa (aG (ae (pv 2)) (aa aq))) (aa (aG (ae (pv 0)) (aa aq))) (by with_unfolding_all rfl))))))
  (ax (bq jn))
  bN)
  (ai (aJ (i:=3) bQ.nd rfl (lo rfl) (rV Ry R8 fI (aa (aG (ae (pv 0)) (aa aq))) (af (aa (aG (ae (pv 2)) (aa aq))) au)))
  (ai (e7 Qz rfl (b5 (by rfl) EJ (aa (aP bP (by rfl) EF bt_len (af (aa (aG (ae (pv 0)) (aa aq))) au)))) (aH (i:=4) bQ.nd rfl (lo rfl))
  (ai (aJ (i:=5) bQ.nd rfl (lo rfl) (aW dA (aa (aG (aa (aG (aa (aG (aa (aG (ae (pv 0)) (aa aq))) (ae (pv 4)))) (aa aq))) (ae (pv 4)))) (aa (cw wm (by rfl) Gk qD (af (aa (iG (pO hr.units) (ae (pv 4)) (ae (pv 3)) (bB _))) au)))))
  (ax (dO (QW.qt (jY (iH (lV hr.units0) (aa (aG (aa (aG (ae (pv 1)) (aa (aG (ae (pv 2)) (aa aq))))) (ae (pv 4)))) (ae (pv 5)) (bB _)) (lH (bV (lR hr.units) (aa (aG (aa (aG (ae (pv 1)) (aa (aG (ae (pv 2)) (aa aq))))) (ae (pv 4)))) (aa (aW wb (aa (aG (aa (aG (ae (pv 1)) (aa (aG (ae (pv 2)) (aa aq))))) (ae (pv 4)))) (ae (pv 5)))) (bB _)))))
  (ax (bq jn))
  bN))))
  (ax (bq jn)))))
abbrev c7:Stmt:=top 21
theorem cS:FnScope ["_law_net_here","_law_refused_here"] ["_law_net_here"] (defScope c7):=fs
theorem i4(Df:Def K mg "_law_refused" c7){EC:Addr}(IA:CtX P w K mg base "run_of" 4 EC (spX K EC b7))(GF:Ct P w K mg base "run_of" 4 (spF K cJ))(ET:K4 mg base "TooGreat" EC):Ct P w K mg base "_law_refused" 5 (spF K bK):=
 fG Df cS (fun _ _ _ _ _ _=>wx fun _=>rfl) fun f EV A outer s H E hr=>
  (ai (aJ (i:=1) cS.nd rfl (lo rfl) jn)
  (ai (AX ET (by rfl) (ax (iI (bM GF hr.m (by rfl) (af (ae (pv 0)) au)))) (vk (yd IA hr.m (by rfl) (af (ae (pv 0)) au))) (fun _=>(ax (aJ (i:=1) cS.nd rfl (lo rfl) jn))))
  (ax (bq (rm (pv 1))))))
abbrev kx:Stmt:=top 22
theorem cF:FnScope ["_law_script","_law_count","_law_moves","_law_goings","_law_net_here","_law_total","_law_number","_law_chart","_law_markings","_law_marking","_law_beads","_law_arc","_law_able"] ["_law_script"] (defScope kx):=fs
theorem A0{f:Addr}{fd:FuncData}(F:Fun K "law" "law" kx f fd)(Gf:Ct P w K mg base "_law_arc_right" 1 (spF K aM))(EK:Ct P w K mg base "_law_cell_at" 1 (spF K aw))(Hh:Ct P w K mg base "_law_names" 2 (spF K bX))(HS:Ct P w K mg base "_law_net" 2 (spF K cM))(GH:Ct P w K mg base "_law_refused" 5 (spF K bK))(FW:Ct P w K mg base "_law_whole" 1 (spF K bD))(Gm:Ct P w K mg base "growth_of" 4 (spF K aY))(GF:Ct P w K mg base "run_of" 4 (spF K cJ))(EF:mg "len" = none)(EJ:mg "range" = none)(HA:mg "set" = none)(Fe:mg "sorted" = none)(ER:mg "tuple" = none):FnOk P w K mg base IM 6 f fd ["_law_script"] (spF K ye):=
 fnok_of F cF fun EV A outer s H E hr=>
  (ai (aJ (i:=1) cF.nd rfl (lo rfl) (aW bo (aa aq) (aa (aW dI (aa (bM EK hr.m (by rfl) (af (ae (pv 0)) (af (aa aq) au)))) (aa aq)))))
  (ai (aJ (i:=2) cF.nd rfl (lo rfl) (cw eL (by rfl) ER du (af (aa (oJ (aa (bM Hh hr.m (by rfl) (af (aa (bM EK hr.m (by rfl) (af (ae (pv 0)) (af (aa aq) au)))) au))) j6 (j7 (aI (pv 1))))) au)))
  (ai (f9 (i:=3) [none,some 0] ["_law_k","_law_script"] cF.nd rfl (lo rfl) rfl (cD (b5 (by rfl) EJ (ae (pv 1)))) (fun _ _ _ _ _=>(aH (i:=0) (show List.Nodup (["_law_k","_law_script"]:List Str) from by decide +kernel) rfl (lo rfl))) (fun _ _ _ _ _=>cm) (fun _ _ _ _ _=>(aW dI (aa (bM EK hr.m (by rfl) (af (ae (pv 1)) (af (aa (aW bo (aa aq) (ae (pv 0)))) au)))) (aa aq))))
  (ai (aJ (i:=4) cF.nd rfl (lo rfl) (bM HS hr.m (by rfl) (af (ae (pv 0)) (af (ae (pv 2)) (af (ae (pv 3)) au)))))
  (ai (aJ (i:=5) cF.nd rfl (lo rfl) aq)
  (ai (e7 Qz rfl (fw (aI (pv 3))) (aH (i:=6) cF.nd rfl (lo rfl))
  (ax (aJ (i:=5) cF.nd rfl (lo rfl) (aW dA (ae (pv 5)) (aa (aW bo (ae (pv 6)) (aa aq)))))))
  (ai (dO (iH xR (ae (pv 5)) (aa aq) (bB _))
  (ax (bq (rB (bM GH hr.m (by rfl) (af (ae (pv 4)) au)) (rq (iG (pO hr.units) (aa (bM Gm hr.m (by rfl) (af (ae (pv 4)) au))) (aa (cO (aA (eY Dn (by decide)) bw))) (bB _))))))
  bN)
  (ai (AL (bM GF hr.m (by rfl) (af (ae (pv 4)) au)) (iK rfl (bc (aH (i:=7) cF.nd rfl (lo rfl)) (bc (aH (i:=8) cF.nd rfl (lo rfl)) fF))))
  (ai (dO (QW.qt (jY (bV (lR hr.units) (aa (bM Gm hr.m (by rfl) (af (ae (pv 4)) au))) (aa (cO (aA (eY Dp (by decide)) (aA (aI (pv 5)) bw)))) (bB _)) (jY (bV (lR hr.units) (aa (aP bP (by rfl) EF bt_len (af (ae (pv 8)) au))) (ae (pv 5)) (bB _)) (lH (bV (lR hr.units) (aa (si rfl (Sg (SK (by decide) _) hr.u65) (by rfl) EF (by rfl) HA (af (ae (pv 8)) au))) (ae (pv 5)) (bB _))))))
  (ax (bq jn))
  bN)
  (ai (dO (QW.qt (jY (bV (lR hr.units) (aa (aG (ae (pv 7)) (aa aq))) (ae (pv 2)) (bB _)) (jY (bV (lR hr.units) (aa (aG (ae (pv 7)) (aa aq))) (aa (aP (lU rfl) (by rfl) Fe lX (af (aa (aG (ae (pv 7)) (aa aq))) au))) (bB _)) (lH (bV (lR hr.units) (aa (si rfl (Sg (SK (by decide) _) hr.u65) (by rfl) EF (by rfl) HA (af (aa (aG (ae (pv 7)) (aa aq))) au))) (aa (aP bP (by rfl) EF bt_len (af (aa (aG (ae (pv 7)) (aa aq))) au))) (bB _))))))
  (ax (bq jn))
  bN)
  (ai (e7 Qz rfl (fw (aI (pv 8))) (aH (i:=9) cF.nd rfl (lo rfl))
  (ax (e7 Qz rfl (fw (aI (pv 9))) (aH (i:=10) cF.nd rfl (lo rfl))
  (ax (dO (gJ (jx (bM FW hr.m (by rfl) (af (ae (pv 10)) au))))
  (ax (bq jn))
  bN)))))
  (ai (e7 Qz rfl (fw (aG (ae (pv 7)) (aa aq))) (aH (i:=11) cF.nd rfl (lo rfl))
  (ai (dO (QW.qt (jY (gJ (jx (bM FW hr.m (by rfl) (af (aa (aG (ae (pv 11)) (aa aq))) au)))) (jY (gJ (j0 uW (lV hr.units0) (aa aq) (aa (aG (ae (pv 11)) (aa aq))) (ae (pv 5)))) (lH (gJ (j0 uW (lV hr.units0) (aa aq) (aa (aG (ae (pv 11)) (aa aq))) (ae (pv 5))))))))
  (ax (bq jn))
  bN)
  (ax (dO (gJ (jx (bM Gf hr.m (by rfl) (af (ae (pv 4)) (af (ae (pv 8)) (af (ae (pv 11)) au))))))
  (ax (bq jn))
  bN))))
  (ai (aJ (i:=12) cF.nd rfl (lo rfl) aq)
  (ai (e7 Qz rfl (fw (aI (pv 8))) (aH (i:=9) cF.nd rfl (lo rfl))
  (ax (aJ (i:=12) cF.nd rfl (lo rfl) (aW bo (ae (pv 12)) (aa (aP bP (by rfl) EF bt_len (af (aa (cH [none,some 9,some 4] ["_law_k","_law_marking","_law_net_here"] rfl (cD (b5 (by rfl) EJ (ae (pv 1)))) (fun _ _ _ _ _=>(aH (i:=0) (show List.Nodup (["_law_k","_law_marking","_law_net_here"]:List Str) from by decide +kernel) rfl (lo rfl))) (fun _ _ _ _ _=>(xP (iH (rP hr.units0) (aa (aG (ae (pv 1)) (ae (pv 0)))) (aa (aG (aa (aG (aa (aG (aa (aG (ae (pv 2)) (aa aq))) (ae (pv 0)))) (aa aq))) (ae (pv 0)))) (bB _)))) (fun _ _ _ _ _=>(aI (pv 0))))) au)))))))
  (ax (bq (rB (iG (pO hr.units) (ae (pv 12)) (aa (aP bP (by rfl) EF bt_len (af (aa (aG (ae (pv 7)) (aa aq))) au))) (bB _)) (rq (iG (pO hr.units) (aa (aG (ae (pv 8)) (aa aq))) (aa (cw eL (by rfl) ER du (af (aa (cH [none,none,none] ["_law_beads","_law_takes","_law_gives"] rfl (cD (fw (aG (ae (pv 4)) (aa aq)))) (fun _ _ _ _ _=>(have h:=(show List.Nodup (["_law_beads","_law_takes","_law_gives"]:List Str) from by decide +kernel);(iK rfl (bc (aH (i:=0) h rfl (lo rfl)) (bc (aH (i:=1) h rfl (lo rfl)) (bc (aH (i:=2) h rfl (lo rfl)) fF)))))) (fun _ _ _ _ _=>cm) (fun _ _ _ _ _=>(aI (pv 0))))) au))) (bB _))))))))))))))))))))
end
end LW
namespace PV
open PySem L2 NX
class Cont (α β:Type) where
 run:α->Res β
def Res.bnd{α β:Type}[f:Cont α β](x:Res α):Res β:=x.bind f.run
theorem FA{α β:Type}(a:α)(f:α->Res β):Res.bnd (Res.ok a) (f:=⟨f⟩)=f a:=id rfl
section
variable(env:PV.Env)(i n:Nat)(d:D)(f g:FX)(c c':FT)(fo Ma M4:FO)(fs:Fj)(fd:FDs)(s t:FS)(op Js:D->D->Res R)(F:List D->Res R)(a:FG)(as:JS)(fi fj:FI)(fp Eu:FP)(T:String)
theorem Ll:aD d env=.ok ((.f,d),env):=id rfl
theorem Ij:bh i env=match env[i]? with|some (some r)=>.ok ((.f,r.2),env.set i (some (fz r.1,r.2)))|_=>.bad:=id rfl
theorem M5:fz .f=.f:=id rfl
theorem M6(c:O):fz (.l c)=.f:=id rfl
theorem Jc(p:Addr):vZ (.pin p .d)=true:=id rfl
theorem JX:rj i env=match env[i]? with|some (some r)=>.ok (r,env.set i none)|_=>.bad:=id rfl
theorem Lm:aj f env=Res.bnd (f env) (f:=⟨fun p=>.ok (.val p.1.2,p.2)⟩):=id rfl
theorem Ln:av i env=match env[i]? with|some (some _)=>.ok (.var i,env)|_=>.bad:=id rfl
theorem JY:aE env=.ok ([],env):=id rfl
theorem Jd:ah fo fs env=Res.bnd (fo env) (f:=⟨fun p=>Res.bnd (fs p.2) (f:=⟨fun q=>.ok (p.1::q.1,q.2)⟩)⟩):=id rfl
theorem JZ:cY env=.ok ([],env):=id rfl
theorem Je:aU f fd env=Res.bnd (f env) (f:=⟨fun p=>Res.bnd (fd p.2) (f:=⟨fun q=>.ok (p.1.2::q.1,q.2)⟩)⟩):=id rfl
theorem Lo:Fu env (.val d)=.ok d:=id rfl
theorem Lp:Fu env (.var i)=match env[i]? with|some (some r)=>if vZ r.1 then .ok r.2 else .bad|_=>.bad:=id rfl
theorem J0:pH env (.val d)=.ok d:=id rfl
theorem J2:pH env (.var i)=match env[i]? with|some (some r)=>.ok r.2|_=>.bad:=id rfl
theorem J3:oq env []=.ok []:=id rfl
theorem J4(o:Opd)(os:List Opd):oq env (o::os)=Res.bnd (Fu env o) (f:=⟨fun d=>Res.bnd (oq env os) (f:=⟨fun ds=>.ok (d::ds)⟩)⟩):=id rfl
theorem Jf:jm env []=.ok []:=id rfl
theorem Jg(o:Opd)(os:List Opd):jm env (o::os)=Res.bnd (pH env o) (f:=⟨fun d=>Res.bnd (jm env os) (f:=⟨fun ds=>.ok (d::ds)⟩)⟩):=id rfl
theorem J5:vZ .f=true:=id rfl
theorem J6:vZ (.l .f)=true:=id rfl
theorem J7:vZ .d=true:=id rfl
theorem Lq:ay op fo Ma env=Res.bnd (fo env) (f:=⟨fun p=>Res.bnd (Ma p.2) (f:=⟨fun q=>Res.bnd (Fu q.2 p.1) (f:=⟨fun a=>Res.bnd (Fu q.2 q.1) (f:=⟨fun b=>Res.bnd (op a b) (f:=⟨fun r=>.ok (r,q.2)⟩)⟩)⟩)⟩)⟩):=id rfl
theorem J8:cj op fo Ma env=Res.bnd (fo env) (f:=⟨fun p=>Res.bnd (Ma p.2) (f:=⟨fun q=>Res.bnd (pH q.2 p.1) (f:=⟨fun a=>Res.bnd (pH q.2 q.1) (f:=⟨fun b=>Res.bnd (op a b) (f:=⟨fun r=>.ok (r,q.2)⟩)⟩)⟩)⟩)⟩):=id rfl
theorem M7:E7 f env=Res.bnd (f env) (f:=⟨fun p=>match p.1.2 with | .bl k=>.ok (k,p.2)|_=>.bad⟩):=id rfl
theorem Lr:BG c c' env=Res.bnd (c env) (f:=⟨fun p=>if p.1 then c' p.2 else .ok (false,p.2)⟩):=id rfl
theorem M8:Iw c c' env=Res.bnd (c env) (f:=⟨fun p=>if p.1 then .ok (true,p.2) else c' p.2⟩):=id rfl
theorem Ls:ow c env=Res.bnd (c env) (f:=⟨fun p=>.ok (!p.1,p.2)⟩):=id rfl
theorem Lu:An f g env=Res.bnd (f env) (f:=⟨fun p=>match p.1.2 with | .bl true=>g p.2 | .bl false=>.ok ((.f,.bl false),p.2)|_=>.bad⟩):=id rfl
theorem Lv:Cs f env=Res.bnd (f env) (f:=⟨fun p=>match p.1.2 with | .bl k=>.ok ((.f,.bl (!k)),p.2)|_=>.bad⟩):=id rfl
theorem Jh:fU op Js fo Ma M4 env=Res.bnd (fo env) (f:=⟨fun p=>Res.bnd (Ma p.2) (f:=⟨fun q=>Res.bnd (Fu q.2 p.1) (f:=⟨fun a=>Res.bnd (Fu q.2 q.1) (f:=⟨fun b=>Res.bnd (op a b) (f:=⟨fun r=>match r with
 |(.f,.bl true)=>Res.bnd (M4 q.2) (f:=⟨fun t=>Res.bnd (Fu t.2 q.1) (f:=⟨fun b=>Res.bnd (Fu t.2 t.1) (f:=⟨fun c=>Res.bnd (Js b c) (f:=⟨fun r=>.ok (r,t.2)⟩)⟩)⟩)⟩)
 |(.f,.bl false)=>.ok ((.f,.bl false),q.2)
 |_=>.bad⟩)⟩)⟩)⟩)⟩):=id rfl
theorem J9:bz F fs env=Res.bnd (fs env) (f:=⟨fun p=>Res.bnd (oq p.2 p.1) (f:=⟨fun ds=>Res.bnd (F ds) (f:=⟨fun r=>.ok (r,p.2)⟩)⟩)⟩):=id rfl
theorem Lw:eK F fs env=Res.bnd (fs env) (f:=⟨fun p=>Res.bnd (jm p.2 p.1) (f:=⟨fun ds=>Res.bnd (F ds) (f:=⟨fun r=>.ok (r,if bW r.1 r.2 then p.2 else p.2.map frz)⟩)⟩)⟩):=id rfl
theorem Lx:lO fd env=Res.bnd (fd env) (f:=⟨fun p=>if p.1.length<=1000 then .ok ((.f,.tup p.1),p.2) else .bad⟩):=id rfl
theorem Lz:yP fd env=Res.bnd (fd env) (f:=⟨fun p=>if p.1.length<=1000 then .ok ((.l .f,.lst p.1),p.2) else .bad⟩):=id rfl
theorem Ka:pM env=.ok (none,env):=id rfl
theorem Kb:pN f env=Res.bnd (f env) (f:=⟨fun p=>match p.1.2 with | .int i=>.ok (some i,p.2)|_=>.bad⟩):=id rfl
theorem LA:xT i f env=if rK env i then(Res.bnd (f env) (f:=⟨fun(p:R×PV.Env)=>match p.2[i]? with
 |some (some (.l .f,.lst ds))=>if ds.length<sizeLine then .ok ((.f,.non),p.2.set i (some (.l .f,.lst (ds++[p.1.2])))) else .bad
 |_=>.bad⟩)) else .bad:=id rfl
theorem Kc:rK env i=match env[i]? with|some (some (_,.lst _))=>true|_=>false:=id rfl
theorem M9:MQ T fo env=Res.bnd (fo env) (f:=⟨fun p=>Res.bnd (pH p.2 p.1) (f:=⟨fun d=>.ok ((.f,.bl (u3 T d)),p.2)⟩)⟩):=id rfl
theorem LB(gg:List Nat->List D->Res R):CF gg fo fs env=Res.bnd (fo env) (f:=⟨fun p=>match Fu p.2 p.1 with
 | .ok (.str l)=>Res.bnd (fs p.2) (f:=⟨fun q=>Res.bnd (oq q.2 q.1) (f:=⟨fun ds=>Res.bnd (gg l ds) (f:=⟨fun r=>.ok (r,q.2)⟩)⟩)⟩)
 |_=>.bad⟩):=id rfl
theorem Kd(ix:List (Option Nat)):dw fi ix a c f env=Res.bnd (fi env) (f:=⟨fun p=>Res.bnd (cz a c f p.1 (cN ix p.2)) (f:=⟨fun ds=>if ds.length<=sizeLine then .ok ((.l .f,.lst ds),if flatDs ds then p.2 else p.2.map frz) else .bad⟩)⟩):=id rfl
theorem HU:cN [] env=[]:=id rfl
theorem HV(ix:List (Option Nat)):cN (none::ix) env=none::cN ix env:=id rfl
theorem HW(ix:List (Option Nat)):cN (some i::ix) env=(match env[i]? with|some (some r)=>some (O.f,r.2)|_=>none)::cN ix env:=id rfl
theorem A1:fL env=.ok (true,env):=id rfl
theorem oV(ds:List D):cz a c f (d::ds) env=Res.bnd (a d env) (f:=⟨fun e=>Res.bnd (c e) (f:=⟨fun p=>if p.1 then(Res.bnd (f p.2) (f:=⟨fun q=>Res.bnd (cz a c f ds q.2) (f:=⟨fun rs=>.ok (q.1.2::rs)⟩)⟩)) else cz a c f ds p.2⟩)⟩):=id rfl
theorem A2:Aq f env=Res.bnd (f env) (f:=⟨fun p=>match p.1.2 with | .lst ds=>.ok (ds,p.2)|_=>.bad⟩):=id rfl
theorem sx:lJ f env=Res.bnd (f env) (f:=⟨fun p=>match p.1.2 with | .tup ds=>.ok (ds,p.2)|_=>.bad⟩):=id rfl
theorem sy:lN f env=Res.bnd (f env) (f:=⟨fun p=>match p.1.2 with | .str l=>.ok (l.map fun c=>.str [c],p.2)|_=>.bad⟩):=id rfl
theorem nh:GU fi fj env=match fi env with | .ok a=>.ok a|_=>fj env:=by
 unfold GU;cases fi env <;> rfl
theorem LC:GU (Aq f) (GU (lJ f) (lN f)) env=Res.bnd (f env) (f:=⟨fun p=>match p.1.2 with
 | .lst ds=>.ok (ds,p.2)
 | .tup ds=>.ok (ds,p.2)
 | .str l=>.ok (l.map fun c=>.str [c],p.2)
 |_=>.bad⟩):=by
 rw[nh,nh,A2,sx,sy];cases f env with
 |ok p=>
  obtain⟨⟨o,d⟩,e⟩:=p;cases d <;> rfl
 |exc c=>rfl
 |bad=>rfl
theorem Ke:GU (pR i) (GU (lJ (bh i)) (lN (bh i))) env=match env[i]? with
 |some (some (_,.lst ds))=>.ok (ds,env)
 |some (some (o,.tup ds))=>.ok (ds,env.set i (some (fz o,.tup ds)))
 |some (some (o,.str l))=>.ok (l.map fun c=>.str [c],env.set i (some (fz o,.str l)))
 |_=>.bad:=by
 rw[nh,nh,sx,sy,Ij];unfold pR;cases env[i]? with
 |none=>rfl
 |some r=>
  cases r with
  |none=>rfl
  |some r=>
   obtain⟨o,d⟩:=r;cases d <;> rfl
theorem G9:ck fo env=Res.bnd (fo env) (f:=⟨fun p=>Res.bnd (Fu p.2 p.1) (f:=⟨fun d=>match d with
 | .int j=>if -4611686018427387904<=j/\j<4611686018427387904 then .ok ((List.range j.toNat).map fun(k:Nat)=>D.int (k:Int),p.2) else .bad
 |_=>.bad⟩)⟩):=id rfl
theorem ky(k1 k2:Bool):pK k1 k2 fs env=Res.bnd (fs env) (f:=⟨fun p=>match p.1 with
 |[.val d1,.val d2]=>Res.bnd (gy k1 d1) (f:=⟨fun a=>Res.bnd (gy k2 d2) (f:=⟨fun b=>.ok ((a.zip b).map fun z=>D.tup [z.1,z.2],p.2)⟩)⟩)
 |_=>.bad⟩):=id rfl
theorem Fv:aF i d env=if i<env.length then .ok (env.set i (some (.f,d))) else .bad:=id rfl
theorem Kf:dP [] env=.ok env:=id rfl
theorem Ff(ds:List D):aK a as (d::ds) env=Res.bnd (a d env) (f:=⟨fun e=>as ds e⟩):=id rfl
theorem HX(ds:List D):kM n as (.tup ds) env=if ds.length=n then as ds env else .bad:=id rfl
theorem HY:sSeq s t env=Res.bnd (s env) (f:=⟨fun o=>match o with | .nx e=>t e|o=>.ok o⟩):=id rfl
theorem Kg:df env=.ok (.nx env):=id rfl
theorem LD:cx i f env=Res.bnd (f env) (f:=⟨fun p=>if i<p.2.length then .ok (.nx (p.2.set i (some p.1))) else .bad⟩):=id rfl
theorem Kh:lI f env=Res.bnd (f env) (f:=⟨fun p=>.ok (.nx p.2)⟩):=id rfl
theorem LF:eZ f env=Res.bnd (f env) (f:=⟨fun p=>.ok (.rt p.1)⟩):=id rfl
theorem KI:GO c s t env=Res.bnd (c env) (f:=⟨fun p=>if p.1 then s p.2 else t p.2⟩):=id rfl
theorem HZ:pI fi a s env=Res.bnd (fi env) (f:=⟨fun p=>jo a s p.1 p.2⟩):=id rfl
theorem ni(ds:List D):jo a s (d::ds) env=Res.bnd (a d env) (f:=⟨fun e=>Res.bnd (s e) (f:=⟨fun o=>match o with
 | .nx e=>jo a s ds e
 | .ct e=>jo a s ds e
 | .bk e=>.ok (.nx e)
 | .rt r=>.ok (.rt r)⟩)⟩):=id rfl
theorem oW:cV c s (n+1) env=Res.bnd (c env) (f:=⟨fun p=>if p.1 then(Res.bnd (s p.2) (f:=⟨fun o=>match o with
  | .nx e=>cV c s n e
  | .ct e=>cV c s n e
  | .bk e=>.ok (.nx e)
  | .rt r=>.ok (.rt r)⟩)) else .ok (.nx p.2)⟩):=id rfl
theorem LG:BH i f g env=Res.bnd (g env) (f:=⟨fun(p:R×PV.Env)=>Res.bnd (f p.2) (f:=⟨fun(q:R×PV.Env)=>match p.2[i]?,q.2[i]? with
 |some (some _),some (some (.d,.dct tk ks vs))=>if cG tk q.1.2&&decide (ks.length<sizeLine) then .ok (.nx (q.2.set i (some (.d,.dct tk (pQ ks vs q.1.2 p.1.2).1 (pQ ks vs q.1.2 p.1.2).2)))) else .bad
 |_,_=>.bad⟩)⟩):=id rfl
theorem LH:BI f a env=Res.bnd (f env) (f:=⟨fun p=>Res.bnd (a p.1.2 p.2) (f:=⟨fun e=>.ok (.nx e)⟩)⟩):=id rfl
theorem bS(ds:List D)(nn:Nat)(h:ds.length=n):fBody n nn s ds=Res.bnd (s (ds.map (fun d=>some (O.f,d))++List.replicate nn none)) (f:=⟨fun o=>match o with
 | .rt r=>.ok r
 | .nx _=>.ok (.f,.non)
 |_=>.bad⟩):=by
 unfold fBody;rw[PF h];all_goals cases s (ds.map (fun d=>some (O.f,d))++List.replicate nn none) with
 |ok o=>cases o <;> rfl
 |exc c=>rfl
 |bad=>rfl
end
theorem line_le{n:Nat}(h:n<=16777216):n<=sizeLine:=by rw[line_eq];exact h
section
variable(a b:Int)(x y:List Nat)(p q:Bool)(ds es:List D)
theorem CN:HG (.int a) (.int b)=.ok (.f,.bl (a==b)):=by simp only[HG,plainD,Ew,SH,Rg]
theorem CO:Hz (.int a) (.int b)=.ok (.f,.bl (!(a==b))):=by simp only[Hz,plainD,Ew,SH,Rg]
theorem A3:yO (.int a) (.int b)=.ok (.f,.int (a-b)):=id rfl
theorem yf:pL (.int a) (.int b)=if 0<b/\b<1073741824 then .ok (.f,.int (a / b)) else .bad:=id rfl
theorem A4:jy (.int a) (.int b)=if 0<b then .ok (.f,.int (a%b)) else .bad:=id rfl
theorem A5:wc (.int a) (.int b)=if 0<=b/\b<=1000000/\a.natAbs<2 ^ 64 then .ok (.f,.int (a ^ b.toNat)) else .bad:=id rfl
theorem CP:IZ (.int a) (.int b)=.ok (.f,.bl (decide (a<b))):=id rfl
theorem CQ:Jx (.int a) (.int b)=.ok (.f,.bl (decide (a<=b))):=id rfl
theorem CS:Lg (.int a) (.int b)=.ok (.f,.bl (decide (b<a))):=id rfl
theorem CT:Jy (.int a) (.int b)=.ok (.f,.bl (decide (b<=a))):=id rfl
theorem A6:iU [.lst ds]=.ok (.f,.int ds.length):=id rfl
theorem A7:iU [.tup ds]=.ok (.f,.int ds.length):=id rfl
theorem vn:fX [.lst ds]=.ok (.f,.tup ds):=id rfl
theorem A8:xW [.bl p]=.ok (.f,.int (if p then 1 else 0)):=id rfl
theorem CU:EB (.lst ds) (.int a)=match Ft ds a with|some d=>.ok (.f,d)|none=>.bad:=id rfl
theorem CV:EB (.tup ds) (.int a)=match Ft ds a with|some d=>.ok (.f,d)|none=>.bad:=id rfl
theorem CW:EB (.str x) (.int a)=match Ft x a with|some c=>.ok (.f,.str [c])|none=>.bad:=id rfl
theorem sH(bs:List Bool):yQ [.lst (bs.map D.bl)]=.ok (.f,.bl (bs.all id)):=by
 unfold yQ;show(match lP (bs.map D.bl) with|some bs=>_|none=>_)=_;rw[rL]
theorem HI{α:Type}(d:α)(l:List α):Ft (d::l) 0=some d:=by
 have:=dN (xs:=d::l) (j:=0) (v:=d) rfl;simpa using this
theorem Ik{α:Type}(c d:α)(l:List α):Ft (c::d::l) 1=some d:=by
 have:=dN (xs:=c::d::l) (j:=1) (v:=d) rfl;simpa using this
end
theorem EU(l:List Int):flatDs (l.map D.int)=true:=by
 rw[cK,QL,P7];intro b _;rfl
theorem kz(l:List Bool):flatDs (l.map D.bl)=true:=by
 rw[cK,QL,P7];intro b _;rfl
theorem flat_strs(l:List (List Nat)):flatDs (l.map D.str)=true:=by
 rw[cK,QL,P7];intro b _;rfl
theorem c8(d:D):bW .f d=cX d:=by rw[bW]
theorem vo(ds:List D):bW (.l .f) (.lst ds)=flatDs ds:=by rw[bW,j4]
theorem oX(i:Int):cX (.int i)=true:=by rw[cX];all_goals simp
theorem i5(i:Bool):cX (.bl i)=true:=by rw[cX];all_goals simp
theorem ib(ds:List D):cX (.tup ds)=flatDs ds:=by rw[cX]
theorem jD(n:Nat)(l:List Int):plainDs n (l.map D.int)=true:=by
 induction l with
 |nil=>rfl
 |cons a l ih=>rw[PY,plainDs,ih,plainD];all_goals simp
theorem jE(n:Nat)(l:List (List Nat)):plainDs n (l.map D.str)=true:=by
 induction l with
 |nil=>rfl
 |cons a l ih=>rw[PY,plainDs,ih,plainD];all_goals simp
theorem eqDs_ints:∀a b:List Int,gA (a.map D.int) (b.map D.int)=(a==b)
 |[],[]=>by simp[gA]
 |[],_::_=>by simp[gA]
 |_::_,[]=>by simp[gA]
 |a::r,b::t=>by
  rw[PY,PY,gA,Ew,eqDs_ints r t,P8];simp
theorem vp(a:Int)(l:List Int):wj (.int a) (l.map D.int)=decide (a∈l):=by
 unfold wj;rw[SW,P8,RI,PQ];constructor
 ·rintro⟨x,hx,e⟩;have e:Ew (.int x) (.int a)=true:=e;rw[Ew,Ql]at e;rw[<-e];exact hx
 ·intro h;refine⟨a,h,?_⟩;show Ew (.int a) (.int a)=true;rw[Ew,Qi]
theorem vq(a:List Nat)(l:List (List Nat)):wj (.str a) (l.map D.str)=decide (a∈l):=by
 unfold wj;rw[SW,P8,RI,PQ];constructor
 ·rintro⟨x,hx,e⟩;have e:Ew (.str x) (.str a)=true:=e;rw[Ew,Ql]at e;rw[<-e];exact hx
 ·intro h;refine⟨a,h,?_⟩;show Ew (.str a) (.str a)=true;rw[Ew,Qi]
theorem Dq(a:Int)(l:List Int):IJ (.int a) (.lst (l.map D.int))=.ok (.f,.bl (decide (a∈l))):=by
 unfold IJ;dsimp only;rw[jD,vp,plainD];all_goals simp
theorem vy{α:Type}{a:FG}{c:FT}{f:FX}{e:α->D}{p:α->Bool}{r:α->D}(I:PV.Env->Prop)(l:List α)
  (h:∀x∈l,∀env,I env->∃Eo,a (e x) env=.ok Eo/\∃Ey,c Eo=.ok (p x,Ey)/\if p x then ∃o Fo,f Ey=.ok ((o,r x),Fo)/\I Fo else I Ey):∀env,I env->cz a c f (l.map e) env=.ok ((l.filter p).map r):=by
 induction l with
 |nil=>intro env _;rfl
 |cons x l ih=>
  intro env hI;obtain⟨Eo,h1,Ey,h2,h3⟩:=h x Pq env hI;have ih:=ih fun y hy=>h y (Px _ hy)
  rw[PY,oV,h1,FA,h2,FA];cases hp:p x with
  |true=>
   rw[hp]at h3;obtain⟨o,Fo,h4,h5⟩:=h3;rw[PF rfl,h4,FA,ih Fo h5,FA,Ti hp];rfl
  |false=>
   rw[hp]at h3;rw[PM Pt,ih Ey h3,Th (by rw[hp];exact Pt)]
theorem bU{α:Type}{a:FG}{f:FX}{e:α->D}{r:α->D}(I:PV.Env->Prop)(l:List α)
  (h:∀x∈l,∀env,I env->∃Eo,a (e x) env=.ok Eo/\∃o Fo,f Eo=.ok ((o,r x),Fo)/\I Fo):∀env,I env->cz a fL f (l.map e) env=.ok (l.map r):=by
 induction l with
 |nil=>intro env _;rfl
 |cons x l ih=>
  intro env hI;obtain⟨Eo,h1,o,Fo,h4,h5⟩:=h x Pq env hI;have ih:=ih fun y hy=>h y (Px _ hy)
  rw[PY,oV,h1,FA,A1,FA,PF rfl,h4,FA,ih Fo h5];rfl
theorem yg{a:FG}{g:FS}(P:Nat->PV.Env->Prop)(ds:List D)(h:∀i d env,ds[i]?=some d->P i env->∃Eo,a d env=.ok Eo/\∃Ey,(g Eo=.ok (.nx Ey)\/g Eo=.ok (.ct Ey))/\P (i+1) Ey):
  ∀env,P 0 env->∃env',jo a g ds env=.ok (.nx env')/\P ds.length env':=by
 have key:∀(l:List D) (k:Nat) (env:PV.Env),(∀i d,l[i]?=some d->ds[k+i]?=some d)->P k env->∃env',jo a g l env=.ok (.nx env')/\P (k+l.length) env':=by
  intro l;induction l with
  |nil=>exact fun k env _ hp=>⟨env,rfl,hp⟩
  |cons d l ih=>
   intro k env hd hp;obtain⟨Eo,h1,Ey,h2,h3⟩:=h k d env (hd 0 d rfl) hp;obtain⟨env',h4,h5⟩:=ih (k+1) Ey (fun i d e=>by have:=hd (i+1) d (by simpa using e);rw[show k+1+i=k+(i+1) by lia];exact this) h3;refine⟨env',?_,by rw[PD,show k+(l.length+1)=k+1+l.length by lia];exact h5⟩;rw[ni,h1,FA];rcases h2 with h2|h2
   ·rw[h2,FA];exact h4
   ·rw[h2,FA];exact h4
 intro env hp;obtain⟨env',h1,h2⟩:=key ds 0 env (fun i d e=>by rw[Q8];exact e) hp;exact⟨env',h1,by rw[Q8]at h2;exact h2⟩
section
variable(env:PV.Env)(fo:FO)(fp Eu:FP)(a b:Int)(ds:List D)(x:List Nat)
theorem LI:yS fo fp Eu env=Res.bnd (fo env) (f:=⟨fun p=>Res.bnd (fp p.2) (f:=⟨fun q=>Res.bnd (Eu q.2) (f:=⟨fun t=>Res.bnd (Fu t.2 p.1) (f:=⟨fun d=>Res.bnd (Lj d q.1 t.1) (f:=⟨fun r=>.ok (r,t.2)⟩)⟩)⟩)⟩)⟩):=id rfl
theorem A9(lo hi:Option Int):Lj (.lst ds) lo hi=.ok (.l .f,.lst (kN ds lo hi)):=id rfl
theorem sI(lo hi:Option Int)(h:HT.sIx ds.length 0 lo=0/\HT.sIx ds.length ds.length hi=ds.length):kN ds lo hi=ds:=by
 unfold kN;rw[h.1,h.2,S1,Nat.sub_zero,Rl (Py _)]
theorem Ba(lo hi:Option Int):Lj (.tup ds) lo hi=.ok (.f,.tup (kN ds lo hi)):=by
 unfold Lj;dsimp only;split
 ·rename_i h;rw[sI ds lo hi h]
 ·rename_i h;unfold L8;dsimp only;rw[PF h]
theorem sJ:yR (.int a) (.int b)=if b6 a||b6 b then .ok (.f,.int (a*b)) else if a.natAbs<2 ^ 1000/\b.natAbs<2 ^ 1000 then .ok (.f,.int (a*b)) else .bad:=id rfl
end
section
variable(env:PV.Env)(fo:FO)(fs:Fj)(f g:FX)(a b c:Int)(ds es:List D)(x y:List Nat)
theorem LJ(gg:List D->List D->Res R):AQ gg fo fs env=Res.bnd (fo env) (f:=⟨fun p=>Res.bnd (Fu p.2 p.1) (f:=⟨fun d=>match d with
 | .tup _=>Res.bnd (fs p.2) (f:=⟨fun q=>Res.bnd (Fu q.2 p.1) (f:=⟨fun d2=>match d2 with
  | .tup l=>Res.bnd (oq q.2 q.1) (f:=⟨fun ds=>Res.bnd (gg l ds) (f:=⟨fun r=>.ok (r,q.2)⟩)⟩)
  |_=>.bad⟩)⟩)
 |_=>.bad⟩)⟩):=id rfl
theorem Dr(d:D):(∃l,gy true d=.ok l/\gy false d=.bad/\oE d=some l)\/(∃l,gy true d=.bad/\gy false d=.ok l/\oE d=some l)\/(gy true d=.bad/\gy false d=.bad/\oE d=none):=by
 cases d with
 |lst l=>exact .inl ⟨l,rfl,rfl,rfl⟩
 |tup l=>exact .inr (.inl ⟨l,rfl,rfl,rfl⟩)
 |_=>exact .inr (.inr ⟨rfl,rfl,rfl⟩)
def vz(k1 k2:Bool)(e:PV.Env)(d1 d2:D):Res (List D×PV.Env):=(gy k1 d1).bind fun a=>(gy k2 d2).bind fun b=>.ok ((a.zip b).map fun z=>D.tup [z.1,z.2],e)
def CY(e:PV.Env)(d1 d2:D):Res (List D×PV.Env):=match oE d1,oE d2 with|some a,some b=>.ok ((a.zip b).map fun z=>D.tup [z.1,z.2],e)|_,_=>.bad
def KJ(a b:Res (List D×PV.Env)):Res (List D×PV.Env):=match a with | .ok a=>.ok a|_=>b
def tR(g:D->D->Res (List D×PV.Env))(os:List Opd):Res (List D×PV.Env):=match os with|[.val d1,.val d2]=>g d1 d2|_=>.bad
theorem nj(g h:D->D->Res (List D×PV.Env))(os:List Opd):KJ (tR g os) (tR h os)=tR (fun a b=>KJ (g a b) (h a b)) os:=by
 unfold tR;split <;> rfl
theorem yh(e:PV.Env)(a b:D):KJ (vz true true e a b) (KJ (vz true false e a b) (KJ (vz false true e a b) (vz false false e a b)))=CY e a b:=by
 unfold vz CY;rcases Dr a with⟨l,h1,h2,h3⟩|⟨l,h1,h2,h3⟩|⟨h1,h2,h3⟩ <;> rcases Dr b with⟨m,i1,i2,i3⟩|⟨m,i1,i2,i3⟩|⟨i1,i2,i3⟩ <;> rw[h1,h2,h3,i1,i2,i3] <;> rfl
theorem Ki:pS fs env=Res.bnd (fs env) (f:=⟨fun p=>match p.1 with
 |[.val d1,.val d2]=>(match oE d1,oE d2 with|some a,some b=>.ok ((a.zip b).map fun z=>D.tup [z.1,z.2],p.2)|_,_=>.bad)
 |_=>.bad⟩):=by
 unfold pS;rw[nh,nh,nh,ky,ky,ky,ky];cases fs env with
 |ok p=>
  show KJ (tR (vz true true p.2) p.1) (KJ (tR (vz true false p.2) p.1) (KJ (tR (vz false true p.2) p.1) (tR (vz false false p.2) p.1)))=tR (CY p.2) p.1;rw[nj,nj,nj];exact Qt (fun g=>tR g p.1) (funext fun a=>funext fun b=>yh p.2 a b)
 |_=>rfl
theorem Kj:oE (.lst ds)=some ds:=id rfl
theorem Kk:oE (.tup ds)=some ds:=id rfl
theorem Kl(i:Nat):vf i f g env=Res.bnd (g env) (f:=⟨fun(p:R×PV.Env)=>Res.bnd (f p.2) (f:=⟨fun(q:R×PV.Env)=>match p.2[i]?,q.2[i]? with
 |some (some _),some (some (.l .f,.lst ds))=>(match q.1.2 with
  | .int k=>(match ixN ds.length k with
   |some j=>.ok (.nx (q.2.set i (some (.l .f,.lst (ds.set j p.1.2)))))
   |none=>.bad)
  |_=>.bad)
 |_,_=>.bad⟩)⟩):=id rfl
theorem sL:mX (.int a) (.int b)=yR (.int a) (.int b):=id rfl
theorem Bb(d:D):NA d (.lst ds)=IJ d (.lst ds):=id rfl
theorem Bc:cG false (.str x)=true:=id rfl
theorem yi:dU (.int a) (.int b)=.ok (.f,.int (a+b)):=id rfl
theorem yj:dU (.str x) (.str y)=if x.length+y.length<=sizeLine then .ok (.f,.str (x++y)) else .bad:=id rfl
theorem yk:dU (.tup ds) (.tup es)=if ds.length+es.length<=sizeLine\/ds=[] then .ok (.f,.tup (ds++es)) else .bad:=by
 unfold dU;cases ds with
 |nil=>rw[PF (.inr rfl)];rfl
 |cons d ds=>
  dsimp only;unfold addD;dsimp only;by_cases h:(d::ds).length+es.length<=sizeLine
  ·rw[PF ⟨nofun,h⟩,PF (.inl h)]
  ·rw[PM (fun z=>h z.2),PM (fun z=>z.elim h nofun)]
end
section
variable(env:PV.Env)(f g:FX)(ds ks:List D)(i:Nat)
end
section
variable(env:PV.Env)(f:FX)(fs:Fj)(ds:List D)(i:Nat)
end
noncomputable def pv:=(Zz @FA (Zz @Ll (Zz @Ij (Zz @JX (Zz @Lm (Zz @Ln (Zz @JY (Zz @Jd (Zz @JZ (Zz @Je (Zz @Lo (Zz @Lp (Zz @J0 (Zz @J2 (Zz @J3 (Zz @J4 (Zz @Jf (Zz @Jg (Zz @J5 (Zz @J6 (Zz @J7 (Zz @Lq (Zz @J8 (Zz @M7 (Zz @Lr (Zz @M8 (Zz @Ls (Zz @Lu (Zz @Lv (Zz @Jh (Zz @J9 (Zz @Lw (Zz @Lx (Zz @Lz (Zz @LI (Zz @Ka (Zz @Kb (Zz @LA (Zz @Kc (Zz @M9 (Zz @LB (Zz @Kd (Zz @HU (Zz @HV (Zz @HW (Zz @LC (Zz @Ke (Zz @G9 (Zz @Fv (Zz @Kf (Zz @Ff (Zz @HX (Zz @HY (Zz @Kg (Zz @LD (Zz @Kh (Zz @LF (Zz @KI (Zz @HZ (Zz @LG (Zz @LH (Zz @List.getElem?_cons_zero.{0} (Zz @List.getElem?_cons_succ.{0} (Zz @List.set_cons_zero.{0} (Zz @List.set_cons_succ.{0} (Zz @List.length_cons.{0} (Zz @List.length_nil.{0} (Zz @List.map_cons.{0,0} (Zz @List.map_nil.{0,0} (Zz @List.replicate_succ.{0} (Zz @List.replicate_zero.{0} (Zz @List.cons_append.{0} (Zz @List.nil_append.{0} (Zz @Nat.zero_add (Zz @LJ (Zz @Ki (Zz @Kj (Zz @Kk (Zz @Kl (Zz @M5 (Zz @M6 @Jc)))))))))))))))))))))))))))))))))))))))))))))))))))))))))))))))))))))))))))))))))
noncomputable def op:=(Zz @CN (Zz @CO (Zz @A3 (Zz @CP (Zz @CQ (Zz @CS (Zz @CT (Zz @A6 (Zz @A7 (Zz @vn (Zz @A8 (Zz @CU (Zz @CV (Zz @CW (Zz @A9 (Zz @Ba (Zz @HI (Zz @Ik (Zz @sH (Zz @c8 (Zz @vo (Zz @oX (Zz @i5 (Zz @EU (Zz @kz (Zz @ib (Zz @yi (Zz @sL (Zz @Bb @Bc)))))))))))))))))))))))))))))
def put(i:Nat)(r:R)(e:PV.Env):Res Out:=if i<e.length then .ok (.nx (e.set i (some r))) else .bad
theorem dV(n:Nat)(w:PV.Env):(∃d,Fu w (.var n)=.ok d)\/Fu w (.var n)=.bad:=by
 unfold Fu;dsimp only;split
 ·split
  ·exact .inl ⟨_,rfl⟩
  ·exact .inr rfl
 ·exact .inr rfl
section
variable(w:PV.Env)(op:D->D->Res R)(F:List D->Res R)(f g h:FX)(n n' n'':Nat)(x y:D)
theorem Bd:cx n f w=Res.bnd (f w) (f:=⟨fun p=>put n p.1 p.2⟩):=id rfl
end
section
variable(a b c d e g h i j k l m:Option R)(z:PV.Env)(r:R)(o:O)(x:D){ρ:Type}
end
end PV
namespace LW
open PySem L2 NX PV
theorem for_list{α:Type}{a:FG}{g:FS}{e:α->D}(l:List α)(P:Nat->PV.Env->Prop)
  (h:∀k x env,l[k]?=some x->P k env->∃Eo,a (e x) env=.ok Eo/\∃Ey,g Eo=.ok (.nx Ey)/\P (k+1) Ey):∀env,P 0 env->∃env',jo a g (l.map e) env=.ok (.nx env')/\P l.length env':=by
 intro env h0;have:=yg (a:=a) (g:=g) P (l.map e) (fun i d env hi hp=>by
  rw[List.getElem?_map,P9]at hi;obtain⟨x,hx,rfl⟩:=hi;obtain⟨Eo,h1,Ey,h2,h3⟩:=h i x env hx hp;exact⟨Eo,h1,Ey,.inl h2,h3⟩) env h0
 rwa [Pr]at this
theorem kA{a:FG}{g:FS}{e:Nat->D}(n:Nat)(P:Nat->PV.Env->Prop)
  (h:∀k env,k<n->P k env->∃Eo,a (e k) env=.ok Eo/\∃Ey,g Eo=.ok (.nx Ey)/\P (k+1) Ey):∀env,P 0 env->∃env',jo a g ((List.range n).map e) env=.ok (.nx env')/\P n env':=by
 intro env h0;have:=for_list (a:=a) (g:=g) (e:=e) (List.range n) P (fun k x env hk hp=>by
  obtain⟨h1,h2⟩:=List.getElem?_eq_some_iff.mp hk;rw[Pz]at h1;rw[RN]at h2;subst h2;exact h k env h1 hp) env h0
 rwa [Pz]at this
abbrev EI:=List (List Nat)
theorem bg{α β:Type}{l:List α}(f:α->β):(l.map f).length=l.length:=Pr f
theorem jq:(false=true)=False:=P4
theorem nq{α:Type}{l:List α}{i:Nat}{a:α}(h:l[i]?=some a):∃h:i<l.length,l[i]=a:=List.getElem?_eq_some_iff.mp h
theorem sN{α:Type}{l:List α}{i:Nat}(h:i<l.length):l[i]?=some l[i]:=List.getElem?_eq_getElem h
theorem i6{α β:Type}{f:α->β}{a:α}{l:List α}:(a::l).map f=f a::l.map f:=PY
theorem Be{α:Type}{a b:α}(h:a∈[b]):a=b:=Qm.mp h
theorem tU{α β:Type}{f:α->β}{l:List α}{b:β}(h:b∈l.map f):∃a,a∈l/\f a=b:=QD.mp h
theorem Ea{α:Type}{a:α}{s t:List α}(h:a∈s++t):a∈s\/a∈t:=Qd.mp h
theorem p8{α:Type}{s t:List α}:(s++t).length=s.length+t.length:=Qb
theorem az{s t:FS}{env env':PV.Env}(h:s env=.ok (.nx env')):sSeq s t env=t env':=by rw[HY,h,FA]
theorem i7{ds:List D}(h:ds.length<=16777216):ds.length<=sizeLine:=line_le h
theorem fA{l:List Int}{k:Nat}(h:k<l.length):Ft (l.map D.int) (k:Int)=some (.int (l.getD k 0)):=dN (by rw[List.getElem?_map,List.getD_eq_getElem?_getD,sN h];rfl)
theorem at2{α:Type}(a b c:α):Ft [a,b,c] (2:Int)=some c:=rfl
theorem dk:∀l:EI,dJ (l.map D.str)=some l
 |[]=>rfl
 |a::l=>by
  rw[i6,dJ,dk l];rfl
theorem oY{l:EI}(nd:l.Nodup){k:Nat}(h:k<l.length):l.idxOf l[k]=k:=nd.idxOf_getElem k h
theorem fK(x y:D)(t1 t2:Option R)(bT:PV.Env):kM 2 (aK (aF 0) (aK (aF 1) dP)) (.tup [x,y]) (t1::t2::bT)=.ok (some (.f,x)::some (.f,y)::bT):=by
 rw[HX,PF (by simp),Ff,Fv,PF (by simp),FA,Ff,Fv,PF (by simp),FA];rfl
theorem mf{α:Type}(lt:α->α->Bool)(l:List α):(cZ lt l).length=l.length:=(dh lt l).length_eq
theorem sO(l:EI)(h:l.length<64):dS [.lst (l.map D.str)]=.ok (.l .f,.lst ((cZ Hq l).map D.str)):=by
 unfold dS;dsimp only;rw[PF (by rw[bg];exact h)];unfold iR;cases l with
 |nil=>rfl
 |cons a l=>
  have e:e8 ((a::l).map D.str)=none:=rfl;rw[e,dk]
def GW:List Nat:=[97,98,99,100,101,102,103,104,105,106,107,108,109,110,111,112,113,114,115,116,117,118,119,120,121,122]
theorem Bf(j:Nat)(h:j<26):GW[j]?=some (97+j):=by
 have:∀j:_root_.Fin 26,GW[j.1]?=some (97+j.1):=by decide
 exact this ⟨j,h⟩
theorem Bg(j:Int)(h0:0<=j)(h:j<26):Ft GW j=some (97+j.toNat):=by
 obtain⟨n,rfl⟩:=RD h0;exact dN (Bf n (by lia))
theorem gr(x b:Int)(h:0<b):0<=x%b/\x%b<b:=⟨Int.emod_nonneg _ (by lia),UB _ h⟩
theorem Eb(n:Nat)(h:n<=200):wc (.int 10) (.int (n:Int))=.ok (.f,.int (10 ^ n)):=by
 rw[A5,PF (by lia),Qk]
theorem pU(x b:Int)(h:0<b):jy (.int x) (.int b)=.ok (.f,.int (x%b)):=by rw[A4,PF h]
theorem ym(x b:Int)(h:0<b)(h2:b<1073741824):pL (.int x) (.int b)=.ok (.f,.int (x / b)):=by rw[yf,PF ⟨h,h2⟩]
theorem BM(x y:Int)(h:b6 y=true):mX (.int x) (.int y)=.ok (.f,.int (x*y)):=by rw[sL,sJ,h,Bool.or_true,PF rfl]
theorem sP(k:Nat)(h:k<=1000000):b6 (k:Int)=true:=by
 unfold b6;rw[PQ];lia
theorem Ec(x y:List Nat)(h:x.length+y.length<=1000):dU (.str x) (.str y)=.ok (.f,.str (x++y)):=by rw[yj,PF (line_le (by lia))]
theorem kB{α:Type}(l:List α)(k:Nat):kN l none (some (k:Int))=l.take k:=by
 unfold kN;rw[HT.nM,HT.qu,S1,Nat.sub_zero];by_cases h:k<=l.length
 ·rw[Nat.min_eq_left h]
 ·rw[Nat.min_eq_right (by lia),Rl (Py _),Rl (by lia)]
theorem vA{α:Type}(l:List α)(k:Nat):kN l (some (k:Int)) none=l.drop k:=by
 unfold kN;rw[HT.nM,HT.qu];by_cases h:k<=l.length
 ·rw[Nat.min_eq_left h,Rl (by rw[RF];exact Py _)]
 ·rw[Nat.min_eq_right (by lia),TF (Py _),TF (by lia),List.take_nil]
theorem ej{α:Type}(f:Nat->α)(n:Nat)(h:∀i j,i<n->j<n->f i=f j->i=j):((List.range n).map f).Nodup:=by
 rw[RY,Rx];refine List.pairwise_lt_range.imp_of_mem fun{a b} ha hb hl e=>?_
 have:=h a b (PU.mp ha) (PU.mp hb) e;lia
theorem Ed(j:Int)(h0:0<=j)(h:j<=1000)(fo:FO)(env env':PV.Env)(o:Opd)(e1:fo env=.ok (o,env'))(e2:Fu env' o=.ok (.int j)):ck fo env=.ok ((List.range j.toNat).map fun(k:Nat)=>D.int (k:Int),env'):=by
 rw[G9,e1,FA];dsimp only;rw[e2,FA];dsimp only;rw[PF (by lia)]
theorem sQ(x:Int)(h:-1000000<=x)(h2:x<=1000000):b6 x=true:=by
 unfold b6;rw[PQ];lia
theorem mh(d:D)(h:plainD 40 d=true):HG d d=.ok (.f,.bl true):=by
 unfold HG;rw[h,fZ d 40 h];rfl
theorem i8(d:D)(h:plainD 40 d=true):Hz d d=.ok (.f,.bl false):=by
 unfold Hz;rw[h,fZ d 40 h];rfl
theorem vB(l:List Int):plainD 40 (.tup (l.map D.int))=true:=by
 rw[plainD,jD]
theorem Ee{c:FT}{s t:FS}{env env':PV.Env}(h:c env=.ok (false,env')):GO c s t env=t env':=by rw[KI,h,FA];rfl
theorem yn(n k:Nat)(h:k<n):ixN n (k:Int)=some k:=by
 unfold ixN;rw[PF (by lia),PF (by lia)];rfl
theorem Ef(b:Int):u3 "bool" (.int b)=false:=rfl
theorem Eg(b:Int):u3 "int" (.int b)=true:=rfl
theorem isT(ds:List D):u3 "tuple" (.tup ds)=true:=rfl
theorem i9{c:FT}{g:FS}(P:Nat->PV.Env->Prop)(fin:PV.Env->Prop)(h:∀k env,P k env->(∃Eo,c env=.ok (false,Eo)/\fin Eo)\/(∃Eo,c env=.ok (true,Eo)/\∃Ey k',g Eo=.ok (.nx Ey)/\k'<k/\P k' Ey)):
  ∀n k env,k<n->P k env->∃env',cV c g n env=.ok (.nx env')/\fin env'
 | 0,k,env,hk,_=>absurd hk (Nat.not_lt_zero _)
 |n+1,k,env,hk,hp=>by
  rcases h k env hp with⟨Eo,h1,h2⟩|⟨Eo,h1,Ey,k',h2,h3,h4⟩
  ·exact⟨Eo,by rw[oW,h1,FA];rfl,h2⟩
  ·obtain⟨env',e,hf⟩:=i9 P fin h n k' Ey (by lia) h4;refine⟨env',?_,hf⟩;rw[oW,h1,FA];dsimp only;rw[PF rfl,h2,FA];exact e
theorem nr{α:Type}{l:List α}(h:l.length<=100000):l.length<sizeLine:=PK (QQ _) (line_le (by lia))
section
variable(env:PV.Env)(f:FX)(fs:Fj)(fo:FO)
theorem BN(r:R):frz (some r)=some (.f,r.2):=id rfl
theorem BO:frz none=none:=id rfl
end
def cell(ns:List Int)(k:Nat):Int:=ns.getD k 0
theorem mn(ns:List Int)(k:Nat):aw [.lst (ns.map D.int),.int (k:Int)]=.ok (.f,.int (cell ns k)):=by
 unfold aw fe cell;rw[bS (h:=by rfl)];simp only[pv,seval,op,bg];by_cases h:k<ns.length
 ·have h1:(k:Int)<(ns.length:Int):=by lia
  simp only[h1,Vv,pv,seval,fA h]
 ·have h1:¬ (k:Int)<(ns.length:Int):=by lia
  simp only[h1,decide_false,pv,seval,jq,List.getD_eq_getElem?_getD,List.getElem?_eq_none (Nat.le_of_not_lt h),Tp]
theorem Bh(x y:Int)(h:b6 x=true):yR (.int x) (.int y)=.ok (.f,.int (x*y)):=by rw[sJ,h,Bool.true_or,PF rfl]
theorem oZ(x:Int)(h:0<=x)(h2:x<=4294967296):b6 x=true:=by
 unfold b6;rw[PQ];lia
def yo(c k:Int):Int:=((((c%2147483647+48271*(k+1))*(c%2147483647+48271*(k+1))+69621*k)%2147483647)*(((c%2147483647+48271*(k+1))*(c%2147483647+48271*(k+1))+69621*k)%2147483647)+16807*k+1)%2147483647
theorem yp(c k:Int)(hk:0<=k)(Gx:k<=1000):bC [.int c,.int k]=.ok (.f,.int (yo c k)):=by
 have b1:=gr c 2147483647 (by decide);have b2:=gr ((c%2147483647+48271*(k+1))*(c%2147483647+48271*(k+1))+69621*k) 2147483647 (by decide);unfold bC gO yo;rw[bS (h:=by rfl)];rw[az (env':=[some (.f,.int c),some (.f,.int k),some (.f,.int (c%2147483647+48271*(k+1)))]) (by simp only[pv,seval,op,pU _ 2147483647 (by decide),Bh 48271 (k+1) (by decide)])];have hs:b6 (c%2147483647+48271*(k+1))=true:=oZ _ (by lia) (by lia);generalize c%2147483647+48271*(k+1)=x at *;rw[az (env':=[some (.f,.int c),some (.f,.int k),some (.f,.int ((x*x+69621*k)%2147483647))]) (by simp only[pv,seval,op,pU _ 2147483647 (by decide),Bh x x hs,Bh 69621 k (by decide)])];generalize (x*x+69621*k)%2147483647=y at *;have hs:b6 y=true:=oZ _ (by lia) (by lia);simp only[pv,seval,op,pU _ 2147483647 (by decide),Bh y y hs,Bh 16807 k (by decide)]
theorem o3:∀l:List Nat,joinL [] (l.map fun c=>[c])=l
 |[]=>rfl
 |[c]=>rfl
 |c::d::l=>by
  have ih:=o3 (d::l);show[c]++[]++joinL [] ((d::l).map fun c=>[c])=_;rw[ih];rfl
theorem sR:∀l:List Nat,((l.map fun c=>[c]).map List.length).sum=l.length
 |[]=>rfl
 |c::l=>by
  rw[i6,i6,Tj,sR l];show 1+l.length=l.length+1;lia
theorem yq(l:List Nat)(h:l.length<=1000):rX [] [.lst ((l.map fun c=>[c]).map D.str)]=.ok (.f,.str l):=by
 unfold rX;dsimp only;rw[dk];dsimp only;rw[PF (by rw[sR,RS,Nat.mul_zero];lia),o3]
theorem sS(a:List Nat)(l:EI):IJ (.str a) (.lst (l.map D.str))=.ok (.f,.bl (decide (a∈l))):=by
 unfold IJ;dsimp only;rw[jE,vq,plainD];all_goals simp
def IK(base:List Int)(wd sp:Nat)(tk:Bool)(k:Nat):List Int:=if tk then base.take (k+1) else(base.take wd).set sp ((base.getD sp 0+(k:Int))%26)
def GX(base:List Int)(wd sp:Nat)(tk:Bool)(k:Nat):List Nat:=(IK base wd sp tk k).map fun j=>97+j.toNat
theorem yr(l:List Int)(hb:∀j∈l,0<=j/\j<26):cz (aF 0) fL (ay EB (av 1) (av 0)) (l.map D.int) [none,some (.f,.str GW)]=.ok (((l.map fun j=>97+j.toNat).map fun c=>[c]).map D.str):=by
 rw[bU (r:=fun j:Int=>D.str [97+j.toNat]) (fun env=>∃t,env=[t,some (.f,.str GW)]) l ?_ _ ⟨none,rfl⟩]
 ·rw[P2,P2];rfl
 ·rintro j hj env ⟨t,rfl⟩;obtain⟨h0,h1⟩:=hb j hj;refine⟨[some (.f,.int j),some (.f,.str GW)],rfl,.f,[some (.f,.int j),some (.f,.str GW)],?_,_,rfl⟩;simp only[pv,seval,op,Bg j h0 h1]
theorem CZ(base:List Int)(hb:∀j∈base,0<=j/\j<26)(wd sp:Nat)(tk:Bool)(k:Nat):∀j∈IK base wd sp tk k,0<=j/\j<26:=by
 intro j hj;unfold IK at hj;split at hj
 ·exact hb j (SD hj)
 ·rcases List.mem_or_eq_of_mem_set hj with h|h
  ·exact hb j (SD h)
  ·rw[h];exact gr _ _ (by decide)
theorem sT(base:List Int)(hl:base.length=8)(wd sp:Nat)(tk:Bool)(k:Nat):(IK base wd sp tk k).length<=8:=by
 unfold IK;split
 ·rw[Qe];lia
 ·rw[Sf,Qe];lia
theorem Bi(FC:Int)(base:List Int)(hl:base.length=8)(hb:∀j∈base,0<=j/\j<26)(wd sp:Nat)(hw:wd<=8)(hs:sp<wd)(tk:Bool)(NC:(FC / 64%4==1)=tk)(l:EI)(Ou:l.length<=10)(k:Nat)(t7:Option R):
  ∃u7,b8 [some (.f,.int FC),some (.f,.str GW),some (.l .f,.lst (base.map D.int)),some (.f,.int (wd:Int)),some (.f,.int (sp:Int)),some (.l .f,.lst (l.map D.str)),some (.f,.int (k:Int)),t7]=.ok (.nx [some (.f,.int FC),some (.f,.str GW),some (.l .f,.lst (base.map D.int)),some (.f,.int (wd:Int)),some (.f,.int (sp:Int)),some (.l .f,.lst ((l++[GX base wd sp tk k]).map D.str)),some (.f,.int (k:Int)),u7]):=by
 have hcut:kN (base.map D.int) none (some (wd:Int))=(base.take wd).map D.int:=by rw[kB,UG]
 have GV:Ft ((base.take wd).map D.int) (sp:Int)=some (.int (base.getD sp 0)):=by
  rw[fA (by rw[Qe];lia)];congr 2
  rw[List.getD_eq_getElem?_getD,List.getD_eq_getElem?_getD,List.getElem?_take_of_lt hs]
 have Gh:ixN (base.take wd).length (sp:Int)=some sp:=yn _ _ (by rw[Qe];lia);have hnl:=sT base hl wd sp tk k;have Km:=yr (IK base wd sp tk k) (CZ base hb wd sp tk k);have hj:=yq (GX base wd sp tk k) (by unfold GX;rw[bg];lia);have hz:(l.map D.str).length<sizeLine:=nr (by rw[bg];lia);have hzl:(((GX base wd sp tk k).map fun c=>[c]).map D.str).length<=sizeLine:=i7 (by unfold GX;rw[bg,bg,bg];lia);have Na:=PV.flat_strs ((GX base wd sp tk k).map fun c=>[c]);have Km:cz (aF 0) fL (ay EB (av 1) (av 0)) ((IK base wd sp tk k).map D.int) [none,some (.f,.str GW)]=.ok (((GX base wd sp tk k).map fun c=>[c]).map D.str):=Km;unfold b8;rw[az (env':=[some (.f,.int FC),some (.f,.str GW),some (.l .f,.lst (base.map D.int)),some (.f,.int (wd:Int)),some (.f,.int (sp:Int)),some (.l .f,.lst (l.map D.str)),some (.f,.int (k:Int)),some (.l .f,.lst ((base.take wd).map D.int))]) (by simp only[pv,seval,op,hcut])];rw[az (env':=[some (.f,.int FC),some (.f,.str GW),some (.l .f,.lst (base.map D.int)),some (.f,.int (wd:Int)),some (.f,.int (sp:Int)),some (.l .f,.lst (l.map D.str)),some (.f,.int (k:Int)),some (.l .f,.lst (((base.take wd).set sp ((base.getD sp 0+(k:Int))%26)).map D.int))]) (by
  rw[List.map_set];simp only[pv,seval,op,GV,pU _ 26 (by decide),bg,Gh])]
 rw[az (env':=[some (.f,.int FC),some (.f,.str GW),some (.l .f,.lst (base.map D.int)),some (.f,.int (wd:Int)),some (.f,.int (sp:Int)),some (.l .f,.lst (l.map D.str)),some (.f,.int (k:Int)),some (.l .f,.lst ((IK base wd sp tk k).map D.int))]) (by
  unfold IK;cases tk with
  |true=>
   have Nb:kN (base.map D.int) none (some ((k:Int)+1))=(base.take (k+1)).map D.int:=by rw[show(k:Int)+1=((k+1:Nat):Int) by lia,kB,UG]
   simp only[pv,seval,op,ym _ 64 (by decide) (by decide),pU _ 4 (by decide),NC,Nb]
  |false=>simp only[pv,seval,op,ym _ 64 (by decide) (by decide),pU _ 4 (by decide),NC,jq])]
 refine⟨some (.l .f,.lst ((IK base wd sp tk k).map D.int)),?_⟩;generalize IK base wd sp tk k=W at *;generalize GX base wd sp tk k=V at *;rw[P6,i6,Ro];generalize (ay EB (av 1) (av 0))=GG at Km ⊢;simp only[pv,seval,op,Km,hzl,Na,hj,hz]
theorem yt(base:List Int)(hl:base.length=8)(hb:∀j∈base,0<=j/\j<26)(wd sp:Nat)(hw:wd<=8)(hs:sp<wd)(tk:Bool)(k k':Nat)(hk:k<=5)(GZ:k'<=5)(e:GX base wd sp tk k=GX base wd sp tk k'):k=k':=by
 unfold GX IK at e;cases tk with
 |true=>
  have:=Qt List.length e;simp only[Rg,bg,Qe]at this;lia
 |false=>
  have e2:=Qt (fun l=>l[sp]?) e;have E9:sp<(base.take wd).length:=by rw[Qe];lia
  simp only[jq,Qy,List.getElem?_map,List.getElem?_set_self E9,SR,Option.some.injEq]at e2;have b1:=gr (base.getD sp 0+(k:Int)) 26 (by decide);have b2:=gr (base.getD sp 0+(k':Int)) 26 (by decide);generalize base.getD sp 0=z at *;lia
theorem yu(FC:Int):∃l:EI,l.length=5/\l.Nodup/\l.Pairwise (fun a b=>Hq b a=false)/\bX [.int FC]=.ok (.l .f,.lst (l.map D.str)):=by
 unfold bX gP;rw[bS (h:=by rfl)];rw[az (env':=[some (.f,.int FC),some (.f,.str GW),none,none,none,none,none,none]) (by simp only[pv,seval,op];rfl)];have hc:cz (aF 0) fL (ay jy (aj (eK bC (ah (av 1) (ah (av 0) aE)))) (aj (aD (.int 26)))) ((List.range 8).map fun(k:Nat)=>D.int (k:Int)) [none,some (.f,.int FC)]=.ok (((List.range 8).map fun(k:Nat)=>yo FC (k:Int)%26).map D.int):=by
  rw[bU (r:=fun k:Nat=>D.int (yo FC (k:Int)%26)) (fun env=>∃t,env=[t,some (.f,.int FC)]) (List.range 8) ?_ _ ⟨none,rfl⟩]
  ·rw[P2];rfl
  ·rintro k hk env ⟨t,rfl⟩;have hk:=PU.mp hk;refine⟨[some (.f,.int (k:Int)),some (.f,.int FC)],rfl,.f,[some (.f,.int (k:Int)),some (.f,.int FC)],?_,_,rfl⟩;simp only[pv,seval,op,yp FC (k:Int) (by lia) (by lia),pU _ 26 (by decide)]
 have ND:((List.range 8).map fun(k:Nat)=>yo FC (k:Int)%26).length=8:=rfl;have Mu:∀j∈((List.range 8).map fun(k:Nat)=>yo FC (k:Int)%26),0<=j/\j<26:=by
  intro j hj;obtain⟨k,_,rfl⟩:=tU hj;exact gr _ _ (by decide)
 generalize ((List.range 8).map fun(k:Nat)=>yo FC (k:Int)%26)=base at hc ND Mu;have hlen:(base.map D.int).length<=sizeLine:=i7 (by rw[bg];lia);have K8:=EU base;rw[az (env':=[some (.f,.int FC),some (.f,.str GW),some (.l .f,.lst (base.map D.int)),none,none,none,none,none]) (by
  generalize (ay jy (aj (eK bC (ah (av 1) (ah (av 0) aE)))) (aj (aD (.int 26))))=GG at hc ⊢;simp only[pv,seval,op];rw[PF (by decide)];simp only[pv,seval,op,show(8:Int).toNat=8 from rfl,hc,hlen,K8])]
 have m8:=gr FC 8 (by decide);obtain⟨wd,ew⟩:=RD (show 0<=1+FC%8 by lia);have msp:=gr (FC / 8) (wd:Int) (by lia);obtain⟨sp,es⟩:=RD msp.1;rw[az (env':=[some (.f,.int FC),some (.f,.str GW),some (.l .f,.lst (base.map D.int)),some (.f,.int (wd:Int)),none,none,none,none]) (by simp only[pv,seval,op,pU _ 8 (by decide),ew])];rw[az (env':=[some (.f,.int FC),some (.f,.str GW),some (.l .f,.lst (base.map D.int)),some (.f,.int (wd:Int)),some (.f,.int (sp:Int)),none,none,none]) (by simp only[pv,seval,op,ym _ 8 (by decide) (by decide),pU _ (wd:Int) (by lia),es])];rw[az (env':=[some (.f,.int FC),some (.f,.str GW),some (.l .f,.lst (base.map D.int)),some (.f,.int (wd:Int)),some (.f,.int (sp:Int)),some (.l .f,.lst []),none,none]) (by simp only[pv,seval,op])];obtain⟨tk,NC⟩:∃tk,(FC / 64%4==1)=tk:=⟨_,rfl⟩
 obtain⟨env',ef,t6,t7,rfl⟩:=kA (a:=aF 6) (g:=b8) (e:=fun k=>D.int (k:Int)) 5 (fun i env=>∃(t6 t7:Option R),env=[some (.f,.int FC),some (.f,.str GW),some (.l .f,.lst (base.map D.int)),some (.f,.int (wd:Int)),some (.f,.int (sp:Int)),some (.l .f,.lst (((List.range i).map (GX base wd sp tk)).map D.str)),t6,t7]) (by
  rintro k env hk ⟨t6,t7,rfl⟩;obtain⟨u7,e⟩:=Bi FC base ND Mu wd sp (by lia) (by lia) tk NC ((List.range k).map (GX base wd sp tk)) (by rw[bg,Pz];lia) k t7;rw[show((List.range k).map (GX base wd sp tk))++[GX base wd sp tk k]=(List.range (k+1)).map (GX base wd sp tk) by rw[Rv,P6];rfl]at e;exact⟨_,rfl,_,e,_,_,rfl⟩) _ ⟨none,none,rfl⟩
 rw[List.range_zero,Ro,Ro]at ef;rw[az (env':=_) (by
  unfold fm;simp only[pv,seval,op];rw[PF (by decide)];simp only[pv,seval,op,show(5:Int).toNat=5 from rfl];exact ef)]
 unfold dZ;have Ji:((List.range 5).map (GX base wd sp tk)).length=5:=by rw[bg,Pz]
 have MJ:((List.range 5).map (GX base wd sp tk)).Nodup:=ej _ 5 fun i j hi hj e=>yt base ND Mu wd sp (by lia) (by lia) tk i j (by lia) (by lia) e
 have O6:∀n∈((List.range 5).map (GX base wd sp tk)),n.length<=8:=by
  intro n hn;obtain⟨k,_,rfl⟩:=tU hn;unfold GX;rw[bg];exact sT base ND wd sp tk k
 generalize ((List.range 5).map (GX base wd sp tk))=l at Ji MJ O6;by_cases hm:[109,111,118,101,115]∈l
 ·have GP:cz (aF 0) fL (ay dU (aj (aD (.str [115]))) (av 0)) (l.map D.str) [none]=.ok ((l.map fun n=>115::n).map D.str):=by
   rw[bU (r:=fun n:List Nat=>D.str (115::n)) (fun env=>∃t,env=[t]) l ?_ _ ⟨none,rfl⟩]
   ·rw[P2];rfl
   ·rintro n hn env ⟨t,rfl⟩;have:=O6 n hn;refine⟨[some (.f,.str n)],rfl,.f,[some (.f,.str n)],?_,_,rfl⟩;simp only[pv,seval,op,Ec [115] n (by rw[Qj];lia)]
  have hzz:((l.map fun n=>115::n).map D.str).length<=sizeLine:=i7 (by rw[bg,bg];lia);have hnd2:(l.map fun n=>115::n).Nodup:=by
   rw[RY,Rx];exact(RY.mp MJ).imp fun{a b} h e=>h (RB e).2
  have Na:=PV.flat_strs (l.map fun n=>115::n);rw[az (env':=[some (.f,.int FC),some (.f,.str GW),some (.l .f,.lst (base.map D.int)),some (.f,.int (wd:Int)),some (.f,.int (sp:Int)),some (.l .f,.lst ((l.map fun n=>115::n).map D.str)),t6,t7]) (by
   generalize (ay dU (aj (aD (.str [115]))) (av 0))=GG at GP ⊢;simp only[pv,seval,op,sS,hm,Vv,GP,hzz,Na])]
  refine⟨cZ Hq (l.map fun n=>115::n),by rw[mf,bg];exact Ji,(dh Hq _).nodup_iff.mpr hnd2,cW mU _,?_⟩;simp only[pv,seval,op,sO (l.map fun n=>115::n) (by rw[bg];lia)]
 ·rw[az (env':=[some (.f,.int FC),some (.f,.str GW),some (.l .f,.lst (base.map D.int)),some (.f,.int (wd:Int)),some (.f,.int (sp:Int)),some (.l .f,.lst (l.map D.str)),t6,t7]) (by simp only[pv,seval,op,sS,hm,decide_false,jq])];refine⟨cZ Hq l,by rw[mf];exact Ji,(dh Hq _).nodup_iff.mpr MJ,cW mU _,?_⟩;simp only[pv,seval,op,sO l (by lia)]
abbrev Pl:=Int×List Int×List Int
def eP(p:Pl):D:=.tup [.int p.1,.tup (p.2.1.map D.int),.tup (p.2.2.map D.int)]
def Jj(p:Pl)(cnt:Nat):Prop:=p.2.1.length=cnt/\p.2.2.length=cnt
def cq(k:Nat):List (Int×Pl)->Option (List Int)
 |[]=>some []
 |z::zs=>if z.1<z.2.2.1.getD k 0 then none else(cq k zs).map fun r=>(z.1-z.2.2.1.getD k 0+z.2.2.2.getD k 0)::r
theorem mq(k:Nat):∀{zs:List (Int×Pl)}{r:List Int},cq k zs=some r->r.length=zs.length
 |[],r,h=>by cases h;rfl
 |z::zs,r,h=>by
  rw[cq]at h;split at h
  ·cases h
  ·rw[P9]at h;obtain⟨r',h1,rfl⟩:=h;rw[PD,PD,mq k h1]
def eN(nY:EI)(ps:List Pl):D:=.tup [.tup (nY.map D.str),.lst (ps.map eP)]
def eM(m:List Int):D:=.tup (m.map D.int)
theorem nu {nY : EI} {m : List Nat} (h : m ∈ nY) : lZ (nY.map D.str) [.str m] = .ok (.f, .int ((nY.idxOf m : Nat) : Int)) := by
  first
    | (unfold lZ
       dsimp only
       rw [dk]
       dsimp only
       rw [PF h])
    | (unfold lZ
       simp only [dk, h, Rg])
theorem kC{α β:Type}(f:α->D)(g:β->D)(xs:List α)(ys:List β):((xs.map f).zip (ys.map g)).map (fun z=>D.tup [z.1,z.2])=(xs.zip ys).map fun z=>D.tup [f z.1,g z.2]:=by
 rw[List.zip_map,P2];rfl
theorem eqDs_ints:∀a b:List Int,gA (a.map D.int) (b.map D.int)=decide (a=b)
 |[],[]=>rfl
 |[],_::_=>rfl
 |_::_,[]=>rfl
 |x::a,y::b=>by
  rw[i6,i6,gA,eqDs_ints a b,Ew,P8];simp
theorem pV(a b:List Int):Ew (eM a) (eM b)=decide (a=b):=by
 unfold eM;rw[Ew,eqDs_ints]
theorem yv(a:List Int):plainD 40 (eM a)=true:=vB a
theorem o4(t:List Int):cX (eM t)=true:=by
 unfold eM;rw[ib,EU]
def Hr(k:Nat)(p:Pl):Int:=p.2.1.getD k 0
def KL(k:Nat)(p:Pl):Int:=p.2.2.getD k 0
def yw(k:Nat)(zs:List (Int×Pl)):Bool:=zs.all fun z=>decide (Hr k z.2<=z.1)
theorem ic(k:Nat):∀zs:List (Int×Pl),cq k zs=if yw k zs then some (zs.map fun z=>z.1-Hr k z.2+KL k z.2) else none
 |[]=>rfl
 |z::zs=>by
  rw[cq,ic k zs];unfold yw;rw[SI];by_cases h:z.1<z.2.2.1.getD k 0
  ·have h2:decide (Hr k z.2<=z.1)=false:=PN (by unfold Hr;lia);rw[PF h,h2,SY,PM Pt]
  ·have h2:decide (Hr k z.2<=z.1)=true:=PR (by unfold Hr;lia);rw[PM h,h2,Bool.true_and];cases(zs.all fun z=>decide (Hr k z.2<=z.1)) with
   |true=>rw[PF rfl,PF rfl];rfl
   |false=>rw[PM Pt,PM Pt];rfl
theorem yx(nY:EI)(ps:List Pl)(hl:ps.length<=100):bx [eN nY ps]=.ok (.f,eM (ps.map (·.1))):=by
 have hc:cz (aF 0) fL (ay EB (av 0) (aj (aD (.int 0)))) (ps.map eP) [none]=.ok ((ps.map (·.1)).map D.int):=by
  rw[P2];refine bU (fun env=>∃t,env=[t]) _ ?_ _ ⟨_,rfl⟩;rintro p _ env ⟨t,rfl⟩;refine⟨[some (.f,eP p)],by simp only[pv,seval],?_⟩;unfold eP;simp only[pv,seval,op,HI];exact⟨_,_,rfl,_,rfl⟩
 have HP:((ps.map (·.1)).map D.int).length<=sizeLine:=line_le (by rw[bg,bg];lia);unfold bx dW eN;rw[bS (h:=by rfl)];simp only[pv,seval,op,Ik,hc,HP,EU];rfl
theorem Bj{p:Pl}{k cnt:Nat}(h:Jj p cnt)(hk:k<cnt):Ft (p.2.1.map D.int) (k:Int)=some (.int (Hr k p)):=fA (by rw[h.1];exact hk)
theorem C0{p:Pl}{k cnt:Nat}(h:Jj p cnt)(hk:k<cnt):Ft (p.2.2.map D.int) (k:Int)=some (.int (KL k p)):=fA (by rw[h.2];exact hk)
theorem vC(nY:EI)(ps:List Pl)(hl:ps.length<=100)(hp:∀p∈ps,Jj p nY.length)(m:List Int)(mv:List Nat)(hm:mv∈nY):eQ [eN nY ps,eM m,.str mv]=.ok (.f,.bl (yw (nY.idxOf mv) (m.zip ps))):=by
 have Gh:=nu hm;have hk:=Rk hm;generalize nY.idxOf mv=k at Gh hk;have hc:cz (kM 2 (aK (aF 0) (aK (aF 1) dP))) fL (ay Jy (av 0) (aj (ay EB (aj (ay EB (av 1) (aj (aD (.int 1))))) (av 2)))) ((m.zip ps).map fun z=>D.tup [.int z.1,eP z.2]) [none,none,some (.f,.int (k:Int))]=.ok (((m.zip ps).map fun z=>decide (Hr k z.2<=z.1)).map D.bl):=by
  rw[P2];refine bU (fun env=>∃t u,env=[t,u,some (.f,.int (k:Int))]) _ ?_ _ ⟨_,_,rfl⟩;rintro⟨x,p⟩ hz env ⟨t,u,rfl⟩;have e1:=Bj (hp p (RO hz).2) hk;refine⟨_,fK _ _ _ _ _,?_⟩;unfold eP;simp only[pv,seval,op,Ik,e1];exact⟨_,_,rfl,_,_,rfl⟩
 have HP:(((m.zip ps).map fun z=>decide (Hr k z.2<=z.1)).map D.bl).length<=sizeLine:=line_le (by rw[bg,bg,RT];lia);unfold eQ oO eN eM;rw[bS (h:=by rfl)];rw[az (env':=[some (.f,.tup [.tup (nY.map D.str),.lst (ps.map eP)]),some (.f,.tup (m.map D.int)),some (.f,.str mv),some (.f,.int (k:Int))]) (by simp only[pv,seval,op,HI,Gh])];simp only[pv,seval,op,Ik,kC,hc,HP,kz,sH];unfold yw;rw[QL];rfl
def eO:Option (List Int)->D
 |none=>.non
 |some r=>eM r
theorem yy(o:Option (List Int)):cX (eO o)=true:=by
 cases o with
 |none=>rfl
 |some r=>exact o4 r
theorem yz(nY:EI)(ps:List Pl)(hl:ps.length<=100)(hp:∀p∈ps,Jj p nY.length)(m:List Int)(mv:List Nat)(hm:mv∈nY):dX [eN nY ps,eM m,.str mv]=.ok (.f,eO (cq (nY.idxOf mv) (m.zip ps))):=by
 have hg:=vC nY ps hl hp m mv hm;have Gh:=nu hm;have hk:=Rk hm;rw[ic];generalize nY.idxOf mv=k at Gh hk hg;have hc:cz (kM 2 (aK (aF 0) (aK (aF 1) dP))) fL (ay dU (aj (ay yO (av 0) (aj (ay EB (aj (ay EB (av 1) (aj (aD (.int 1))))) (av 2))))) (aj (ay EB (aj (ay EB (av 1) (aj (aD (.int 2))))) (av 2)))) ((m.zip ps).map fun z=>D.tup [.int z.1,eP z.2]) [none,none,some (.f,.int (k:Int))]=.ok (((m.zip ps).map fun z=>z.1-Hr k z.2+KL k z.2).map D.int):=by
  rw[P2];refine bU (fun env=>∃t u,env=[t,u,some (.f,.int (k:Int))]) _ ?_ _ ⟨_,_,rfl⟩;rintro⟨x,p⟩ hz env ⟨t,u,rfl⟩;have e1:=Bj (hp p (RO hz).2) hk;have e2:=C0 (hp p (RO hz).2) hk;refine⟨_,fK _ _ _ _ _,?_⟩;unfold eP;simp only[pv,seval,op,Ik,at2,e1,e2];exact⟨_,_,rfl,_,_,rfl⟩
 have HP:(((m.zip ps).map fun z=>z.1-Hr k z.2+KL k z.2).map D.int).length<=sizeLine:=line_le (by rw[bg,bg,RT];lia);unfold dX sk;rw[bS (h:=by rfl)];cases hz:yw k (m.zip ps) with
 |false=>
  rw[hz]at hg;simp only[pv,seval,hg,c8,i5,RL,jq];rfl
 |true=>
  rw[hz]at hg;unfold eN eM at hg ⊢;rw[az (env':=[some (.f,.tup [.tup (nY.map D.str),.lst (ps.map eP)]),some (.f,.tup (m.map D.int)),some (.f,.str mv),none]) (by simp only[pv,seval,hg,c8,i5,Qv,jq])];rw[az (env':=[some (.f,.tup [.tup (nY.map D.str),.lst (ps.map eP)]),some (.f,.tup (m.map D.int)),some (.f,.str mv),some (.f,.int (k:Int))]) (by simp only[pv,seval,op,HI,Gh])];simp only[pv,seval,op,Ik,kC,hc,HP,EU];rfl
def IU(a b:List Int):Bool:=(a.zip b).all fun z=>decide (z.2<=z.1)
theorem vD(a b:List Int)(hl:a.length<=100):dC [eM a,eM b]=.ok (.f,.bl (IU a b)):=by
 have hc:cz (kM 2 (aK (aF 0) (aK (aF 1) dP))) fL (ay Jy (av 0) (av 1)) ((a.zip b).map fun z=>D.tup [.int z.1,.int z.2]) [none,none]=.ok (((a.zip b).map fun z=>decide (z.2<=z.1)).map D.bl):=by
  rw[P2];refine bU (fun env=>∃t u,env=[t,u]) _ ?_ _ ⟨_,_,rfl⟩;rintro⟨x,y⟩ hz env ⟨t,u,rfl⟩;refine⟨_,fK _ _ _ _ _,?_⟩;simp only[pv,seval,op];exact⟨_,_,rfl,_,_,rfl⟩
 have HP:(((a.zip b).map fun z=>decide (z.2<=z.1)).map D.bl).length<=sizeLine:=line_le (by rw[bg,bg,RT];lia);unfold dC oQ eM;rw[bS (h:=by rfl)];simp only[pv,seval,op,kC,hc,HP,kz,sH];unfold IU;rw[QL];rfl
abbrev Me:=List Int×EI×Option Nat
def gG(nY:EI)(ps:List Pl)(d:Nat)(mk:List Int)(wy:EI)(L:List Me)(mv:List Nat):List Me:=match cq (nY.idxOf mv) (mk.zip ps) with
 |none=>L
 |some r=>if r∈L.map (·.1) then L else L++[(r,wy++[mv],some d)]
def gH(nY:EI)(ps:List Pl)(d:Nat)(L:List Me):List Me:=match L[d]? with
 |none=>L
 |some e=>nY.foldl (gG nY ps d e.1 e.2.1) L
def Ha(nY:EI)(ps:List Pl):Nat->Nat->List Me->List Me
 | 0,_,L=>L
 |f+1,d,L=>if d<L.length/\L.length<=12 then Ha nY ps f (d+1) (gH nY ps d L) else L
structure Ex(nY:EI)(ps:List Pl)(L:List Me):Prop where
 nd:(L.map (·.1)).Nodup
 z:L[0]?=some (ps.map (·.1),[],none)
 ln:∀e∈L,e.1.length=ps.length
 up:∀i e,L[i]?=some e->0<i->∃a ea mv,e.2.2=some a/\a<i/\L[a]?=some ea/\e.2.1=ea.2.1++[mv]/\cq (nY.idxOf mv) (ea.1.zip ps)=some e.1
theorem Ex.zero(nY:EI)(ps:List Pl):Ex nY ps [(ps.map (·.1),[],none)]:=by
 refine⟨by simp,rfl,fun e he=>?_,fun i e he hi=>?_⟩
 ·rw[Be he];exact bg _
 ·obtain⟨n,rfl⟩:∃n,i=n+1:=⟨i-1,by lia⟩
  rw[List.getElem?_cons_succ]at he;cases he
theorem Ex.add{nY:EI}{ps:List Pl}{L:List Me}(x:Ex nY ps L){d:Nat}{e0:Me}(hd:L[d]?=some e0)(mv:List Nat):Ex nY ps (gG nY ps d e0.1 e0.2.1 L mv)/\∃l,gG nY ps d e0.1 e0.2.1 L mv=L++l/\l.length<=1:=by
 unfold gG;cases hf:cq (nY.idxOf mv) (e0.1.zip ps) with
 |none=>exact⟨x,[],(P5 _).symm,by simp⟩
 |some r=>
  dsimp only;by_cases h:r∈L.map (·.1)
  ·rw[PF h];exact⟨x,[],(P5 _).symm,by simp⟩
  ·rw[PM h];have Kn:=(nq hd).1;refine⟨⟨?_,?_,fun e he=>?_,fun i e he hi=>?_⟩,_,rfl,Py _⟩
   ·rw[P6];refine Qq.mpr ⟨x.nd,by simp,fun a ha b hb=>?_⟩;rw[Be hb];rintro rfl;exact h ha
   ·rw[List.getElem?_append_left (by lia)];exact x.z
   ·rcases Ea he with he|he
    ·exact x.ln e he
    ·rw[Be he];have:=mq _ hf;rw[this,RT,x.ln e0 (Qf hd)];lia
   ·by_cases Kz:i<L.length
    ·rw[List.getElem?_append_left Kz]at he;obtain⟨a,ea,m,h1,h2,h3,h4⟩:=x.up i e he hi;exact⟨a,ea,m,h1,h2,by rw[List.getElem?_append_left (by lia)];exact h3,h4⟩
    ·rw[List.getElem?_append_right (by lia)]at he;have NF:i-L.length=0:=by
      have:=(nq he).1;rw[Qj]at this;lia
     rw[NF]at he;cases he;exact⟨d,e0,mv,rfl,by lia,by rw[List.getElem?_append_left Kn];exact hd,rfl,hf⟩
theorem Ex.fold{nY:EI}{ps:List Pl}{d:Nat}{e0:Me}:∀(l:EI) {L:List Me},Ex nY ps L->L[d]?=some e0->Ex nY ps (l.foldl (gG nY ps d e0.1 e0.2.1) L)/\∃m,l.foldl (gG nY ps d e0.1 e0.2.1) L=L++m/\m.length<=l.length
 |[],L,x,_=>⟨x,[],(P5 _).symm,Py _⟩
 |mv::l,L,x,hd=>by
  obtain⟨x1,l1,e1,h1⟩:=x.add hd mv;have Kn:=(nq hd).1;obtain⟨x2,l2,e2,h2⟩:=Ex.fold l x1 (d:=d) (e0:=e0) (by rw[e1,List.getElem?_append_left Kn];exact hd);refine⟨x2,l1++l2,?_,by rw[p8,PD];lia⟩;rw[QF,e2,e1,Qp]
theorem Ex.wl{nY:EI}{ps:List Pl}{L:List Me}(x:Ex nY ps L):∀(i:Nat) (e:Me),L[i]?=some e->e.2.1.length<=i:=by
 intro i;induction i using Nat.strongRecOn with
 |ind i ih=>
  intro e he;by_cases h0:i=0
  ·subst h0;rw[x.z]at he;cases he;exact Py _
  ·obtain⟨a,ea,mv,_,h2,h3,h4,_⟩:=x.up i e he (by lia);have:=ih a h2 ea h3;rw[h4,p8,Qj];lia
theorem Ex.inj{nY:EI}{ps:List Pl}{L:List Me}(x:Ex nY ps L):∀(i j:Nat) (e e':Me),L[i]?=some e->L[j]?=some e'->e.2.1=e'.2.1->i=j:=by
 intro i;induction i using Nat.strongRecOn with
 |ind i ih=>
  intro j e e' he Nc hw;by_cases h0:i=0
  ·subst h0;rw[x.z]at he;cases he;by_cases hj:j=0
   ·exact hj.symm
   ·obtain⟨a,ea,mv,_,_,_,h4,_⟩:=x.up j e' Nc (by lia);rw[h4]at hw;have:=Qt List.length hw;rw[p8,Qj]at this;simp at this
  ·obtain⟨a,ea,mv,_,h2,h3,h4,h5⟩:=x.up i e he (by lia);by_cases hj:j=0
   ·subst hj;rw[x.z]at Nc;cases Nc;rw[h4]at hw;have:=Qt List.length hw;rw[p8,Qj]at this;simp at this
   ·obtain⟨a',ea',mv',_,LV,Ov,h4',O7⟩:=x.up j e' Nc (by lia);rw[h4,h4']at hw;obtain⟨Iz,IX⟩:=List.append_inj' hw rfl;have ha:=ih a h2 a' ea ea' h3 Ov Iz;subst ha;rw[h3]at Ov;cases Ov;cases IX;rw[h5]at O7;have hm:e.1=e'.1:=PZ O7;have q1:(L.map (·.1))[i]?=some e.1:=by rw[List.getElem?_map,he];rfl
    have q2:(L.map (·.1))[j]?=some e.1:=by rw[List.getElem?_map,Nc,hm];rfl
    obtain⟨l1,p1⟩:=nq q1;obtain⟨l2,p2⟩:=nq q2;exact(Tn x.nd).mp (p1.trans p2.symm)
def IB:Option Nat->D
 |none=>.non
 |some n=>.int (n:Int)
def Mb(w:EI):D:=.tup (w.map D.str)
def E1(e:Me):D:=.tup [eM e.1,Mb e.2.1,IB e.2.2]
theorem Bk:∀r:List Int,cB (r.map D.int)=some (r.map Sum.inl)
 |[]=>rfl
 |x::r=>by
  rw[i6,cB,Bk r];rfl
theorem yA(r:List Int):cG true (eM r)=true:=by
 unfold cG eM;rw[PF rfl];show(cB (r.map D.int)).isSome=true;rw[Bk];rfl
theorem O8(r:List Int):∀(ms:List (List Int)) (vs:List D),vs.length=ms.length->(PV.getD (ms.map eM) vs (eM r)).isSome=decide (r∈ms)
 |[],vs,_=>by
  unfold PV.getD;rw[Ro,Ta];rfl
 |m::ms,[],h=>by cases h
 |m::ms,v::vs,h=>by
  have ih:=O8 r ms vs (by simpa using h);unfold PV.getD at ih ⊢;rw[i6,Qu];by_cases e:r=m
  ·rw[List.find?_cons_of_pos (by show Ew (eM r) (eM m)=true;rw[pV];exact PR e)];rw[PR (by rw[e];exact Pq)];rfl
  ·rw[List.find?_cons_of_neg (by show ¬ Ew (eM r) (eM m)=true;rw[pV,PQ];exact e),ih,P8,PQ,PQ,PJ];exact⟨.inr,fun z=>z.resolve_left e⟩
theorem Eh(r:List Int)(ms:List (List Int))(vs:List D)(d:D)(h:r∉ms):pQ (ms.map eM) vs (eM r) d=((ms++[r]).map eM,vs++[d]):=by
 have e:(ms.map eM).any (Ew (eM r))=false:=by
  rw[SW,List.any_eq_false];intro m hm;show ¬ Ew (eM r) (eM m)=true;rw[pV,PQ];rintro rfl;exact h hm
 unfold pQ;rw[e,PM Pt,P6];rfl
theorem wz(o:Option (List Int)):tP (eO o) .non=.ok (.f,.bl o.isSome):=by cases o <;> rfl
theorem pW{L:List Me}{d:Nat}{e:Me}(h:L[d]?=some e):Ft (L.map E1) (d:Int)=some (E1 e):=dN (by rw[List.getElem?_map,h];rfl)
theorem Ei(w:EI)(mv:List Nat)(h:w.length<=1000):dU (.tup (w.map D.str)) (.tup [.str mv])=.ok (.f,.tup ((w++[mv]).map D.str)):=by
 rw[yk,PF (.inl (line_le (by rw[bg,Qj];lia))),P6];rfl
def rv(n:Nat):List D:=(List.range n).map fun(k:Nat)=>D.int (k:Int)
theorem yB(n:Nat):rv (n+1)=rv n++[.int (n:Int)]:=by
 unfold rv;rw[Rv,P6];rfl
theorem Bl(n:Nat):(rv n).length=n:=by
 unfold rv;rw[bg,Pz]
def pos(ms:List (List Int))(r:List Int):Nat:=ms.findIdx fun x=>decide (x=r)
theorem O9(r:List Int):∀(ms:List (List Int)) (o:Nat),r∈ms->PV.getD (ms.map eM) ((List.range' o ms.length).map fun(k:Nat)=>D.int (k:Int)) (eM r)=some (.int ((o+pos ms r:Nat):Int))
 |m::ms,o,h=>by
  unfold PV.getD pos;rw[PD,Sw,i6,i6,Qu,RW];by_cases e:m=r
  ·subst e;rw[List.find?_cons_of_pos (by show Ew (eM m) (eM m)=true;rw[pV,PR rfl]),PR rfl];rfl
  ·have h2:r∈ms:=(PJ.mp h).resolve_left fun z=>e z.symm
   have ih:=O9 r ms (o+1) h2;unfold PV.getD pos at ih;rw[List.find?_cons_of_neg (by show ¬ Ew (eM r) (eM m)=true;rw[pV,PQ];exact fun z=>e z.symm),ih,PN e];show some (D.int ((o+1+_:Nat):Int))=some (D.int ((o+(_+1):Nat):Int));rw[show ∀a:Nat,o+1+a=o+(a+1) from fun a=>by lia]
theorem Pa(r:List Int)(ms:List (List Int))(n:Nat)(hn:n=ms.length)(h:r∈ms):PV.getD (ms.map eM) (rv n) (eM r)=some (.int (pos ms r:Int)):=by
 have:=O9 r ms 0 h;rw[Q8,<-Ud,<-hn]at this;exact this
theorem nv(r:List Int):∀ms:List (List Int),r∉ms->pos ms r=ms.length/\pos (ms++[r]) r=ms.length
 |[],_=>⟨rfl,by unfold pos;simp⟩
 |m::ms,h=>by
  rw[PJ,not_or]at h;obtain⟨h1,h2⟩:=nv r ms h.2;have e:decide (m=r)=false:=PN fun z=>h.1 z.symm
  unfold pos at h1 h2 ⊢;rw[Ts,RW,RW,e,h1,h2];exact⟨rfl,rfl⟩
abbrev Fd:=Int×List Nat×Int
def eA(a:Fd):D:=.tup [.int a.1,.str a.2.1,.int a.2.2]
def eV(nY:EI)(ps:List Pl)(d:Nat)(mk:List Int)(L:List Me)(mv:List Nat):List Fd:=match cq (nY.idxOf mv) (mk.zip ps) with
 |none=>[]
 |some r=>[((d:Int),mv,(pos (L.map (·.1)) r:Int))]
theorem Ej(nY:EI)(ps:List Pl)(hl:ps.length<=100)(hp:∀p∈ps,Jj p nY.length)(L:List Me)(hL:L.length<=1000)(x:Ex nY ps L)(d:Nat)(e0:Me)(hd:L[d]?=some e0)(ar:List Fd)(ha:ar.length<=10000)(mv:List Nat)(hm:mv∈nY)(t7:Option R):
  ∃(Ko:Option R),
   cI [some (.f,eN nY ps),some (.l .f,.lst (L.map E1)),some (.d,.dct true ((L.map (·.1)).map eM) (rv L.length)),some (.l .f,.lst (ar.map eA)),some (.f,.int (d:Int)),some (.f,eM e0.1),some (.f,.str mv),t7] =
   .ok (.nx [some (.f,eN nY ps),some (.l .f,.lst ((gG nY ps d e0.1 e0.2.1 L mv).map E1)),some (.d,.dct true (((gG nY ps d e0.1 e0.2.1 L mv).map (·.1)).map eM) (rv (gG nY ps d e0.1 e0.2.1 L mv).length)),some (.l .f,.lst ((ar++eV nY ps d e0.1 L mv).map eA)),some (.f,.int (d:Int)),some (.f,eM e0.1),some (.f,.str mv),Ko]):=by
 have Mc:=yz nY ps hl hp e0.1 mv hm;have Nn:=x.wl d e0 hd;have Kn:=(nq hd).1;have GV:=pW hd;have hlm:(L.map E1).length<sizeLine:=nr (by rw[bg];lia);have hla:(ar.map eA).length<sizeLine:=nr (by rw[bg];lia);have Ou:(L.map (·.1)).length=L.length:=bg _;have hlk:((L.map (·.1)).map eM).length<sizeLine:=nr (by rw[bg,bg];lia);unfold cI gG eV;cases hf:cq (nY.idxOf mv) (e0.1.zip ps) with
 |none=>
  rw[hf]at Mc;have hi:=wz none;refine⟨some (.f,eO none),?_⟩;rw[P5];rw[az (env':=[some (.f,eN nY ps),some (.l .f,.lst (L.map E1)),some (.d,.dct true ((L.map (·.1)).map eM) (rv L.length)),some (.l .f,.lst (ar.map eA)),some (.f,.int (d:Int)),some (.f,eM e0.1),some (.f,.str mv),some (.f,eO none)]) (by simp only[pv,seval,Mc,c8,yy])];simp only[pv,seval,hi,SX,jq]
 |some r=>
  rw[hf]at Mc;have hi:tP (eM r) .non=.ok (.f,.bl true):=wz (some r);have Mc:dX [eN nY ps,eM e0.1,.str mv]=.ok (.f,eM r):=Mc;have hg:=O8 r (L.map (·.1)) (rv L.length) (by rw[bg,Bl]);dsimp only;rw[show ∀t:FS,sSeq (cx 7 (eK dX (ah (av 0) (ah (av 5) (ah (av 6) aE))))) t [some (.f,eN nY ps),some (.l .f,.lst (L.map E1)),some (.d,.dct true ((L.map (·.1)).map eM) (rv L.length)),some (.l .f,.lst (ar.map eA)),some (.f,.int (d:Int)),some (.f,eM e0.1),some (.f,.str mv),t7]=t [some (.f,eN nY ps),some (.l .f,.lst (L.map E1)),some (.d,.dct true ((L.map (·.1)).map eM) (rv L.length)),some (.l .f,.lst (ar.map eA)),some (.f,.int (d:Int)),some (.f,eM e0.1),some (.f,.str mv),some (.f,eM r)] from fun t=>az (by simp only[pv,seval,Mc,c8,o4])];by_cases h:r∈L.map (·.1)
  ·rw[PF h];rw[PR h]at hg;have L9:=Pa r (L.map (·.1)) L.length Ou.symm h;have hn:vg (eM r) (.dct true ((L.map (·.1)).map eM) (rv L.length))=.ok (.f,.bl false):=by
    unfold vg;dsimp only;rw[yA,PF rfl,hg];rfl
   have Ow:Lk (.dct true ((L.map (·.1)).map eM) (rv L.length)) (eM r)=.ok (.f,.int (pos (L.map (·.1)) r:Int)):=by
    unfold Lk;dsimp only;rw[yA,PF rfl,L9]
   refine⟨some (.f,eM r),?_⟩;rw[P6];simp only[pv,seval,hi,hn,Ow,hla,jq];rfl
  ·rw[PM h];rw[PN h]at hg;have hn:vg (eM r) (.dct true ((L.map (·.1)).map eM) (rv L.length))=.ok (.f,.bl true):=by
    unfold vg;dsimp only;rw[yA,PF rfl,hg];rfl
   have Md:=Eh r (L.map (·.1)) (rv L.length) (.int (L.length:Int)) h;rw[<-yB]at Md;obtain⟨pn1,pn2⟩:=nv r (L.map (·.1)) h;have L9:=Pa r (L.map (·.1)++[r]) (L.length+1) (by rw[p8,Ou];rfl) (PB _ Pq);rw[pn2]at L9;have Ow:Lk (.dct true ((L.map (·.1)++[r]).map eM) (rv (L.length+1))) (eM r)=.ok (.f,.int ((L.map (·.1)).length:Int)):=by
    unfold Lk;dsimp only;rw[yA,PF rfl,L9]
   have hw:=Ei e0.2.1 mv (by lia);refine⟨some (.f,eM r),?_⟩;rw[pn1,P6,P6 (f:=fun e:Me=>e.1),@List.length_append _ L _,P6 (f:=eA)];show _=Res.ok (Out.nx [_,_,some (O.d,D.dct true _ (rv (L.length+1))),_,_,_,_,_]);unfold E1 Mb at GV ⊢;have hlL:L.length<sizeLine:=nr (by lia);have hla2:ar.length<sizeLine:=nr (by lia);simp only[pv,seval,op,hi,hn,yA,hlL,Vv,SH,bg,Md,GV,Ik,hw,Ow,hla2];rfl
def dE(nY:EI)(ps:List Pl)(d:Nat)(mk:List Int)(wy:EI)(s:List Me×List Fd)(mv:List Nat):List Me×List Fd:=(gG nY ps d mk wy s.1 mv,s.2++eV nY ps d mk s.1 mv)
theorem ja(nY:EI)(ps:List Pl)(d:Nat)(mk:List Int)(wy:EI):∀(l:EI) (s:List Me×List Fd),(l.foldl (dE nY ps d mk wy) s).1=l.foldl (gG nY ps d mk wy) s.1
 |[],_=>rfl
 |m::l,s=>by rw[QF,QF,ja nY ps d mk wy l];rfl
theorem jb(nY:EI)(ps:List Pl)(d:Nat)(mk:List Int)(wy:EI):∀(l:EI) (s:List Me×List Fd),(l.foldl (dE nY ps d mk wy) s).2.length<=s.2.length+l.length
 |[],_=>Py _
 |m::l,s=>by
  have:=jb nY ps d mk wy l (dE nY ps d mk wy s m);have h2:(dE nY ps d mk wy s m).2.length<=s.2.length+1:=by
   unfold dE eV;dsimp only;rw[p8];split <;> simp
  rw[QF,PD];lia
def cT(nY:EI)(ps:List Pl)(d:Nat)(s:List Me×List Fd):List Me×List Fd:=match s.1[d]? with
 |none=>s
 |some e=>nY.foldl (dE nY ps d e.1 e.2.1) s
theorem jd(nY:EI)(ps:List Pl)(d:Nat)(s:List Me×List Fd):(cT nY ps d s).1=gH nY ps d s.1:=by
 unfold cT gH;cases s.1[d]? with
 |none=>rfl
 |some e=>exact ja nY ps d e.1 e.2.1 nY s
theorem Bm(nY:EI)(hn:nY.length<=10)(ps:List Pl)(hl:ps.length<=100)(hp:∀p∈ps,Jj p nY.length)(s0:List Me×List Fd)(hL:s0.1.length<=100)(x:Ex nY ps s0.1)(d:Nat)(e0:Me)(hd:s0.1[d]?=some e0)(ha:s0.2.length<=1000)(t6 t7:Option R):
  ∃(LK Ko:Option R),dY [some (.f,eN nY ps),some (.l .f,.lst (s0.1.map E1)),some (.d,.dct true ((s0.1.map (·.1)).map eM) (rv s0.1.length)),some (.l .f,.lst (s0.2.map eA)),some (.f,.int (d:Int)),some (.f,eM e0.1),t6,t7] =
   .ok (.nx [some (.f,eN nY ps),some (.l .f,.lst ((cT nY ps d s0).1.map E1)),some (.d,.dct true (((cT nY ps d s0).1.map (·.1)).map eM) (rv (cT nY ps d s0).1.length)),some (.l .f,.lst ((cT nY ps d s0).2.map eA)),some (.f,.int (d:Int)),some (.f,eM e0.1),LK,Ko]):=by
 have Kn:=(nq hd).1;obtain⟨env',hf,s,LK,Ko,hs,rfl⟩:=for_list (a:=aF 6) (g:=cI) (e:=D.str) nY (fun j env=>∃(s:List Me×List Fd) (t6 t7:Option R),s=(nY.take j).foldl (dE nY ps d e0.1 e0.2.1) s0/\env=[some (.f,eN nY ps),some (.l .f,.lst (s.1.map E1)),some (.d,.dct true ((s.1.map (·.1)).map eM) (rv s.1.length)),some (.l .f,.lst (s.2.map eA)),some (.f,.int (d:Int)),some (.f,eM e0.1),t6,t7]) (by
  rintro j mv env hj ⟨s,t6,t7,hs,rfl⟩;obtain⟨hj1,hj2⟩:=nq hj;obtain⟨x1,m,em,lm⟩:=Ex.fold (d:=d) (e0:=e0) (nY.take j) x hd;have hm:mv∈nY:=Qf hj;have f1:=ja nY ps d e0.1 e0.2.1 (nY.take j) s0;have f2:=jb nY ps d e0.1 e0.2.1 (nY.take j) s0;rw[<-hs]at f1 f2;rw[<-f1]at x1 em;rw[Qe]at lm f2;have hd1:s.1[d]?=some e0:=by
   rw[em,List.getElem?_append_left Kn];exact hd
  obtain⟨t72,r3⟩:=Ej nY ps hl hp s.1 (by rw[em,p8];lia) x1 d e0 hd1 s.2 (by lia) mv hm t7;refine⟨[some (.f,eN nY ps),some (.l .f,.lst (s.1.map E1)),some (.d,.dct true ((s.1.map (·.1)).map eM) (rv s.1.length)),some (.l .f,.lst (s.2.map eA)),some (.f,.int (d:Int)),some (.f,eM e0.1),some (.f,.str mv),t7],by simp only[pv,seval],_,r3,dE nY ps d e0.1 e0.2.1 s mv,_,t72,?_,rfl⟩;rw[Sj hj1,List.foldl_append,hj2,<-hs];rfl) [some (.f,eN nY ps),some (.l .f,.lst (s0.1.map E1)),some (.d,.dct true ((s0.1.map (·.1)).map eM) (rv s0.1.length)),some (.l .f,.lst (s0.2.map eA)),some (.f,.int (d:Int)),some (.f,eM e0.1),t6,t7] ⟨s0,t6,t7,rfl,rfl⟩
 have es:cT nY ps d s0=s:=by
  unfold cT;rw[hd,hs,List.take_length]
 rw[es];refine⟨LK,Ko,?_⟩;unfold dY;rw[HZ,<-hf];unfold eN;simp only[pv,seval,op,HI]
theorem vE(env:PV.Env)(f g:FX):rZ f g env=Res.bnd (f env) (f:=⟨fun p=>Res.bnd (g p.2) (f:=⟨fun q=>if cG true p.1.2 then .ok ((.d,.dct true [p.1.2] [q.1.2]),q.2) else .bad⟩)⟩):=id rfl
def L0(ps:List Pl):List Me:=[(ps.map (·.1),[],none)]
theorem ie(nY:EI)(ps:List Pl){L:List Me}(x:Ex nY ps L)(d:Nat)(hd:d<L.length):Ex nY ps (gH nY ps d L)/\(gH nY ps d L).length<=L.length+nY.length:=by
 have e:L[d]?=some L[d]:=sN hd;unfold gH;rw[e];obtain⟨x1,m,em,lm⟩:=Ex.fold (d:=d) (e0:=L[d]) nY x e;refine⟨x1,?_⟩;dsimp only;rw[em,p8];lia
theorem sU(nY:EI)(ps:List Pl):∀(f d:Nat) {L:List Me},Ex nY ps L->Ex nY ps (Ha nY ps f d L)
 | 0,_,_,x=>x
 |f+1,d,L,x=>by
  rw[Ha];split
  ·rename_i h;exact sU nY ps f (d+1) (ie nY ps x d h.1).1
  ·exact x
def Hs(nY:EI)(ps:List Pl):Nat->Nat->List Me×List Fd->List Me×List Fd
 | 0,_,s=>s
 |f+1,d,s=>if d<s.1.length/\s.1.length<=12 then Hs nY ps f (d+1) (cT nY ps d s) else s
theorem kF(nY:EI)(ps:List Pl):∀(f d:Nat) (s:List Me×List Fd),(Hs nY ps f d s).1=Ha nY ps f d s.1
 | 0,_,_=>rfl
 |f+1,d,s=>by
  rw[Hs,Ha];split
  ·rw[kF nY ps f,jd]
  ·rfl
def M0(ps:List Pl):List Me×List Fd:=(L0 ps,[])
theorem pX(nY:EI)(ps:List Pl)(d:Nat)(s:List Me×List Fd):(cT nY ps d s).2.length<=s.2.length+nY.length:=by
 unfold cT;split
 ·lia
 ·exact jb nY ps d _ _ nY s
theorem je(nY:EI)(hn:nY.length<=10)(ps:List Pl)(hl:ps.length<=100)(hp:∀p∈ps,Jj p nY.length):aV [eN nY ps]=.ok (.f,.tup [.lst ((Hs nY ps 13 0 (M0 ps)).1.map E1),.lst ((Hs nY ps 13 0 (M0 ps)).2.map eA)]):=by
 have Nv:=yx nY ps hl;have fM:=o4 (ps.map (·.1));generalize hG:Hs nY ps 13 0 (M0 ps)=G;obtain⟨env',hw,d,t5,t6,t7,rfl⟩:=i9 (c:=E7 (fU IZ Jx (av 4) (aj (bz iU (ah (av 1) aE))) (aj (aD (.int 12))))) (g:=dB) (fun k env=>∃(s:List Me×List Fd) (d:Nat) (t5 t6 t7:Option R),d+k=13/\Ex nY ps s.1/\s.1.length<=30/\s.2.length<=10*d/\Hs nY ps k d s=G/\
   env=[some (.f,eN nY ps),some (.l .f,.lst (s.1.map E1)),some (.d,.dct true ((s.1.map (·.1)).map eM) (rv s.1.length)),some (.l .f,.lst (s.2.map eA)),some (.f,.int (d:Int)),t5,t6,t7])
  (fun env=>∃(d:Nat) (t5 t6 t7:Option R),env=[some (.f,eN nY ps),some (.l .f,.lst (G.1.map E1)),some (.d,.dct true ((G.1.map (·.1)).map eM) (rv G.1.length)),some (.l .f,.lst (G.2.map eA)),some (.f,.int (d:Int)),t5,t6,t7]) (by
   rintro k env ⟨s,d,t5,t6,t7,hk,x,hL,ha,hg,rfl⟩;by_cases h:d<s.1.length/\s.1.length<=12
   ·obtain⟨k',rfl⟩:∃k',k=k'+1:=⟨k-1,by lia⟩
    rw[Hs,PF h]at hg;have hd:s.1[d]?=some s.1[d]:=sN h.1;obtain⟨x1,l1⟩:=ie nY ps x d h.1;have la:=pX nY ps d s;rw[<-jd]at x1 l1;have c1:decide ((d:Int)<(s.1.length:Int))=true:=PR (by lia);have c2:decide ((s.1.length:Int)<=12)=true:=PR (by lia);generalize s.1[d]=e0 at hd;have GV:=pW hd;obtain⟨LK,Ko,r3⟩:=Bm nY hn ps hl hp s (by lia) x d e0 hd (by lia) t6 t7;refine .inr ⟨[some (.f,eN nY ps),some (.l .f,.lst (s.1.map E1)),some (.d,.dct true ((s.1.map (·.1)).map eM) (rv s.1.length)),some (.l .f,.lst (s.2.map eA)),some (.f,.int (d:Int)),t5,t6,t7],?_,[some (.f,eN nY ps),some (.l .f,.lst ((cT nY ps d s).1.map E1)),some (.d,.dct true (((cT nY ps d s).1.map (·.1)).map eM) (rv (cT nY ps d s).1.length)),some (.l .f,.lst ((cT nY ps d s).2.map eA)),some (.f,.int ((d+1:Nat):Int)),some (.f,eM e0.1),LK,Ko],k',?_,QQ _,cT nY ps d s,d+1,_,_,_,by lia,x1,by lia,by lia,hg,rfl⟩
    ·simp only[pv,seval,op,bg,c1,c2]
    ·unfold dB;rw[az (env':=[some (.f,eN nY ps),some (.l .f,.lst (s.1.map E1)),some (.d,.dct true ((s.1.map (·.1)).map eM) (rv s.1.length)),some (.l .f,.lst (s.2.map eA)),some (.f,.int (d:Int)),some (.f,eM e0.1),t6,t7]) (by
      unfold E1 at GV ⊢;simp only[pv,seval,op,GV,HI])]
     rw[az r3];unfold gf;simp only[pv,seval,op];rfl
   ·left;have hgL:s=G:=by
     cases k with
     |zero=>exact hg
     |succ k=>rw[Hs,PM h]at hg;exact hg
    subst hgL;refine⟨_,?_,d,t5,t6,t7,rfl⟩;by_cases h1:d<s.1.length
    ·have c1:decide ((d:Int)<(s.1.length:Int))=true:=PR (by lia);have c2:decide ((s.1.length:Int)<=12)=false:=PN (by lia);simp only[pv,seval,op,bg,c1,c2]
    ·have c1:decide ((d:Int)<(s.1.length:Int))=false:=PN (by lia);simp only[pv,seval,op,bg,c1]) 100000 13 [some (.f,eN nY ps),some (.l .f,.lst ((L0 ps).map E1)),some (.d,.dct true (((L0 ps).map (·.1)).map eM) [.int 0]),some (.l .f,.lst []),some (.f,.int ((0:Nat):Int)),none,none,none] (by decide) ⟨M0 ps,0,none,none,none,rfl,Ex.zero nY ps,(by decide:1<=30),Qg _,hG,rfl⟩
 unfold aV jB;rw[bS (h:=by rfl)];rw[az (env':=[some (.f,eN nY ps),some (.l .f,.lst ((L0 ps).map E1)),none,none,none,none,none,none]) (by
  simp only[pv,seval,Nv,c8,fM];rfl)]
 rw[az (env':=[some (.f,eN nY ps),some (.l .f,.lst ((L0 ps).map E1)),some (.d,.dct true (((L0 ps).map (·.1)).map eM) [.int 0]),none,none,none,none,none]) (by
  unfold L0 E1;simp only[pv,seval,op,vE,HI,yA])]
 rw[az (env':=[some (.f,eN nY ps),some (.l .f,.lst ((L0 ps).map E1)),some (.d,.dct true (((L0 ps).map (·.1)).map eM) [.int 0]),some (.l .f,.lst []),none,none,none,none]) (by simp only[pv,seval])];rw[az (env':=[some (.f,eN nY ps),some (.l .f,.lst ((L0 ps).map E1)),some (.d,.dct true (((L0 ps).map (·.1)).map eM) [.int 0]),some (.l .f,.lst []),some (.f,.int ((0:Nat):Int)),none,none,none]) (by simp only[pv,seval])];unfold gN gj;rw[az hw];simp only[pv,seval]
theorem pY(nY:EI)(hn:nY.length<=10)(ps:List Pl)(hl:ps.length<=100)(hp:∀p∈ps,Jj p nY.length):∃ar:List D,aV [eN nY ps]=.ok (.f,.tup [.lst ((Ha nY ps 13 0 (L0 ps)).map E1),.lst ar]):=by
 have h:=je nY hn ps hl hp;rw[kF]at h;exact⟨_,h⟩
theorem sV{a:FG}{g:FS}(P:Nat->PV.Env->Prop)(r:Nat->Option R)(ds:List D)(h:∀i d env,ds[i]?=some d->P i env->∃Eo,a d env=.ok Eo/\((r i=none/\∃Ey,g Eo=.ok (.nx Ey)/\P (i+1) Ey)\/∃v,r i=some v/\g Eo=.ok (.rt v))):
  ∀env,P 0 env->((List.range ds.length).findSome? r=none/\∃env',jo a g ds env=.ok (.nx env')/\P ds.length env')\/∃v,(List.range ds.length).findSome? r=some v/\jo a g ds env=.ok (.rt v):=by
 have key:∀(l:List D) (k:Nat) (env:PV.Env),(∀i d,l[i]?=some d->ds[k+i]?=some d)->P k env->((List.range' k l.length).findSome? r=none/\∃env',jo a g l env=.ok (.nx env')/\P (k+l.length) env')\/∃v,(List.range' k l.length).findSome? r=some v/\jo a g l env=.ok (.rt v):=by
  intro l;induction l with
  |nil=>exact fun k env _ hp=>.inl ⟨rfl,env,rfl,hp⟩
  |cons d l ih=>
   intro k env hd hp;obtain⟨Eo,h1,h2⟩:=h k d env (hd 0 d rfl) hp;rw[PD,Sw,List.findSome?_cons];rcases h2 with⟨h2,Ey,h3,h4⟩|⟨v,h2,h3⟩
   ·rw[h2];dsimp only;have:=ih (k+1) Ey (fun i d e=>by have:=hd (i+1) d (by simpa using e);rw[show k+1+i=k+(i+1) by lia];exact this) h4;rw[ni,h1,FA,h3,FA,show k+(l.length+1)=k+1+l.length by lia];exact this
   ·rw[h2];dsimp only;refine .inr ⟨v,rfl,?_⟩;rw[ni,h1,FA,h3,FA]
 intro env hp;have:=key ds 0 env (fun i d e=>by rw[Q8];exact e) hp;rw[Q8,<-Ud]at this;exact this
def p9(L:List Me)(mk:List Int):Nat->Option Nat->Option Nat
 |_,none=>none
 | 0,some _=>none
 |f+1,some a=>match L[a]? with
  |some e=>if IU mk e.1 then some a else p9 L mk f e.2.2
  |none=>none
def Pb(w v:EI):D:=.tup [.str [103,114,111,119,115],Mb w,Mb v]
def Mf(L:List Me)(k:Nat):Option R:=match L[k]? with
 |some e=>(match p9 L e.1 k e.2.2 with
  |some a=>(match L[a]? with
   |some ea=>some (.f,Pb ea.2.1 (e.2.1.drop ea.2.1.length))
   |none=>none)
  |none=>none)
 |none=>none
theorem wA(o:Option Nat):tP (IB o) .non=.ok (.f,.bl o.isSome):=by cases o <;> rfl
theorem sW{nY:EI}{ps:List Pl}(hl:ps.length<=100){L:List Me}(hL:L.length<=100)(x:Ex nY ps L){k:Nat}{e:Me}(hk:L[k]?=some e):aO [.lst (L.map E1),.int (k:Int)]=.ok (.f,IB (p9 L e.1 k e.2.2)):=by
 have hkl:=(nq hk).1;have GV:=pW hk;have hln:=x.ln e (Qf hk);have Pc:∀a,e.2.2=some a->a<k:=fun a ha=>by
  rcases Rq k with h|h
  ·subst h;rw[x.z]at hk;cases hk;cases ha
  ·obtain⟨a',_,_,h1,h2,_⟩:=x.up k e hk h;rw[ha]at h1;cases h1;exact h2
 generalize hG:p9 L e.1 k e.2.2=G;obtain⟨env',hw,rfl⟩:=i9 (c:=BG (E7 (cj tP (av 2) (aj (aD .non)))) (ow (E7 (eK dC (ah (aj (ay EB (aj (ay EB (av 0) (av 1))) (aj (aD (.int 0))))) (ah (aj (ay EB (aj (ay EB (av 0) (av 2))) (aj (aD (.int 0))))) aE)))))) (g:=bt) (fun f env=>∃o:Option Nat,(∀a,o=some a->a<f)/\(∀a,o=some a->a<k)/\p9 L e.1 f o=G/\env=[some (.f,.lst (L.map E1)),some (.f,.int (k:Int)),some (.f,IB o)])
  (fun env=>env=[some (.f,.lst (L.map E1)),some (.f,.int (k:Int)),some (.f,IB G)]) (by
   rintro f env ⟨o,ho,hok,hg,rfl⟩;have hi:=wA o;cases o with
   |none=>
    have hg:G=none:=by rw[<-hg];cases f <;> rfl
    subst hg;refine .inl ⟨_,?_,rfl⟩;simp only[pv,seval,hi,SX,jq]
   |some a=>
    have haf:=ho a rfl;have hak:=hok a rfl;obtain⟨f',rfl⟩:∃f',f=f'+1:=⟨f-1,by lia⟩
    have ha:L[a]?=some L[a]:=sN (by lia);generalize L[a]=ea at ha;have Hi:=pW ha;have NG:=vD e.1 ea.1 (by lia);rw[p9,ha]at hg;dsimp only at hg;have hi:tP (.int (a:Int)) .non=.ok (.f,.bl true):=hi;cases hc:IU e.1 ea.1 with
    |true=>
     rw[hc,PF rfl]at hg;rw[hc]at NG;subst hg;refine .inl ⟨_,?_,rfl⟩;unfold IB;unfold E1 at GV Hi ⊢;simp only[pv,seval,op,hi,GV,Hi,HI,NG,c8,i5,Qv]
    |false=>
     rw[hc,PM Pt]at hg;rw[hc]at NG;refine .inr ⟨[some (.f,.lst (L.map E1)),some (.f,.int (k:Int)),some (.f,IB (some a))],?_,[some (.f,.lst (L.map E1)),some (.f,.int (k:Int)),some (.f,IB ea.2.2)],f',?_,QQ _,ea.2.2,?_,?_,hg,rfl⟩
     ·unfold IB;unfold E1 at GV Hi ⊢;simp only[pv,seval,op,hi,GV,Hi,HI,NG,c8,i5,RL]
     ·show bt [some (.f,.lst (L.map E1)),some (.f,.int (k:Int)),some (.f,.int (a:Int))]=_;unfold bt E1;unfold E1 at Hi;simp only[pv,seval,op,Hi,at2]
     ·intro a' Nd;rcases Rq a with h|h
      ·subst h;rw[x.z]at ha;cases ha;cases Nd
      ·obtain⟨a2,_,_,h1,h2,_⟩:=x.up a ea ha h;rw[Nd]at h1;cases h1;lia
     ·intro a' Nd;rcases Rq a with h|h
      ·subst h;rw[x.z]at ha;cases ha;cases Nd
      ·obtain⟨a2,_,_,h1,h2,_⟩:=x.up a ea ha h;rw[Nd]at h1;cases h1;lia) 100000 k [some (.f,.lst (L.map E1)),some (.f,.int (k:Int)),some (.f,IB e.2.2)] (by lia) ⟨e.2.2,Pc,Pc,hG,rfl⟩
 unfold aO di;rw[bS (h:=by rfl)];rw[az (env':=[some (.f,.lst (L.map E1)),some (.f,.int (k:Int)),some (.f,IB e.2.2)]) (by
  unfold E1 at GV ⊢;simp only[pv,seval,op,GV,at2])]
 unfold cP cE;rw[az hw];simp only[pv,seval]
def yC(n:Nat):D:=.tup [.str [101,110,100,115],.int (n:Int)]
def Ek:D:=.tup [.str [98,101,121,111,110,100]]
def vF(L:List Me):R:=if L.length<=12 then(.f,yC L.length) else(match(List.range 13).findSome? (Mf L) with
 |some v=>v
 |none=>(.f,Ek))
theorem ny(nY:EI)(hn:nY.length<=10)(ps:List Pl):∀(f d:Nat) {L:List Me},Ex nY ps L->L.length<=22->(Ha nY ps f d L).length<=22
 | 0,_,_,_,h=>h
 |f+1,d,L,x,h=>by
  rw[Ha];split
  ·rename_i z;obtain⟨x1,l1⟩:=ie nY ps x d z.1;exact ny nY hn ps f (d+1) x1 (by lia)
  ·exact h
theorem mr(L:List Me)(mk:List Int):∀(f:Nat) (o:Option Nat) (a:Nat),p9 L mk f o=some a->∃ea,L[a]?=some ea
 | 0,none,_,h=>by cases h
 | 0,some _,_,h=>by cases h
 |f+1,none,_,h=>by cases h
 |f+1,some b,a,h=>by
  rw[p9]at h;cases hb:L[b]? with
  |none=>rw[hb]at h;cases h
  |some e=>
   rw[hb]at h;dsimp only at h;split at h
   ·cases h;exact⟨e,hb⟩
   ·exact mr L mk f _ a h
theorem vG(nY:EI)(hn:nY.length<=10)(ps:List Pl)(hl:ps.length<=100)(hp:∀p∈ps,Jj p nY.length):aY [eN nY ps]=.ok (vF (Ha nY ps 13 0 (L0 ps))):=by
 obtain⟨ar,he⟩:=pY nY hn ps hl hp;have x:=sU nY ps 13 0 (Ex.zero nY ps);have hL:(Ha nY ps 13 0 (L0 ps)).length<=100:=Qc (ny nY hn ps 13 0 (Ex.zero nY ps) (by decide:1<=22)) (by decide);change Ex nY ps (Ha nY ps 13 0 (L0 ps)) at x;generalize Ha nY ps 13 0 (L0 ps)=L at he x hL;unfold aY iX vF;rw[bS (h:=by rfl)];rw[az (env':=[some (.f,eN nY ps),some (.f,.lst (L.map E1)),none,none,none]) (by simp only[pv,seval,op,he,HI,i6,Ro,BN,BO,ite_self])];by_cases Nf:L.length<=12
 ·have c1:decide ((L.length:Int)<=12)=true:=PR (by lia);rw[PF Nf];simp only[pv,seval,op,bg,c1];rfl
 ·have c1:decide ((L.length:Int)<=12)=false:=PN (by lia);rw[PM Nf];rw[az (env':=[some (.f,eN nY ps),some (.f,.lst (L.map E1)),none,none,none]) (by simp only[pv,seval,op,bg,c1,jq])];have ff:=sV (a:=aF 2) (g:=cv) (fun _ env=>∃t2 t3 t4:Option R,env=[some (.f,eN nY ps),some (.f,.lst (L.map E1)),t2,t3,t4]) (Mf L) ((List.range 13).map fun(k:Nat)=>D.int (k:Int)) (by
   rintro i d env hd ⟨t2,t3,t4,rfl⟩;rw[List.getElem?_map,P9]at hd;obtain⟨k,hk,rfl⟩:=hd;obtain⟨h1,h2⟩:=nq hk;rw[Pz]at h1;rw[RN]at h2;subst h2;have Gx:L[i]?=some L[i]:=sN (by lia);generalize L[i]=e at Gx;have Mg:=sW hl hL x Gx;have GV:=pW Gx;refine⟨[some (.f,eN nY ps),some (.f,.lst (L.map E1)),some (.f,.int (i:Int)),t3,t4],by simp only[pv,seval],?_⟩;unfold Mf;rw[Gx];dsimp only;have Ox:∀o:Option Nat,cX (IB o)=true:=fun o=>by cases o <;> rfl
   cases hN:p9 L e.1 i e.2.2 with
   |none=>
    rw[hN]at Mg;have hi:=wA none;refine .inl ⟨rfl,[some (.f,eN nY ps),some (.f,.lst (L.map E1)),some (.f,.int (i:Int)),some (.f,IB none),t4],?_,_,_,_,rfl⟩;unfold cv;simp only[pv,seval,Mg,c8,Ox,hi,SX,jq]
   |some a=>
    rw[hN]at Mg;obtain⟨ea,Pd⟩:=mr L e.1 i e.2.2 a hN;have Hi:=pW Pd;have hi:tP (.int (a:Int)) .non=.ok (.f,.bl true):=rfl;have Mg:aO [.lst (L.map E1),.int (i:Int)]=.ok (.f,.int (a:Int)):=Mg;have HJ:kN (e.2.1.map D.str) (some (ea.2.1.length:Int)) none=(e.2.1.drop ea.2.1.length).map D.str:=by
     rw[vA,List.map_drop]
    dsimp only;rw[Pd];refine .inr ⟨_,rfl,?_⟩;unfold cv;rw[az (env':=[some (.f,eN nY ps),some (.f,.lst (L.map E1)),some (.f,.int (i:Int)),some (.f,.int (a:Int)),t4]) (by simp only[pv,seval,Mg,c8,oX])];unfold Pb Mb;unfold E1 Mb at GV Hi ⊢;simp only[pv,seval,op,hi,GV,Hi,Ik,bg,HJ]) [some (.f,eN nY ps),some (.f,.lst (L.map E1)),none,none,none] ⟨_,_,_,rfl⟩
  have hr:ck (aj (ay dU (aj (aD (.int 12))) (aj (aD (.int 1))))) [some (.f,eN nY ps),some (.f,.lst (L.map E1)),none,none,none]=.ok ((List.range 13).map fun(k:Nat)=>D.int (k:Int),[some (.f,eN nY ps),some (.f,.lst (L.map E1)),none,none,none]):=Ed (12+1) (by decide) (by decide) _ _ _ (.val (.int (12+1))) (by simp only[pv,seval,op]) rfl;rw[bg,Pz]at ff;unfold gk;rw[HY,HZ,hr,FA];dsimp only;rcases ff with⟨f1,env',f2,t2,t3,t4,rfl⟩|⟨v,f1,f2⟩
  ·rw[f1,f2,FA];unfold e9;simp only[pv,seval];rfl
  ·rw[f1,f2,FA];rfl
theorem gs(x y z:D)(t1 t2 t3:Option R)(bT:PV.Env):kM 3 (aK (aF 0) (aK (aF 1) (aK (aF 2) dP))) (.tup [x,y,z]) (t1::t2::t3::bT)=.ok (some (.f,x)::some (.f,y)::some (.f,z)::bT):=by
 rw[HX,PF (by simp),Ff,Fv,PF (by simp),FA,Ff,Fv,PF (by simp),FA,Ff,Fv,PF (by simp),FA];rfl
theorem wB{g:FS}{x:FB}{env e:PV.Env}(h:g env=.ok (.nx e)):yT g x env=x e:=by
 unfold yT;rw[h]
theorem C1(nY:EI)(hn:nY.length<=10)(ps:List Pl)(hl:ps.length<=100)(hp:∀p∈ps,Jj p nY.length):(12<(Ha nY ps 13 0 (L0 ps)).length/\b7 [eN nY ps]=true)\/((Ha nY ps 13 0 (L0 ps)).length<=12/\b7 [eN nY ps]=false/\cJ [eN nY ps]=.ok (.f,.tup [.tup [.tup (nY.map D.str),.lst ((Hs nY ps 13 0 (M0 ps)).2.map eA)],.lst (((Ha nY ps 13 0 (L0 ps)).map (·.1)).map eM)])):=by
 have he:=je nY hn ps hl hp;rw[kF]at he;generalize (Hs nY ps 13 0 (M0 ps)).2.map eA=ar at he;change aV [eN nY ps]=.ok (.f,.tup [.lst ((Ha nY ps 13 0 (L0 ps)).map E1),.lst ar]) at he;have hL:(Ha nY ps 13 0 (L0 ps)).length<=100:=Qc (ny nY hn ps 13 0 (Ex.zero nY ps) (by decide:1<=22)) (by decide);generalize Ha nY ps 13 0 (L0 ps)=L at he hL;have hc:cz (kM 3 (aK (aF 0) (aK (aF 1) (aK (aF 2) dP)))) fL (bh 0) (L.map E1) [none,none,none]=.ok ((L.map (·.1)).map eM):=by
  rw[P2];refine bU (fun env=>∃t u v,env=[t,u,v]) _ ?_ _ ⟨_,_,_,rfl⟩;rintro p _ env ⟨t,u,v,rfl⟩;refine⟨_,gs _ _ _ _ _ _ _,?_⟩;simp only[pv,seval];exact⟨_,_,rfl,_,_,_,rfl⟩
 have HP:((L.map (·.1)).map eM).length<=sizeLine:=line_le (by rw[bg,bg];lia);have Na:flatDs ((L.map (·.1)).map eM)=true:=by
  rw[cK,QL,P7];intro e _;exact o4 e
 have s1:∃E:D,E=.tup [.lst (L.map E1),.lst ar]:=⟨_,rfl⟩
 obtain⟨E,hE⟩:=s1;have a1:cx 1 (eK aV (ah (av 0) aE)) [some (.f,eN nY ps),none,none]=.ok (.nx [some (.f,eN nY ps),some (.f,E),none]):=by
  rw[hE];simp only[pv,seval,he,BN,BO,ite_self,i6,Ro]
 have a2:cx 2 (dw (sj (ay EB (av 1) (aj (aD (.int 0))))) [none,none,none] (kM 3 (aK (aF 0) (aK (aF 1) (aK (aF 2) dP)))) fL (bh 0)) [some (.f,eN nY ps),some (.f,E),none]=.ok (.nx [some (.f,eN nY ps),some (.f,E),some (.l .f,.lst ((L.map (·.1)).map eM))]):=by
  rw[hE];simp only[pv,seval,op,HI,hc,HP,Na]
 have hz:∀b,decide ((L.length:Int)>12)=b->E7 (ay Lg (aj (bz iU (ah (av 2) aE))) (aj (aD (.int 12)))) [some (.f,eN nY ps),some (.f,E),some (.l .f,.lst ((L.map (·.1)).map eM))]=.ok (b,[some (.f,eN nY ps),some (.f,E),some (.l .f,.lst ((L.map (·.1)).map eM))]):=by
  intro b hb;have hb:decide (12<(L.length:Int))=b:=hb;simp only[pv,seval,op,bg,hb]
 have hx:∀b,decide ((L.length:Int)>12)=b->b7 [eN nY ps]=b:=by
  intro b hb;unfold b7 se;rw[show(List.map (fun d=>some (O.f,d)) [eN nY ps]++List.replicate 2 none:PV.Env)=[some (.f,eN nY ps),none,none] from rfl,wB a1,wB a2];unfold NB;rw[hz b hb];cases b <;> rfl
 by_cases h:12<L.length
 ·exact .inl ⟨h,hx true (PR (by lia))⟩
 ·refine .inr ⟨by lia,hx false (PN (by lia)),?_⟩;have z:=hz false (PN (by lia));unfold cJ oP;rw[bS (h:=by rfl),show(List.map (fun d=>some (O.f,d)) [eN nY ps]++List.replicate 2 none:PV.Env)=[some (.f,eN nY ps),none,none] from rfl,az a1,az a2];rw[az (env':=[some (.f,eN nY ps),some (.f,E),some (.l .f,.lst ((L.map (·.1)).map eM))]) (by rw[Ee z];rfl)];rw[hE];unfold eN;simp only[pv,seval,op,HI,Ik]
def ak(a:Fd):List Key:=[.inl a.1,.inr (S a.2.1),.inl a.2.2]
def kG(a b:Fd):Bool:=cu (ak a) (ak b)
theorem S_inj{a b:List Nat}(h:S a=S b):a=b:=by
 have:=Qt (fun s:Str=>s.cps.toList) h;simpa only[bZ] using this
theorem Bn{a b:Fd}(h:ak a=ak b):a=b:=by
 unfold ak at h;injection h with h1 h2;injection h2 with h2 h3;injection h3 with h3 _;injection h1 with h1;injection h2 with h2;injection h3 with h3;obtain⟨x,y,z⟩:=a;obtain⟨x',y',z'⟩:=b;simp only at h1 h2 h3;rw[h1,S_inj h2,h3]
theorem C2(a:Fd):kT (ak a)=eA a:=by
 unfold kT ak eA;simp only[i6,Ro,kD,bZ]
theorem sX{α β:Type}(f:α->β)(lt:β->β->Bool)(x:α):∀l:List α,ins lt (f x) (l.map f)=(ins (fun a b=>lt (f a) (f b)) x l).map f
 |[]=>rfl
 |y::ys=>by
  rw[i6,ins,ins];cases lt (f y) (f x) with
  |true=>rw[PF rfl,PF rfl,sX f lt x ys,i6]
  |false=>rw[PM Pt,PM Pt,i6,i6]
theorem mw{α β:Type}(f:α->β)(lt:β->β->Bool):∀l:List α,cZ lt (l.map f)=(cZ (fun a b=>lt (f a) (f b)) l).map f
 |[]=>rfl
 |x::l=>by
  show ins lt (f x) (cZ lt (l.map f))=_;rw[mw f lt l,sX];rfl
theorem sY(as:List Fd):as.map eA=(as.map ak).map kT:=by
 rw[P2];exact Qh fun a _=>(C2 a).symm
theorem C3(a b:Fd):Ew (eA a) (eA b)=decide (a=b):=by
 obtain⟨x,y,z⟩:=a;obtain⟨x',y',z'⟩:=b;unfold eA;simp only[Ew,gA];rw[P8];simp
theorem yD:Ord kG:=⟨fun a=>iO.irr (ak a),fun a b c=>iO.trans (ak a) (ak b) (ak c),fun a b h1 h2=>Bn (iO.tot _ _ h1 h2)⟩
theorem yE(as:List Fd)(h:as.length<64):dS [.lst (as.map eA)]=.ok (.l .f,.lst ((cZ kG as).map eA)):=by
 have key:iR (as.map eA)=some ((cZ kG as).map eA):=by
  cases as with
  |nil=>rfl
  |cons a as=>
   have e1:gK ((a::as).map eA)=some ((a::as).map ak):=by rw[sY,gC]
   have e2:sameKinds (ak a) (as.map ak)=true:=by
    unfold sameKinds;rw[QL,PL,P7];exact⟨rfl,fun b _=>rfl⟩
   unfold iR;rw[e1,i6,i6];dsimp only[eA,e8,dJ];rw[PF e2,<-i6,mw ak cu,sY];rfl
 unfold dS;dsimp only;rw[PF (by rw[bg];exact h),key]
theorem pZ(n:Nat)(aZ:List Fd):plainDs (n+3) (aZ.map eA)=true:=by
 induction aZ with
 |nil=>rfl
 |cons a l ih=>
  rw[i6,plainDs,ih];rfl
theorem sZ{r:List Int}:∀{ms:List (List Int)}(l:List (List Int)),r∈ms->pos (ms++l) r=pos ms r
 |m::ms,l,h=>by
  unfold pos;rw[Ts,RW,RW];by_cases e:m=r
  ·rw[PR e];rfl
  ·rw[PN e];have:=sZ (ms:=ms) l ((PJ.mp h).resolve_left fun z=>e z.symm);unfold pos at this;rw[this]
theorem yF{r:List Int}{ms:List (List Int)}(h:r∈ms):ms[pos ms r]?=some r:=by
 unfold pos;have hl:(ms.findIdx fun x=>decide (x=r))<ms.length:=List.findIdx_lt_length_of_exists ⟨r,h,PR rfl⟩;rw[sN hl];have:=List.findIdx_getElem (w:=hl);rw[PQ]at this;rw[this]
theorem mx{nY:EI}{ps:List Pl}{d:Nat}{mk:List Int}{L:List Me}(l:List Me){mv:List Nat}(h:∀r,cq (nY.idxOf mv) (mk.zip ps)=some r->r∈L.map (·.1)):eV nY ps d mk (L++l) mv=eV nY ps d mk L mv:=by
 unfold eV;cases hf:cq (nY.idxOf mv) (mk.zip ps) with
 |none=>rfl
 |some r=>
  dsimp only;rw[P6,sZ _ (h r hf)]
theorem tf(nY:EI)(ps:List Pl)(d:Nat)(mk:List Int)(wy:EI)(s:List Me×List Fd)(mv:List Nat):
  (∃m,(dE nY ps d mk wy s mv).1=s.1++m)/\(∀r,cq (nY.idxOf mv) (mk.zip ps)=some r->r∈(dE nY ps d mk wy s mv).1.map (·.1))/\(dE nY ps d mk wy s mv).2=s.2++eV nY ps d mk (dE nY ps d mk wy s mv).1 mv:=by
 unfold dE;dsimp only;unfold gG eV;cases hf:cq (nY.idxOf mv) (mk.zip ps) with
 |none=>exact⟨⟨[],(P5 _).symm⟩,fun r h=>(by cases h),rfl⟩
 |some r=>
  dsimp only;by_cases h:r∈s.1.map (·.1)
  ·rw[PF h];exact⟨⟨[],(P5 _).symm⟩,fun r' h'=>(by cases h';exact h),rfl⟩
  ·rw[PM h];obtain⟨p1,p2⟩:=nv r _ h;refine⟨⟨_,rfl⟩,fun r' h'=>?_,?_⟩
   ·cases h';rw[P6];exact PB _ Pq
   ·rw[P6,p1];show _=s.2++[((d:Int),mv,(pos (s.1.map (·.1)++[r]) r:Int))]
    rw[p2]
theorem my(nY:EI)(ps:List Pl)(d:Nat)(mk:List Int)(wy:EI):∀(l:EI) (s:List Me×List Fd),
  (∃m,(l.foldl (dE nY ps d mk wy) s).1=s.1++m)/\(∀mv∈l,∀r,cq (nY.idxOf mv) (mk.zip ps)=some r->r∈(l.foldl (dE nY ps d mk wy) s).1.map (·.1))/\(l.foldl (dE nY ps d mk wy) s).2=s.2++l.flatMap (eV nY ps d mk (l.foldl (dE nY ps d mk wy) s).1)
 |[],s=>⟨⟨[],(P5 _).symm⟩,fun mv h=>(by cases h),(P5 _).symm⟩
 |mv::l,s=>by
  obtain⟨⟨m1,e1⟩,a1,b1⟩:=tf nY ps d mk wy s mv;obtain⟨⟨m2,e2⟩,a2,b2⟩:=my nY ps d mk wy l (dE nY ps d mk wy s mv);rw[QF];refine⟨⟨m1++m2,by rw[e2,e1,Qp]⟩,fun v hv r hr=>?_,?_⟩
  ·rcases PJ.mp hv with rfl|hv
   ·rw[e2,P6];exact P0 _ (a1 r hr)
   ·exact a2 v hv r hr
  ·rw[RX,<-Qp];have e3:=mx (nY:=nY) (ps:=ps) (d:=d) (mk:=mk) m2 (mv:=mv) a1;rw[<-e2]at e3;rw[e3,<-b1];exact b2
def Jz(nY:EI)(ps:List Pl)(L:List Me)(i:Nat):List Fd:=match L[i]? with
 |none=>[]
 |some e=>nY.flatMap (eV nY ps i e.1 L)
structure Part(nY:EI)(ps:List Pl)(d:Nat)(s:List Me×List Fd):Prop where
 x:Ex nY ps s.1
 cl:∀i<d,∀e,s.1[i]?=some e->∀mv∈nY,∀r,cq (nY.idxOf mv) (e.1.zip ps)=some r->r∈s.1.map (·.1)
 ar:s.2=(List.range d).flatMap (Jz nY ps s.1)
 le:d<=s.1.length
theorem Part.step{nY:EI}{ps:List Pl}{d:Nat}{s:List Me×List Fd}(p:Part nY ps d s)(h:d<s.1.length):Part nY ps (d+1) (cT nY ps d s):=by
 have hd:s.1[d]?=some s.1[d]:=sN h;have x1:=(ie nY ps p.x d h).1;rw[<-jd]at x1;generalize s.1[d]=e0 at hd;have es:cT nY ps d s=nY.foldl (dE nY ps d e0.1 e0.2.1) s:=by
  unfold cT;rw[hd]
 obtain⟨⟨m,em⟩,a,b⟩:=my nY ps d e0.1 e0.2.1 nY s;rw[<-es]at em a b;have Kn:(cT nY ps d s).1[d]?=some e0:=by rw[em,List.getElem?_append_left h];exact hd
 refine⟨x1,fun i hi e he mv hm r hr=>?_,?_,by rw[em,p8];lia⟩
 ·by_cases Kz:i<d
  ·rw[em,List.getElem?_append_left (by lia)]at he;rw[em,P6];exact P0 _ (p.cl i Kz e he mv hm r hr)
  ·have:i=d:=by lia
   subst this;rw[Kn]at he;cases he;exact a mv hm r hr
 ·rw[Rv,List.flatMap_append,RX,List.flatMap_nil,P5,b,p.ar];have e1:Jz nY ps (cT nY ps d s).1 d=nY.flatMap (eV nY ps d e0.1 (cT nY ps d s).1):=by
   unfold Jz;rw[Kn]
  rw[e1];congr 1
  rw[Sy,Sy];congr 1
  refine Qh fun i hi=>?_
  have hi:=PU.mp hi;have NF:s.1[i]?=some s.1[i]:=sN (by lia);unfold Jz;rw[em,List.getElem?_append_left (by lia),NF];dsimp only;rw[Sy,Sy];congr 1
  exact Qh fun mv hm=>(mx m (p.cl i hi _ NF mv hm)).symm
theorem o5(nY:EI)(ps:List Pl):∀(f d:Nat) (s:List Me×List Fd),f+d=13->Part nY ps d s->(Hs nY ps f d s).1.length<=12->Part nY ps (Hs nY ps f d s).1.length (Hs nY ps f d s)
 | 0,d,s,hf,p,h=>by
  have:=p.le;rw[Hs]at h;lia
 |f+1,d,s,hf,p,h=>by
  rw[Hs]at h ⊢;by_cases hc:d<s.1.length/\s.1.length<=12
  ·rw[PF hc]at h ⊢;exact o5 nY ps f (d+1) _ (by lia) (p.step hc.1) h
  ·rw[PM hc]at h ⊢;have:=p.le;have e:s.1.length=d:=by lia
   rw[e];exact p
theorem tm(nY:EI)(ps:List Pl):Part nY ps 0 (M0 ps):=⟨Ex.zero nY ps,fun i h=>(by lia),rfl,Qg _⟩
theorem vH{a b:Fd}(h:a.1<b.1):kG b a=false:=by
 unfold kG ak;rw[cu,PM (by intro e;injection e with e;lia)];exact PN (by lia)
theorem yG{a b:Fd}(h:a.1=b.1)(hn:a.2.1≠b.2.1)(hl:Hq b.2.1 a.2.1=false):kG b a=false:=by
 unfold kG ak;rw[cu,PF (by rw[h]),cu,PM (fun e=>hn (S_inj (Sum.inr.inj e)).symm)];unfold Hq at hl;rw[Qn]at hl;first
  |exact PN hl
  |simpa[lh,S] using hl
theorem jg{nY:EI}{ps:List Pl}{d:Nat}{mk:List Int}{L:List Me}{mv:List Nat}{a:Fd}(h:a∈eV nY ps d mk L mv):a.1=(d:Int)/\a.2.1=mv/\∃r,cq (nY.idxOf mv) (mk.zip ps)=some r/\a.2.2=(pos (L.map (·.1)) r:Int):=by
 unfold eV at h;cases hf:cq (nY.idxOf mv) (mk.zip ps) with
 |none=>
  rw[hf]at h;cases h
 |some r=>
  rw[hf]at h;rw[Be h];exact⟨rfl,rfl,r,rfl,rfl⟩
theorem tq{nY:EI}{ps:List Pl}{L:List Me}{i:Nat}{a:Fd}(h:a∈Jz nY ps L i):a.1=(i:Int)/\a.2.1∈nY/\∃e,L[i]?=some e/\∃r,cq (nY.idxOf a.2.1) (e.1.zip ps)=some r/\a.2.2=(pos (L.map (·.1)) r:Int):=by
 unfold Jz at h;cases he:L[i]? with
 |none=>
  rw[he]at h;cases h
 |some e=>
  rw[he]at h;obtain⟨mv,hm,ha⟩:=R6.mp h;obtain⟨h1,h2,h3⟩:=jg ha;subst h2;exact⟨h1,hm,e,rfl,h3⟩
theorem kH{α β:Type}{R:β->β->Prop}{f:α->List β}:∀{l:List α},(∀a∈l,(f a).Pairwise R)->l.Pairwise (fun a b=>∀x∈f a,∀y∈f b,R x y)->(l.flatMap f).Pairwise R
 |[],_,_=>List.Pairwise.nil
 |a::l,h,p=>by
  rw[QN]at p;rw[RX,SA];refine⟨h a Pq,kH (fun b hb=>h b (Px _ hb)) p.2,fun x hx y hy=>?_⟩;obtain⟨b,hb,hy⟩:=R6.mp hy;exact p.1 b hb x hx y hy
theorem tu{nY:EI}(nd:nY.Nodup)(pw:nY.Pairwise (fun a b=>Hq b a=false))(ps:List Pl)(L:List Me)(n:Nat):((List.range n).flatMap (Jz nY ps L)).Pairwise (fun a b=>kG b a=false/\a≠b):=by
 refine kH (fun i hi=>?_) ?_
 ·unfold Jz;cases L[i]? with
  |none=>exact List.Pairwise.nil
  |some e=>
   dsimp only;refine kH (fun mv hm=>?_) ?_
   ·unfold eV;cases cq (nY.idxOf mv) (e.1.zip ps) with
    |none=>exact List.Pairwise.nil
    |some r=>exact List.pairwise_singleton _ _
   ·refine(pw.and nd).imp fun{m m'} h x hx y hy=>?_
    obtain⟨h1,h2,_⟩:=jg hx;obtain⟨h1',LV,_⟩:=jg hy;have JO:x.2.1≠y.2.1:=by rw[h2,LV];exact h.2
    exact⟨yG (h1.trans h1'.symm) JO (by rw[h2,LV];exact h.1),fun e=>JO (by rw[e])⟩
 ·refine List.pairwise_lt_range.imp fun{i j} h x hx y hy=>?_
  have h1:=(tq hx).1;have h2:=(tq hy).1;have hl:x.1<y.1:=by rw[h1,h2];lia
  exact⟨vH hl,fun e=>by rw[e]at hl;lia⟩
structure Ap(n:Nat)(T R:Nat->Int):Prop where
 t:∀k,k<n->1<=T k
 r:∀k,k<n->0<=R k/\R k<T k
def one(j k:Nat):Int:=if j=k then 1 else 0
def Gn(n:Nat)(T R:Nat->Int)(G:Nat->Nat)(k:Nat):Pl:=(T k*(G k:Int)+R k,(List.range n).map fun j=>T k*one j k,(List.range n).map fun _=>0)
def EO(n:Nat)(T R:Nat->Int)(G:Nat->Nat):List Pl:=(List.range n).map (Gn n T R G)
def Fb(n:Nat)(T R:Nat->Int)(u:Nat->Nat):List Int:=(List.range n).map fun k=>T k*(u k:Int)+R k
def dn(u:Nat->Nat)(j:Nat):Nat->Nat:=fun k=>if k=j then u k-1 else u k
theorem eS{f:Nat->Int}{n j:Nat}(h:j<n):((List.range n).map f).getD j 0=f j:=by
 rw[List.getD_eq_getElem?_getD,List.getElem?_map,List.getElem?_range h];rfl
theorem mz{f:Nat->Int}{n j:Nat}(h:n<=j):((List.range n).map f).getD j 0=0:=by
 rw[List.getD_eq_getElem?_getD,List.getElem?_eq_none (by rw[bg,Pz];exact h)];rfl
theorem BP{n:Nat}{T R:Nat->Int}{G:Nat->Nat}{j k:Nat}(hk:k<n):Hr j (Gn n T R G k)=T k*one j k:=by
 unfold Hr Gn;by_cases h:j<n
 ·exact eS h
 ·rw[mz (by lia)];unfold one;rw[PM (by lia),R9]
theorem Ds{n:Nat}{T R:Nat->Int}{G:Nat->Nat}{j k:Nat}:KL j (Gn n T R G k)=0:=by
 unfold KL Gn;by_cases h:j<n
 ·exact eS (f:=fun _=>0) h
 ·exact mz (by lia)
theorem eT(k:Nat):one k k=1:=PF rfl
theorem o6{j k:Nat}(h:j≠k):one j k=0:=PM h
theorem dq{n:Nat}{T R:Nat->Int}{u v:Nat->Nat}(h:∀k,k<n->u k=v k):Fb n T R u=Fb n T R v:=by
 unfold Fb;refine Qh fun k hk=>?_
 rw[h k (PU.mp hk)]
theorem mC{n:Nat}{T R:Nat->Int}{u:Nat->Nat}{k:Nat}(h:k<n):(Fb n T R u).getD k 0=T k*(u k:Int)+R k:=eS h
theorem tw{n:Nat}{T R:Nat->Int}{u:Nat->Nat}:(Fb n T R u).length=n:=by
 unfold Fb;rw[bg,Pz]
theorem kI{n:Nat}{T R:Nat->Int}(a:Ap n T R){u v:Nat->Nat}(h:Fb n T R u=Fb n T R v){k:Nat}(hk:k<n):u k=v k:=by
 have e:=mC (T:=T) (R:=R) (u:=u) hk;rw[h,mC hk]at e;have e2:T k*(v k:Int)=T k*(u k:Int):=by lia
 have:=Int.eq_of_mul_eq_mul_left (by have:=a.t k hk;lia) e2;lia
theorem yH{n:Nat}{T R:Nat->Int}{G u:Nat->Nat}:(Fb n T R u).zip (EO n T R G)=(List.range n).map fun k=>(T k*(u k:Int)+R k,Gn n T R G k):=by
 unfold Fb EO;rw[List.zip_map']
theorem Bo{n:Nat}{T R:Nat->Int}(a:Ap n T R){G u:Nat->Nat}{j:Nat}:yw j ((Fb n T R u).zip (EO n T R G))=decide (j<n->1<=u j):=by
 rw[yH];unfold yw;rw[QL,P8,P7,PQ];constructor
 ·intro h hj;have h:=h j (PU.mpr hj);have h:Hr j (Gn n T R G j)<=T j*(u j:Int)+R j:=QY h;rw[BP hj,eT,Ug]at h;have hr:=a.r j hj;rcases Rq (u j) with e|e
  ·rw[e,Int.natCast_zero,R9]at h;lia
  ·exact e
 ·intro h k hk;have hk:=PU.mp hk;show decide (Hr j (Gn n T R G k)<=T k*(u k:Int)+R k)=true;rw[PQ,BP hk];have ht:=a.t k hk;have hr:=a.r k hk;by_cases e:j=k
  ·subst e;rw[eT];have hu:(1:Int)<=(u j:Int):=by have:=h hk;lia
   have:=RJ hu (by lia:0<=T j);lia
  ·rw[o6 e,R9];have:=Int.mul_nonneg (by lia:0<=T k) (by lia:0<=(u k:Int));lia
theorem jF{n:Nat}{T R:Nat->Int}(a:Ap n T R){G u:Nat->Nat}{j:Nat}(hj:j<n):cq j ((Fb n T R u).zip (EO n T R G))=if 1<=u j then some (Fb n T R (dn u j)) else none:=by
 rw[ic,Bo a];by_cases h:1<=u j
 ·rw[PF h,PF (PR fun _=>h),yH,P2];congr 1
  unfold Fb;refine Qh fun k hk=>?_
  have hk:=PU.mp hk;show T k*(u k:Int)+R k-Hr j (Gn n T R G k)+KL j (Gn n T R G k)=T k*(dn u j k:Int)+R k;rw[BP hk,Ds];unfold dn;by_cases e:j=k
  ·subst e;rw[eT,PF rfl,show((u j-1:Nat):Int)=(u j:Int)-1 by lia,Int.mul_sub];lia
  ·rw[o6 e,PM fun z=>e z.symm,R9];lia
 ·rw[PM h,PM (by rw[PQ];exact fun z=>h (z hj))]
theorem wC{n:Nat}{T R:Nat->Int}(a:Ap n T R){G u:Nat->Nat}{j:Nat}(hj:n<=j):cq j ((Fb n T R u).zip (EO n T R G))=some (Fb n T R u):=by
 rw[ic,Bo a,PF (PR fun z=>by lia),yH,P2];congr 1
 unfold Fb;refine Qh fun k hk=>?_
 have hk:=PU.mp hk;show T k*(u k:Int)+R k-Hr j (Gn n T R G k)+KL j (Gn n T R G k)=T k*(u k:Int)+R k;rw[BP hk,Ds,o6 (by lia),R9];lia
theorem tF{n:Nat}{T R:Nat->Int}{G:Nat->Nat}:(EO n T R G).map (·.1)=Fb n T R G:=by
 unfold EO Fb;rw[P2];rfl
theorem yI(u:Nat->Nat)(j k:Nat):dn u j k<=u k:=by
 unfold dn;split <;> lia
theorem tG{nY:EI}{n:Nat}{T R:Nat->Int}(a:Ap n T R){G:Nat->Nat}{L:List Me}(x:Ex nY (EO n T R G) L):∀(i:Nat) (e:Me),L[i]?=some e->∃u:Nat->Nat,(∀k,k<n->u k<=G k)/\e.1=Fb n T R u:=by
 intro i;induction i using Nat.strongRecOn with
 |ind i ih=>
  intro e he;by_cases h0:i=0
  ·subst h0;rw[x.z]at he;cases he;exact⟨G,fun k _=>Py _,tF⟩
  ·obtain⟨b,eb,mv,_,hb,hL,_,hf⟩:=x.up i e he (by lia);obtain⟨u,hu,eu⟩:=ih b hb eb hL;rw[eu]at hf;by_cases hj:nY.idxOf mv<n
   ·rw[jF a hj]at hf;split at hf
    ·exact⟨_,fun k hk=>Qc (yI u _ k) (hu k hk),(PZ hf).symm⟩
    ·cases hf
   ·rw[wC a (by lia)]at hf;exact⟨u,hu,(PZ hf).symm⟩
theorem Dt{nY:EI}{n:Nat}{T R:Nat->Int}(a:Ap n T R){G:Nat->Nat}{L:List Me}(x:Ex nY (EO n T R G) L){i:Nat}{e:Me}(he:L[i]?=some e)(hi:0<i):∃b eb w j,e.2.2=some b/\L[b]?=some eb/\eb.1=Fb n T R w/\j<n/\1<=w j/\e.1=Fb n T R (dn w j):=by
 obtain⟨b,eb,mv,h1,hb,hL,_,hf⟩:=x.up i e he hi;obtain⟨u,_,eu⟩:=tG a x b eb hL;rw[eu]at hf;by_cases hj:nY.idxOf mv<n
 ·rw[jF a hj]at hf;split at hf
  ·rename_i h;exact⟨b,eb,u,_,h1,hL,eu,hj,h,(PZ hf).symm⟩
  ·cases hf
 ·rw[wC a (by lia)]at hf;have hf:=PZ hf;exfalso;have q1:(L.map (·.1))[i]?=some e.1:=by rw[List.getElem?_map,he];rfl
  have q2:(L.map (·.1))[b]?=some e.1:=by rw[List.getElem?_map,hL,<-hf,<-eu];rfl
  obtain⟨l1,p1⟩:=nq q1;obtain⟨l2,p2⟩:=nq q2;have:=(Tn x.nd).mp (p1.trans p2.symm);lia
theorem C4{n:Nat}{T R:Nat->Int}(a:Ap n T R){u v:Nat->Nat}{k:Nat}(hk:k<n)(h:u k<v k):IU (Fb n T R u) (Fb n T R v)=false:=by
 cases hc:IU (Fb n T R u) (Fb n T R v) with
 |false=>rfl
 |true=>
  exfalso;unfold IU Fb at hc;rw[List.zip_map',QL,P7]at hc;have h1:T k*(v k:Int)+R k<=T k*(u k:Int)+R k:=QY (hc k (PU.mpr hk));have ht:=a.t k hk;have:=Int.mul_lt_mul_of_pos_left (show(u k:Int)<(v k:Int) by lia) (by lia:0<T k);lia
theorem wD{nY:EI}{n:Nat}{T R:Nat->Int}(a:Ap n T R){G:Nat->Nat}{L:List Me}(x:Ex nY (EO n T R G) L)(u:Nat->Nat):∀(f:Nat) (o:Option Nat),(∀b,o=some b->∃eb w,L[b]?=some eb/\eb.1=Fb n T R w/\(∀k,k<n->u k<=w k)/\∃k,k<n/\u k<w k)->p9 L (Fb n T R u) f o=none
 | 0,none,_=>rfl
 |_+1,none,_=>rfl
 | 0,some _,_=>rfl
 |f+1,some b,h=>by
  obtain⟨eb,w,h1,h2,h3,k,h4,h5⟩:=h b rfl;rw[p9,h1];dsimp only;rw[h2,C4 a h4 h5,PM Pt];refine wD a x u f eb.2.2 fun c hc=>?_
  rcases Rq b with hb|hb
  ·subst hb;rw[x.z]at h1;cases h1;cases hc
  ·obtain⟨c',ec,v,j,g1,g2,g3,g4,g5,g6⟩:=Dt a x h1 hb;rw[hc]at g1;cases g1;rw[h2]at g6;have le:∀k,k<n->w k<=v k:=fun k hk=>by
    rw[kI a g6 hk];exact yI v j k
   exact⟨ec,v,g2,g3,fun k hk=>Qc (h3 k hk) (le k hk),k,h4,PK h5 (le k h4)⟩
theorem C5{nY:EI}{n:Nat}{T R:Nat->Int}(a:Ap n T R){G:Nat->Nat}{L:List Me}(x:Ex nY (EO n T R G) L)(k:Nat):Mf L k=none:=by
 unfold Mf;cases he:L[k]? with
 |none=>rfl
 |some e=>
  dsimp only;obtain⟨u,_,eu⟩:=tG a x k e he;have:p9 L e.1 k e.2.2=none:=by
   rw[eu];refine wD a x u k _ fun b hb=>?_
   rcases Rq k with hk|hk
   ·subst hk;rw[x.z]at he;cases he;cases hb
   ·obtain⟨c',ec,v,j,g1,g2,g3,g4,g5,g6⟩:=Dt a x he hk;rw[hb]at g1;cases g1;rw[eu]at g6;refine⟨ec,v,g2,g3,fun k hk=>by rw[kI a g6 hk];exact yI v j k,j,g4,?_⟩;rw[kI a g6 g4];unfold dn;rw[PF rfl];lia
  rw[this]
def pr(G:Nat->Nat):Nat->Nat
 | 0=>1
 |n+1=>pr G n*(G n+1)
def box(G:Nat->Nat):Nat->EI
 | 0=>[[]]
 |n+1=>(box G n).flatMap fun v=>(List.range (G n+1)).map fun a=>v++[a]
theorem o7{α β:Type}{f:α->List β}{c:Nat}(h:∀a,(f a).length=c):∀l:List α,(l.flatMap f).length=l.length*c
 |[]=>by rw[List.flatMap_nil,RS,RS,Nat.zero_mul]
 |a::l=>by rw[RX,p8,h,o7 h l,PD,Vt,Nat.one_mul,UY]
theorem nE(G:Nat->Nat):∀n,(box G n).length=pr G n
 | 0=>rfl
 |n+1=>by
  rw[box,o7 (c:=G n+1) (fun v=>by rw[bg,Pz]),nE G n];rfl
theorem tH{G u:Nat->Nat}:∀{n:Nat},(∀k,k<n->u k<=G k)->(List.range n).map u∈box G n
 | 0,_=>Pq
 |n+1,h=>by
  rw[Rv,P6,box];refine R6.mpr ⟨_,tH (n:=n) (fun k hk=>h k (by lia)),QD.mpr ⟨u n,PU.mpr ?_,rfl⟩⟩;have:=h n (by lia);lia
theorem kJ{G:Nat->Nat}:∀{n:Nat}{v:List Nat},v∈box G n->v.length=n/\∀k,k<n->v.getD k 0<=G k
 | 0,v,h=>by
  rw[Be h];exact⟨rfl,fun k hk=>by lia⟩
 |n+1,v,h=>by
  obtain⟨w,hw,h⟩:=R6.mp h;obtain⟨a,ha,rfl⟩:=tU h;obtain⟨h1,h2⟩:=kJ hw;have ha:=PU.mp ha;refine⟨by rw[p8,h1];rfl,fun k hk=>?_⟩;rw[List.getD_eq_getElem?_getD];by_cases Gx:k<n
  ·rw[List.getElem?_append_left (by lia),<-List.getD_eq_getElem?_getD];exact h2 k Gx
  ·have:k=w.length:=by lia
   subst this;rw[List.getElem?_concat_length,h1];show a<=G n;lia
theorem mD(G:Nat->Nat):∀n,(box G n).Nodup
 | 0=>Qo.mpr ⟨fun h=>(by cases h),RK⟩
 |n+1=>by
  rw[box];refine kH (fun v _=>?_) ?_
  ·exact ej (fun a=>v++[a]) _ fun i j _ _ e=>by
    have:=List.append_cancel_left e;injection this
  ·refine(mD G n).imp fun{v w} h x hx y hy e=>h ?_
   obtain⟨a,_,rfl⟩:=tU hx;obtain⟨b,_,rfl⟩:=tU hy;exact(List.append_inj' e rfl).1
theorem nF{α:Type}[DecidableEq α]:∀(l m:List α),l.Nodup->(∀x∈l,x∈m)->l.length<=m.length
 |[],m,_,_=>Qg _
 |a::l,m,nd,h=>by
  rw[Qo]at nd;have ha:=h a Pq;have h2:=nF l (m.erase a) nd.2 fun x hx=>(Ua (fun e=>nd.1 (by rw[<-e];exact hx))).mpr (h x (Px _ hx))
  rw[Tc ha]at h2;have:=TB ha;rw[PD];lia
def Pe(n:Nat)(T R:Nat->Int)(v:List Nat):List Int:=Fb n T R fun k=>v.getD k 0
theorem few{nY:EI}{n:Nat}{T R:Nat->Int}(a:Ap n T R){G:Nat->Nat}{L:List Me}(x:Ex nY (EO n T R G) L):L.length<=pr G n:=by
 have h:=nF (L.map (·.1)) ((box G n).map (Pe n T R)) x.nd (by
  intro m hm;obtain⟨e,he,rfl⟩:=tU hm;obtain⟨i,hi⟩:=Q3.mp he;obtain⟨u,hu,eu⟩:=tG a x i e hi;rw[eu];refine QD.mpr ⟨_,tH hu,?_⟩;refine dq fun k hk=>?_
  rw[List.getD_eq_getElem?_getD,List.getElem?_map,List.getElem?_range hk];rfl)
 rw[bg,bg,nE]at h;exact h
theorem C6{n:Nat}{T R:Nat->Int}{G:Nat->Nat}{M:List (List Int)}(hz:Fb n T R G∈M)(hc:∀u:Nat->Nat,Fb n T R u∈M->∀j,j<n->1<=u j->Fb n T R (dn u j)∈M)(v:Nat->Nat)(hv:∀k,k<n->v k<=G k):Fb n T R v∈M:=by
 have key:∀i,i<=n->Fb n T R (fun k=>if k<i then v k else G k)∈M:=by
  intro i;induction i with
  |zero=>
   intro _;rw[dq (v:=G) fun k _=>PM (by lia)];exact hz
  |succ i ih=>
   intro hi;have ih:=ih (by lia);have inner:∀c,c<=G i->Fb n T R (fun k=>if k<i then v k else if k=i then G i-c else G k)∈M:=by
    intro c;induction c with
    |zero=>
     intro _;rw[dq (v:=fun k=>if k<i then v k else G k) fun k _=>by
      by_cases h1:k<i
      ·simp only[h1,Rg]
      ·by_cases h2:k=i
       ·subst h2;simp
       ·simp only[h1,h2,Qy]]
     exact ih
    |succ c ihc=>
     intro GP;have h:=hc _ (ihc (by lia)) i (by lia) (by simp only[QZ,Qy,Rg];lia);rw[dq (v:=dn (fun k=>if k<i then v k else if k=i then G i-c else G k) i) fun k _=>by
      unfold dn;by_cases h1:k<i
      ·have h2:k≠i:=by lia
       simp only[h1,h2,Rg,Qy]
      ·by_cases h2:k=i
       ·subst h2;simp only[QZ,Qy,Rg];lia
       ·simp only[h1,h2,Qy]]
     exact h
   have h:=inner (G i-v i) (by lia);rw[dq (v:=fun k=>if k<i then v k else if k=i then G i-(G i-v i) else G k) fun k hk=>by
    by_cases h1:k<i
    ·have h2:k<i+1:=by lia
     simp only[h1,h2,Rg]
    ·by_cases h2:k=i
     ·subst h2;have:=hv k hk;simp only[QZ,Qy,Rg,QQ];lia
     ·have h3:¬ k<i+1:=by lia
      simp only[h1,h2,h3,Qy]]
   exact h
 rw[dq (v:=fun k=>if k<n then v k else G k) fun k hk=>(PF hk).symm];exact key n (Py _)
theorem mZ{n:Nat}{T R:Nat->Int}(a:Ap n T R){G:Nat->Nat}{M:List (List Int)}(hz:Fb n T R G∈M)(hc:∀u:Nat->Nat,Fb n T R u∈M->∀j,j<n->1<=u j->Fb n T R (dn u j)∈M):pr G n<=M.length:=by
 have h:=nF ((box G n).map (Pe n T R)) M (by
  show List.Pairwise _ _;rw[Rx];refine(mD G n).imp_of_mem fun{v w} hv hw JO e=>JO ?_
  obtain⟨l1,_⟩:=kJ hv;obtain⟨l2,_⟩:=kJ hw;refine Tt (by lia) fun k h1 h2=>?_
  have:=kI a e (k:=k) (by lia);simp only[List.getD_eq_getElem?_getD,sN h1,sN h2,Tq]at this;exact this) (by
  intro m hm;obtain⟨v,hv,rfl⟩:=tU hm;exact C6 hz hc _ (kJ hv).2)
 rw[bg,nE]at h;exact h
theorem yJ{nY:EI}(nd:nY.Nodup):nY.map nY.idxOf=List.range nY.length:=by
 refine Tt (by rw[bg,Pz]) fun k h1 h2=>?_
 rw[R5,RN];exact oY nd _
theorem apart{nY:EI}(nd:nY.Nodup){T R:Nat->Int}(a:Ap nY.length T R){G:Nat->Nat}{s:List Me×List Fd}(p:Part nY (EO nY.length T R G) s.1.length s):s.1.length=pr G nY.length:=by
 refine Nat.le_antisymm (few a p.x) ?_;have:=mZ a (M:=s.1.map (·.1)) (by
  rw[<-tF];exact QD.mpr ⟨_,Qf p.x.z,rfl⟩) (by
  intro u hu j hj h1;obtain⟨e,he,eu⟩:=tU hu;obtain⟨i,hi⟩:=Q3.mp he;refine p.cl i (nq hi).1 e hi nY[j] (RG hj) _ ?_;rw[oY nd hj];have eu:e.1=Fb nY.length T R u:=eu;rw[eu,jF a hj,PF h1])
 rw[bg]at this;exact this
theorem jG{α β:Type}{f:α->List β}{p:α->Bool}(h:∀a,(f a).length=if p a then 1 else 0):∀l:List α,(l.flatMap f).length=(l.filter p).length
 |[]=>rfl
 |a::l=>by
  rw[RX,p8,h,jG h l,List.filter_cons];cases p a with
  |true=>rw[PF rfl,PF rfl,PD,UY]
  |false=>rw[PM Pt,PM Pt,Q8]
def IC(n:Nat)(T:Nat->Int)(m:List Int):Nat:=((List.range n).filter fun k=>decide (T k<=m.getD k 0)).length
theorem yK{nY:EI}(nd:nY.Nodup){T R:Nat->Int}(a:Ap nY.length T R){G:Nat->Nat}{L:List Me}(x:Ex nY (EO nY.length T R G) L){i:Nat}{e:Me}(he:L[i]?=some e):(Jz nY (EO nY.length T R G) L i).length=IC nY.length T e.1:=by
 obtain⟨u,_,eu⟩:=tG a x i e he;unfold Jz;rw[he];dsimp only;rw[jG (p:=fun mv=>(cq (nY.idxOf mv) (e.1.zip (EO nY.length T R G))).isSome) (fun mv=>by
  unfold eV;cases cq (nY.idxOf mv) (e.1.zip (EO nY.length T R G)) <;> rfl)]
 have h:=List.filter_map (f:=nY.idxOf) (l:=nY) (p:=fun k=>(cq k (e.1.zip (EO nY.length T R G))).isSome);rw[yJ nd]at h;have h2:=Qt List.length h;rw[bg]at h2;unfold IC;rw[show(List.filter (fun mv=>(cq (nY.idxOf mv) (e.1.zip (EO nY.length T R G))).isSome) nY).length=_ from h2.symm];congr 1
 refine List.filter_congr fun k hk=>?_
 have hk:=PU.mp hk;rw[eu,jF a hk,mC hk,P8,PQ];have ht:=a.t k hk;have hr:=a.r k hk;by_cases h:1<=u k
 ·rw[PF h];have:=RJ (show(1:Int)<=(u k:Int) by lia) (by lia:0<=T k);exact⟨fun _=>by lia,fun _=>rfl⟩
 ·rw[PM h];have e0:u k=0:=by lia
  rw[e0,Int.natCast_zero,R9];exact⟨fun z=>(by cases z),fun z=>(by lia)⟩
theorem tI:∀(l acc:List D),l.Pairwise (fun a b=>Ew b a=false)->(∀d∈l,∀x∈acc,Ew d x=false)->(dst acc l).length=acc.length+l.length
 |[],acc,_,_=>rfl
 |d::l,acc,p,h=>by
  rw[QN]at p;have e:acc.any (Ew d)=false:=by
   rw[List.any_eq_false];intro x hx;rw[h d Pq x hx];exact Pt
  rw[dst,e,PM Pt,tI l _ p.2 (by
   intro y hy x hx;rcases PJ.mp hx with rfl|hx
   ·exact p.1 y hy
   ·exact h y (Px _ hy) x hx),PD,PD]
  lia
theorem tJ{α:Type}{e:α->D}[DecidableEq α](he:∀a b,Ew (e a) (e b)=decide (a=b))(hk:∀a,cG true (e a)=true){l:List α}(nd:l.Nodup)(h:l.length<=76):l9 [.lst (l.map e)]=.ok (.f,.int (l.length:Int)):=by
 unfold l9;dsimp only;have h1:(l.map e).all (cG true)=true:=by
  rw[QL,P7];exact fun a _=>hk a
 rw[PF (by rw[h1,bg,UD];exact PR h),tI _ _ (by
  rw[Rx];exact nd.imp fun{a b} JO=>by rw[he];exact PN fun z=>JO z.symm) (fun _ _ x hx=>by cases hx),bg,RS,Q8]
theorem Bp{l:List (List Int)}(nd:l.Nodup)(h:l.length<=76):l9 [.lst (l.map eM)]=.ok (.f,.int (l.length:Int)):=tJ pV yA nd h
theorem Bq{l:List Fd}(nd:l.Nodup)(h:l.length<=76):l9 [.lst (l.map eA)]=.ok (.f,.int (l.length:Int)):=tJ C3 (fun _=>rfl) nd h
theorem tL(x:Int):bD [.int x]=.ok (.f,.bl true):=by
 unfold bD gQ;rw[bS (h:=by rfl)];simp only[pv,seval,op,Eg,Ef,RL];try rfl
theorem Br{x:JV}{g h:FS}{env e:PV.Env}(q:x env=some e):AW x g h env=h e:=by
 unfold AW;rw[q]
theorem tM(N:D)(h:b7 [N]=true):bK [N]=.ok (.f,.bl true):=by
 unfold bK fu;rw[bS (h:=by rfl)];rw[az (env':=[some (.f,N),some (.f,.bl false)]) (by simp only[pv,seval,op])];rw[az (env':=[some (.f,N),some (.f,.bl true)]) (by
  have ex:BJ b7 (ah (av 0) aE) [some (.f,N),some (.f,.bl false)]=some [some (.f,N),some (.f,.bl false)]:=by
   show(if b7 [N] then some [some (O.f,N),some (.f,.bl false)] else none)=_;rw[h];rfl
  rw[Br ex];rfl)]
 simp only[pv,seval,op]
def FD(ns:List Int)(Z:Int)(k:Nat):Int:=1+cell ns (6+k)%Z
def H0(ns:List Int)(Z:Int)(k:Nat):Int:=cell ns (10+k)%FD ns Z k
theorem Bs(j k:Nat):(if((j:Int)==(k:Int))=true then(1:Int) else 0)=one j k:=by
 unfold one;by_cases h:j=k
 ·rw[PF h,PF (by rw[h];exact Qi _)]
 ·rw[PM h,PM (by rw[Ql];lia)]
theorem jh(j k:Nat):b6 (one j k)=true:=by
 unfold one;split <;> rfl
theorem Bt(n:Nat)(t:Int)(k:Nat):cz (aF 0) fL (ay mX (av 1) (aj (bz xW (ah (aj (cj HG (av 0) (av 2))) aE)))) ((List.range n).map fun(j:Nat)=>D.int (j:Int)) [none,some (.f,.int t),some (.f,.int (k:Int))]=.ok (((List.range n).map fun j=>t*one j k).map D.int):=by
 rw[P2];refine bU (fun env=>∃u,env=[u,some (.f,.int t),some (.f,.int (k:Int))]) _ ?_ _ ⟨_,rfl⟩;rintro j _ env ⟨u,rfl⟩;have m:=BM t (one j k) (jh j k);refine⟨[some (.f,.int (j:Int)),some (.f,.int t),some (.f,.int (k:Int))],by simp only[pv,seval],.f,[some (.f,.int (j:Int)),some (.f,.int t),some (.f,.int (k:Int))],?_,_,rfl⟩;simp only[pv,seval,op,Bs,m];rfl
theorem Bu(n:Nat):cz (aF 0) fL (aD (.int 0)) ((List.range n).map fun(j:Nat)=>D.int (j:Int)) [none]=.ok (((List.range n).map fun _=>(0:Int)).map D.int):=by
 rw[P2];refine bU (fun env=>∃u,env=[u]) _ ?_ _ ⟨_,rfl⟩;rintro j _ env ⟨u,rfl⟩;refine⟨[some (.f,.int (j:Int))],by simp only[pv,seval],.f,[some (.f,.int (j:Int))],?_,_,rfl⟩;simp only[pv,seval,op];rfl
theorem C7(ns:List Int)(nY:EI)(hn:nY.length<=10)(Z:Int)(hZ:0<Z)(Mh:wc (.int 10) (.int 50)=.ok (.f,.int Z))(G:Nat->Nat)(hG:∀k,G k<=100)(k:Nat)(hk:k<nY.length)(ps:List Pl)(hl:ps.length<=100)(t5 t6 t7:Option R):
  ∃t5' LK Ko:Option R,b9 [some (.f,.lst (ns.map D.int)),some (.f,.tup (nY.map D.str)),some (.f,.lst (((List.range nY.length).map fun k=>(G k:Int)).map D.int)),some (.l .f,.lst (ps.map eP)),some (.f,.int (k:Int)),t5,t6,t7]=.ok (.nx [some (.f,.lst (ns.map D.int)),some (.f,.tup (nY.map D.str)),some (.f,.lst (((List.range nY.length).map fun k=>(G k:Int)).map D.int)),some (.l .f,.lst ((ps++[Gn nY.length (FD ns Z) (H0 ns Z) G k]).map eP)),some (.f,.int (k:Int)),t5',LK,Ko]):=by
 have c6:aw [.lst (ns.map D.int),.int (6+(k:Int))]=.ok (.f,.int (cell ns (6+k))):=by
  have:=mn ns (6+k)
  rwa [show((6+k:Nat):Int)=6+(k:Int) by lia]at this
 have c10:aw [.lst (ns.map D.int),.int (10+(k:Int))]=.ok (.f,.int (cell ns (10+k))):=by
  have:=mn ns (10+k)
  rwa [show((10+k:Nat):Int)=10+(k:Int) by lia]at this
 have m50:=pU (cell ns (6+k)) Z hZ;have b50:=gr (cell ns (6+k)) Z hZ;have ht:0<FD ns Z k:=by unfold FD;lia
 have et:1+cell ns (6+k)%Z=FD ns Z k:=rfl;have er:cell ns (10+k)%FD ns Z k=H0 ns Z k:=rfl;have Pf:=pU (cell ns (10+k)) (FD ns Z k) ht;rw[er]at Pf;have tc:=Bt nY.length (FD ns Z k) k;have zc:=Bu nY.length;have GV:Ft (((List.range nY.length).map fun k=>(G k:Int)).map D.int) (k:Int)=some (.int (G k:Int)):=by
  have:=fA (l:=(List.range nY.length).map fun k=>(G k:Int)) (k:=k) (by rw[bg,Pz];exact hk)
  rwa [eS hk]at this
 have mg:=BM (FD ns Z k) (G k:Int) (sP _ (by have:=hG k;lia));have JA:((-4611686018427387904:Int)<=(nY.length:Int)/\(nY.length:Int)<4611686018427387904)=True:=WD ⟨by lia,by lia⟩;have l1:(((List.range nY.length).map fun j=>FD ns Z k*one j k).map D.int).length<=sizeLine:=line_le (by rw[bg,bg,Pz];lia);have l2:(((List.range nY.length).map fun _=>(0:Int)).map D.int).length<=sizeLine:=line_le (by rw[bg,bg,Pz];lia);have l3:(ps.map eP).length<sizeLine:=nr (by rw[bg];lia);have ep:eP (Gn nY.length (FD ns Z) (H0 ns Z) G k)=.tup [.int (FD ns Z k*(G k:Int)+H0 ns Z k),.tup (((List.range nY.length).map fun j=>FD ns Z k*one j k).map D.int),.tup (((List.range nY.length).map fun _=>(0:Int)).map D.int)]:=rfl;rw[P6,i6,Ro,ep];generalize ((List.range nY.length).map fun j=>FD ns Z k*one j k)=Ng at tc l1;generalize ((List.range nY.length).map fun _=>(0:Int))=zs at zc l2;rw[bg]at l1 l2 l3;refine⟨some (.f,.int (FD ns Z k)),some (.f,.tup (Ng.map D.int)),some (.f,.int (FD ns Z k*(G k:Int)+H0 ns Z k)),?_⟩;unfold b9;rw[az (env':=[some (.f,.lst (ns.map D.int)),some (.f,.tup (nY.map D.str)),some (.f,.lst (((List.range nY.length).map fun k=>(G k:Int)).map D.int)),some (.l .f,.lst (ps.map eP)),some (.f,.int (k:Int)),some (.f,.int (FD ns Z k)),t6,t7]) (by
  simp only[pv,seval,op,c6,Mh,m50,et])]
 rw[az (env':=[some (.f,.lst (ns.map D.int)),some (.f,.tup (nY.map D.str)),some (.f,.lst (((List.range nY.length).map fun k=>(G k:Int)).map D.int)),some (.l .f,.lst (ps.map eP)),some (.f,.int (k:Int)),some (.f,.int (FD ns Z k)),some (.f,.tup (Ng.map D.int)),t7]) (by
  generalize (ay mX (av 1) (aj (bz xW (ah (aj (cj HG (av 0) (av 2))) aE))))=GG at tc ⊢;simp only[pv,seval,op,bg,JA,Qk,tc,l1,EU])]
 rw[az (env':=[some (.f,.lst (ns.map D.int)),some (.f,.tup (nY.map D.str)),some (.f,.lst (((List.range nY.length).map fun k=>(G k:Int)).map D.int)),some (.l .f,.lst (ps.map eP)),some (.f,.int (k:Int)),some (.f,.int (FD ns Z k)),some (.f,.tup (Ng.map D.int)),some (.f,.int (FD ns Z k*(G k:Int)+H0 ns Z k))]) (by
  simp only[pv,seval,op,GV,mg,c10,Pf])]
 simp only[pv,seval,op,bg,JA,Qk,zc,l2,l3,EU];try rfl
theorem vI(ns:List Int)(nY:EI)(hn:nY.length<=10)(Z:Int)(hZ:0<Z)(Mh:wc (.int 10) (.int 50)=.ok (.f,.int Z))(G:Nat->Nat)(hG:∀k,G k<=100):cM [.lst (ns.map D.int),.tup (nY.map D.str),.lst (((List.range nY.length).map fun k=>(G k:Int)).map D.int)]=.ok (.f,eN nY (EO nY.length (FD ns Z) (H0 ns Z) G)):=by
 obtain⟨env',hf,t4,t5,t6,t7,rfl⟩:=kA (a:=aF 4) (g:=b9) (e:=fun(k:Nat)=>D.int (k:Int)) nY.length (fun i env=>∃t4 t5 t6 t7:Option R,env=[some (.f,.lst (ns.map D.int)),some (.f,.tup (nY.map D.str)),some (.f,.lst (((List.range nY.length).map fun k=>(G k:Int)).map D.int)),some (.l .f,.lst (((List.range i).map (Gn nY.length (FD ns Z) (H0 ns Z) G)).map eP)),t4,t5,t6,t7]) (by
  rintro k env hk ⟨t4,t5,t6,t7,rfl⟩;obtain⟨u5,u6,u7,e⟩:=C7 ns nY hn Z hZ Mh G hG k hk ((List.range k).map (Gn nY.length (FD ns Z) (H0 ns Z) G)) (by rw[bg,Pz];lia) t5 t6 t7;rw[show((List.range k).map (Gn nY.length (FD ns Z) (H0 ns Z) G))++[Gn nY.length (FD ns Z) (H0 ns Z) G k]=(List.range (k+1)).map (Gn nY.length (FD ns Z) (H0 ns Z) G) by rw[Rv,P6];rfl]at e;exact⟨_,by simp only[pv,seval],_,e,_,_,_,_,rfl⟩) [some (.f,.lst (ns.map D.int)),some (.f,.tup (nY.map D.str)),some (.f,.lst (((List.range nY.length).map fun k=>(G k:Int)).map D.int)),some (.l .f,.lst []),none,none,none,none] ⟨none,none,none,none,rfl⟩
 have JA:((-4611686018427387904:Int)<=(nY.length:Int)/\(nY.length:Int)<4611686018427387904)=True:=WD ⟨by lia,by lia⟩;have ff:d5 [some (.f,.lst (ns.map D.int)),some (.f,.tup (nY.map D.str)),some (.f,.lst (((List.range nY.length).map fun k=>(G k:Int)).map D.int)),some (.l .f,.lst []),none,none,none,none]=.ok (.nx [some (.f,.lst (ns.map D.int)),some (.f,.tup (nY.map D.str)),some (.f,.lst (((List.range nY.length).map fun k=>(G k:Int)).map D.int)),some (.l .f,.lst (((List.range nY.length).map (Gn nY.length (FD ns Z) (H0 ns Z) G)).map eP)),t4,t5,t6,t7]):=by
  unfold d5;rw[<-hf];generalize b9=GG;simp only[pv,seval,op,bg,JA,Qk]
 unfold cM jC;rw[bS (h:=by rfl)];rw[az (env':=[some (.f,.lst (ns.map D.int)),some (.f,.tup (nY.map D.str)),some (.f,.lst (((List.range nY.length).map fun k=>(G k:Int)).map D.int)),some (.l .f,.lst []),none,none,none,none]) (by simp only[pv,seval])];rw[az ff];unfold gm eN EO;simp only[pv,seval]
theorem vJ(a:List Nat)(l:EI):vg (.str a) (.tup (l.map D.str))=.ok (.f,.bl (!decide (a∈l))):=by
 have e:IJ (.str a) (.tup (l.map D.str))=IJ (.str a) (.lst (l.map D.str)):=rfl;show AB _ _=_;unfold AB;rw[e,sS];rfl
theorem C8{Ms:List (List Int)}{i:Nat}{m:List Int}(h:Ms[i]?=some m):Ft (Ms.map eM) (i:Int)=some (eM m):=dN (by rw[List.getElem?_map,h];rfl)
theorem yL{nY:EI}{T Q:Nat->Int}{G:Nat->Nat}(Ms:List (List Int))(x y:Nat)(mv:List Nat){m0 m1:List Int}(h0:Ms[x]?=some m0)(h1:Ms[y]?=some m1)(l0:m0.length=nY.length)(l1:m1.length=nY.length)(j:Nat)(hj:j<nY.length)
  (hc:T j*one j (nY.idxOf mv)<=m0.getD j 0) (he:m1.getD j 0=m0.getD j 0-T j*one j (nY.idxOf mv)) (t5:Option R):
  ∃t5':Option R,a7 [some (.f,eN nY (EO nY.length T Q G)),some (.f,.lst (Ms.map eM)),some (.f,eA ((x:Int),mv,(y:Int))),some (.f,.int (nY.idxOf mv:Int)),some (.f,.int (j:Int)),t5]=.ok (.nx [some (.f,eN nY (EO nY.length T Q G)),some (.f,.lst (Ms.map eM)),some (.f,eA ((x:Int),mv,(y:Int))),some (.f,.int (nY.idxOf mv:Int)),some (.f,.int (j:Int)),t5']):=by
 have a0:=C8 h0;have a1:=C8 h1;have b0:=fA (l:=m0) (k:=j) (by lia);have b1:=fA (l:=m1) (k:=j) (by lia);have pj:Ft ((EO nY.length T Q G).map eP) (j:Int)=some (eP (Gn nY.length T Q G j)):=dN (by
  unfold EO;rw[List.getElem?_map,List.getElem?_map,List.getElem?_range hj];rfl)
 have tj:Ft (((List.range nY.length).map fun i=>T j*one i j).map D.int) (j:Int)=some (.int (T j)):=by
  have:=fA (l:=(List.range nY.length).map fun i=>T j*one i j) (k:=j) (by rw[bg,Pz];exact hj)
  rwa [eS hj,eT,Ug]at this
 have m:=BM (T j) (one j (nY.idxOf mv)) (jh j (nY.idxOf mv));have d1:decide (m0.getD j 0<T j*one j (nY.idxOf mv))=false:=PN (by lia);have d2:(m1.getD j 0==m0.getD j 0-T j*one j (nY.idxOf mv))=true:=Ql.mpr he;refine⟨some (.f,.int (T j*one j (nY.idxOf mv))),?_⟩;unfold a7 eN eA;rw[show eP (Gn nY.length T Q G j)=.tup [.int (T j*(G j:Int)+Q j),.tup (((List.range nY.length).map fun i=>T j*one i j).map D.int),.tup (((List.range nY.length).map fun _=>(0:Int)).map D.int)] from rfl]at pj;generalize ((List.range nY.length).map fun i=>T j*one i j).map D.int=Ng at pj tj;generalize (EO nY.length T Q G).map eP=PS at pj ⊢;generalize Ms.map eM=MM at a0 a1 ⊢;unfold eM at a0 a1;rw[az (env':=[some (.f,.tup [.tup (nY.map D.str),.lst PS]),some (.f,.lst MM),some (.f,.tup [.int (x:Int),.str mv,.int (y:Int)]),some (.f,.int (nY.idxOf mv:Int)),some (.f,.int (j:Int)),some (.f,.int (T j*one j (nY.idxOf mv)))]) (by
  simp only[pv,seval,op,Ik,pj,tj,Bs,m])]
 simp only[pv,seval,op,HI,at2,a0,a1,b0,b1,d1,d2,Qv,jq];try rfl
theorem yM{nY:EI}(hn:nY.length<=10){T Q:Nat->Int}{G:Nat->Nat}(Ms:List (List Int))(x y:Nat)(mv:List Nat)(hm:mv∈nY){m0 m1:List Int}(h0:Ms[x]?=some m0)(h1:Ms[y]?=some m1)(l0:m0.length=nY.length)(l1:m1.length=nY.length)
  (h:∀j,j<nY.length->T j*one j (nY.idxOf mv)<=m0.getD j 0/\m1.getD j 0=m0.getD j 0-T j*one j (nY.idxOf mv)):aM [eN nY (EO nY.length T Q G),.lst (Ms.map eM),eA ((x:Int),mv,(y:Int))]=.ok (.f,.bl true):=by
 obtain⟨env',hf,t4,t5,rfl⟩:=kA (a:=aF 4) (g:=a7) (e:=fun(k:Nat)=>D.int (k:Int)) nY.length (fun i env=>∃t4 t5:Option R,env=[some (.f,eN nY (EO nY.length T Q G)),some (.f,.lst (Ms.map eM)),some (.f,eA ((x:Int),mv,(y:Int))),some (.f,.int (nY.idxOf mv:Int)),t4,t5]) (by
  rintro k env hk ⟨t4,t5,rfl⟩;obtain⟨u5,e⟩:=yL (T:=T) (Q:=Q) (G:=G) Ms x y mv h0 h1 l0 l1 k hk (h k hk).1 (h k hk).2 t5;exact⟨_,by simp only[pv,seval],_,e,_,_,rfl⟩) [some (.f,eN nY (EO nY.length T Q G)),some (.f,.lst (Ms.map eM)),some (.f,eA ((x:Int),mv,(y:Int))),some (.f,.int (nY.idxOf mv:Int)),none,none] ⟨none,none,rfl⟩
 have JA:((-4611686018427387904:Int)<=(nY.length:Int)/\(nY.length:Int)<4611686018427387904)=True:=WD ⟨by lia,by lia⟩;have lp:(EO nY.length T Q G).length=nY.length:=by unfold EO;rw[bg,Pz]
 have ff:cb [some (.f,eN nY (EO nY.length T Q G)),some (.f,.lst (Ms.map eM)),some (.f,eA ((x:Int),mv,(y:Int))),some (.f,.int (nY.idxOf mv:Int)),none,none]=.ok (.nx [some (.f,eN nY (EO nY.length T Q G)),some (.f,.lst (Ms.map eM)),some (.f,eA ((x:Int),mv,(y:Int))),some (.f,.int (nY.idxOf mv:Int)),t4,t5]):=by
  unfold cb;rw[<-hf];generalize a7=GG;unfold eN;simp only[pv,seval,op,Ik,bg,lp,JA,Qk]
 have Ho:=vJ mv nY;rw[PR hm,Qv]at Ho;have Gh:=nu hm;unfold aM dM;rw[bS (h:=by rfl)];rw[az (env':=[some (.f,eN nY (EO nY.length T Q G)),some (.f,.lst (Ms.map eM)),some (.f,eA ((x:Int),mv,(y:Int))),none,none,none]) (by
  unfold eN eA;simp only[pv,seval,op,isT,HI,Ik,Ho,Qv,jq];try rfl)]
 rw[az (env':=[some (.f,eN nY (EO nY.length T Q G)),some (.f,.lst (Ms.map eM)),some (.f,eA ((x:Int),mv,(y:Int))),some (.f,.int (nY.idxOf mv:Int)),none,none]) (by
  unfold eN eA;simp only[pv,seval,op,HI,Ik,Gh])]
 rw[az ff];unfold cQ;simp only[pv,seval]
theorem C9{nY:EI}{T Q:Nat->Int}{G:Nat->Nat}{j:Nat}(hj:j<nY.length):Ft ((EO nY.length T Q G).map eP) (j:Int)=some (eP (Gn nY.length T Q G j)):=dN (by
 unfold EO;rw[List.getElem?_map,List.getElem?_map,List.getElem?_range hj];rfl)
theorem Dc{n:Nat}{T:Nat->Int}{j:Nat}(hj:j<n):Ft (((List.range n).map fun i=>T j*one i j).map D.int) (j:Int)=some (.int (T j)):=by
 have:=fA (l:=(List.range n).map fun i=>T j*one i j) (k:=j) (by rw[bg,Pz];exact hj)
 rwa [eS hj,eT,Ug]at this
theorem De{nY:EI}{T Q:Nat->Int}{G:Nat->Nat}(mk:List Int)(hl:mk.length=nY.length):cz (aF 0) (E7 (ay Jy (aj (ay EB (av 1) (av 0))) (aj (ay EB (aj (ay EB (aj (ay EB (aj (ay EB (av 2) (aj (aD (.int 1))))) (av 0))) (aj (aD (.int 1))))) (av 0))))) (bh 0) ((List.range nY.length).map fun(k:Nat)=>D.int (k:Int)) [none,some (.f,eM mk),some (.f,eN nY (EO nY.length T Q G))]=.ok (((List.range nY.length).filter fun k=>decide (T k<=mk.getD k 0)).map fun(k:Nat)=>D.int (k:Int)):=by
 refine vy (p:=fun k:Nat=>decide (T k<=mk.getD k 0)) (r:=fun k:Nat=>D.int (k:Int)) (fun env=>∃t,env=[t,some (.f,eM mk),some (.f,eN nY (EO nY.length T Q G))]) _ ?_ _ ⟨_,rfl⟩;rintro k hk env ⟨t,rfl⟩;have hk:=PU.mp hk;have a0:=fA (l:=mk) (k:=k) (by lia);have pj:=C9 (T:=T) (Q:=Q) (G:=G) hk;have tj:=Dc (T:=T) hk;rw[show eP (Gn nY.length T Q G k)=.tup [.int (T k*(G k:Int)+Q k),.tup (((List.range nY.length).map fun i=>T k*one i k).map D.int),.tup (((List.range nY.length).map fun _=>(0:Int)).map D.int)] from rfl]at pj;refine⟨[some (.f,.int (k:Int)),some (.f,eM mk),some (.f,eN nY (EO nY.length T Q G))],by simp only[pv,seval],?_⟩;unfold eM eN;generalize ((List.range nY.length).map fun i=>T k*one i k).map D.int=Ng at pj tj;generalize (EO nY.length T Q G).map eP=PS at pj ⊢;simp only[pv,seval,op,a0,Ik,pj,tj];cases h:decide (T k<=mk.getD k 0) with
 |true=>exact⟨_,rfl,_,_,rfl,_,rfl⟩
 |false=>exact⟨_,rfl,_,rfl⟩
theorem Bv{nY:EI}(hn:nY.length<=10){T Q:Nat->Int}{G:Nat->Nat}(Ms:List (List Int))(hl:∀x∈Ms,x.length=nY.length)(NS MV GS CH:D)(m:Nat)(t6 t9 FY Gv:Option R)(NE:D)(IL:NE=eN nY (EO nY.length T Q G))(n:Nat)(en:n=nY.length):
  ∃LL Hj Jk:Option R,kg [some (.f,NS),some (.f,.int (n:Int)),some (.f,MV),some (.f,GS),some (.f,NE),some (.f,.int (m:Int)),t6,some (.f,CH),some (.f,.lst (Ms.map eM)),t9,FY,Gv,some (.f,.int 0)]=.ok (.nx [some (.f,NS),some (.f,.int (n:Int)),some (.f,MV),some (.f,GS),some (.f,NE),some (.f,.int (m:Int)),t6,some (.f,CH),some (.f,.lst (Ms.map eM)),LL,Hj,Jk,some (.f,.int (((Ms.map (IC n T)).sum:Nat):Int))]):=by
 have JA:((-4611686018427387904:Int)<=(n:Int)/\(n:Int)<4611686018427387904)=True:=WD ⟨by lia,by lia⟩;obtain⟨env',hf,LL,rfl⟩:=for_list (a:=aF 9) (g:=hV) (e:=eM) Ms (fun i env=>∃t9:Option R,env=[some (.f,NS),some (.f,.int (n:Int)),some (.f,MV),some (.f,GS),some (.f,NE),some (.f,.int (m:Int)),t6,some (.f,CH),some (.f,.lst (Ms.map eM)),t9,FY,Gv,some (.f,.int ((((Ms.take i).map (IC n T)).sum:Nat):Int))]) (by
  rintro i mk env hi ⟨t9,rfl⟩;obtain⟨h1,h2⟩:=nq hi;have hc:=De (T:=T) (Q:=Q) (G:=G) mk (hl mk (Qf hi));rw[<-IL,<-en]at hc;have l1:(((List.range n).filter fun k=>decide (T k<=mk.getD k 0)).map fun(k:Nat)=>D.int (k:Int)).length<=sizeLine:=line_le (by
   rw[bg];refine Qc (T6 _ _) ?_;rw[Pz];lia)
  have fl:flatDs (((List.range n).filter fun k=>decide (T k<=mk.getD k 0)).map fun(k:Nat)=>D.int (k:Int))=true:=by
   rw[cK,QL,P7];exact fun k _=>rfl
  have el:(((List.range n).filter fun k=>decide (T k<=mk.getD k 0)).map fun(k:Nat)=>D.int (k:Int)).length=IC n T mk:=by
   rw[bg];rfl
  generalize (((List.range n).filter fun k=>decide (T k<=mk.getD k 0)).map fun(k:Nat)=>D.int (k:Int))=FL at hc l1 fl el;rw[el]at l1;refine⟨[some (.f,NS),some (.f,.int (n:Int)),some (.f,MV),some (.f,GS),some (.f,NE),some (.f,.int (m:Int)),t6,some (.f,CH),some (.f,.lst (Ms.map eM)),some (.f,eM mk),FY,Gv,some (.f,.int ((((Ms.take i).map (IC n T)).sum:Nat):Int))],by simp only[pv,seval],_,?_,some (.f,eM mk),rfl⟩;have es:((((Ms.take (i+1)).map (IC n T)).sum:Nat):Int)=((((Ms.take i).map (IC n T)).sum:Nat):Int)+(IC n T mk:Int):=by
   rw[Sj h1,h2,P6,List.sum_append,Int.natCast_add];simp
  rw[es];generalize ((((Ms.take i).map (IC n T)).sum:Nat):Int)=z;unfold hV;generalize (E7 (ay Jy (aj (ay EB (av 1) (av 0))) (aj (ay EB (aj (ay EB (aj (ay EB (aj (ay EB (av 2) (aj (aD (.int 1))))) (av 0))) (aj (aD (.int 1))))) (av 0)))))=CC at hc ⊢;simp only[pv,seval,op,JA,Qk,hc,l1,fl,el]) [some (.f,NS),some (.f,.int (n:Int)),some (.f,MV),some (.f,GS),some (.f,NE),some (.f,.int (m:Int)),t6,some (.f,CH),some (.f,.lst (Ms.map eM)),t9,FY,Gv,some (.f,.int 0)] ⟨t9,rfl⟩
 rw[List.take_length]at hf;refine⟨LL,FY,Gv,?_⟩;rw[<-hf];unfold kg;generalize hV=GG;simp only[pv,seval,op]
theorem Bw{nY:EI}(As:List Fd)(Ms:List (List Int))(NS MV GS CH:D)(n m:Nat)(t6 t9 FY Gv Hb:Option R)(NE:D)(hC:EB CH (.int 1)=.ok (.f,.lst (As.map eA)))
  (h:∀a∈As,(0<=a.1/\a.1<(m:Int))/\(0<=a.2.2/\a.2.2<(m:Int))/\aM [NE,.lst (Ms.map eM),eA a]=.ok (.f,.bl true)):
  ∃Jk:Option R,kh [some (.f,NS),some (.f,.int (n:Int)),some (.f,MV),some (.f,GS),some (.f,NE),some (.f,.int (m:Int)),t6,some (.f,CH),some (.f,.lst (Ms.map eM)),t9,FY,Gv,Hb]=.ok (.nx [some (.f,NS),some (.f,.int (n:Int)),some (.f,MV),some (.f,GS),some (.f,NE),some (.f,.int (m:Int)),t6,some (.f,CH),some (.f,.lst (Ms.map eM)),t9,FY,Jk,Hb]):=by
 obtain⟨env',hf,Jk,rfl⟩:=for_list (a:=aF 11) (g:=hX) (e:=eA) As (fun i env=>∃Gv:Option R,env=[some (.f,NS),some (.f,.int (n:Int)),some (.f,MV),some (.f,GS),some (.f,NE),some (.f,.int (m:Int)),t6,some (.f,CH),some (.f,.lst (Ms.map eM)),t9,FY,Gv,Hb]) (by
  rintro i a env hi ⟨Gv,rfl⟩;obtain⟨⟨h1,h2⟩,⟨h3,h4⟩,h5⟩:=h a (Qf hi);have w:=tL a.1;have d1:decide (0<=a.1)=true:=PR h1;have d2:decide (a.1<(m:Int))=true:=PR h2;have d3:decide (0<=a.2.2)=true:=PR h3;have d4:decide (a.2.2<(m:Int))=true:=PR h4;refine⟨[some (.f,NS),some (.f,.int (n:Int)),some (.f,MV),some (.f,GS),some (.f,NE),some (.f,.int (m:Int)),t6,some (.f,CH),some (.f,.lst (Ms.map eM)),t9,FY,some (.f,eA a),Hb],by simp only[pv,seval],_,?_,some (.f,eA a),rfl⟩;unfold hX;have s1:(GO (Iw (ow (E7 (eK bD (ah (aj (ay EB (av 11) (aj (aD (.int 0))))) aE)))) (Iw (ow (E7 (fU Jx IZ (aj (aD (.int 0))) (aj (ay EB (av 11) (aj (aD (.int 0))))) (av 5)))) (ow (E7 (fU Jx IZ (aj (aD (.int 0))) (aj (ay EB (av 11) (aj (aD (.int 2))))) (av 5)))))) (eZ (aD (.bl false))) df) [some (.f,NS),some (.f,.int (n:Int)),some (.f,MV),some (.f,GS),some (.f,NE),some (.f,.int (m:Int)),t6,some (.f,CH),some (.f,.lst (Ms.map eM)),t9,FY,some (.f,eA a),Hb]=.ok (.nx [some (.f,NS),some (.f,.int (n:Int)),some (.f,MV),some (.f,GS),some (.f,NE),some (.f,.int (m:Int)),t6,some (.f,CH),some (.f,.lst (Ms.map eM)),t9,FY,some (.f,eA a),Hb]):=by
   unfold eA;simp only[pv,seval,op,HI,at2,w,d1,d2,d3,d4,Qv,jq];try rfl
  rw[az s1];generalize eA a=EA at h5 ⊢;generalize Ms.map eM=MM at h5 ⊢;simp only[pv,seval,op,h5,Qv,jq]) [some (.f,NS),some (.f,.int (n:Int)),some (.f,MV),some (.f,GS),some (.f,NE),some (.f,.int (m:Int)),t6,some (.f,CH),some (.f,.lst (Ms.map eM)),t9,FY,Gv,Hb] ⟨Gv,rfl⟩
 refine⟨Jk,?_⟩;rw[<-hf];unfold kh;generalize hX=GG;simp only[pv,seval,op,hC]
theorem Bx(mk:List Int)(Ms:List (List Int))(NS MV GS CH NE:D)(n m:Nat)(t6 FY Gv Hb:Option R):
  ∃Hj:Option R,m6 [some (.f,NS),some (.f,.int (n:Int)),some (.f,MV),some (.f,GS),some (.f,NE),some (.f,.int (m:Int)),t6,some (.f,CH),some (.f,.lst (Ms.map eM)),some (.f,eM mk),FY,Gv,Hb]=.ok (.nx [some (.f,NS),some (.f,.int (n:Int)),some (.f,MV),some (.f,GS),some (.f,NE),some (.f,.int (m:Int)),t6,some (.f,CH),some (.f,.lst (Ms.map eM)),some (.f,eM mk),Hj,Gv,Hb]):=by
 obtain⟨env',hf,Hj,rfl⟩:=for_list (a:=aF 10) (g:=h8) (e:=D.int) mk (fun i env=>∃FY:Option R,env=[some (.f,NS),some (.f,.int (n:Int)),some (.f,MV),some (.f,GS),some (.f,NE),some (.f,.int (m:Int)),t6,some (.f,CH),some (.f,.lst (Ms.map eM)),some (.f,eM mk),FY,Gv,Hb]) (by
  rintro i a env hi ⟨FY,rfl⟩;have w:=tL a;refine⟨[some (.f,NS),some (.f,.int (n:Int)),some (.f,MV),some (.f,GS),some (.f,NE),some (.f,.int (m:Int)),t6,some (.f,CH),some (.f,.lst (Ms.map eM)),some (.f,eM mk),some (.f,.int a),Gv,Hb],by simp only[pv,seval],_,?_,some (.f,.int a),rfl⟩;unfold h8;simp only[pv,seval,op,w,Qv,jq]) [some (.f,NS),some (.f,.int (n:Int)),some (.f,MV),some (.f,GS),some (.f,NE),some (.f,.int (m:Int)),t6,some (.f,CH),some (.f,.lst (Ms.map eM)),some (.f,eM mk),FY,Gv,Hb] ⟨FY,rfl⟩
 refine⟨Hj,?_⟩;rw[<-hf];unfold m6;generalize h8=GG;unfold eM;simp only[pv,seval,op]
theorem By(Ms:List (List Int))(NS MV GS CH NE:D)(n m:Nat)(t6 t9 FY Gv Hb:Option R):
  ∃LL Hj:Option R,kj [some (.f,NS),some (.f,.int (n:Int)),some (.f,MV),some (.f,GS),some (.f,NE),some (.f,.int (m:Int)),t6,some (.f,CH),some (.f,.lst (Ms.map eM)),t9,FY,Gv,Hb]=.ok (.nx [some (.f,NS),some (.f,.int (n:Int)),some (.f,MV),some (.f,GS),some (.f,NE),some (.f,.int (m:Int)),t6,some (.f,CH),some (.f,.lst (Ms.map eM)),LL,Hj,Gv,Hb]):=by
 obtain⟨env',hf,LL,Hj,rfl⟩:=for_list (a:=aF 9) (g:=ki) (e:=eM) Ms (fun i env=>∃t9 FY:Option R,env=[some (.f,NS),some (.f,.int (n:Int)),some (.f,MV),some (.f,GS),some (.f,NE),some (.f,.int (m:Int)),t6,some (.f,CH),some (.f,.lst (Ms.map eM)),t9,FY,Gv,Hb]) (by
  rintro i a env hi ⟨t9,FY,rfl⟩;obtain⟨u,e⟩:=Bx a Ms NS MV GS CH NE n m t6 FY Gv Hb;exact⟨[some (.f,NS),some (.f,.int (n:Int)),some (.f,MV),some (.f,GS),some (.f,NE),some (.f,.int (m:Int)),t6,some (.f,CH),some (.f,.lst (Ms.map eM)),some (.f,eM a),FY,Gv,Hb],by simp only[pv,seval],_,e,_,_,rfl⟩) [some (.f,NS),some (.f,.int (n:Int)),some (.f,MV),some (.f,GS),some (.f,NE),some (.f,.int (m:Int)),t6,some (.f,CH),some (.f,.lst (Ms.map eM)),t9,FY,Gv,Hb] ⟨t9,FY,rfl⟩
 refine⟨LL,Hj,?_⟩;rw[<-hf];unfold kj;generalize ki=GG;simp only[pv,seval,op]
theorem p6{n:Nat}{T Q:Nat->Int}(a:Ap n T Q){u:Nat->Nat}{k:Nat}(h1:1<=u k){j:Nat}(hj:j<n):T j*one j k<=(Fb n T Q u).getD j 0/\(Fb n T Q (dn u k)).getD j 0=(Fb n T Q u).getD j 0-T j*one j k:=by
 rw[mC hj,mC hj];have ht:=a.t j hj;have hr:=a.r j hj;unfold dn;by_cases e:j=k
 ·subst e;rw[eT,PF rfl,show((u j-1:Nat):Int)=(u j:Int)-1 by lia,Int.mul_sub];have:=RJ (show(1:Int)<=(u j:Int) by lia) (by lia:0<=T j);lia
 ·rw[o6 e,PM e,R9];have:=Int.mul_nonneg (by lia:0<=T j) (by lia:0<=(u j:Int));lia
theorem Bz(n:Nat)(T:Nat->Int)(m:List Int):IC n T m<=n:=by
 unfold IC;refine Qc (T6 _ _) ?_;rw[Pz];exact Py _
theorem wF{α:Type}{f:α->Nat}{c:Nat}(h:∀a,f a<=c):∀l:List α,(l.map f).sum<=l.length*c
 |[]=>Qg _
 |a::l=>by
  have:=wF h l;have:=h a;rw[i6,Tj,PD,Vt,Nat.one_mul];lia
theorem kK{n:Nat}{T Q:Nat->Int}{G:Nat->Nat}:(EO n T Q G).length=n:=by
 unfold EO;rw[bg,Pz]
theorem wG{n:Nat}{T Q:Nat->Int}{G:Nat->Nat}:∀p∈EO n T Q G,Jj p n:=by
 intro p hp;obtain⟨k,_,rfl⟩:=tU hp;exact⟨by unfold Gn;rw[bg,Pz],by unfold Gn;rw[bg,Pz]⟩
structure Fin(nY:EI)(T:Nat->Int)(NE:D)(first:List Int)(Ms:List (List Int))(As:List Fd)(m:Nat):Prop where
 ml:Ms.length=m
 nd:Ms.Nodup
 z:Ms[0]?=some first
 ln:∀x∈Ms,x.length=nY.length
 ao:As.Pairwise fun a b=>kG b a=false/\a≠b
 al:As.length=(Ms.map (IC nY.length T)).sum
 ar:∀a∈As,(0<=a.1/\a.1<(m:Int))/\(0<=a.2.2/\a.2.2<(m:Int))/\aM [NE,.lst (Ms.map eM),eA a]=.ok (.f,.bl true)
theorem BA{nY:EI}(hn:nY.length<=4)(nd:nY.Nodup)(pw:nY.Pairwise (fun a b=>Hq b a=false)){T Q:Nat->Int}(a:Ap nY.length T Q){G:Nat->Nat}{s:List Me×List Fd}(p:Part nY (EO nY.length T Q G) s.1.length s):
  Fin nY T (eN nY (EO nY.length T Q G)) ((EO nY.length T Q G).map (·.1)) (s.1.map (·.1)) s.2 (pr G nY.length):=by
 have hm:=apart nd a p;have Pg:(s.1.map (·.1)).length=pr G nY.length:=by rw[bg];exact hm
 refine⟨Pg,p.x.nd,by rw[List.getElem?_map,p.x.z];rfl,fun x hx=>?_,by rw[p.ar];exact tu nd pw _ _ _,?_,fun b hb=>?_⟩
 ·obtain⟨e,he,rfl⟩:=tU hx;rw[p.x.ln e he,kK]
 ·rw[p.ar,List.length_flatMap];congr 1
  refine Tt (by rw[bg,Pz,bg,bg]) fun i h1 h2=>?_
  rw[R5,RN,R5,R5];have hi:i<s.1.length:=by rw[bg,Pz]at h1;exact h1
  exact yK nd a p.x (sN hi)
 ·rw[p.ar]at hb;obtain⟨i,hi,hb⟩:=R6.mp hb;have hi:=PU.mp hi;obtain⟨b1,b2,e,he,r,hf,b3⟩:=tq hb;have hr:=p.cl i hi e he _ b2 r hf;have hg:=yF hr;have Fc:=(nq hg).1;rw[Pg]at Fc;have hk:=Rk b2;obtain⟨u,_,eu⟩:=tG a p.x i e he;refine⟨⟨by lia,by lia⟩,⟨by lia,by lia⟩,?_⟩;have hq:=yM (nY:=nY) (by lia) (T:=T) (Q:=Q) (G:=G) (s.1.map (·.1)) i (pos (s.1.map (·.1)) r) b.2.1 b2 (m0:=e.1) (m1:=r) (by rw[List.getElem?_map,he];rfl) hg (by rw[eu,tw]) (by
   rw[eu,jF a hk]at hf;split at hf
   ·rw[<-PZ hf,tw]
   ·cases hf) (fun j hj=>by
   rw[eu,jF a hk]at hf;split at hf
   ·rename_i h1;rw[<-PZ hf,eu];exact p6 a h1 hj
   ·cases hf)
  rw[show b=((i:Int),b.2.1,(pos (s.1.map (·.1)) r:Int)) by rw[<-b1,<-b3]];exact hq
theorem yN(ps:List Pl):cz (kM 3 (aK (aF 0) (aK (aF 1) (aK (aF 2) dP)))) fL (bh 0) (ps.map eP) [none,none,none]=.ok ((ps.map (·.1)).map D.int):=by
 rw[P2];refine bU (fun env=>∃t u v,env=[t,u,v]) _ ?_ _ ⟨_,_,_,rfl⟩;rintro p _ env ⟨t,u,v,rfl⟩;refine⟨_,gs _ _ _ _ _ _ _,?_⟩;simp only[pv,seval];exact⟨_,_,rfl,_,_,_,rfl⟩
theorem BB{nY:EI}(hn:nY.length<=4){T Q:Nat->Int}{G:Nat->Nat}(NS GS NE:D)(IL:NE=eN nY (EO nY.length T Q G))(Ms:List (List Int))(As:List Fd)(m:Nat)(Nf:m<=12)(t6:Option R)(Mi:frz t6=t6)
  (F:Fin nY T NE ((EO nY.length T Q G).map (·.1)) Ms As m) (GY:cJ [NE]=.ok (.f,.tup [.tup [.tup (nY.map D.str),.lst (As.map eA)],.lst (Ms.map eM)])) (Jl:aY [NE]=.ok (.f,yC m)):
  eR [some (.f,NS),some (.f,.int (nY.length:Int)),some (.f,.tup (nY.map D.str)),some (.f,GS),some (.f,NE),some (.f,.int (m:Int)),t6,none,none,none,none,none,none]=.ok (.rt (.f,.bl true)):=by
 have Oy:decide ((12:Int)<(m:Int))=false:=PN (by lia);have hl48:As.length<=48:=by
  rw[F.al];refine Qc (wF (Bz nY.length T) Ms) ?_;rw[F.ml];exact Nat.mul_le_mul Nf hn
 have ends:Hz (.tup [.str [101,110,100,115],.int (m:Int)]) (.tup [.str [101,110,100,115],.int (m:Int)])=.ok (.f,.bl false):=i8 _ (by
  rw[plainD];rfl)
 have Jl:aY [NE]=.ok (.f,.tup [.str [101,110,100,115],.int (m:Int)]):=Jl;have sM:=Bp F.nd (by rw[F.ml];lia);have sA:=Bq (F.ao.imp fun h=>h.2) (l:=As) (by lia);rw[F.ml]at sM;have Oz:=yE As (by lia);rw[<-dR yD (List.Perm.refl As) (F.ao.imp fun h=>h.1)]at Oz;have nA:Hz (.lst (As.map eA)) (.lst (As.map eA))=.ok (.f,.bl false):=i8 _ (by
  rw[plainD];exact pZ 36 As)
 have nN:Hz (.tup (nY.map D.str)) (.tup (nY.map D.str))=.ok (.f,.bl false):=i8 _ (by
  rw[plainD];exact jE _ nY)
 have NH:cX (.tup [.tup [.tup (nY.map D.str),.lst (As.map eA)],.lst (Ms.map eM)])=false:=by
  rw[ib];simp only[flatDs,cX,SY,RM]
 have fE:flatDs [.str [101,110,100,115],.int (m:Int)]=true:=rfl;have bm:((m:Int)==(m:Int))=true:=Qi _;have lM:(Ms.map eM).length=m:=by rw[bg];exact F.ml
 have i0:∀x y:D,Ft (x::y::[]) (0:Int)=some x:=fun _ _=>rfl
 have i1:∀x y:D,Ft (x::y::[]) (1:Int)=some y:=fun _ _=>rfl
 have lA:(As.map eA).length=As.length:=bg _;have bA:((As.length:Int)==(As.length:Int))=true:=Qi _;obtain⟨u9,OA,L4⟩:=By Ms NS (.tup (nY.map D.str)) GS (.tup [.tup (nY.map D.str),.lst (As.map eA)]) NE nY.length m t6 none none none none;obtain⟨Ph,L2⟩:=Bw (nY:=nY) As Ms NS (.tup (nY.map D.str)) GS (.tup [.tup (nY.map D.str),.lst (As.map eA)]) nY.length m t6 u9 OA none none NE rfl F.ar;obtain⟨v9,v10,v11,L1⟩:=Bv (by lia) (T:=T) (Q:=Q) (G:=G) Ms F.ln NS (.tup (nY.map D.str)) GS (.tup [.tup (nY.map D.str),.lst (As.map eA)]) m t6 u9 OA Ph NE IL nY.length rfl;rw[<-F.al]at L1;have Kp:Ft (Ms.map eM) (0:Int)=some (eM ((EO nY.length T Q G).map (·.1))):=C8 (i:=0) F.z;have fc:=yN (EO nY.length T Q G);have OB:HG (eM ((EO nY.length T Q G).map (·.1))) (eM ((EO nY.length T Q G).map (·.1)))=.ok (.f,.bl true):=mh _ (yv _);have HP:(((EO nY.length T Q G).map (·.1)).map D.int).length<=sizeLine:=line_le (by rw[bg,bg,kK];lia);have Pj:EB NE (.int 1)=.ok (.f,.lst ((EO nY.length T Q G).map eP)):=by rw[IL];rfl
 generalize As.map eA=AA at Oz nA sA NH lA L4 L2 L1 GY;generalize Ms.map eM=MM at sM lM NH L4 L2 L1 GY Kp;generalize (EO nY.length T Q G).map eP=PP at fc Pj;generalize (EO nY.length T Q G).map (·.1)=FF at fc Kp OB HP;unfold eM at Kp OB;generalize nY.map D.str=NN at nN NH L4 L2 L1 GY ⊢;unfold eR oT oS;generalize kj=G4 at L4 ⊢;generalize kh=G2 at L2 ⊢;generalize kg=G1 at L1 ⊢;rw[az (env':=[some (.f,NS),some (.f,.int (nY.length:Int)),some (.f,.tup NN),some (.f,GS),some (.f,NE),some (.f,.int (m:Int)),t6,none,none,none,none,none,none]) (by
  simp only[pv,seval,op,gt_iff_lt,Oy,jq])]
 rw[az (env':=[some (.f,NS),some (.f,.int (nY.length:Int)),some (.f,.tup NN),some (.f,GS),some (.f,NE),some (.f,.int (m:Int)),t6,some (.f,.tup [.tup NN,.lst AA]),some (.f,.lst MM),none,none,none,none]) (by
  simp only[pv,seval,op,GY,NH,BN,BO,Mi,jq])]
 rw[az (env':=[some (.f,NS),some (.f,.int (nY.length:Int)),some (.f,.tup NN),some (.f,GS),some (.f,NE),some (.f,.int (m:Int)),t6,some (.f,.tup [.tup NN,.lst AA]),some (.f,.lst MM),none,none,none,none]) (by
  simp only[pv,seval,op,Jl,fE,ends,lM,bm,sM,Qv,jq];try rfl)]
 rw[az (env':=[some (.f,NS),some (.f,.int (nY.length:Int)),some (.f,.tup NN),some (.f,GS),some (.f,NE),some (.f,.int (m:Int)),t6,some (.f,.tup [.tup NN,.lst AA]),some (.f,.lst MM),none,none,none,none]) (by
  simp only[pv,seval,op,i0,i1,nN,Oz,nA,sA,lA,bA,Qv,jq];try rfl)]
 rw[az L4,az L2];rw[az (env':=[some (.f,NS),some (.f,.int (nY.length:Int)),some (.f,.tup NN),some (.f,GS),some (.f,NE),some (.f,.int (m:Int)),t6,some (.f,.tup [.tup NN,.lst AA]),some (.f,.lst MM),u9,OA,Ph,some (.f,.int 0)]) (by simp only[pv,seval])];rw[az L1];unfold oR;simp only[pv,seval,op,i1,lA,bA,Kp,Pj,fc,HP,EU,OB]
theorem BC{nY:EI}(hn:nY.length<=4)(nd:nY.Nodup)(pw:nY.Pairwise (fun a b=>Hq b a=false)){T Q:Nat->Int}(a:Ap nY.length T Q){G:Nat->Nat}(NS GS NE:D)(IL:NE=eN nY (EO nY.length T Q G))(m:Nat)(hm:m=pr G nY.length)(t6:Option R)(Mi:frz t6=t6):
  eR [some (.f,NS),some (.f,.int (nY.length:Int)),some (.f,.tup (nY.map D.str)),some (.f,GS),some (.f,NE),some (.f,.int (m:Int)),t6,none,none,none,none,none,none]=.ok (.rt (.f,.bl true)):=by
 have GY:=C1 nY (by lia) (EO nY.length T Q G) (by rw[kK];lia) wG;have Jl:=vG nY (by lia) (EO nY.length T Q G) (by rw[kK];lia) wG;have Md:=o5 nY (EO nY.length T Q G) 13 0 _ rfl (tm nY (EO nY.length T Q G));have hx:=sU nY (EO nY.length T Q G) 13 0 (Ex.zero nY (EO nY.length T Q G));rw[<-IL]at GY Jl;change Ex nY (EO nY.length T Q G) (Ha nY (EO nY.length T Q G) 13 0 (L0 (EO nY.length T Q G))) at hx;have Ob:(Hs nY (EO nY.length T Q G) 13 0 (M0 (EO nY.length T Q G))).1=Ha nY (EO nY.length T Q G) 13 0 (L0 (EO nY.length T Q G)):=kF nY _ 13 0 _;rw[<-Ob]at GY Jl hx;generalize Hs nY (EO nY.length T Q G) 13 0 (M0 (EO nY.length T Q G))=s at GY Jl hx Md;by_cases Nf:12<m
 ·have Oy:decide ((12:Int)<(m:Int))=true:=PR (by lia);have hl:12<s.1.length:=by
   rcases U0 12 s.1.length with h|h
   ·exact h
   ·have:=apart nd a (Md h);lia
  have hx1:b7 [NE]=true:=by
   rcases GY with h|h
   ·exact h.2
   ·have:=h.1;lia
  have hrf:=tM NE hx1;have Nh:(List.range 13).findSome? (Mf s.1)=none:=List.findSome?_eq_none_iff.mpr fun k _=>C5 a hx k
  have Jl:aY [NE]=.ok (.f,.tup [.str [98,101,121,111,110,100]]):=by
   rw[Jl];unfold vF;rw[PM (by lia),Nh];rfl
  have heq:HG (.tup [.str [98,101,121,111,110,100]]) (.tup [.str [98,101,121,111,110,100]])=.ok (.f,.bl true):=mh _ (by
   rw[plainD];rfl)
  have fB:flatDs [.str [98,101,121,111,110,100]]=true:=rfl;unfold eR;simp only[pv,seval,op,gt_iff_lt,Oy,hrf,Jl,heq,fB]
 ·have hle:s.1.length<=12:=Qc (few a hx) (by lia);have pt:=Md hle;have F:=BA hn nd pw a pt;have JQ:=apart nd a pt;have Jw:aY [NE]=.ok (.f,yC m):=by
   rw[Jl];unfold vF;rw[PF hle,JQ,hm]
  rw[<-IL,<-hm]at F;rcases GY with h|h
  ·have:=h.1;lia
  ·exact BB hn NS GS NE IL _ _ m (by lia) t6 Mi F h.2.2 Jw
theorem tN(ns:List Int)(h63:ns.length<=63):∃o,ye [.lst (ns.map D.int)]=.ok (o,.bl true):=by
 have c0:aw [.lst (ns.map D.int),.int 0]=.ok (.f,.int (cell ns 0)):=mn ns 0;have c1:aw [.lst (ns.map D.int),.int 1]=.ok (.f,.int (cell ns 1)):=mn ns 1;obtain⟨l,h5,lnd,lpw,en⟩:=yu (cell ns 0);have b4:=gr (cell ns 1) 4 (by decide);have m4:=pU (cell ns 1) 4 (by decide);obtain⟨n,ec⟩:=RD (show 0<=1+cell ns 1%4 by lia);obtain⟨nY,NI⟩:∃nY,l.take n=nY:=⟨_,rfl⟩
 have hlen:nY.length=n:=by rw[<-NI,Qe];lia
 have nd:nY.Nodup:=by rw[<-NI];exact lnd.sublist (S5 _ _)
 have pw:nY.Pairwise (fun a b=>Hq b a=false):=by rw[<-NI];exact lpw.sublist (S5 _ _)
 subst hlen;have hnm2:(l.map D.str).take nY.length=nY.map D.str:=by rw[<-UG,NI]
 have fl:flatDs (l.map D.str)=true:=PV.flat_strs l;have fl2:flatDs (nY.map D.str)=true:=PV.flat_strs nY;have Mh:wc (.int 10) (.int 50)=.ok (.f,.int (10 ^ 50)):=Eb 50 (by decide);have hZ:(0:Int)<10 ^ 50:=by decide
 generalize (10:Int) ^ 50=Z at Mh hZ;obtain⟨G,Pk⟩:∃G:Nat->Nat,G=fun k=>(cell ns (2+k)%5).toNat:=⟨_,rfl⟩
 have Pm:∀k,cell ns (2+k)%5=(G k:Int):=fun k=>by
  rw[Pk];have:=gr (cell ns (2+k)) 5 (by decide);lia
 have Pn:∀k,G k<=100:=fun k=>by
  have:=gr (cell ns (2+k)) 5 (by decide);have:=Pm k;lia
 clear Pk;have a:Ap nY.length (FD ns Z) (H0 ns Z):=by
  have ht:∀k,1<=FD ns Z k:=fun k=>by
   have:=gr (cell ns (6+k)) Z hZ;unfold FD;lia
  exact⟨fun k _=>ht k,fun k _=>gr _ _ (by have:=ht k;lia)⟩
 have Kq:=vI ns nY (by lia) Z hZ Mh G Pn;have JA:((-4611686018427387904:Int)<=(nY.length:Int)/\(nY.length:Int)<4611686018427387904)=True:=WD ⟨by lia,by lia⟩;have hc:cz (aF 0) fL (ay jy (aj (eK aw (ah (av 1) (ah (aj (ay dU (aj (aD (.int 2))) (av 0))) aE)))) (aj (aD (.int 5)))) ((List.range nY.length).map fun(k:Nat)=>D.int (k:Int)) [none,some (.f,.lst (ns.map D.int))]=.ok (((List.range nY.length).map fun k=>(G k:Int)).map D.int):=by
  rw[P2];refine bU (fun env=>∃t,env=[t,some (.f,.lst (ns.map D.int))]) _ ?_ _ ⟨_,rfl⟩;rintro k _ env ⟨t,rfl⟩;have c2:aw [.lst (ns.map D.int),.int (2+(k:Int))]=.ok (.f,.int (cell ns (2+k))):=by
   have:=mn ns (2+k)
   rwa [show((2+k:Nat):Int)=2+(k:Int) by lia]at this
  have m5:=pU (cell ns (2+k)) 5 (by decide);rw[Pm]at m5;refine⟨[some (.f,.int (k:Int)),some (.f,.lst (ns.map D.int))],by simp only[pv,↓reduceIte,Nat.reduceAdd,Nat.reduceLT,Nat.reduceLeDiff,Nat.reduceEqDiff],.f,[some (.f,.int (k:Int)),some (.f,.lst (ns.map D.int))],?_,_,rfl⟩;simp only[pv,↓reduceIte,Nat.reduceAdd,Nat.reduceLT,Nat.reduceLeDiff,Nat.reduceEqDiff,op,c2,m5];rfl
 have l1:(((List.range nY.length).map fun k=>(G k:Int)).map D.int).length<=sizeLine:=line_le (by rw[bg,bg,Pz];lia);have fg:=EU ((List.range nY.length).map fun k=>(G k:Int));obtain⟨NE,IL⟩:∃NE,NE=eN nY (EO nY.length (FD ns Z) (H0 ns Z) G):=⟨_,rfl⟩
 have JB:cX NE=false:=by
  rw[IL];unfold eN;rw[ib];simp only[flatDs,cX,SY,RM]
 rw[<-IL]at Kq;have egs:((List.range nY.length).map fun k=>(G k:Int)).map D.int=(List.range nY.length).map fun(k:Nat)=>D.int (G k:Int):=by
  rw[P2];rfl
 generalize D.lst (ns.map D.int)=NS at c0 c1 hc Kq ⊢;obtain⟨env',hf,t6,Mi,rfl⟩:=kA (a:=aF 6) (g:=h9) (e:=fun(k:Nat)=>D.int (G k:Int)) nY.length (fun i env=>∃t6:Option R,frz t6=t6/\env=[some (.f,NS),some (.f,.int (nY.length:Int)),some (.f,.tup (nY.map D.str)),some (.f,.lst (((List.range nY.length).map fun k=>(G k:Int)).map D.int)),some (.f,NE),some (.f,.int (pr G i:Int)),t6,none,none,none,none,none,none]) (by
  rintro k env hk ⟨t6,Mi,rfl⟩;have mm:=BM (pr G k:Int) ((G k:Int)+1) (sQ _ (by lia) (by have:=Pn k;lia));rw[show(pr G k:Int)*((G k:Int)+1)=(pr G (k+1):Int) by rw[pr,Int.natCast_mul,Int.natCast_add];rfl]at mm;refine⟨[some (.f,NS),some (.f,.int (nY.length:Int)),some (.f,.tup (nY.map D.str)),some (.f,.lst (((List.range nY.length).map fun k=>(G k:Int)).map D.int)),some (.f,NE),some (.f,.int (pr G k:Int)),some (.f,.int (G k:Int)),none,none,none,none,none,none],by simp only[pv,↓reduceIte,Nat.reduceAdd,Nat.reduceLT,Nat.reduceLeDiff,Nat.reduceEqDiff],_,?_,some (.f,.int (G k:Int)),rfl,rfl⟩;unfold h9;simp only[pv,↓reduceIte,Nat.reduceAdd,Nat.reduceLT,Nat.reduceLeDiff,Nat.reduceEqDiff,op,mm]) [some (.f,NS),some (.f,.int (nY.length:Int)),some (.f,.tup (nY.map D.str)),some (.f,.lst (((List.range nY.length).map fun k=>(G k:Int)).map D.int)),some (.f,NE),some (.f,.int 1),none,none,none,none,none,none,none] ⟨none,rfl,rfl⟩
 have e:=BC (by lia) nd pw a NS (.lst (((List.range nY.length).map fun k=>(G k:Int)).map D.int)) NE IL (pr G nY.length) rfl t6 Mi;rw[<-egs]at hf;generalize ((List.range nY.length).map fun k=>(G k:Int)).map D.int=GS at hc l1 fg Kq hf e;refine⟨.f,?_⟩;unfold ye AZ;generalize eR=GT at e ⊢;have f5:kl [some (.f,NS),some (.f,.int (nY.length:Int)),some (.f,.tup (nY.map D.str)),some (.f,.lst GS),some (.f,NE),some (.f,.int 1),none,none,none,none,none,none,none]=.ok (.nx [some (.f,NS),some (.f,.int (nY.length:Int)),some (.f,.tup (nY.map D.str)),some (.f,.lst GS),some (.f,NE),some (.f,.int (pr G nY.length:Int)),t6,none,none,none,none,none,none]):=by
  unfold kl;rw[<-hf];generalize h9=GG;simp only[pv,↓reduceIte,Nat.reduceAdd,Nat.reduceLT,Nat.reduceLeDiff,Nat.reduceEqDiff,op]
 generalize kl=G5 at f5 ⊢;rw[bS (h:=by rfl)];rw[az (env':=[some (.f,NS),some (.f,.int (nY.length:Int)),none,none,none,none,none,none,none,none,none,none,none]) (by
  simp only[pv,↓reduceIte,Nat.reduceAdd,Nat.reduceLT,Nat.reduceLeDiff,Nat.reduceEqDiff,op,c1,m4,ec])]
 rw[az (env':=[some (.f,NS),some (.f,.int (nY.length:Int)),some (.f,.tup (nY.map D.str)),none,none,none,none,none,none,none,none,none,none]) (by
  simp only[pv,↓reduceIte,Nat.reduceAdd,Nat.reduceLT,Nat.reduceLeDiff,Nat.reduceEqDiff,op,c0,en,kB,hnm2,fl,fl2])]
 rw[az (env':=[some (.f,NS),some (.f,.int (nY.length:Int)),some (.f,.tup (nY.map D.str)),some (.l .f,.lst GS),none,none,none,none,none,none,none,none,none]) (by
  generalize (ay jy (aj (eK aw (ah (av 1) (ah (aj (ay dU (aj (aD (.int 2))) (av 0))) aE)))) (aj (aD (.int 5))))=GG at hc ⊢;simp only[pv,↓reduceIte,Nat.reduceAdd,Nat.reduceLT,Nat.reduceLeDiff,Nat.reduceEqDiff,op,JA,Qk,hc,l1,fg])]
 rw[az (env':=[some (.f,NS),some (.f,.int (nY.length:Int)),some (.f,.tup (nY.map D.str)),some (.f,.lst GS),some (.f,NE),none,none,none,none,none,none,none,none]) (by
  simp only[pv,↓reduceIte,Nat.reduceAdd,Nat.reduceLT,Nat.reduceLeDiff,Nat.reduceEqDiff,op,Kq,JB,BN,BO,jq])]
 rw[az (env':=[some (.f,NS),some (.f,.int (nY.length:Int)),some (.f,.tup (nY.map D.str)),some (.f,.lst GS),some (.f,NE),some (.f,.int 1),none,none,none,none,none,none,none]) (by simp only[pv,↓reduceIte,Nat.reduceAdd,Nat.reduceLT,Nat.reduceLeDiff,Nat.reduceEqDiff])];rw[az f5,e,FA]
end LW
namespace FIN
open PySem PySem.Spec PyProof.Rows L2 NX PV LW
theorem BD{l:PySem.W.OpenLaw}{w:World}{K:W.Frag}{h:Heap}{mg:Str->Option Value}{fa f:Addr}{od an:Option Addr}{sl:Array (Option Value)}{oc kV dc pm cd ct:Value}(X:K.In h)(G:h.Ns mainGlobals mg)(Ox:mg "law" = some (.ref fa))
  (aL:PySem.W.nsIn K mainGlobals "law" = some (some (.ref f))) (lL:K.lookup f=some ⟨oc,od,.func (PySem.W.fnOf "law" "law" (dt kx) (bY kx) (defScope kx) .none kV dc pm an cd ct),sl⟩) (cL:PySem.W.codeIn K cd "law" = true) (kL:PySem.W.keepIn K (.ref f)=true)
  (Fi:Def K mg "first_marking" cR) (HB:Def K mg "can_go" km) (Il:Def K mg "moved" m7) (GI:Def K mg "explored" gD) (GJ:Def K mg "run_of" ia) (HC:Def K mg "covers" kn) (E8:Def K mg "nearest_covered" cn) (Gp:Def K mg "growth_of" fJ) (Fp:Def K mg "_law_cell_at" c5) (FZ:Def K mg "_law_mixed" d7) (F0:Def K mg "_law_names" d8) (F1:Def K mg "_law_whole" d9) (GK:Def K mg "_law_net" gE) (Fg:Def K mg "_law_arc_right" cC) (Fq:Def K mg "_law_refused" c7)
  (Et:Gi mg "MOST_STATES" (12))
  (G0:PySem.W.nsIn K mainGlobals "all" = some none) (Hg:PySem.W.nsIn K mainGlobals "bool" = some none) (Gk:PySem.W.nsIn K mainGlobals "int" = some none) (EN:PySem.W.nsIn K mainGlobals "isinstance" = some none) (EF:PySem.W.nsIn K mainGlobals "len" = some none) (EJ:PySem.W.nsIn K mainGlobals "range" = some none) (HA:PySem.W.nsIn K mainGlobals "set" = some none) (Fe:PySem.W.nsIn K mainGlobals "sorted" = some none) (ER:PySem.W.nsIn K mainGlobals "tuple" = some none) (Gj:PySem.W.nsIn K mainGlobals "zip" = some none) {EC:Addr}(ET:PySem.W.nsIn K mainGlobals "TooGreat" = some (some (.ref EC))) (FE:PySem.W.excIn K EC [.type "ValueError",.type "Exception",.type "BaseException",.type "object"] "ValueError.__new__" = true):
  ∃fd:FuncData,(∀(s:Shared) (v:Value),BindsTo s fd ⟨[v],[]⟩ [("_law_script",v)])/\∀base:Heap,K.In base->base.Ns mainGlobals mg->FnOk l.prog w K mg base IM 6 fa fd ["_law_script"] (ve K):=by
 have e:=Ox.symm.trans (SG X G aL);cases e;have F:=vN (st:=kx) lL cL kL;have KN:=Qw X G G0;have y_bool:=Qw X G Hg;have Jm:=Qw X G Gk;have F2:=Qw X G EN;have Gq:=Qw X G EF;have F3:=Qw X G EJ;have Bd:=Qw X G HA;have HD:=Qw X G Fe;have F4:=Qw X G ER;have Jn:=Qw X G Gj;have LM:=SG X G ET;refine⟨PySem.W.fnOf "law" "law" (dt kx) (bY kx) (defScope kx) .none kV dc pm an cd ct,fun s v=>.of_eq rfl,fun base KB GB=>?_⟩;have GL:K4 mg base "TooGreat" EC:=⟨_,_,_,_,PySem.F.excBase_ValueError,Ab KB GB ET FE⟩
 have Gw:Ct l.prog w K mg base "first_marking" 1 (spF K bx):=gZ Fi F4;have Jo:Ct l.prog w K mg base "can_go" 1 (spF K eQ):=so HB KN Jn;have Kr:Ct l.prog w K mg base "moved" 2 (spF K dX):=vm Il Jo F4 Jn;have FH:Ct l.prog w K mg base "explored" 3 (spF K aV):=m9 GI Gw Kr Et Gq;have HE:Ct l.prog w K mg base "run_of" 4 (spF K cJ):=sr GJ FH Et Gq;have ID:=pT (P:=l.prog) (w:=w) (K:=K) (mg:=mg) (base:=base) GJ FH GL Et Gq;have Jp:Ct l.prog w K mg base "covers" 1 (spF K dC):=sv HC KN Jn;have F5:Ct l.prog w K mg base "nearest_covered" 2 (spF K aO):=gq E8 Jp;have HF:Ct l.prog w K mg base "growth_of" 4 (spF K aY):=me Gp FH F5 Et Gq F3;have Fs:Ct l.prog w K mg base "_law_cell_at" 1 (spF K aw):=iZ Fp Gq;have Hk:Ct l.prog w K mg base "_law_mixed" 1 (spF K bC):=ko FZ;have Hl:Ct l.prog w K mg base "_law_names" 2 (spF K bX):=kq F0 Hk F3 HD;have Hm:Ct l.prog w K mg base "_law_whole" 1 (spF K bD):=ku F1 y_bool Jm F2;have Ia:Ct l.prog w K mg base "_law_net" 2 (spF K cM):=ng GK Fs Jm Gq F3 F4;have Gg:Ct l.prog w K mg base "_law_arc_right" 1 (spF K aM):=gF Fg Jm F2 Gq F3 F4;have GN:Ct l.prog w K mg base "_law_refused" 5 (spF K bK):=i4 Fq ID HE GL;exact(A0 F Gg Fs Hl Ia GN Hm HF HE Gq F3 Bd HD F4).imp (AK tN)
end FIN
def PySem.W.Fast.tw8684034386644612663:=0
def PySem.W.Fast.tw8383016393003764031:=0
def PySem.W.Fast.tw17339280419151120114:=0
def PySem.W.Fast.tw12966214958138164475:=0
def PySem.W.Fast.tw12802068848005811249:=0
def PySem.W.Fast.tw9735321143952307872:=0
def PySem.W.Fast.tw18419173235630676966:=0
def PySem.W.Fast.tw10349545626166049256:=0
def PySem.W.Fast.tw17584609526928902471:=0
def PySem.W.Fast.tw7157885426838085895:=0
def PySem.W.Fast.tw6084358179076945288:=0
def PySem.W.Fast.tw1065635353114495310:=0
def PySem.W.Fast.tw17212449385936224737:=0
def PySem.W.Fast.tw4562590056837462779:=0
def PySem.W.Fast.tw1901216199675824487:=0
def PySem.W.Fast.tw2311186694863884630:=0
def PySem.W.Fast.tw6312793870541899115:=0
def PySem.W.Fast.tw1229441301999427342:=0
def PySem.W.Fast.tw13381881411739794284:=0
def PySem.W.Fast.tw4454747759066238908:=0
def PySem.W.Fast.tw10987522256104464298:=0
open PySem PySem.W PyProof.Rows
set_option maxRecDepth 100000 in
set_option maxHeartbeats 0 in
theorem PySem.Challenge.cw_netfinder_k21_runs_of_places_apart_holds : PySem.Challenge.rw_netfinder_k21_runs_of_places_apart.Holds := by
  w_on; o_law; k_head; (case hw => w_witness2)
  k_fill
  refine PV.D2 (l := PySem.Challenge.rw_netfinder_k21_runs_of_places_apart) (k := 6) (x := "_law_script") rfl rfl ⟨rfl, by decide, by decide⟩ (fun w h Y => PySem.W.kIn_of Y) ?F
  case F =>
    intro w mg fa h KX G Mr
    refine' FIN.BD KX G Mr ?aL ?lL ?cL ?kL ?Fi ?HB ?Il ?GI ?GJ ?HC ?E8 ?Gp ?Fp ?FZ ?F0 ?F1 ?GK ?Fg ?Fq ?Et ?G0 ?Hg ?Gk ?EN ?EF ?EJ ?HA ?Fe ?ER ?Gj ?ET ?FE
    (case aL => k_is); (case lL => k_is); (case cL => k_is); (case kL => k_is)
    iterate 15 (refine' PV.AM KX G ?a ?l ?c ?k; (case a => k_is); (case l => k_is); (case c => k_is); (case k => k_is))
    (case Et => (refine' PV.CG KX G ?a; (case a => k_is)))
    iterate 10 k_is
    (case ET => k_is)
    (case FE => k_exc)
