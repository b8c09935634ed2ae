import PyProof.Rows.All
import Wide.All
import OpenK.AllK
import Wide.FinOn
import Lean
import PyProof.EqAt
import PyProof.EqKinds
import PyProof.TupleCall
import PySem.Challenge.RW_netfinder_k41_kernels
set_option Elab.async false
set_option linter.all false
set_option maxRecDepth 100000
set_option compiler.extract_closed false
set_option bootstrap.genMatcherCode false
noncomputable section
theorem Zz{a b:Prop}(x:a)(y:b):a∧b:=⟨x,y⟩
def Od:=@List.getD_eq_getElem?_getD
def Oe:=@PySem.wpAny_bind
def Of:=@List.size_toArray
def Og:=@List.mem_cons_of_mem
def Oh:=@List.mem_cons_self
def Oi:=@PySem.Heap.get?_push_of_some
def Oj:=@List.mem_append_right
def Ol:=@List.getElem?_eq_getElem
def Om:=@List.getElem?_eq_some_iff
def Oo:=@List.mem_append_left
def Oq:=@Nat.le_refl
def Ot:=@Nat.lt_of_lt_of_le
def Ou:=@PySem.Heap.lt_size
def Ov:=@List.mem_cons
def Ow:=@PySem.Heap.get?_push_size
def Ox:=@PySem.wpAny_pure
def Oy:=@if_pos
def Oz:=@Bool.and_eq_true
def OA:=@List.length_cons
def OB:=@Bool.false_ne_true
def OC:=@Nat.ne_of_lt
def OD:=@if_neg
def OE:=@List.length_range
def OF:=@Nat.le_trans
def OG:=@List.getElem?_map
def OH:=@List.map_cons
def OI:=@List.length_map
def OJ:=@Nat.not_lt_zero
def OK:=@List.append_nil
def OL:=@List.mem_append
def OM:=@List.lookup_cons
def ON:=@List.nodup_append
def OO:=@beq_iff_eq
def OP:=@Option.some.inj
def OQ:=@beq_eq_false_iff_ne
def OR:=@decide_eq_true_eq
def OS:=@List.all_eq_true
def OT:=@List.mem_filter
def OU:=@List.nodup_cons
def OV:=@PySem.PassesOwn.never
def OW:=@Int.toNat_natCast
def OX:=@List.append_assoc
def OY:=@List.eq_nil_of_length_eq_zero
def OZ:=@beq_self_eq_true
def O0:=@decide_eq_false
def O1:=@List.length_set
def O2:=@Int.mul_zero
def O3:=@Int.mul_eq_zero
def O4:=@List.length_filter_le
def O5:=@PySem.W.mg_none_of
def O6:=@List.map_append
def O7:=@Bool.eq_iff_iff
def O8:=@List.length_append
def O9:=@decide_eq_true
def Pa:=@PySem.Heap.size_push
def Pb:=@List.mem_singleton
def Pc:=@Int.natAbs_natCast
def Pd:=@List.map_map
def Pe:=@Bool.and_self
def Pf:=@Nat.lt_succ_self
def Pg:=@List.not_mem_nil
def Ph:=@List.drop_eq_getElem_cons
def Pj:=@List.getElem?_set_self
def Pk:=@List.take_of_length_le
def Pl:=@Int.mul_assoc
def Pm:=@PyProof.Rows.callWith_type1
def Pn:=@Nat.zero_le
def Po:=@List.replicate_succ
def Pp:=@List.length_take
def Pq:=@PySem.wpAny_callSpecial?_slot
def Pr:=@List.mem_of_getElem?
def Pt:=@List.map_nil
def Pu:=@Int.mul_comm
def Pw:=@List.nil_append
def Px:=@Classical.byContradiction
def Py:=@Nat.lt_irrefl
def Pz:=@PySem.mem_of_lookup
def PB:=@PySem.AutoSeq1.wpAny_loadPart'
def PD:=@List.mem_range
def PF:=@Int.natAbs_mul
def PH:=@PySem.wpAny_pyIter_tuple
def PJ:=@PySem.wpAny_field
def PK:=@Nat.lt_of_le_of_lt
def PL:=@Int.add_zero
def PM:=@List.take_succ_eq_append_getElem
def PN:=@Array.length_toList
def PQ:=@PySem.wpAny_pyIter_list
def PR:=@PyProof.Rows.slot_tuple_getitem
def PU:=@PySem.wpAny_newObj_type
def PX:=@List.flatten_cons
def PY:=@List.map_congr_left
def PZ:=@List.getElem_of_mem
def P0:=@congrArg
def P1:=@List.length_nil
def P2:=@List.set_set
def P4:=@Int.zero_mul
def P5:=@PySem.wpAny_Call_Name_kw
def P6:=@Option.isSome_iff_exists
def P7:=@Int.one_mul
def P8:=@Nat.mul_le_mul_right
def P9:=@List.filter_cons_of_pos
def Qa:=@PySem.wpAny_seqItems
def Qb:=@Ne.symm
def Qc:=@List.length_zip
def Qd:=@PySem.W.kia_one
def Qe:=@Int.emod_nonneg
def Qf:=@Option.map_eq_some_iff
def Qg:=@if_true
def Qh:=@PySem.F.slot_tuple_iterator_next
def Qi:=@List.drop_length
def Qj:=@PySem.wpAny_setField_rec
def Qk:=@Bool.true_and
def Ql:=@List.getElem?_zip_eq_some
def Qm:=@PySem.wpAny_passesOwn
def Qn:=@Bool.eq_false_iff
def Qo:=@Nat.mul_comm
def Qp:=@Nat.zero_add
def Qq:=@Nat.pow_succ
def Qr:=@List.all_cons
def Qs:=@List.filter_cons_of_neg
def Qt:=@PySem.wpAny_call_entry
def Qu:=@List.find?_cons_of_pos
def Qv:=@List.find?_cons_of_neg
def Qw:=@List.getElem_range
def Qx:=@Int.emod_lt_of_pos
def Qy:=@Nat.ne_of_gt
def Qz:=@List.find?_cons
def QA:=@List.all_map
def QB:=@Int.neg_mul
def QC:=@Nat.two_pow_pos
def QD:=@PySem.wpAny_truthy_bool
def QF:=@Nat.le_of_succ_le
def QH:=@List.getElem?_append_right
def QJ:=@Nat.pow_le_pow_right
def QK:=@List.getElem?_append_left
def QL:=@List.nodup_nil
def QM:=@List.length_drop
def QN:=@List.cons_append
def QR:=@List.any_eq_true
def QU:=@PySem.sizeLine_eq
def QV:=@Nat.le_succ
def QX:=@List.length_reverse
def QY:=@Nat.mul_le_mul_left
def QZ:=@PySem.F.args_tuple_add_2
def Q0:=@PySem.wpAny_comprehension_free
def Q1:=@Nat.succ_pos
def Q2:=@List.of_mem_zip
def Q3:=@PySem.F.entry_tuple_add
def Q4:=@List.foldl_cons
def Q5:=@PySem.tupleKind_room_in1
def Q6:=@List.zip_cons_cons
def Q7:=@Option.bind_eq_some_iff
def Q8:=@Bool.not_true
def Q9:=@PySem.F.slot_tuple_add
def Ra:=@PySem.Heap.get?_update_other
def Rb:=@PySem.wpAny_mono
def Rc:=@PySem.call_meets
def Rf:=@Int.mul_left_comm
def Rg:=@List.any_eq_false
def Rh:=@Nat.mul_le_mul
def Ri:=@Nat.le_of_lt
def Rj:=@PySem.Heap.get?_update_self
def Rk:=@Nat.le_of_eq
def Rl:=@List.any_map
def Rm:=@List.getElem?_eq_none
def Rn:=@Int.natAbs_dvd_natAbs
def Ro:=@List.zipIdx_cons
def Rp:=@Nat.le_add_right
def Rq:=@List.getElem_map
def Rr:=@List.getElem?_set_ne
def Rt:=@PySem.wpAny_updateSeq_pair
def Ru:=@Int.mul_fdiv_cancel'
def Rv:=@PySem.Paired.length
def Rw:=@PySem.F.args_tuple_iterator_next_1
def Rx:=@or_false
def Ry:=@List.any_cons
def Rz:=@Bool.and_true
def RA:=@List.dropLast_cons_of_ne_nil
def RB:=@List.filterMap_cons
def RC:=@PySem.wpAny_execs_nil
def RD:=@List.range_succ
def RE:=@Bool.or_eq_true
def RF:=@PySem.F.entry_tuple_iterator_next
def RG:=@PySem.F.slot_zip_next
def RH:=@PySem.F.slot_int_rmul
def RI:=@PySem.wpAny_ite_split
def RJ:=@PySem.Calls.Name_function_global
def RK:=@Bool.false_eq_true
def RL:=@Int.natAbs_eq_zero
def RM:=@PySem.F.args_tuple_mul_2
def RN:=@Int.gcd_zero_right
def RO:=@List.take_zero
def RP:=@PySem.wpAny_binaryOp_repeat_ref
def RQ:=@Int.natAbs_neg
def RS:=@Nat.lt_succ_of_lt
def RT:=@Option.isSome_map
def RU:=@of_decide_eq_true
def RV:=@PySem.F.entry_tuple_mul
def RW:=@Int.natAbs_add_le
def RX:=@Bool.not_eq_true'
def RY:=@List.eq_of_mem_replicate
def RZ:=@PySem.wpAny_holding
def R3:=@PySem.wpAny_onRaise
def R4:=@PySem.wpAny_letGo
def R5:=@decide_eq_false_iff_not
def R6:=@PySem.F.plainAttrs_list
def R7:=@Int.mul_add
def R8:=@Int.eq_ofNat_of_zero_le
def R9:=@PySem.noFill_tuple_add
def Sa:=@List.take_length
def Sb:=@PySem.F.slot_tuple_mul
def Sd:=@List.filter_cons
def Se:=@Int.neg_fmod_neg
def Sf:=@PySem.W.cellsFrom_some
def Sk:=@List.Perm.append_right
def Sl:=@List.range_succ_eq_map
def Sm:=@List.drop_eq_nil_of_le
def Sn:=@Nat.div_div_eq_div_mul
def So:=@Nat.le_mul_of_pos_left
def Sq:=@List.filter_eq_nil_iff
def Ss:=@List.length_replicate
def Su:=@PySem.concat_meets
def Sv:=@PySem.wpAny_typeOf
def Sw:=@List.length_singleton
def Sy:=@Array.getElem?_toList
def Sz:=@Nat.succ_mul
def SA:=@List.mem_map
def SD:=@List.forIn_cons
def SE:=@PySem.wpAny_specialOf
def SF:=@PySem.pushCells_keeps
def SG:=@List.Perm.append_left
def SH:=@List.perm_append_comm
def SI:=@List.mem_iff_getElem?
def SJ:=@Classical.choose_spec
def SM:=@List.all_nil
def SN:=@Int.zero_add
def SO:=@Int.le_of_lt
def SQ:=@if_false
def SR:=@PySem.typeIs_int
def SS:=@List.getLast?_concat
def SU:=@List.dropLast_concat
def SV:=@List.replicate_succ'
def SW:=@Nat.div_lt_of_lt_mul
def SX:=@List.drop_zero
def SY:=@List.forIn_nil
def S1:=@Bool.and_false
def S2:=@Int.natAbs_pos
def S6:=@Nat.add_left_cancel
def S7:=@List.take_succ_cons
def S8:=@List.drop_succ_cons
def S9:=@List.sum_append_int
def Ta:=@List.flatten_append
def Tb:=@Nat.pow_le_pow_left
def Tc:=@List.filter_eq_self
def Tf:=@Array.append_assoc
def Tg:=@List.mem_filterMap
def Ti:=@PySem.seq_tuple_add
def Tn:=@Bool.or_false
def To:=@Bool.false_or
def Tq:=@Option.isSome_some
def Tr:=@List.length_zipIdx
def Ts:=@Nat.eq_zero_or_pos
def Tt:=@Nat.mul_assoc
def Tu:=@Nat.dvd_trans
def Tv:=@List.getElem?_take
def Tw:=@Int.lt_or_gt_of_ne
def Tx:=@List.filter_append
def TJ:=@PySem.wpAny_rule
def TZ:=@List.sum_nil
def Um:=@List.not_lt
def Uq:=@Nat.log2_lt
def Uw:=@Nat.mul_one
def Ux:=@Int.neg_neg
def U8:=@bne_iff_ne
def Vx:=@dif_pos
namespace L2
open PySem PySem.Spec PyProof.Rows
def IsTupN(h:Heap)(a:Addr)(items:Array Value):Prop:=∃o,h.get? a=some o/\o.cls=.type "tuple"/\(∃n,o.data=.seq items n)/\o.dict=none
theorem IsTupN.tup{h:Heap}{a:Addr}{items:Array Value}(p:IsTupN h a items):IsTup h a items:=by
 obtain⟨o,e,c,n,_⟩:=p;exact⟨o,e,c,n⟩
theorem IsTupN.new(h:Heap)(items:Array Value):IsTupN (h.push {cls:=.type "tuple",data:=.seq items}) h.objs.size items:=⟨_,Ow _ rfl,rfl,⟨_,rfl⟩,rfl⟩
abbrev Key:=Sum Int Str
def lu:Key->Value->Bool
 | .inl k,v=>Value.isInt k v
 | .inr x,v=>Value.isStrOf x v
def BX(w:World):Key->Int
 | .inl k=>hashInt k
 | .inr x=>hashStr w x
theorem bh:∀{k:Key}{v:Value},lu k v=true->(∃i t,k=Sum.inl i/\v=Value.int i t)\/(∃x t,k=Sum.inr x/\v=Value.str x t)
 | .inl i,v,h=>by
  obtain⟨t,e⟩:=Value.isInt_shape (k:=i) (v:=v) h;exact .inl ⟨i,t,rfl,e⟩
 | .inr x,v,h=>by
  obtain⟨t,e⟩:=Value.isStrOf_shape (x:=x) (v:=v) h;exact .inr ⟨x,t,rfl,e⟩
theorem oG(i:Int)(t:Tok):lu (.inl i) (.int i t)=true:=by simp[lu,Value.isInt]
theorem oH(x:Str)(t:Tok):lu (.inr x) (.str x t)=true:=by simp[lu,Value.isStrOf]
theorem xH(a b:Int):decide ((Sum.inl a:Key)=Sum.inl b)=(a==b):=by
 by_cases e:a=b
 ·subst e;simp
 ·have h:¬ (Sum.inl a:Key)=Sum.inl b:=fun q=>e (Sum.inl.inj q)
  rw[O0 h];exact(OQ.mpr e).symm
theorem xI(a b:Str):decide ((Sum.inr a:Key)=Sum.inr b)=decide (a=b):=by
 by_cases e:a=b
 ·subst e;simp
 ·have h:¬ (Sum.inr a:Key)=Sum.inr b:=fun q=>e (Sum.inr.inj q)
  rw[O0 h,O0 e]
theorem xJ(a:Int)(b:Str):decide ((Sum.inl a:Key)=Sum.inr b)=false:=O0 (fun q=>nomatch q)
theorem xK(a:Str)(b:Int):decide ((Sum.inr a:Key)=Sum.inl b)=false:=O0 (fun q=>nomatch q)
noncomputable def mixKind(prog:Program)(w:World):PySem.KeyKind prog w Key where
 is:=lu
 hash:=BX w
 inj:=fun v a b ha hb=>by
  rcases bh ha with⟨i,t,rfl,rfl⟩|⟨x,t,rfl,rfl⟩
  ·rcases bh hb with⟨j,u,rfl,e⟩|⟨y,u,rfl,e⟩
   ·injection e with e1 _;rw[e1]
   ·exact nomatch e
  ·rcases bh hb with⟨j,u,rfl,e⟩|⟨y,u,rfl,e⟩
   ·exact nomatch e
   ·injection e with e1 _;rw[e1]
 byValue:=fun k v h=>by
  rcases bh h with⟨i,t,rfl,rfl⟩|⟨x,t,rfl,rfl⟩ <;> rfl
 pyHash:=fun hv h=>by
  rcases bh hv with⟨i,t,rfl,rfl⟩|⟨x,t,rfl,rfl⟩
  ·exact wpAny_pyHash_int h
  ·exact wpAny_pyHash_str h
 eqBool:=fun hu hv h=>by
  rcases bh hu with⟨i,t,rfl,rfl⟩|⟨x,t,rfl,rfl⟩
  ·rcases bh hv with⟨j,u,rfl,rfl⟩|⟨y,u,rfl,rfl⟩
   ·rw[xH]at h;exact wpAny_eqBool_int h
   ·rw[xJ]at h;exact SeqAt.EqAt.int_str i t y u _ _ _ _ h
  ·rcases bh hv with⟨j,u,rfl,rfl⟩|⟨y,u,rfl,rfl⟩
   ·rw[xK]at h;exact SeqAt.EqAt.str_int x t j u _ _ _ _ h
   ·rw[xI]at h;exact wpAny_eqBool_str h
 «strs»:=fun k x t v h=>by
  rcases bh h with⟨i,u,rfl,e⟩|⟨y,u,rfl,e⟩
  ·exact nomatch e
  ·injection e with e1 _;subst e1;cases v <;> rfl
theorem nK(prog:Program)(w:World)(k:Key)(v:Value):(mixKind prog w).is k v=lu k v:=rfl
theorem lx(prog:Program)(w:World)(i:Int)(t:Tok):(mixKind prog w).is (.inl i) (.int i t)=true:=oG i t
theorem ly(prog:Program)(w:World)(x:Str)(t:Tok):(mixKind prog w).is (.inr x) (.str x t)=true:=oH x t
inductive V where
 |non|bl (b:Bool)|int (i:Int)|str (x:Str)|byt (b:Array UInt8)|flt (b:UInt64)|ref (a:Addr)|ty (n:String)
 deriving DecidableEq
noncomputable def RelV:V->Value->Prop
 | .non,u=>u=Value.none
 | .bl b,u=>u=Value.bool b
 | .int i,u=>∃t,u=Value.int i t
 | .str x,u=>∃t,u=Value.str x t
 | .byt b,u=>∃t,u=Value.bytes b t
 | .flt b,u=>∃t,u=Value.float b t
 | .ref a,u=>u=Value.ref a
 | .ty n,u=>u=Value.type n
abbrev Vals:List V->List Value->Prop:=Paired RelV
theorem Vals.length{xs:List V}{us:List Value}(r:Vals xs us):xs.length=us.length:=Rv r
theorem Vals.get:∀{xs:List V}{us:List Value}{i:Nat}{x:V},Vals xs us->xs[i]?=some x->∃u,us[i]?=some u/\RelV x u
 |_,_,_,_,.nil,e=>by simp at e
 |_,_,0,_,.cons r _,e=>by simp at e;subst e;exact⟨_,rfl,r⟩
 |_,_,i+1,x,.cons _ t,e=>by
  obtain⟨u,h1,h2⟩:=Vals.get (i:=i) (x:=x) t (by simpa using e);exact⟨u,by simpa using h1,h2⟩
theorem Vals.set{x:V}{u:Value}(r:RelV x u):∀{xs:List V}{us:List Value}(i:Nat),Vals xs us->Vals (xs.set i x) (us.set i u)
 |_,_,_,.nil=>.nil
 |_,_,0,.cons _ t=>.cons r t
 |_,_,i+1,.cons q t=>.cons q (Vals.set r i t)
theorem Vals.append:∀{xs ys:List V}{us ws:List Value},Vals xs us->Vals ys ws->Vals (xs++ys) (us++ws)
 |_,_,_,_,.nil,s=>s
 |_,_,_,_,.cons r t,s=>.cons r (Vals.append t s)
theorem Vals.take:∀{xs:List V}{us:List Value}(n:Nat),Vals xs us->Vals (xs.take n) (us.take n)
 |_,_,0,_=>.nil
 |_,_,_+1,.nil=>.nil
 |_,_,n+1,.cons r t=>.cons r (Vals.take n t)
theorem Vals.drop:∀{xs:List V}{us:List Value}(n:Nat),Vals xs us->Vals (xs.drop n) (us.drop n)
 |_,_,0,r=>r
 |_,_,_+1,.nil=>.nil
 |_,_,n+1,.cons _ t=>Vals.drop n t
def RelO:Option V->Option Value->Prop
 |some v,some u=>RelV v u
 |none,none=>True
 |_,_=>False
def KV{κ:Type}:List (κ×V)->List (κ×Value)->Prop:=Paired fun(p:κ×V) (q:κ×Value)=>p.1=q.1/\RelV p.2 q.2
def kV:Key->V
 | .inl i=>.int i
 | .inr x=>.str x
inductive HO where
 |lst (xs:List V)
 |tup (xs:List V)
 |dK (C1:List (Key×V))|dT (C1:List (List Key×V))
 |set (S:Int->Bool) (n:Nat)
 |ins (C dx:Addr) (fs:List (Str×V))
 |own (x:Addr)
 |xd (fs:List (Str×V))
 |met (f x:Addr)
 |rng (lo hi:Int)
 |frz (o:Obj) (u:HO)
 |tbl (ps:Array Value)
 |ext (φ:Heap->Prop)
abbrev Hp:=Addr->Option HO
def upd(H:Hp)(a:Addr)(o:HO):Hp:=fun b=>if b=a then some o else H b
theorem aw{H:Hp}{a:Addr}{o:HO}:upd H a o a=some o:=by unfold upd;rw[Oy rfl]
theorem ai{H:Hp}{a b:Addr}{o:HO}(h:b≠a):upd H a o b=H b:=by unfold upd;rw[OD h]
theorem Aw{H:Hp}{a b:Addr}{o u:HO}(h:H a=some o)(h':H b=some u)(d:o≠u):a≠b:=by
 intro e;subst e;rw[h]at h';exact d (OP h')
theorem aA{H:Hp}{a b:Addr}{o:HO}(h:H a=some o)(h':H b=none):a≠b:=by
 intro e;subst e;rw[h]at h';cases h'
section
variable(P:Program)(w:World)
noncomputable def ObjOk(H:Hp)(h:Heap)(a:Addr):HO->Prop
 | .lst xs=>xs.length<=sizeLine/\∃(C3:List Value) (n:Nat),Vals xs C3/\h.get? a=some {cls:=.type "list",data:=.seq C3.toArray n}
 | .tup xs=>xs.length<=sizeLine/\∃C3:List Value,Vals xs C3/\IsTupN h a C3.toArray
 | .dK C1=>C1.length<=sizeLine/\(a==sysModules)=false/\∃vs,KV C1 vs/\h.DictOf (mixKind P w) a vs
 | .dT C1=>C1.length<=sizeLine/\(a==sysModules)=false/\∃xs:List (List Key×Addr×Value),
   Paired (fun(p:List Key×V) (q:List Key×Addr×Value)=>p.1=q.1/\H q.2.1=some (.tup (p.1.map kV))/\RelV p.2 q.2.2) C1 xs/\
   ∃o es ep,h.get? a=some o/\o.ExactDict/\o.data=.dict es ep/\es.toList=xs.map (entryOfKey (tupleKind (mixKind P w)))/\(xs.map (·.1)).Nodup
 | .set S n=>h.SetOf (intKind P w) a S n
 | .ins C dx fs=>H dx=some (.own a)/\fs.length<=1000/\dx≠a/\h.get? a=some (PySem.W.instObj C dx)/\
   ∃mA,h.Ns1 dx mA/\(∀f,RelO (fs.lookup f) (mA f))/\PySem.Within mA (fs.map (·.1))
 | .own _=>∃o,h.get? a=some o
 | .xd fs=>∃mA,h.Ns1 a mA/\∀f,RelO (fs.lookup f) (mA f)
 | .rng lo hi=>∃t u v,h.get? a=some {cls:=.type "range",data:=.fields #[.int lo t,.int hi u,.int 1 v]}
 | .frz o u=>h.get? a=some o/\ObjOk H h a u
 | .tbl ps=>h.get? a=some {cls:=.none,data:=.fields ps}
 | .met f x=>h.get? a=some (PySem.W.methodObj (.ref f) (.ref x))
 | .ext φ=>φ h/\(∃o,h.get? a=some o)/\∀h1 h2:Heap,φ h1->(∀o,h1.get? a=some o->h2.get? a=some o)->φ h2
def HOk(H:Hp)(h:Heap):Prop:=∀a o,H a=some o->ObjOk P w H h a o
end
section
variable{P:Program}{w:World}{H H':Hp}{h h':Heap}{a:Addr}{o:HO}
theorem ObjOk.lt(x:ObjOk P w H h a o):a<h.objs.size:=by
 cases o with
 |lst xs=>obtain⟨_,_,_,_,e⟩:=x;exact Ou e
 |tup xs=>obtain⟨_,_,_,p⟩:=x;exact p.tup.lt
 |dK C1=>obtain⟨_,_,_,_,o,_,_,e,_⟩:=x;exact Ou e
 |dT C1=>obtain⟨_,_,_,_,o,_,_,e,_⟩:=x;exact Ou e
 |set S n=>obtain⟨o,_,_,_,e,_⟩:=x;exact Ou e
 |ins C dx fs=>obtain⟨_,_,_,e,_⟩:=x;exact Ou e
 |own y=>obtain⟨_,e⟩:=x;exact Ou e
 |xd fs=>obtain⟨_,⟨_,_,_,e,_⟩,_⟩:=x;exact Ou e
 |rng lo hi=>obtain⟨_,_,_,e⟩:=x;exact Ou e
 |frz ob u=>obtain⟨e,_⟩:=x;exact Ou e
 |tbl ps=>exact Ou (show h.get? a=some _ from x)
 |met f y=>exact Ou (show h.get? a=some _ from x)
 |ext φ=>obtain⟨_,⟨_,e⟩,_⟩:=x;exact Ou e
theorem Paired.mapP{α β:Type}{F G:α->β->Prop}:∀{l₁:List α}{l₂:List β},Paired F l₁ l₂->(∀a b,F a b->G a b)->Paired G l₁ l₂
 |_,_,.nil,_=>.nil
 |_,_,.cons r t,f=>.cons (f _ _ r) (Paired.mapP t f)
theorem ObjOk.stay(x:ObjOk P w H h a o)(k:∀b u,(b=a\/H b=some (.own a))->h.get? b=some u->h'.get? b=some u)
  (ho:∀b,H b=some (.own a)->H' b=some (.own a)) (ht:∀b xs,H b=some (.tup xs)->H' b=some (.tup xs)):ObjOk P w H' h' a o:=by
 induction o with
 |lst xs=>obtain⟨z,C3,n,r,e⟩:=x;exact⟨z,C3,n,r,k _ _ (.inl rfl) e⟩
 |tup xs=>obtain⟨z,C3,r,ob,e,c⟩:=x;exact⟨z,C3,r,ob,k _ _ (.inl rfl) e,c⟩
 |dK C1=>obtain⟨z,y,vs,r,ob,es,ep,e,c⟩:=x;exact⟨z,y,vs,r,ob,es,ep,k _ _ (.inl rfl) e,c⟩
 |dT C1=>
  obtain⟨z,y,xs,r,ob,es,ep,e,c⟩:=x;exact⟨z,y,xs,Paired.mapP r fun p q z=>⟨z.1,ht _ _ z.2.1,z.2.2⟩,ob,es,ep,k _ _ (.inl rfl) e,c⟩
 |set S n=>obtain⟨ob,es,ep,t,e,c⟩:=x;exact⟨ob,es,ep,t,k _ _ (.inl rfl) e,c⟩
 |ins C dx fs=>
  obtain⟨d,z,ne,e,mA,⟨od,es,ep,e2,c⟩,r⟩:=x;exact⟨ho _ d,z,ne,k _ _ (.inl rfl) e,mA,⟨od,es,ep,k _ _ (.inr d) e2,c⟩,r⟩
 |own y=>obtain⟨ob,e⟩:=x;exact⟨ob,k _ _ (.inl rfl) e⟩
 |xd fs=>obtain⟨mA,⟨od,es,ep,e,c⟩,r⟩:=x;exact⟨mA,⟨od,es,ep,k _ _ (.inl rfl) e,c⟩,r⟩
 |rng lo hi=>obtain⟨t,u,v,e⟩:=x;exact⟨t,u,v,k _ _ (.inl rfl) e⟩
 |frz ob u ih=>obtain⟨e,q⟩:=x;exact⟨k _ _ (.inl rfl) e,ih q⟩
 |tbl ps=>
  have e:h.get? a=some {cls:=.none,data:=.fields ps}:=x;show h'.get? a=some {cls:=.none,data:=.fields ps};exact k a _ (.inl rfl) e
 |met f y=>
  have e:h.get? a=some (PySem.W.methodObj (.ref f) (.ref y)):=x;show h'.get? a=some (PySem.W.methodObj (.ref f) (.ref y));exact k a _ (.inl rfl) e
 |ext φ=>obtain⟨p,⟨o,e⟩,st⟩:=x;exact⟨st _ _ p fun o q=>k _ _ (.inl rfl) q,⟨o,k _ _ (.inl rfl) e⟩,st⟩
theorem HOk.lt(x:HOk P w H h)(e:H a=some o):a<h.objs.size:=(x a o e).lt
theorem HOk.fresh(x:HOk P w H h)(e:h.objs.size<=a):H a=none:=by
 cases q:H a with
 |none=>rfl
 |some u=>exact absurd (Ot (x.lt q) e) (Py _)
theorem HOk.kept(x:HOk P w H h)(k:∀b u,h.get? b=some u->h'.get? b=some u):HOk P w H h':=fun a o e=>
 (x a o e).stay (fun b u _ q=>k b u q) (fun _ q=>q) fun _ _ q=>q
theorem HOk.laid(x:HOk P w H h)(k:∀b u,h.get? b=some u->h'.get? b=some u)(hp:h.objs.size<=a)(new:ObjOk P w (upd H a o) h' a o):HOk P w (upd H a o) h':=fun b u e=>by
 have hn:=x.fresh hp;by_cases hb:b=a
 ·subst hb;rw[aw]at e;cases e;exact new
 ·rw[ai hb]at e;exact(x b u e).stay (fun c v _ q=>k c v q) (fun c q=>by rw[ai (aA q hn)];exact q) fun c xs q=>by rw[ai (aA q hn)];exact q
end
def Rd(H:Hp)(a:Addr)(u:HO):Prop:=H a=some u\/∃o,H a=some (.frz o u)
theorem Rd.ok{P:Program}{w:World}{H:Hp}{h:Heap}{a:Addr}{u:HO}(r:Rd H a u)(x:HOk P w H h):ObjOk P w H h a u:=by
 rcases r with r|⟨o,r⟩
 ·exact x a u r
 ·obtain⟨_,q⟩:=x a _ r;exact q
def K2:Option HO->Prop
 |some (.lst _)=>True
 |some (.dK _)=>True
 |some (.dT _)=>True
 |some (.set _ _)=>True
 |some (.ins _ _ _)=>True
 |some (.ext _)=>True
 |_=>False
section
variable{P:Program}{w:World}{H:Hp}{h h':Heap}{x e:Addr}{o':HO}
theorem HOk.write(ok:HOk P w H h)(mu:K2 (H x))(he:e=x\/H e=some (.own x))(k:∀b u,b≠e->h.get? b=some u->h'.get? b=some u)(KI:∃u,h'.get? e=some u)
  (new:ObjOk P w (upd H x o') h' x o'):HOk P w (upd H x o') h':=fun b u q=>by
 have K3:∀c y,H c=some (.own y)->c≠x:=fun c y r z=>by subst z;rw[r]at mu;exact mu
 have ntup:∀c xs,H c=some (.tup xs)->c≠x:=fun c xs r z=>by subst z;rw[r]at mu;exact mu
 by_cases hb:b=x
 ·subst hb;rw[aw]at q;cases q;exact new
 ·rw[ai hb]at q;by_cases hbe:b=e
  ·have q':H b=some (.own x):=by
    rcases he with z|z
    ·exact absurd (hbe.trans z) hb
    ·rw[hbe];exact z
   rw[q]at q';cases q';obtain⟨v,hv⟩:=KI;exact⟨v,by rw[hbe];exact hv⟩
  ·refine(ok b u q).stay (fun c v hc r=>k c v ?_ r) (fun c r=>by rw[ai (K3 c b r)];exact r) fun c xs r=>by rw[ai (ntup c xs r)];exact r
   rcases hc with rfl|hc
   ·exact hbe
   ·rintro rfl;rcases he with z|z
    ·exact K3 c b hc z
    ·rw[hc]at z;cases z;exact hb rfl
end
structure Un(fs ex:List Addr)(H H':Hp)(h h':Heap):Prop where
 keep:∀b o,h.get? b=some o->H b=none->b∉fs->b∉ex->h'.get? b=some o
 slot:∀b o,h.get? b=some o->H b=none->b∈fs->b∉ex->∃sl,h'.get? b=some {o with slots:=sl}
 free:∀b o,h.get? b=some o->H b=none->b∉ex->H' b=none
 there:∀b o,h.get? b=some o->b∉ex->∃o',h'.get? b=some o'
 tups:∀b xs,H b=some (.tup xs)->H' b=some (.tup xs)
 frzs:∀b o u,H b=some (.frz o u)->H' b=some (.frz o u)
 tbls:∀b ps,H b=some (.tbl ps)->∃more,H' b=some (.tbl (ps++more))
section
variable{fs fs' ex ex':List Addr}{H H1 H2:Hp}{h h1 h2 h':Heap}{a x e:Addr}{o:HO}
theorem Un.any(u:Un fs ex H H1 h h1){b:Addr}{ob:Obj}(q:h.get? b=some ob)(n:H b=none)(hx:b∉ex):∃sl,h1.get? b=some {ob with slots:=sl}:=by
 by_cases hb:b∈fs
 ·exact u.slot b ob q n hb hx
 ·exact⟨ob.slots,u.keep b ob q n hb hx⟩
theorem Un.trans(a:Un fs ex H H1 h h1)(b:Un fs ex H1 H2 h1 h2):Un fs ex H H2 h h2 where
 keep:=fun c ob q n hc hx=>b.keep c ob (a.keep c ob q n hc hx) (a.free c ob q n hx) hc hx
 slot:=fun c ob q n hc hx=>by
  obtain⟨sl,e1⟩:=a.slot c ob q n hc hx;obtain⟨MJ,e2⟩:=b.slot c _ e1 (a.free c ob q n hx) hc hx;exact⟨MJ,e2⟩
 free:=fun c ob q n hx=>by
  obtain⟨o',e1⟩:=a.there c ob q hx;exact b.free c o' e1 (a.free c ob q n hx) hx
 there:=fun c ob q hx=>by
  obtain⟨o',e1⟩:=a.there c ob q hx;exact b.there c o' e1 hx
 tups:=fun c xs q=>b.tups c xs (a.tups c xs q)
 frzs:=fun c ob xs q=>b.frzs c ob xs (a.frzs c ob xs q)
 tbls:=fun c ps q=>by
  obtain⟨m1,e1⟩:=a.tbls c ps q;obtain⟨m2,e2⟩:=b.tbls c _ e1;exact⟨m1++m2,by rw[e2,Tf]⟩
theorem Un.kept(k:∀b u,h.get? b=some u->h'.get? b=some u):Un fs ex H H h h':=
 ⟨fun b ob q _ _ _=>k b ob q,fun b ob q _ _ _=>⟨ob.slots,k b ob q⟩,fun _ _ _ n _=>n,fun b ob q _=>⟨ob,k b ob q⟩,fun _ _ q=>q,fun _ _ _ q=>q,fun _ ps q=>⟨#[],by rw[q];simp⟩⟩
theorem Un.refl:Un fs ex H H h h:=Un.kept fun _ _ q=>q
theorem Un.laid(k:∀b u,h.get? b=some u->h'.get? b=some u)(hp:h.objs.size<=a)(hn:H a=none):Un fs ex H (upd H a o) h h' where
 keep:=fun b u q _ _ _=>k b u q
 slot:=fun b u q _ _ _=>⟨u.slots,k b u q⟩
 free:=fun b u q n _=>by rw[ai (OC (Ot (Ou q) hp))];exact n
 there:=fun b u q _=>⟨u,k b u q⟩
 tups:=fun b xs q=>by rw[ai (aA q hn)];exact q
 frzs:=fun b u xs q=>by rw[ai (aA q hn)];exact q
 tbls:=fun b ps q=>⟨#[],by rw[ai (aA q hn),q];simp⟩
theorem Un.write(mu:K2 (H x))(he:e=x\/H e=some (.own x))(k:∀b u,b≠e->h.get? b=some u->h'.get? b=some u)(KI:∃u,h'.get? e=some u):Un fs ex H (upd H x o) h h':=by
 have hx:∀b,H b=none->b≠x:=fun b n z=>by subst z;rw[n]at mu;exact mu
 have hb:∀b,H b=none->b≠e:=fun b n z=>by
  subst z;rcases he with r|r
  ·exact hx b n r
  ·rw[n]at r;cases r
 have hm:∀b u,H b=some u->¬ K2 (some u)->b≠x:=fun b u q nm z=>by subst z;rw[q]at mu;exact nm mu
 refine⟨fun b u q n _ _=>k b u (hb b n) q,fun b u q n _ _=>⟨u.slots,k b u (hb b n) q⟩,fun b u q n _=>by rw[ai (hx b n)];exact n,fun b u q _=>?_,
  fun b xs q=>by rw[ai (hm b _ q fun z=>z)];exact q,fun b u xs q=>by rw[ai (hm b _ q fun z=>z)];exact q,fun b ps q=>⟨#[],by rw[ai (hm b _ q fun z=>z),q];simp⟩⟩
 by_cases hbe:b=e
 ·subst hbe;exact KI
 ·exact⟨u,k b u hbe q⟩
end
def trk(h:Heap)(H:Hp):List Addr:=(List.range h.objs.size).filter fun a=>(H a).isSome
def rY(h:Heap)(H:Hp):Heap:=PySem.W.hideAll h (trk h H)
theorem oJ(h:Heap)(H:Hp):(rY h H).objs.size=h.objs.size:=PySem.W.hideAll_size _ _
theorem rZ{h:Heap}{H:Hp}{b:Addr}{o:Obj}(e:h.get? b=some o)(n:H b=none):(rY h H).get? b=some o:=
 PySem.W.hideAll_get _ e fun hm=>by
  have q:(H b).isSome=true:=(OT.mp hm).2;rw[n]at q;simp at q
theorem vk{h:Heap}{H:Hp}{b:Addr}{o:Obj}(e:(rY h H).get? b=some o):h.get? b=some o/\H b=none:=by
 have e':h.get? b=some o:=PySem.W.of_hideAll (trk h H) e;refine⟨e',?_⟩;cases q:H b with
 |none=>rfl
 |some x=>
  have hm:b∈trk h H:=OT.mpr ⟨PD.mpr (Ou e'),by simp[q]⟩;have z:(rY h H).get? b=none:=PySem.W.hideAll_none (trk h H) hm;rw[z]at e;cases e
def vm(g h:Heap)(L:Addr):List (Addr×Obj):=(List.range h.objs.size).filterMap fun a=>if a=L\/(g.get? a).isSome=true then none else(h.get? a).map fun o=>(a,o)
def aE(g h:Heap)(L d:Addr):List (Addr×Obj):=(vm g h L).filter fun p=>decide (p.1≠d)
structure Mod(K:W.Frag)(mg:Str->Option Value)(base:Heap):Prop where
 kin:K.In base
 glob:base.Ns mainGlobals mg
 blt:∃mb,base.Ns builtinsNs mb/\∀x:Str,x≠"__name__"->mb x=bootBuiltins x
 nolimit:base.NoLimit
structure Cx where
 prog:Program
 w:World
 K:W.Frag
 mg:Str->Option Value
 base:Heap
 A:Around
 N:List Str
 s₀:Shared
 H₀:Hp
 env:Env
 outer:List Env
 stack:List Env
 ex:List Addr
 fn:Str->Bool
 calm:Bool
 pn:List (Addr×Obj)
 xe:Value->Shared->Prop
def GD(l:List Env):List Addr:=l.filterMap (·.frame)
abbrev Cx.fs(X:Cx):List Addr:=GD X.outer
def MK(sc:Scope)(x:Str):Prop:=sc.names.lookup x=some .local\/sc.names.lookup x=some .cell\/sc.names.lookup x=some .free
def Loc(sc:Scope)(x:Str):Prop:=sc.names.lookup x=some .local\/sc.names.lookup x=some .cell
def BG(sc:Scope)(x:Str):Bool:=match sc.names.lookup x with
 |some .local=>true
 |some .cell=>true
 |_=>false
theorem lo{sc:Scope}{x:Str}(h:BG sc x=true):Loc sc x:=by
 unfold BG at h;split at h
 ·exact .inl (by assumption)
 ·exact .inr (by assumption)
 ·cases h

def BY(env:Env)(h:Heap)(m:Str->Option Value)(x:Str)(u:Value):Prop:=
 (env.kindOf x=some .local/\m x=some u)\/((env.kindOf x=some .cell\/env.kindOf x=some .free)/\∃c,env.cells.lookup x=some c/\h.IsCell c (some u))
structure Cx.Ok(X:Cx):Prop where
 mod:Mod X.K X.mg X.base
 kind:X.env.scope.kind=.function
 glob:X.env.globals=mainGlobals
 blt:X.env.builtins=builtinsNs
 above:X.s₀.heap.objs.size<=X.env.locals
 inj:∀x y c,X.env.cells.lookup x=some c->X.env.cells.lookup y=some c->x=y
 has:∀x,(X.env.kindOf x=some .cell\/X.env.kindOf x=some .free)->∃c,X.env.cells.lookup x=some c
 cab:∀x c,X.fn x=true->X.env.cells.lookup x=some c->X.s₀.heap.objs.size<=c
 hd:X.calm=true->X.A.handled=none
 frames:X.A.frames=some X.stack
 stk:X.stack=X.outer\/(X.stack=X.env::X.outer/\X.env.frame=some X.env.locals)
 exf:∀b∈X.ex,b≠X.env.locals/\∀x c,X.env.cells.lookup x=some c->c≠b
 bs:∀b o,X.base.get? b=some o->X.s₀.heap.get? b=some o/\X.H₀ b=none
 bsz:X.base.objs.size<=X.s₀.heap.objs.size
 noex:∀b o,X.base.get? b=some o->b∉X.ex
 exfs:∀b∈X.ex,b∉X.fs
 funs:X.s₀.heap.FunFrames X.base X.outer
 frf:∀b∈X.fs,X.H₀ b=none
structure Inv(X:Cx)(pr:List (Addr×Obj))(σ:List (Option V))(H:Hp)(s:Shared):Prop where
 ok:X.Ok
 os:s.os=X.s₀.os
 bare:AllBare s.gens
 base:Un X.fs X.ex X.H₀ H X.s₀.heap s.heap
 loc:∃m,s.heap.Ns X.env.locals m/\∀(i:Nat) (x:Str) (v:V),X.N[i]?=some x->σ[i]?=some (some v)->MK X.env.scope x->∃u,RelV v u/\BY X.env s.heap m x u
 cell:∀x c,X.env.cells.lookup x=some c->∃v,s.heap.IsCell c v
 free:H X.env.locals=none
 freeC:∀x c,X.env.cells.lookup x=some c->H c=none
 pin:∀p∈X.pn++pr,s.heap.get? p.1=some p.2/\H p.1=none/\p.1≠X.env.locals/\p.1∉X.fs/\∀v,p.2.data≠.cell v
 hok:HOk X.prog X.w H s.heap
 len:σ.length=X.N.length
section
variable{X:Cx}{pr:List (Addr×Obj)}{σ:List (Option V)}{H H':Hp}{s:Shared}{h':Heap}
theorem Cx.Ok.nofr(ok:X.Ok){b:Addr}{o:Obj}(e:X.base.get? b=some o):b∉X.fs:=fun hb=>by
 have:=(ok.funs.mem hb).1;rw[e]at this;cases this
theorem Inv.bs(I:Inv X pr σ H s):∀b o,X.base.get? b=some o->s.heap.get? b=some o/\H b=none:=fun b o e=>
 ⟨I.base.keep b o (I.ok.bs b o e).1 (I.ok.bs b o e).2 (I.ok.nofr e) (I.ok.noex b o e),I.base.free b o (I.ok.bs b o e).1 (I.ok.bs b o e).2 (I.ok.noex b o e)⟩
theorem Inv.bk(I:Inv X pr σ H s):∀b o,X.base.get? b=some o->s.heap.get? b=some o:=fun b o e=>(I.bs b o e).1
theorem Inv.mod(I:Inv X pr σ H s):Mod X.K X.mg X.base:=I.ok.mod
theorem Inv.kIn(I:Inv X pr σ H s):X.K.In s.heap:=I.ok.mod.kin.keeps I.bk
theorem Inv.lt(I:Inv X pr σ H s):X.env.locals<s.heap.objs.size:=let⟨_,hn,_⟩:=I.loc;hn.lt
theorem Inv.sz(I:Inv X pr σ H s):X.s₀.heap.objs.size<=s.heap.objs.size:=OF I.ok.above (Ri I.lt)
theorem Inv.nofs(I:Inv X pr σ H s){a:Addr}(h:s.heap.objs.size<=a):a∉X.fs:=fun hb=>by
 obtain⟨_,o,ho,_⟩:=I.ok.funs.mem hb;exact absurd (Ot (Ou ho) (OF I.sz h)) (Py _)
theorem Inv.cne(I:Inv X pr σ H s):∀x c,X.env.cells.lookup x=some c->c≠X.env.locals:=fun x c e z=>by
 obtain⟨v,o,ho,hd⟩:=I.cell x c e;obtain⟨m,⟨o',es,ep,HA,Iy,_⟩,_⟩:=I.loc;rw[z,HA]at ho;cases ho;rw[Iy]at hd;cases hd
theorem Inv.funs(I:Inv X pr σ H s):s.heap.FunFrames X.base X.outer:=by
 have all:∀(l:List Env),(∀b∈GD l,b∈X.fs)->X.s₀.heap.FunFrames X.base l->s.heap.FunFrames X.base l:=by
  intro l;induction l with
  |nil=>intro _ _;trivial
  |cons env r ih=>
   intro hs hl;obtain⟨hk,⟨L,o,hf,hn,ho,hd⟩,hr⟩:=hl;have hL:L∈X.fs:=hs L (by unfold GD;rw[RB,hf];exact Oh);obtain⟨sl,e⟩:=I.base.slot L o ho (I.ok.frf L hL) hL fun z=>I.ok.exfs L z hL
   exact⟨hk,⟨L,_,hf,hn,e,hd⟩,ih (fun b hb=>hs b (by unfold GD;rw[RB,hf];exact Og _ hb)) hr⟩
 exact all X.outer (fun _ hb=>hb) I.ok.funs
theorem Inv.stack(I:Inv X pr σ H s):s.heap.FunFrames X.base X.stack:=by
 rcases I.ok.stk with e|⟨e,hf⟩
 ·rw[e];exact I.funs
 ·rw[e];obtain⟨m,hn,_⟩:=I.loc;refine .cons (by rw[I.ok.kind];decide) hf hn ?_ I.funs;exact Heap.get?_none_of_le (OF I.ok.bsz I.ok.above)
theorem Inv.stkSub(I:Inv X pr σ H s):∀b∈GD X.stack,b∈X.env.locals::X.fs:=fun b hb=>by
 rcases I.ok.stk with e|⟨e,hf⟩
 ·rw[e]at hb;exact Og _ hb
 ·rw[e]at hb;unfold GD at hb;rw[RB,hf]at hb;exact hb
theorem Inv.stkFree(I:Inv X pr σ H s):∀b∈GD X.stack,H b=none:=fun b hb=>by
 rcases Ov.mp (I.stkSub b hb) with e|hb
 ·rw[e];exact I.free
 ·obtain⟨_,o,ho,_⟩:=I.ok.funs.mem hb;exact I.base.free b o ho (I.ok.frf b hb) fun z=>I.ok.exfs b z hb
theorem Inv.step{g':Array GenState}{t':Nat}{d':Drawn}{ch:List Addr}(I:Inv X pr σ H s)
  (Hs:∀b∈ch,(b∈X.ex\/X.s₀.heap.objs.size<=b)/\b≠X.env.locals/\(∀x c,X.env.cells.lookup x=some c->c≠b)/\∀p∈X.pn++pr,p.1≠b)
  (keep:∀b o,b≠X.env.locals->b∉X.fs->b∉ch->s.heap.get? b=some o->H b=none->h'.get? b=some o)
  (slot:∀b o,b≠X.env.locals->b∈X.fs->b∉ch->s.heap.get? b=some o->H b=none->∃sl,h'.get? b=some {o with slots:=sl}) (free:∀b o,b∉ch->s.heap.get? b=some o->H b=none->H' b=none)
  (there:∀b o,b∉ch->s.heap.get? b=some o->∃o',h'.get? b=some o')
  (tups:∀b xs,H b=some (.tup xs)->H' b=some (.tup xs)) (frzs:∀b o u,H b=some (.frz o u)->H' b=some (.frz o u)) (tbls:∀b ps,H b=some (.tbl ps)->∃more,H' b=some (.tbl (ps++more)))
  (ns:∀m,s.heap.Ns X.env.locals m->h'.Ns X.env.locals m) (hok:HOk X.prog X.w H' h') (hg:AllBare g'):
  Inv X pr σ H' {s with heap:=h',gens:=g',drawn:=d',toks:=t'}:=by
 have Nx:∀b o,X.s₀.heap.get? b=some o->b≠X.env.locals:=fun b o e=>OC (Ot (Ou e) I.ok.above)
 have Mj:∀b o,X.s₀.heap.get? b=some o->b∉X.ex->b∉ch:=fun b o e hx hb=>by
  rcases(Hs b hb).1 with z|z
  ·exact hx z
  ·exact absurd (Ot (Ou e) z) (Py _)
 have cellK:∀x c,X.env.cells.lookup x=some c->∀v,s.heap.IsCell c v->h'.IsCell c v:=fun x c e v Dg=>by
  obtain⟨o,ho,hd⟩:=Dg;have K4:c∉ch:=fun z=>(Hs c z).2.2.1 x c e rfl
  by_cases hc:c∈X.fs
  ·obtain⟨sl,q⟩:=slot c o (I.cne x c e) hc K4 ho (I.freeC x c e);exact⟨_,q,hd⟩
  ·exact⟨o,keep c o (I.cne x c e) hc K4 ho (I.freeC x c e),hd⟩
 refine⟨I.ok,I.os,hg,⟨fun b o e n hb hx=>?_,fun b o e n hb hx=>?_,fun b o e n hx=>?_,fun b o e hx=>?_,fun b xs e=>tups b xs (I.base.tups b xs e),fun b o xs e=>frzs b o xs (I.base.frzs b o xs e),fun b ps e=>?_⟩,?_,fun x c e=>?_,?_,fun x c e=>?_,fun p hp=>?_,hok,I.len⟩
 ·exact keep b o (Nx b o e) hb (Mj b o e hx) (I.base.keep b o e n hb hx) (I.base.free b o e n hx)
 ·obtain⟨sl,e1⟩:=I.base.slot b o e n hb hx;obtain⟨MJ,e2⟩:=slot b _ (Nx b o e) hb (Mj b o e hx) e1 (I.base.free b o e n hx);exact⟨MJ,e2⟩
 ·obtain⟨o',e1⟩:=I.base.there b o e hx;exact free b o' (Mj b o e hx) e1 (I.base.free b o e n hx)
 ·obtain⟨o',e1⟩:=I.base.there b o e hx;exact there b o' (Mj b o e hx) e1
 ·obtain⟨m1,e1⟩:=I.base.tbls b ps e;obtain⟨m2,e2⟩:=tbls b _ e1;exact⟨m1++m2,by rw[e2,Tf]⟩
 ·obtain⟨m,hn,hl⟩:=I.loc;refine⟨m,ns m hn,fun i x v e1 e2 e3=>?_⟩;obtain⟨u,r,l⟩:=hl i x v e1 e2 e3;refine⟨u,r,?_⟩;rcases l with l|⟨k,c,e,z⟩
  ·exact .inl l
  ·exact .inr ⟨k,c,e,cellK x c e _ z⟩
 ·obtain⟨v,z⟩:=I.cell x c e;exact⟨v,cellK x c e v z⟩
 ·obtain⟨m,⟨o,_,_,ho,_⟩,_⟩:=I.loc;exact free _ o (fun z=>(Hs _ z).2.1 rfl) ho I.free
 ·obtain⟨v,o,ho,hd⟩:=I.cell x c e;exact free c o (fun z=>(Hs c z).2.2.1 x c e rfl) ho (I.freeC x c e)
 ·obtain⟨e,n,ne,nf,d⟩:=I.pin p hp;have K4:p.1∉ch:=fun z=>(Hs p.1 z).2.2.2 p hp rfl
  exact⟨keep p.1 p.2 ne nf K4 e n,free p.1 p.2 K4 e n,ne,nf,d⟩
theorem Inv.un{t':Nat}(I:Inv X pr σ H s)(u:Un X.fs [] H H' s.heap h')(hok:HOk X.prog X.w H' h'):Inv X pr σ H' {s with heap:=h',toks:=t'}:=by
 obtain⟨m,⟨o,es,ep,ho,r⟩,_⟩:=id I.loc;obtain⟨sl,hL⟩:=u.any ho I.free (by simp);exact I.step (g':=s.gens) (d':=s.drawn) (ch:=[]) (fun _ z=>nomatch z) (fun b o _ hb _ e n=>u.keep b o e n hb (by simp)) (fun b o _ hb _ e n=>u.slot b o e n hb (by simp)) (fun b o _ e n=>u.free b o e n (by simp)) (fun b o _ e=>u.there b o e (by simp)) u.tups u.frzs u.tbls (fun m' hm=>by
  obtain⟨o',Gb,JQ,HA,r'⟩:=hm;rw[ho]at HA;cases HA;exact⟨_,Gb,JQ,hL,r'⟩) hok I.bare
theorem Inv.call{g':Array GenState}{t':Nat}{d':Drawn}{ch:List Addr}(I:Inv X pr σ H s)(u:Un (GD X.stack) ch H H' s.heap h')(hok:HOk X.prog X.w H' h')(hg:AllBare g')
  (Hs:∀b∈ch,(b∈X.ex\/X.s₀.heap.objs.size<=b)/\b≠X.env.locals/\(∀x c,X.env.cells.lookup x=some c->c≠b)/\∀p∈X.pn++pr,p.1≠b):
  Inv X pr σ H' {s with heap:=h',gens:=g',drawn:=d',toks:=t'}:=by
 obtain⟨m,⟨o,es,ep,ho,r⟩,_⟩:=id I.loc;obtain⟨sl,hL⟩:=u.any ho I.free fun z=>(Hs _ z).2.1 rfl
 exact I.step (ch:=ch) Hs (fun b o hL hb hc e n=>u.keep b o e n (fun z=>(Ov.mp (I.stkSub b z)).elim hL hb) hc) (fun b o _ _ hc e n=>u.any e n hc) (fun b o hc e n=>u.free b o e n hc) (fun b o hc e=>u.there b o e hc) u.tups u.frzs u.tbls (fun m' hm=>by
  obtain⟨o',Gb,JQ,HA,r'⟩:=hm;rw[ho]at HA;cases HA;exact⟨_,Gb,JQ,hL,r'⟩) hok hg
theorem Inv.turned{t':Nat}{it:Addr}(I:Inv X pr σ H s)(k:∀b o,b≠it->s.heap.get? b=some o->h'.get? b=some o)(hn:H it=none)(hL:it≠X.env.locals)
  (h1:it∈X.ex\/X.s₀.heap.objs.size<=it) (h2:∀x c,X.env.cells.lookup x=some c->c≠it) (h3:∀p∈X.pn++pr,p.1≠it):Inv X pr σ H {s with heap:=h',toks:=t'}:=by
 have Ny:∀b u,H b=some u->b≠it:=fun b u e z=>by rw[z,hn]at e;cases e
 refine I.step (g':=s.gens) (d':=s.drawn) (ch:=[it]) (fun b hb=>?_) (fun b o _ _ hc e _=>k b o (fun z=>hc (by simp[z])) e) (fun b o _ _ hc e _=>⟨o.slots,k b o (fun z=>hc (by simp[z])) e⟩) (fun _ _ _ _ n=>n)
  (fun b o hc e=>⟨o,k b o (fun z=>hc (by simp[z])) e⟩) (fun _ _ e=>e) (fun _ _ _ e=>e) (fun b ps e=>⟨#[],by rw[e];simp⟩) (fun m hm=>?_) (fun b u e=>?_) I.bare
 ·have e:b=it:=by simpa using hb
  subst e;exact⟨h1,hL,h2,h3⟩
 ·obtain⟨o,es,ep,ho,r⟩:=hm;exact⟨o,es,ep,k _ o (Qb hL) ho,r⟩
 ·refine(I.hok b u e).stay (fun c v hc q=>k c v ?_ q) (fun _ q=>q) fun _ _ q=>q
  rcases hc with z|z
  ·rw[z];exact Ny b u e
  ·exact Ny c _ z
theorem Inv.tok(I:Inv X pr σ H s)(t:Nat):Inv X pr σ H {s with toks:=t}:=I.un (h':=s.heap) (t':=t) Un.refl I.hok
theorem Inv.kept{t':Nat}(I:Inv X pr σ H s)(k:∀b u,s.heap.get? b=some u->h'.get? b=some u):Inv X pr σ H {s with heap:=h',toks:=t'}:=I.un (Un.kept k) (I.hok.kept k)
theorem Inv.laid{a:Addr}{o:HO}{t':Nat}(I:Inv X pr σ H s)(k:∀b u,s.heap.get? b=some u->h'.get? b=some u)(hp:s.heap.objs.size<=a)(new:ObjOk X.prog X.w (upd H a o) h' a o):
  Inv X pr σ (upd H a o) {s with heap:=h',toks:=t'}:=I.un (Un.laid k hp (I.hok.fresh hp)) (I.hok.laid k hp new)
theorem Inv.write{x e:Addr}{o:HO}{t':Nat}(I:Inv X pr σ H s)(mu:K2 (H x))(he:e=x\/H e=some (.own x))(k:∀b u,b≠e->s.heap.get? b=some u->h'.get? b=some u)(KI:∃u,h'.get? e=some u)
  (new:ObjOk X.prog X.w (upd H x o) h' x o):Inv X pr σ (upd H x o) {s with heap:=h',toks:=t'}:=I.un (Un.write mu he k KI) (I.hok.write mu he k KI new)
theorem Inv.pins_of{Jq:List (Addr×Obj)}(I:Inv X pr σ H s)(h:∀p∈Jq,s.heap.get? p.1=some p.2/\H p.1=none/\p.1≠X.env.locals/\p.1∉X.fs/\∀v,p.2.data≠.cell v):Inv X Jq σ H s:=
 ⟨I.ok,I.os,I.bare,I.base,I.loc,I.cell,I.free,I.freeC,fun p hp=>(OL.mp hp).elim (fun z=>I.pin p (Oo _ z)) (h p),I.hok,I.len⟩
theorem mm{N:List Str}(hN:N.Nodup){i j:Nat}{x:Str}(a:N[i]?=some x)(b:N[j]?=some x):i=j:=by
 obtain⟨h1,e1⟩:=Om.mp a;obtain⟨h2,e2⟩:=Om.mp b;exact(List.getElem_inj hN).mp (e1.trans e2.symm)
theorem j3{M:Model}{A:Around}{E:Value->Shared->Prop}{i:Nat}{x:Str}{v:V}{u:Value}{Q:Unit->Shared->Prop}(I:Inv X pr σ H s)(hN:X.N.Nodup)(hi:X.N[i]?=some x)(hx:Loc X.env.scope x)(r:RelV v u)
  (h:∀s',Inv X pr (σ.set i (some v)) H s'->(∃a,Heap.SameBut a s.heap s'.heap/\(a=X.env.locals\/X.env.cells.lookup x=some a))->Q () s') (hf:X.fn x=true\/X.env.scope.names.lookup x=some .local:=by first|exact .inl rfl|exact .inr rfl|assumption):wpAny M A (storeName X.env x u) Q E s:=by
 obtain⟨m,hn,hl⟩:=id I.loc;have hcls:(X.env.scope.kind==.class||(X.env.scope.kind==.module&&X.env.locals != X.env.globals))=false:=by rw[I.ok.kind];rfl
 have hiσ:i<σ.length:=by rw[I.len];exact(Om.mp hi).1
 have cne:=I.cne;have tracked:∀{a:Addr}{h':Heap},(∃o,s.heap.get? a=some o/\H a=none)->Heap.SameBut a s.heap h'->HOk X.prog X.w H h':=fun{a h'} ha hs b ob e=>by
  obtain⟨_,_,Jr⟩:=ha;refine(I.hok b ob e).stay (fun c w' hc q=>(hs.2 c ?_).trans q) (fun _ q=>q) fun _ _ q=>q
  rintro rfl;rcases hc with rfl|hc
  ·rw[Jr]at e;cases e
  ·rw[Jr]at hc;cases hc
 rcases hx with hk|hk
 ·refine wpAny_storeName_local hk hn (fun h' hn' hs=>?_) hcls;obtain⟨oL,_,_,hoL,_⟩:=id hn;refine h _ ⟨I.ok,I.os,I.bare,⟨fun b o e n hb hx=>?_,fun b o e n hb hx=>?_,I.base.free,fun b o e hx=>?_,I.base.tups,I.base.frzs,I.base.tbls⟩,⟨_,hn',fun j y v' e1 e2 e3=>?_⟩,fun y c e=>?_,I.free,I.freeC,fun p hp=>?_,tracked ⟨oL,hoL,I.free⟩ hs,by simpa using I.len⟩ ⟨_,hs,.inl rfl⟩
  ·exact(hs.2 b (OC (Ot (Ou e) I.ok.above))).trans (I.base.keep b o e n hb hx)
  ·obtain⟨sl,e1⟩:=I.base.slot b o e n hb hx;exact⟨sl,(hs.2 b (OC (Ot (Ou e) I.ok.above))).trans e1⟩
  ·obtain⟨o',e1⟩:=I.base.there b o e hx;exact⟨o',(hs.2 b (OC (Ot (Ou e) I.ok.above))).trans e1⟩
  ·by_cases hj:j=i
   ·subst hj;rw[hi]at e1;cases e1;rw[Pj hiσ]at e2;cases e2;exact⟨u,r,.inl ⟨hk,by simp⟩⟩
   ·rw[Rr (Qb hj)]at e2;obtain⟨u',r',q⟩:=hl j y v' e1 e2 e3;refine⟨u',r',?_⟩;rcases q with⟨k,e⟩|⟨k,c,e,z⟩
    ·refine .inl ⟨k,?_⟩;have:y≠x:=fun e=>hj (mm hN e1 (e▸hi))
     simp[this,e]
    ·exact .inr ⟨k,c,e,z.sameBut hs (cne y c e)⟩
  ·obtain⟨w',z⟩:=I.cell y c e;exact⟨w',z.sameBut hs (cne y c e)⟩
  ·obtain⟨e,n,ne,nf,d⟩:=I.pin p hp;exact⟨(hs.2 p.1 ne).trans e,n,ne,nf,d⟩
 ·have JR:X.fn x=true:=by
   rcases hf with z|z
   ·exact z
   ·rw[z]at hk;cases hk
  obtain⟨c,hc⟩:=I.ok.has x (.inl hk);obtain⟨w',z⟩:=I.cell x c hc;refine wpAny_storeName_cell I.ok.kind hk hc z (fun h' Mk hs=>?_);obtain⟨oc,Nz,hocd⟩:=id z;refine h {s with heap:=h'} ⟨I.ok,I.os,I.bare,⟨fun b o e n hb hx=>?_,fun b o e n hb hx=>?_,I.base.free,fun b o e hx=>?_,I.base.tups,I.base.frzs,I.base.tbls⟩,⟨m,hn.sameBut hs (Qb (cne x c hc)),fun j y v' e1 e2 e3=>?_⟩,fun y c' e=>?_,I.free,I.freeC,fun p hp=>?_,tracked ⟨oc,Nz,I.freeC x c hc⟩ hs,by simpa using I.len⟩ ⟨c,hs,.inr hc⟩
  ·exact(hs.2 b (OC (Ot (Ou e) (I.ok.cab x c JR hc)))).trans (I.base.keep b o e n hb hx)
  ·obtain⟨sl,e1⟩:=I.base.slot b o e n hb hx;exact⟨sl,(hs.2 b (OC (Ot (Ou e) (I.ok.cab x c JR hc)))).trans e1⟩
  ·obtain⟨o',e1⟩:=I.base.there b o e hx;exact⟨o',(hs.2 b (OC (Ot (Ou e) (I.ok.cab x c JR hc)))).trans e1⟩
  ·by_cases hj:j=i
   ·subst hj;rw[hi]at e1;cases e1;rw[Pj hiσ]at e2;cases e2;exact⟨u,r,.inr ⟨.inl hk,c,hc,Mk⟩⟩
   ·rw[Rr (Qb hj)]at e2;obtain⟨u',r',q⟩:=hl j y v' e1 e2 e3;refine⟨u',r',?_⟩;rcases q with q|⟨k,c',e,z'⟩
    ·exact .inl q
    ·refine .inr ⟨k,c',e,z'.sameBut hs ?_⟩;rintro rfl;exact hj (mm hN e1 (I.ok.inj _ _ _ e hc▸hi))
  ·by_cases hcc:c'=c
   ·subst hcc;exact⟨_,Mk⟩
   ·obtain⟨w2,z2⟩:=I.cell y c' e;exact⟨w2,z2.sameBut hs hcc⟩
  ·obtain⟨e,n,ne,nf,d⟩:=I.pin p hp;refine⟨(hs.2 p.1 ?_).trans e,n,ne,nf,d⟩;intro q;rw[q,Nz]at e;have q':oc=p.2:=OP e;exact d w' (by rw[<-q'];exact hocd)
theorem mn{M:Model}{A:Around}{E:Value->Shared->Prop}{i:Nat}{x:Str}{v:V}{u:Value}{Q:Unit->Shared->Prop}(I:Inv X pr σ H s)(hN:X.N.Nodup)(hi:X.N[i]?=some x)(hx:Loc X.env.scope x)(r:RelV v u)
  (h:∀s',Inv X pr (σ.set i (some v)) H s'->Q () s') (hf:X.fn x=true\/X.env.scope.names.lookup x=some .local:=by first|exact .inl rfl|exact .inr rfl|assumption):wpAny M A (storeName X.env x u) Q E s:=
 j3 I hN hi hx r (fun s' I' _=>h s' I') hf
theorem Inv.call'{s':Shared}{ch:List Addr}(I:Inv X pr σ H s)(ho:s'.os=s.os)(u:Un (GD X.stack) ch H H' s.heap s'.heap)(hok:HOk X.prog X.w H' s'.heap)(hg:AllBare s'.gens)
  (Hs:∀b∈ch,(b∈X.ex\/X.s₀.heap.objs.size<=b)/\b≠X.env.locals/\(∀x c,X.env.cells.lookup x=some c->c≠b)/\∀p∈X.pn++pr,p.1≠b):Inv X pr σ H' s':=by
 obtain⟨h',g',d',t',o'⟩:=s';have e:o'=s.os:=ho;subst e;exact I.call (g':=g') (t':=t') (d':=d') u hok hg Hs
end
abbrev XK:=Value->Option Addr->Hp->Prop
abbrev St:=List (Option V)
abbrev VK:=V->Hp->Prop
abbrev TE:=St->Hp->VK->Prop
abbrev TT:=St->Hp->(Bool->Hp->Prop)->Prop
abbrev TA:=St->Hp->(List V->Hp->Prop)->Prop
structure Ends where
 nx:St->Hp->Prop
 rt:VK
 bk:St->Hp->Prop:=fun _ _=>False
 ct:St->Hp->Prop:=fun _ _=>False
abbrev TS:=Ends->St->Hp->Prop
def EP(X:Cx)(pr:List (Addr×Obj))(σ:St)(Q:VK)(u:Value)(s':Shared):Prop:=∃v H',Inv X pr σ H' s'/\RelV v u/\Q v H'
def TP(X:Cx)(pr:List (Addr×Obj))(σ:St)(Q:Bool->Hp->Prop)(b:Bool)(s':Shared):Prop:=∃H',Inv X pr σ H' s'/\Q b H'
def AP(X:Cx)(pr:List (Addr×Obj))(σ:St)(Q:List V->Hp->Prop)(us:List Value)(s':Shared):Prop:=∃vs H',Inv X pr σ H' s'/\Vals vs us/\Q vs H'
def SP(X:Cx)(pr:List (Addr×Obj))(D:Ends)(f:Flow)(s':Shared):Prop:=
 match f with
 | .next=>∃σ' H',Inv X pr σ' H' s'/\D.nx σ' H'
 | .brk=>∃σ' H',Inv X pr σ' H' s'/\D.bk σ' H'
 | .cont=>∃σ' H',Inv X pr σ' H' s'/\D.ct σ' H'
 | .ret u=>∃v σ' H',Inv X pr σ' H' s'/\RelV v u/\D.rt v H'
def PE(X:Cx)(e:Expr)(t:TE):Prop:=
 ∀(pr:List (Addr×Obj)) (s:Shared) (σ:St) (H:Hp) (Q:VK),Inv X pr σ H s->t σ H Q->wpAny (model X.prog X.w) X.A (eval e X.env) (EP X pr σ Q) X.xe s
def PT(X:Cx)(e:Expr)(t:TT):Prop:=
 ∀(pr:List (Addr×Obj)) (s:Shared) (σ:St) (H:Hp) (Q:Bool->Hp->Prop),Inv X pr σ H s->t σ H Q->wpAny (model X.prog X.w) X.A (isTrue e X.env (eval e X.env)) (TP X pr σ Q) X.xe s
def PW(X:Cx)(e:Expr)(t:TT):Prop:=
 ∀(whole:Sem Value) (pr:List (Addr×Obj)) (s:Shared) (σ:St) (H:Hp) (Q:Bool->Hp->Prop),Inv X pr σ H s->t σ H Q->wpAny (model X.prog X.w) X.A (isTrue e X.env whole) (TP X pr σ Q) X.xe s
theorem PW.pt{X:Cx}{e:Expr}{t:TT}(h:PW X e t):PT X e t:=h _
def PA(X:Cx)(es:List Expr)(t:TA):Prop:=
 ∀(pos:Pos) (pr:List (Addr×Obj)) (s:Shared) (σ:St) (H:Hp) (Q:List V->Hp->Prop),Inv X pr σ H s->t σ H Q->wpAny (model X.prog X.w) X.A (spliced (backTo pos (starEach es X.env))) (AP X pr σ Q) X.xe s
def PS(X:Cx)(st:Stmt)(t:TS):Prop:=
 ∀(pr:List (Addr×Obj)) (s:Shared) (σ:St) (H:Hp) (D:Ends),Inv X pr σ H s->t D σ H->wpAny (model X.prog X.w) X.A (exec st X.env) (SP X pr D) X.xe s
def PSs(X:Cx)(st:List Stmt)(t:TS):Prop:=
 ∀(pr:List (Addr×Obj)) (s:Shared) (σ:St) (H:Hp) (D:Ends),Inv X pr σ H s->t D σ H->wpAny (model X.prog X.w) X.A (execs st X.env) (SP X pr D) X.xe s
theorem Dn{α:Type}{t:Sem α}{Q Q':α->Shared->Prop}{M:Model}{A:Around}{E:Value->Shared->Prop}{s:Shared}(h:wpAny M A t Q E s)(hQ:∀a s,Q a s->Q' a s):wpAny M A t Q' E s:=Rb h hQ fun _ _ x=>x
section
variable{X:Cx}
theorem bin{a b:Expr}{ta tb:TE}(ha:PE X a ta)(hb:PE X b tb){pr:List (Addr×Obj)}{s:Shared}{σ:St}{H:Hp}{R:V->V->Hp->Prop}(I:Inv X pr σ H s)(h:ta σ H fun x H1=>tb σ H1 fun y H2=>R x y H2)
  {α:Type}{Q:α->Shared->Prop}{f:Value->Value->Sem α}
  (hf:∀v u s2 x y H2,Inv X pr σ H2 s2->RelV x v->RelV y u->R x y H2->wpAny (model X.prog X.w) X.A (f v u) Q X.xe s2):
  wpAny (model X.prog X.w) X.A (eval a X.env) (fun v s₁=>wpAny (model X.prog X.w) X.A (eval b X.env) (fun u s₂=>wpAny (model X.prog X.w) X.A (f v u) Q X.xe s₂) X.xe s₁) X.xe s:=by
 refine Dn (ha pr s σ H _ I h) fun v s1 Dl=>?_
 obtain⟨x,H1,I1,r1,q1⟩:=Dl;refine Dn (hb pr s1 σ H1 _ I1 q1) fun u s2 Dl=>?_
 obtain⟨y,H2,I2,r2,q2⟩:=Dl;exact hf v u s2 x y H2 I2 r1 r2 q2
def nL(i:Nat):TE:=fun σ H Q=>∃v,σ[i]?=some (some v)/\Q v H
def tC(v:V):TE:=fun _ H Q=>Q v H
theorem xM{i:Nat}{x:Str}{pos:Pos}(hN:X.N[i]?=some x)(hv:MK X.env.scope x)(hd:(x==("__debug__" : Str))=false:=by decide)(Gd:(x==("__classdict__" : Str))=false:=by decide):PE X (.Name x pos) (nL i):=by
 intro pr s σ H Q I h;obtain⟨v,e,h⟩:=h;obtain⟨m,hn,hl⟩:=I.loc;obtain⟨u,r,l⟩:=hl i x v hN e hv;have fin:EP X pr σ Q u s:=⟨v,H,I,r,h⟩
 rcases l with⟨hk,hm⟩|⟨hk,c,hc,Dp⟩
 ·exact wpAny_Name (wpAny_loadName_local I.ok.kind hk hn hm fin) hd
 ·rcases hk with hk|hk
  ·exact wpAny_Name (wpAny_loadName_cell I.ok.kind hk hc Dp fin) hd
  ·exact wpAny_Name (wpAny_loadName_free I.ok.kind hk hc Dp fin Gd) hd
theorem xN{i j pos}:PE X (.Constant (.int i) j pos) (tC (.int i)):=fun _ _ _ H _ I h=>wpAny_Constant_int ⟨.int i,H,I.tok _,⟨_,rfl⟩,h⟩
theorem Ax{b j pos}:PE X (.Constant (.bool b) j pos) (tC (.bl b)):=fun _ _ _ H _ I h=>Constant_bool ⟨.bl b,H,I,rfl,h⟩
def Gl(X:Cx)(x:Str):Prop:=X.env.kindOf x=some .globalImplicit
theorem vn{E:Value->Shared->Prop}{pr:List (Addr×Obj)}{s:Shared}{σ:St}{H:Hp}{x:Str}{u:Value}{pos:Pos}{Q:Value->Shared->Prop}(I:Inv X pr σ H s)(hg:Gl X x)(hm:X.mg x=some u)(h:Q u s)
  (hd:(x==("__debug__" : Str))=false:=by decide):wpAny (model X.prog X.w) X.A (eval (.Name x pos) X.env) Q E s:=
 RJ I.ok.kind hg (Calls.loadGlobal_global (by rw[I.ok.glob];exact I.mod.glob.keeps I.bk) hm h) hd
theorem gH{E:Value->Shared->Prop}{pr:List (Addr×Obj)}{s:Shared}{σ:St}{H:Hp}{x:Str}{u:Value}{pos:Pos}{Q:Value->Shared->Prop}(I:Inv X pr σ H s)(hg:Gl X x)(hm:X.mg x=none)(hv:bootBuiltins x=some u)(h:Q u s)
  (hn:x≠"__name__":=by decide) (hd:(x==("__debug__" : Str))=false:=by decide):wpAny (model X.prog X.w) X.A (eval (.Name x pos) X.env) Q E s:=by
 obtain⟨mb,h1,h2⟩:=I.mod.blt;exact RJ I.ok.kind hg (Calls.loadGlobal_builtin (by rw[I.ok.glob];exact I.mod.glob.keeps I.bk) hm (by rw[I.ok.blt];exact h1.keeps I.bk) ((h2 x hn).trans hv) h) hd
theorem vo{x:Str}{v:V}{u:Value}{pos:Pos}(hg:Gl X x)(hm:X.mg x=none)(hv:bootBuiltins x=some u)(r:RelV v u)(hn:x≠"__name__":=by decide)(hd:(x==("__debug__" : Str))=false:=by decide):PE X (.Name x pos) (tC v):=
 fun _ _ _ H _ I h=>gH I hg hm hv ⟨v,H,I,r,h⟩ hn hd
variable{a b:Expr}{ta tb:TE}{pos:Pos}
def PC(X:Cx)(op:CmpOp)(a b:Expr)(t:TE):Prop:=
 ∀(pr:List (Addr×Obj)) (s:Shared) (σ:St) (H:Hp) (Q:VK),Inv X pr σ H s->t σ H Q->
  wpAny (model X.prog X.w) X.A (eval a X.env) (fun v s₁=>wpAny (model X.prog X.w) X.A (eval b X.env) (fun u s₂=>wpAny (model X.prog X.w) X.A (compareOp op v u) (EP X pr σ Q) X.xe s₂) X.xe s₁) X.xe s
theorem r6(b:Expr){op:CmpOp}(h:op≠.In)(h2:op≠.NotIn):behindInMarks op b=false:=by
 have e1:(op==CmpOp.In)=false:=by cases op <;> first|rfl|exact absurd rfl h
 have e2:(op==CmpOp.NotIn)=false:=by cases op <;> first|rfl|exact absurd rfl h2
 cases b <;> simp[behindInMarks,e1,e2]
def tB(t:TE):TT:=fun σ H Q=>t σ H fun x H1=>∃c,x=.bl c/\Q c H1
theorem BH{op:CmpOp}{t:TE}(h:PC X op a b t)(h1:behindInMarks op b=false:=by first|exact r6 _ (by decide) (by decide)|rfl):PT X (.Compare a [op] [b] pos) (tB t):=by
 intro pr s σ H Q I hw;refine wpAny_isTrue_Compare1 (Dn (h pr s σ H _ I hw) fun v s1 h1=>Dn h1 fun u s2 h2=>Dn h2 fun c s3 ⟨x,H1,I1,r1,q1⟩=>?_) h1;obtain⟨d,rfl,q⟩:=q1;cases r1;exact QD ⟨H1,I1,q⟩
theorem xO{e:Expr}{t:TE}(h:PE X e t)(he:∀whole,isTrue e X.env whole=(do let v <-whole;standAt e.pos;holding [v] (truthy v)):=by intro _;rfl):PT X e (tB t):=by
 intro pr s σ H Q I hw;refine isTrue_plain (Dn (h pr s σ H _ I hw) fun v s1 ⟨x,H1,I1,r1,q1⟩=>?_) (he _);obtain⟨d,rfl,q⟩:=q1;cases r1;exact QD ⟨H1,I1,q⟩
variable{tA Ml:TT}{aE:List Expr}
def BZ(t u:TT):TT:=fun σ H Q=>t σ H fun c H1=>if c=true then u σ H1 Q else Q false H1
def tOr(t u:TT):TT:=fun σ H Q=>t σ H fun c H1=>if c=true then Q true H1 else u σ H1 Q
def B0(t:TT):TT:=fun σ H Q=>t σ H fun c H1=>Q (!c) H1
theorem vp(ha:PT X a tA):PW X (.BoolOp .And [a] pos) tA:=by
 intro wh pr s σ H Q I h;refine isTrue_and (Dn (ha pr s σ H Q I h) fun c s1 e=>?_);cases c with
 |true=>exact isTrue_and_nil e
 |false=>exact e
theorem xP(ha:PT X a tA):PW X (.BoolOp .Or [a] pos) tA:=by
 intro wh pr s σ H Q I h;refine isTrue_or (Dn (ha pr s σ H Q I h) fun c s1 e=>?_);cases c with
 |false=>exact isTrue_or_nil e
 |true=>exact e
theorem xQ(ha:PT X a tA)(hb:PW X (.BoolOp .And (b::aE) pos) Ml):PW X (.BoolOp .And (a::b::aE) pos) (BZ tA Ml):=by
 intro wh pr s σ H Q I h;refine isTrue_and (Dn (ha pr s σ H _ I h) fun c s1 Dl=>?_);obtain⟨H1,I1,q1⟩:=Dl;cases c with
 |true=>exact hb wh pr s1 σ H1 Q I1 q1
 |false=>exact⟨H1,I1,q1⟩
theorem Ay(ha:PT X a tA)(hb:PW X (.BoolOp .Or (b::aE) pos) Ml):PW X (.BoolOp .Or (a::b::aE) pos) (tOr tA Ml):=by
 intro wh pr s σ H Q I h;refine isTrue_or (Dn (ha pr s σ H _ I h) fun c s1 Dl=>?_);obtain⟨H1,I1,q1⟩:=Dl;cases c with
 |true=>exact⟨H1,I1,q1⟩
 |false=>exact hb wh pr s1 σ H1 Q I1 q1
theorem xR(ha:PT X a tA):PT X (.UnaryOp .Not a pos) (B0 tA):=by
 intro pr s σ H Q I h;exact isTrue_not (ha pr s σ H (fun c H1=>Q (!c) H1) I h)
def Az(ta tb:TE):TE:=fun σ H Q=>ta σ H fun x H1=>∃c,x=.bl c/\if c=true then tb σ H1 Q else Q (.bl false) H1
def AB(ta:TE):TE:=fun σ H Q=>ta σ H fun x H1=>∃c,x=.bl c/\Q (.bl (!c)) H1
theorem xS{op}{t:TE}(h:PE X a t):PE X (.BoolOp op [a] pos) t:=fun pr s σ H Q I hw=>BoolOp_one (h pr s σ H Q I hw)
theorem xT(ha:PE X a ta)(hb:PE X (.BoolOp .And (b::aE) pos) tb):PE X (.BoolOp .And (a::b::aE) pos) (Az ta tb):=by
 intro pr s σ H Q I h;refine BoolOp_and (Dn (ha pr s σ H _ I h) fun v s1 Dl=>?_);obtain⟨x,H1,I1,r1,q1⟩:=Dl;obtain⟨c,rfl,q1⟩:=q1;cases r1;refine QD ?_;cases c with
 |true=>exact hb pr s1 σ H1 Q I1 q1
 |false=>exact⟨.bl false,H1,I1,rfl,q1⟩
theorem xU(ha:PE X a ta):PE X (.UnaryOp .Not a pos) (AB ta):=by
 intro pr s σ H Q I h;refine UnaryOp_ (Dn (ha pr s σ H _ I h) fun v s1 Dl=>?_);obtain⟨x,H1,I1,r1,q1⟩:=Dl;obtain⟨c,rfl,q1⟩:=q1;cases r1;exact not_of (QD ⟨.bl (!c),H1,I1,rfl,q1⟩)
end
def SqL(K:W.Frag)(H:Hp)(a:Addr)(xs:List V):Prop:=
 Rd H a (.lst xs)\/
  ∃(o:Obj) (C3:Array Value) (n:Nat),K.lookup a=some o/\o.cls=.type "list"/\o.dict=none/\o.data=.seq C3 n/\C3.size<=sizeLine/\Vals xs C3.toList
def SqT(K:W.Frag)(H:Hp)(a:Addr)(xs:List V):Prop:=
 Rd H a (.tup xs)\/
  ∃(o:Obj) (C3:Array Value) (n:Nat),K.lookup a=some o/\o.cls=.type "tuple"/\o.dict=none/\o.data=.seq C3 n/\C3.size<=sizeLine/\Vals xs C3.toList
def B1:Value->Option V
 | .none=>some .non
 | .bool b=>some (.bl b)
 | .int i _=>some (.int i)
 | .str x _=>some (.str x)
 | .bytes b _=>some (.byt b)
 | .float b _=>some (.flt b)
 | .ref a=>some (.ref a)
 | .type n=>some (.ty n)
 |_=>none
theorem RelV.abs{x:V}{u:Value}(r:RelV x u):B1 u=some x:=by
 cases x with
 |non=>cases r;rfl
 |bl _=>cases r;rfl
 |int _=>obtain⟨t,rfl⟩:=r;rfl
 |str _=>obtain⟨t,rfl⟩:=r;rfl
 |byt _=>obtain⟨t,rfl⟩:=r;rfl
 |flt _=>obtain⟨t,rfl⟩:=r;rfl
 |ref _=>cases r;rfl
 |ty _=>cases r;rfl
theorem RelV.inj{x y:V}{u:Value}(r:RelV x u)(q:RelV y u):x=y:=OP (r.abs.symm.trans q.abs)
theorem Vals.inj:∀{xs ys:List V}{us:List Value},Vals xs us->Vals ys us->xs=ys
 |_,_,_,.nil,.nil=>rfl
 |_,_,_,.cons r t,.cons r' t'=>by rw[r.inj r',Vals.inj t t']
section
variable{X:Cx}{pr:List (Addr×Obj)}{σ:St}{H:Hp}{s:Shared}{a:Addr}{xs ys:List V}
theorem SqL.of{K:W.Frag}(h:H a=some (.lst xs)):SqL K H a xs:=.inl (.inl h)
theorem SqT.of{K:W.Frag}(h:H a=some (.tup xs)):SqT K H a xs:=.inl (.inl h)
theorem Inv.list(I:Inv X pr σ H s)(h:SqL X.K H a xs):∃C3:List Value,Vals xs C3/\PlainL s.heap a C3.toArray/\xs.length<=sizeLine:=by
 rcases h with h|⟨o,C3,n,hk,hc,hd,hs,hz,r⟩
 ·obtain⟨z,C3,n,r,e⟩:=h.ok I.hok;exact⟨C3,r,⟨_,n,e,rfl,rfl,rfl⟩,z⟩
 ·refine⟨C3.toList,r,⟨o,n,I.kIn a o hk,hc,hd,by simpa using hs⟩,?_⟩;have e:=r.length;simp only[PN]at e;lia
theorem Inv.tupleN(I:Inv X pr σ H s)(h:SqT X.K H a xs):∃C3:List Value,Vals xs C3/\IsTupN s.heap a C3.toArray/\xs.length<=sizeLine:=by
 rcases h with h|⟨o,C3,n,hk,hc,hdn,hs,hz,r⟩
 ·obtain⟨z,C3,r,p⟩:=h.ok I.hok;exact⟨C3,r,p,z⟩
 ·refine⟨C3.toList,r,⟨o,I.kIn a o hk,hc,⟨n,by simpa using hs⟩,hdn⟩,?_⟩;have e:=r.length;simp only[PN]at e;lia
theorem Inv.tuple(I:Inv X pr σ H s)(h:SqT X.K H a xs):∃C3:List Value,Vals xs C3/\IsTup s.heap a C3.toArray/\xs.length<=sizeLine:=by
 obtain⟨C3,r,p,z⟩:=I.tupleN h;exact⟨C3,r,p.tup,z⟩
theorem Inv.list_inj(I:Inv X pr σ H s)(h:SqL X.K H a xs)(h':SqL X.K H a ys):xs=ys:=by
 obtain⟨C3,r,⟨o,n,e,_,_,d⟩,_⟩:=I.list h;obtain⟨its',r',⟨o',n',e',_,_,d'⟩,_⟩:=I.list h';rw[e]at e';cases e';rw[d]at d';injection d' with d1 _;have:C3=its':=by simpa using P0 Array.toList d1
 subst this;exact r.inj r'
theorem Inv.tuple_inj(I:Inv X pr σ H s)(h:SqT X.K H a xs)(h':SqT X.K H a ys):xs=ys:=by
 obtain⟨C3,r,⟨o,e,_,n,d⟩,_⟩:=I.tuple h;obtain⟨its',r',⟨o',e',_,n',d'⟩,_⟩:=I.tuple h';rw[e]at e';cases e';rw[d]at d';injection d' with d1 _;have:C3=its':=by simpa using P0 Array.toList d1
 subst this;exact r.inj r'
end
abbrev Cx.wish(X:Cx)(E:Value->Shared->Prop):Cx:={X with xe:=E}
abbrev Cx.nox(X:Cx):Cx:=X.wish fun _ _=>False
theorem Cx.Ok.wish{X:Cx}(ok:X.Ok)(E:Value->Shared->Prop):(X.wish E).Ok:=
 ⟨ok.mod,ok.kind,ok.glob,ok.blt,ok.above,ok.inj,ok.has,ok.cab,ok.hd,ok.frames,ok.stk,ok.exf,ok.bs,ok.bsz,ok.noex,ok.exfs,ok.funs,ok.frf⟩
theorem Cx.Ok.unwish{X:Cx}{E:Value->Shared->Prop}(ok:(X.wish E).Ok):X.Ok:=
 ⟨ok.mod,ok.kind,ok.glob,ok.blt,ok.above,ok.inj,ok.has,ok.cab,ok.hd,ok.frames,ok.stk,ok.exf,ok.bs,ok.bsz,ok.noex,ok.exfs,ok.funs,ok.frf⟩
section
variable{X:Cx}{pr:List (Addr×Obj)}{σ:St}{H:Hp}{s:Shared}{E:Value->Shared->Prop}
theorem Inv.wish(I:Inv X pr σ H s)(E:Value->Shared->Prop):Inv (X.wish E) pr σ H s:=⟨I.ok.wish E,I.os,I.bare,I.base,I.loc,I.cell,I.free,I.freeC,I.pin,I.hok,I.len⟩
theorem Inv.unwish(I:Inv (X.wish E) pr σ H s):Inv X pr σ H s:=⟨I.ok.unwish,I.os,I.bare,I.base,I.loc,I.cell,I.free,I.freeC,I.pin,I.hok,I.len⟩
theorem SP.unwish{D:Ends}{f:Flow}{s':Shared}(h:SP (X.wish E) pr D f s'):SP X pr D f s':=by
 cases f with
 |next=>obtain⟨σ',H',I,q⟩:=h;exact⟨σ',H',I.unwish,q⟩
 |brk=>obtain⟨σ',H',I,q⟩:=h;exact⟨σ',H',I.unwish,q⟩
 |cont=>obtain⟨σ',H',I,q⟩:=h;exact⟨σ',H',I.unwish,q⟩
 |ret u=>obtain⟨v,σ',H',I,r,q⟩:=h;exact⟨v,σ',H',I.unwish,r,q⟩
theorem PSs.nox{st:List Stmt}{t:TS}(h:PSs X.nox st t):PSs X st t:=fun pr s σ H D I hw=>
 Rb (h pr s σ H D (I.wish _) hw) (fun _ _ q=>q.unwish) fun _ _ z=>False.elim z
end
section
variable{X:Cx}{st:Stmt}{aE:List Stmt}{t u:TS}{e:Expr}{te:TE}{pos:Pos}
def AD:TS:=fun D σ H=>D.nx σ H
def B2(t u:TS):TS:=fun D σ H=>t {D with nx:=u D} σ H
theorem vq:PSs X [] AD:=fun _ _ σ H _ I h=>RC ⟨σ,H,I,h⟩
theorem r9(h1:PS X st t)(h2:PSs X aE u):PSs X (st::aE) (B2 t u):=by
 intro pr s σ H D I h;refine wpAny_execs_cons (Dn (h1 pr s σ H {D with nx:=u D} I h) fun f s1 q=>?_);cases f with
 |next=>
  obtain⟨σ',H',I',q⟩:=q;exact h2 pr s1 σ' H' D I' q
 |ret v=>exact q
 |brk=>exact q
 |cont=>exact q
theorem vv(h1:PS X st t):PSs X [st] t:=by
 intro pr s σ H D I h;refine wpAny_execs_cons (Dn (h1 pr s σ H D I h) fun f s1 q=>?_);cases f with
 |next=>exact RC q
 |ret v=>exact q
 |brk=>exact q
 |cont=>exact q
theorem Inv.quiet{pr:List (Addr×Obj)}{σ:St}{H:Hp}{s:Shared}(I:Inv X pr σ H s):interactive X.env=false:=by simp[interactive,I.ok.kind]
def AE(te:TE):TS:=fun D σ H=>te σ H fun _ H1=>D.nx σ H1
theorem vx(he:PE X e te)(hs:swapsWith e none pos.line X.env=pure false:=by rfl):PS X (.Expr e pos) (AE te):=by
 intro pr s σ H D I h;exact wpAny_Expr_any (Dn (he pr s σ H _ I h) fun v s1 ⟨x,H1,I1,r1,q1⟩=>⟨σ,H1,I1,q1⟩) I.quiet hs
def B3(te:TE):TS:=fun D σ H=>te σ H D.rt
theorem uo(he:PE X e te):PS X (.Return (some e) pos) (B3 te):=by
 intro pr s σ H D I h;exact wpAny_Return_some (Dn (he pr s σ H _ I h) fun v s1 ⟨x,H1,I1,r1,q1⟩=>⟨x,σ,H1,I1,r1,q1⟩)
def B4(c:TT)(t u:TS):TS:=fun D σ H=>c σ H fun b H1=>if b=true then t D σ H1 else u D σ H1
theorem AF{c:Expr}{a b:List Stmt}{tc:TT}(hc:PT X c tc)(ha:PSs X a t)(hb:PSs X b u):PS X (.If c a b pos) (B4 tc t u):=by
 intro pr s σ H D I h;refine wpAny_If (Dn (hc pr s σ H _ I h) fun d s1 Dl=>?_);obtain⟨H1,I1,q1⟩:=Dl;cases d with
 |true=>exact ha pr s1 σ H1 D I1 q1
 |false=>exact hb pr s1 σ H1 D I1 q1
end
abbrev TG:=V->St->Hp->(St->Hp->Prop)->Prop
abbrev Js:=List V->St->Hp->(St->Hp->Prop)->Prop
def PG(X:Cx)(target:Expr)(t:TG):Prop:=
 ∀(pr:List (Addr×Obj)) (s:Shared) (σ:St) (H:Hp) (v:V) (u:Value) (Q:St->Hp->Prop),Inv X pr σ H s->RelV v u->t v σ H Q->
  wpAny (model X.prog X.w) X.A (assign target X.env u) (fun _ s'=>∃σ' H',Inv X pr σ' H' s'/\Q σ' H') X.xe s
def JS(X:Cx)(ts:List Expr)(t:Js):Prop:=
 ∀(pr:List (Addr×Obj)) (s:Shared) (σ:St) (H:Hp) (vs:List V) (us:List Value) (Q:St->Hp->Prop),Inv X pr σ H s->Vals vs us->t vs σ H Q->
  wpAny (model X.prog X.w) X.A (assignInOrder ((assignEach ts X.env).map (·.2)) us) (fun _ s'=>∃σ' H',Inv X pr σ' H' s'/\Q σ' H') X.xe s
abbrev B5:=V->V->V->Hp->(Hp->Prop)->Prop
def B6(X:Cx)(t:B5):Prop:=
 ∀(pr:List (Addr×Obj)) (s:Shared) (σ:St) (H:Hp) (o i v:V) (ov iv u:Value) (Q:Hp->Prop),Inv X pr σ H s->RelV o ov->RelV i iv->RelV v u->t o i v H Q->
  wpAny (model X.prog X.w) X.A (setItem ov iv u) (fun _ s'=>∃H',Inv X pr σ H' s'/\Q H') X.xe s
section
variable{X:Cx}{pos:Pos}
def xV(i:Nat):TG:=fun v σ H Q=>Q (σ.set i (some v)) H
theorem vy{i:Nat}{x:Str}(hN:X.N.Nodup)(hi:X.N[i]?=some x)(hx:Loc X.env.scope x)(hf:X.fn x=true\/X.env.scope.names.lookup x=some .local:=by first|exact .inl rfl|exact .inr rfl|assumption):PG X (.Name x pos) (xV i):=by
 intro pr s σ H v u Q I r h;exact wpAny_assign_Name (mn I hN hi hx r (fun s' I'=>⟨_,H,I',h⟩) hf)
def B7:Js:=fun vs σ H Q=>vs=[]/\Q σ H
def AG(t:TG)(u:Js):Js:=fun vs σ H Q=>∃v r,vs=v::r/\t v σ H fun σ' H'=>u r σ' H' Q
theorem vz:JS X [] B7:=by
 intro pr s σ H vs us Q I r h;obtain⟨e,h⟩:=h;subst e;cases r;exact assignInOrder_nil ⟨σ,H,I,h⟩
theorem sa{e:Expr}{es:List Expr}{t:TG}{u:Js}(h1:PG X e t)(h2:JS X es u)
  (hs:(assignEach (e::es) X.env).map (·.2)=assign e X.env::(assignEach es X.env).map (·.2):=by rfl):JS X (e::es) (AG t u):=by
 intro pr s σ H vs us Q I r h;obtain⟨v,vr,e1,h⟩:=h;subst e1;cases r with
 |cons r rr=>
  rw[hs];refine assignInOrder_cons (Dn (h1 pr s σ H _ _ _ I r h) fun _ s1 Dl=>?_);obtain⟨σ1,H1,I1,q1⟩:=Dl;exact h2 pr s1 σ1 H1 _ _ Q I1 rr q1
def B8(K:W.Frag)(n:Nat)(t:Js):TG:=fun v σ H Q=>∃a xs,v=.ref a/\SqT K H a xs/\xs.length=n/\t xs σ H Q
theorem xW{es:List Expr}{k:Nat}{t:Js}{n:Nat}(hc:X.calm=true)(h:JS X es t)
  (hn:(assignEach es X.env).length=n:=by rfl) (JT:(assignEach es X.env).findIdx? (·.1)=none:=by rfl):PG X (.Tuple es k pos) (B8 X.K n t):=by
 intro pr s σ H v u Q I r hw;obtain⟨a,xs,e1,hq,hl,hw⟩:=hw;subst e1;cases r;obtain⟨C3,rv,ht,hz⟩:=I.tuple hq;refine assign_Tuple_tuple (I.ok.hd hc) ht (by simp[hn,<-hl,rv.length]) JT fun h' hx=>?_
 have I1:Inv X pr σ H {s with heap:=h'}:=I.kept (t':=s.toks) fun b o e=>hx b o (OC (Ou e)) e
 exact h pr _ σ H xs _ Q I1 (by simpa using rv) hw
def B9(te:TE)(g:TG):TS:=fun D σ H=>te σ H fun x H1=>g x σ H1 D.nx
theorem xX{i:Nat}{x:Str}{e:Expr}{te:TE}{pos':Pos}(hN:X.N.Nodup)(hi:X.N[i]?=some x)(hx:Loc X.env.scope x)(he:PE X e te)(hs:swapsWith e (some (.Name x pos')) pos.line X.env=pure false:=by rfl)(hf:X.fn x=true\/X.env.scope.names.lookup x=some .local:=by first|exact .inl rfl|exact .inr rfl|assumption):
  PS X (.Assign [.Name x pos'] e pos) (B9 te (xV i)):=by
 intro pr s σ H D I h;refine wpAny_Assign_Name (Dn (he pr s σ H _ I h) fun v s1 ⟨y,H1,I1,r1,q1⟩=>?_) hs;exact mn I1 hN hi hx r1 (fun s2 I2=>⟨_,H1,I2,q1⟩) hf
end
section
variable{X:Cx}{pos:Pos}
def xY(c:TT)(tb:TS):TS:=fun D σ H=>∃W:Nat->St->Hp->Prop,(∃m,W m σ H)/\∀m σ H,W m σ H->
 c σ H fun b H1=>if b=true then ∃N:St->Hp->Prop,(∀σ' H',N σ' H'->∃m',m'<m/\W m' σ' H')/\tb {D with nx:=N,ct:=N,bk:=D.nx} σ H1 else D.nx σ H1
theorem sd{c:Expr}{body:List Stmt}{tc:TT}{tb:TS}(hp:PassesOwn (model X.prog X.w) X.A X.env X.xe)(hc:PT X c tc)(hb:PSs X body tb):PS X (.While c body [] pos) (xY tc tb):=by
 intro pr s σ H D I h;obtain⟨W,⟨m0,w0⟩,turn⟩:=h;refine wpAny_While (codeAny_whileLoop (fun n s'=>∃σ' H',Inv X pr σ' H' s'/\W n σ' H') ?_ m0 ⟨σ,H,I,w0⟩);rintro n s1 ⟨σ1,H1,I1,w1⟩;refine Qm hp (Dn (hc pr s1 σ1 H1 _ I1 (turn n σ1 H1 w1)) fun b s2 Dl=>?_);obtain⟨H2,I2,q2⟩:=Dl;cases b with
 |true=>
  obtain⟨N,hN,q2⟩:=q2;rw[Oy rfl];refine Qm hp (Dn (hb pr s2 σ1 H2 _ I2 q2) fun f s3 q3=>?_);cases f with
  |next=>
   obtain⟨σ3,H3,I3,n3⟩:=q3;obtain⟨m',hm,w3⟩:=hN σ3 H3 n3;exact⟨m',hm,σ3,H3,I3,w3⟩
  |cont=>
   obtain⟨σ3,H3,I3,n3⟩:=q3;obtain⟨m',hm,w3⟩:=hN σ3 H3 n3;exact⟨m',hm,σ3,H3,I3,w3⟩
  |brk=>exact q3
  |ret v=>exact q3
 |false=>
  rw[OD OB];exact RC ⟨σ1,H2,I2,q2⟩
end
structure It where
 go:Nat->Hp->Prop
 yld:Nat->Hp->V->Hp->Prop
 stop:Nat->Hp->Prop
def j4(X:Cx)(pr:List (Addr×Obj))(H:Hp)(b:Addr):Prop:=
 H b=none/\b≠X.env.locals/\b∉X.fs/\(b∈X.ex\/X.s₀.heap.objs.size<=b)/\(∀x c,X.env.cells.lookup x=some c->c≠b)/\∀p∈X.pn++pr,p.1≠b
theorem Inv.fpOk{X:Cx}{pr:List (Addr×Obj)}{σ:St}{H H':Hp}{s:Shared}{b:Addr}(I:Inv X pr σ H s)(hb:s.heap.objs.size<=b)(hn:H' b=none):j4 X pr H' b:=by
 refine⟨hn,Qy (Ot I.lt hb),I.nofs hb,.inr (OF I.sz hb),fun x c e z=>?_,fun p hp z=>?_⟩
 ·obtain⟨v,q⟩:=I.cell x c e;exact absurd (Ot q.lt (by rw[z];exact hb)) (Py _)
 ·exact absurd (Ot (Ou (I.pin p hp).1) (by rw[z];exact hb)) (Py _)
structure Turn(P:Program)(w:World)(K:W.Frag)(tg:Expr)(J:It)(fp:List Addr)(it:Addr)(tn:Nat->Heap->Prop):Prop where
 mem:it∈fp
 obj:∀i h,tn i h->∀b∈fp,∃o,h.get? b=some o/\∀v,o.data≠.cell v
 keep:∀i h h',tn i h->(∀b∈fp,∀o,h.get? b=some o->h'.get? b=some o)->tn i h'
 item:∀(X:Cx),X.prog=P->X.w=w->X.K=K->X.calm=true->∀(i:Nat) (pr:List (Addr×Obj)) (s:Shared) (σ:St) (H:Hp) (E:Value->Shared->Prop),Inv X pr σ H s->(∀b∈fp,j4 X pr H b)->tn i s.heap->J.go i H->
  wpAny (model P w) X.A (pyNext (.ref it)) (fun r s1=>∃u,r=some u/\
   wpAny (model P w) X.A (letOwnedTupleGo tg (.ref it) u) (fun _ s2=>∃x H',Inv X pr σ H' s2/\RelV x u/\J.yld i H x H'/\tn (i+1) s2.heap/\∀b∈fp,H' b=none) E s1) E s
 done:∀(X:Cx),X.prog=P->X.w=w->X.K=K->X.calm=true->∀(i:Nat) (pr:List (Addr×Obj)) (s:Shared) (σ:St) (H:Hp) (E:Value->Shared->Prop),Inv X pr σ H s->(∀b∈fp,j4 X pr H b)->tn i s.heap->J.stop i H->
  wpAny (model P w) X.A (pyNext (.ref it)) (fun r s1=>r=none/\Inv X pr σ H s1) E s
 self:∀(A:Around) (i:Nat) (s:Shared) (Q:Value->Shared->Prop) (E:Value->Shared->Prop),tn i s.heap->Q (.ref it) s->wpAny (model P w) A (pyIter (.ref it)) Q E s
abbrev TI:=St->Hp->(It->Hp->Prop)->Prop
def NA(X:Cx)(pr:List (Addr×Obj))(σ:St)(tg:Expr)(R:It->Hp->Prop)(K5:Value)(s2:Shared):Prop:=
 ∃(it:Addr) (fp:List Addr) (tn:Nat->Heap->Prop) (J:It) (H':Hp),K5=.ref it/\Inv X pr σ H' s2/\Turn X.prog X.w X.K tg J fp it tn/\tn 0 s2.heap/\(∀b∈fp,j4 X pr H' b)/\R J H'
def PI(X:Cx)(tg iter:Expr)(wi:TI):Prop:=
 ∀(pr:List (Addr×Obj)) (s:Shared) (σ:St) (H:Hp) (R:It->Hp->Prop),Inv X pr σ H s->wi σ H R->
  wpAny (model X.prog X.w) X.A (eval iter X.env) (fun v s1=>wpAny (model X.prog X.w) X.A (pyIter v) (NA X pr σ tg R) X.xe s1) X.xe s
theorem oK {M : Model} {A : Around} {E : Value -> Shared -> Prop} {s : Shared} {tg : Expr} {it : Addr} {u : Value} {o : Obj} {n : String} {vs : Array Value} {Q : Unit -> Shared -> Prop} (ho : s.heap.get? it = some o) (hc : o.cls = .type n) (hd : o.data = .fields vs)
    (hn : ["enumerate", "zip", "dict_itemiterator", "dict_reverseitemiterator", "odict_iterator", "itertools.zip_longest", "itertools.pairwise"].contains n = false) (hQ : Q () s) : wpAny M A (letOwnedTupleGo tg (.ref it) u) Q E s := by
  unfold letOwnedTupleGo
  cases tg <;> first
    | exact Ox hQ
    | (cases u <;> first
        | exact Ox hQ
        | (refine Oe (wpAny_load ho ?_)
           rw [hc, hd]
           show wpAny M A (if (["enumerate", "zip", "dict_itemiterator", "dict_reverseitemiterator", "odict_iterator", "itertools.zip_longest", "itertools.pairwise"].contains n && vs[0]? == some (rawInt _)) = true then _ else _) Q E s
           rw [OD (by intro h; rw [hn, Bool.false_and] at h; cases h)]
           exact Ox hQ))
def KJ(K:W.Frag)(a:Addr):It:=
 ⟨fun i H=>∃xs x,SqL K H a xs/\xs[i]?=some x,fun i H x H'=>H'=H/\∀xs,SqL K H a xs->xs[i]?=some x,fun i H=>∃xs,SqL K H a xs/\xs.length<=i⟩
def ML(K:W.Frag)(a:Addr):It:=
 ⟨fun i H=>∃xs x,SqT K H a xs/\xs[i]?=some x,fun i H x H'=>H'=H/\∀xs,SqT K H a xs->xs[i]?=some x,fun i H=>∃xs,SqT K H a xs/\xs.length<=i⟩
def Mm(lo:Int)(n:Nat):It:=⟨fun i _=>i<n,fun i H x H'=>H'=H/\x=.int (lo+i),fun i _=>n<=i⟩
theorem oM{P:Program}{w:World}{K:W.Frag}{tg:Expr}(a it:Addr):Turn P w K tg (KJ K a) [it] it (fun i h=>h.IsListIter it a i) where
 mem:=by simp
 obj:=fun i h st b hb=>by
  have e:b=it:=by simpa using hb
  subst e;obtain⟨o,e,c,d⟩:=st;exact⟨o,e,fun v z=>by rw[d]at z;cases z⟩
 keep:=fun i h h' st k=>st.at fun o e=>k it (by simp) o e
 item:=by
  intro X hP hw hK hc i pr s σ H E I hf st hg;subst hP hw hK;obtain⟨xs,x,hq,hx⟩:=hg;obtain⟨C3,rv,p,hz⟩:=I.list hq;obtain⟨u,hu,ru⟩:=rv.get hx;obtain⟨f0,f1,f2,f3,f4,f5⟩:=hf it (by simp);refine wpAny_pyNext_list_item st p.isList (x:=u) (by simpa using hu) fun h' Ge sb=>?_
  have I1:Inv X pr σ H {s with heap:=h'}:=I.turned (t':=s.toks) (fun b o hb e=>(sb.2 b hb).trans e) f0 f1 f3 f4 f5;obtain⟨o,e,c,d⟩:=id Ge;exact⟨u,rfl,oK (s:={s with heap:=h'}) e c d (by decide) ⟨x,H,I1,ru,⟨rfl,fun ys hy=>by rw[I.list_inj hy hq];exact hx⟩,Ge,fun b hb=>(hf b hb).1⟩⟩
 done:=by
  intro X hP hw hK hc i pr s σ H E I hf st hg;subst hP hw hK;obtain⟨xs,hq,hx⟩:=hg;obtain⟨C3,rv,p,hz⟩:=I.list hq;obtain⟨f0,f1,f2,f3,f4,f5⟩:=hf it (by simp);have hl:=rv.length;exact wpAny_pyNext_list_end (I.ok.hd hc) st p.isList (by simp;lia) fun h' eb=>⟨rfl,I.turned (t':=s.toks) (fun b o hb e=>eb b o hb e) f0 f1 f3 f4 f5⟩
 self:=fun _ _ _ _ _ st h=>wpAny_pyIter_listiter st h
theorem nM{P:Program}{w:World}{K:W.Frag}{tg:Expr}(a it:Addr):Turn P w K tg (ML K a) [it] it (fun i h=>h.IsTupleIter it a i) where
 mem:=by simp
 obj:=fun i h st b hb=>by
  have e:b=it:=by simpa using hb
  subst e;obtain⟨o,e,c,d⟩:=st;exact⟨o,e,fun v z=>by rw[d]at z;cases z⟩
 keep:=fun i h h' st k=>st.at fun o e=>k it (by simp) o e
 item:=by
  intro X hP hw hK hc i pr s σ H E I hf st hg;subst hP hw hK;obtain⟨xs,x,hq,hx⟩:=hg;obtain⟨C3,rv,p,hz⟩:=I.tuple hq;obtain⟨u,hu,ru⟩:=rv.get hx;obtain⟨f0,f1,f2,f3,f4,f5⟩:=hf it (by simp);refine wpAny_pyNext_tuple_item st (show s.heap.IsTuple a C3.toArray from p) (x:=u) (by simpa using hu) fun h' Ge sb=>?_
  have I1:Inv X pr σ H {s with heap:=h'}:=I.turned (t':=s.toks) (fun b o hb e=>(sb.2 b hb).trans e) f0 f1 f3 f4 f5;obtain⟨o,e,c,d⟩:=id Ge;exact⟨u,rfl,oK (s:={s with heap:=h'}) e c d (by decide) ⟨x,H,I1,ru,⟨rfl,fun ys hy=>by rw[I.tuple_inj hy hq];exact hx⟩,Ge,fun b hb=>(hf b hb).1⟩⟩
 done:=by
  intro X hP hw hK hc i pr s σ H E I hf st hg;subst hP hw hK;obtain⟨xs,hq,hx⟩:=hg;obtain⟨C3,rv,p,hz⟩:=I.tuple hq;obtain⟨f0,f1,f2,f3,f4,f5⟩:=hf it (by simp);have hl:=rv.length;exact wpAny_pyNext_tuple_end (I.ok.hd hc) st (show s.heap.IsTuple a C3.toArray from p) (by simp;lia) fun h' eb=>⟨rfl,I.turned (t':=s.toks) (fun b o hb e=>eb b o hb e) f0 f1 f3 f4 f5⟩
 self:=fun _ _ _ _ _ st h=>wpAny_pyIter_tupleiter st h
theorem nN{P:Program}{w:World}{K:W.Frag}{tg:Expr}(it:Addr)(lo:Int)(n:Nat):Turn P w K tg (Mm lo n) [it] it (fun i h=>IsRangeIter h it (lo+(i:Nat)*1) ((n:Int)-(i:Nat)) 1) where
 mem:=by simp
 obj:=fun i h st b hb=>by
  have e:b=it:=by simpa using hb
  subst e;exact⟨_,st,fun v z=>by
   have z':Data.fields _=Data.cell v:=z;cases z'⟩
 keep:=fun i h h' st k=>k it (by simp) _ st
 item:=by
  intro X hP hw hK hc i pr s σ H E I hf st hg;subst hP hw hK;obtain⟨f0,f1,f2,f3,f4,f5⟩:=hf it (by simp);have W:=Walks.range (prog:=X.prog) (w:=X.w) (I.ok.hd hc) it lo 1 n;refine W.item i s _ _ hg st fun v h' tk hv Ge kk=>?_
  obtain⟨t,rfl⟩:=hv;have I1:Inv X pr σ H {s with heap:=h',toks:=tk}:=I.turned (fun b o hb e=>kk b o (by simpa using hb) e) f0 f1 f3 f4 f5;refine⟨_,rfl,oK (s:={s with heap:=h',toks:=tk}) (n:="range_iterator") Ge rfl rfl (by decide) ⟨.int (lo+i),H,I1,⟨t,?_⟩,⟨rfl,rfl⟩,Ge,fun b hb=>(hf b hb).1⟩⟩;rw[Int.mul_one]
 done:=by
  intro X hP hw hK hc i pr s σ H E I hf st hg;subst hP hw hK;obtain⟨f0,f1,f2,f3,f4,f5⟩:=hf it (by simp);exact wpAny_pyNext_range_end (I.ok.hd hc) st (by have:n<=i:=hg;lia) fun h' eb=>⟨rfl,I.turned (t':=s.toks) (fun b o hb e=>eb b o hb e) f0 f1 f3 f4 f5⟩
 self:=fun _ _ _ _ _ st h=>wpAny_pyIter_rangeiter st h
section
variable{X:Cx}{tg:Expr}
def AH(K:W.Frag)(tl:TE):TI:=fun σ H R=>tl σ H fun x H1=>∃a,x=.ref a/\(∃xs,SqL K H1 a xs)/\R (KJ K a) H1
def Ca(K:W.Frag)(tl:TE):TI:=fun σ H R=>tl σ H fun x H1=>∃a,x=.ref a/\(∃xs,SqT K H1 a xs)/\R (ML K a) H1
theorem lz{l:Expr}{tl:TE}(hl:PE X l tl):PI X tg l (AH X.K tl):=by
 intro pr s σ H R I h;refine Dn (hl pr s σ H _ I h) fun v s1 Dl=>?_
 obtain⟨x,H1,I1,r1,q1⟩:=Dl;obtain⟨a,e,⟨xs,hq⟩,q⟩:=q1;subst e;cases r1;obtain⟨C3,rv,p,hz⟩:=I1.list hq;refine PQ p.isList ?_;refine⟨s1.heap.objs.size,[s1.heap.objs.size],_,_,H1,rfl,I1.kept (t':=s1.toks) fun b o e=>Oi _ e,oM a _,⟨_,Ow _ rfl,rfl,rfl⟩,fun b hb=>?_,q⟩;have e:b=s1.heap.objs.size:=by simpa using hb
 subst e;exact I1.fpOk (Oq _) (I1.hok.fresh (Oq _))
theorem xZ{l:Expr}{tl:TE}(hl:PE X l tl):PI X tg l (Ca X.K tl):=by
 intro pr s σ H R I h;refine Dn (hl pr s σ H _ I h) fun v s1 Dl=>?_
 obtain⟨x,H1,I1,r1,q1⟩:=Dl;obtain⟨a,e,⟨xs,hq⟩,q⟩:=q1;subst e;cases r1;obtain⟨C3,rv,p,hz⟩:=I1.tuple hq;refine PH (show s1.heap.IsTuple a C3.toArray from p) ?_;refine⟨s1.heap.objs.size,[s1.heap.objs.size],_,_,H1,rfl,I1.kept (t':=s1.toks) fun b o e=>Oi _ e,nM a _,⟨_,Ow _ rfl,rfl,rfl⟩,fun b hb=>?_,q⟩;have e:b=s1.heap.objs.size:=by simpa using hb
 subst e;exact I1.fpOk (Oq _) (I1.hok.fresh (Oq _))
theorem se{pr:List (Addr×Obj)}{σ:St}{H:Hp}{s:Shared}{R:It->Hp->Prop}{E:Value->Shared->Prop}{lo hi:Int}{t u v:Tok}{tk:Nat}(I:Inv X pr σ H s)(h1:-(2 ^ 62)<=lo)(h2:lo<2 ^ 62)(h3:-(2 ^ 62)<=hi)(h4:hi<2 ^ 62)
  (q:R (Mm lo (hi-lo).toNat) H):wpAny (model X.prog X.w) X.A (pyIter (.ref s.heap.objs.size)) (NA X pr σ tg R) E {s with heap:=s.heap.push {cls:=.type "range",data:=.fields #[.int lo t,.int hi u,.int 1 v]},toks:=tk}:=by
 refine wpAny_pyIter_range (IsRange.new ..) (small_one h1 h2 h3 h4) ?_;have I1:Inv X pr σ H {s with heap:=s.heap.push {cls:=.type "range",data:=.fields #[.int lo t,.int hi u,.int 1 v]},toks:=tk}:=I.kept fun b o e=>Oi _ e
 refine⟨(s.heap.push {cls:=.type "range",data:=.fields #[.int lo t,.int hi u,.int 1 v]}).objs.size,[(s.heap.push {cls:=.type "range",data:=.fields #[.int lo t,.int hi u,.int 1 v]}).objs.size],_,_,H,rfl,
  I1.kept (t':=tk) fun b o e=>Oi _ e,nN _ lo (hi-lo).toNat,?_,fun b hb=>?_,q⟩
 ·have e1:lo+((0:Nat):Int)*1=lo:=by simp
  have e2:(((hi-lo).toNat:Nat):Int)-((0:Nat):Int)=Builtin.Range.rangeSize lo hi 1:=by rw[rangeSize_one];split <;> lia
  show IsRangeIter _ _ (lo+((0:Nat):Int)*1) ((((hi-lo).toNat:Nat):Int)-((0:Nat):Int)) 1;rw[e1,e2];exact Ow _ rfl
 ·have e:b=(s.heap.push {cls:=.type "range",data:=.fields #[.int lo t,.int hi u,.int 1 v]}).objs.size:=by simpa using hb
  subst e;exact I1.fpOk (Oq _) (I1.hok.fresh (Oq _))
def AI(ta:TA):TI:=fun σ H R=>ta σ H fun vs H1=>∃j:Int,vs=[.int j]/\-(2 ^ 62)<=j/\j<2 ^ 62/\R (Mm 0 j.toNat) H1
theorem oN{a:Expr}{ta:TA}{p pos:Pos}(hg:Gl X "range")(hm:X.mg "range" = none)(ha:PA X [a] ta)(hs:starEach [a] X.env=[(false,eval a X.env)]:=by rfl):PI X tg (.Call (.Name "range" p) [a] [] pos) (AI ta):=by
 intro pr s σ H R I h;refine Call_ (gH I hg hm boot_range (Pm (Dn (ha pos pr s σ H _ I h) fun us s1 ⟨vs,H1,I1,r1,q1⟩=>?_) hs rfl));obtain⟨j,e,q1,q2,q⟩:=q1;subst e;cases r1 with
 |cons r rr=>
  cases rr;obtain⟨t,rfl⟩:=r;exact call_range_1 (se I1 (by lia) (by lia) q1 q2 (by simpa using q))
noncomputable def Cb(wi:TI)(g:TG)(tb:TS):TS:=fun D σ H=>wi σ H fun J H1=>∃W:Nat->Nat->St->Hp->Prop,(∃m,W 0 m σ H1)/\∀i m σ H,W i m σ H->
 (J.stop i H/\D.nx σ H)\/(J.go i H/\∃N:St->Hp->Prop,(∀σ' H',N σ' H'->∃m',m'<m/\W (i+1) m' σ' H')/\∀x H',J.yld i H x H'->g x σ H' fun σ2 H2=>tb {D with nx:=N,ct:=N,bk:=D.nx} σ2 H2)
def iV(fp:List Addr)(h:Heap):List (Addr×Obj):=fp.filterMap fun b=>(h.get? b).map fun o=>(b,o)
theorem cD{fp:List Addr}{h:Heap}{b:Addr}{o:Obj}(hb:b∈fp)(e:h.get? b=some o):(b,o)∈iV fp h:=Tg.mpr ⟨b,hb,by rw[e];rfl⟩
theorem oO{fp:List Addr}{h:Heap}{p:Addr×Obj}(hp:p∈iV fp h):p.1∈fp/\h.get? p.1=some p.2:=by
 obtain⟨b,hb,e⟩:=Tg.mp hp;cases q:h.get? b with
 |none=>rw[q]at e;cases e
 |some o=>
  rw[q]at e;have e':(b,o)=p:=OP e;subst e';exact⟨hb,q⟩
theorem Inv.pinned{pr:List (Addr×Obj)}{σ:St}{H:Hp}{s:Shared}{fp:List Addr}(I:Inv X pr σ H s)(hf:∀b∈fp,j4 X pr H b)(ho:∀b∈fp,∃o,s.heap.get? b=some o/\∀v,o.data≠.cell v):Inv X (pr++iV fp s.heap) σ H s:=
 I.pins_of fun p hp=>(OL.mp hp).elim (fun z=>I.pin p (Oj _ z)) fun z=>by
  obtain⟨hb,e⟩:=oO z;obtain⟨f0,f1,f2,_⟩:=hf p.1 hb;obtain⟨o,e',d⟩:=ho p.1 hb;rw[e]at e';cases e';exact⟨e,f0,f1,f2,d⟩
theorem Inv.unpinned{pr pl:List (Addr×Obj)}{σ:St}{H:Hp}{s:Shared}(I:Inv X (pr++pl) σ H s):Inv X pr σ H s:=I.pins_of fun p hp=>I.pin p (Oj _ (Oo _ hp))
theorem mq{iter:Expr}{body:List Stmt}{wi:TI}{g:TG}{tb:TS}{pos:Pos}(hp:PassesOwn (model X.prog X.w) X.A X.env X.xe)(hc:X.calm=true)(hi:PI X tg iter wi)(hg:PG X tg g)(hb:PSs X body tb)
  (hs:∀x,foldedSetIterable iter X.env x=pure x:=by intro _;rfl):PS X (.For tg iter body [] pos) (Cb wi g tb):=by
 intro pr s σ H D I h;refine wpAny_For (Dn (hi pr s σ H _ I h) fun v s1 h1=>Dn h1 fun K5 s2 h2=>?_) hs;obtain⟨it,fp,tn,J,H2,e,I2,T,De,f2,W,⟨m0,w0⟩,turn⟩:=h2;subst e;have Fc:∀{H':Hp},(∀b∈fp,H' b=none)->∀b∈fp,j4 X pr H' b:=fun hn b hb=>⟨hn b hb,(f2 b hb).2⟩
 refine codeAny_forLoop_any (fun n s'=>∃i σ' H',Inv X pr σ' H' s'/\tn i s'.heap/\(∀b∈fp,H' b=none)/\W i n σ' H') ?_ m0 ⟨0,σ,H2,I2,De,fun b hb=>(f2 b hb).1,w0⟩;rintro n s3 ⟨i,σ3,H3,I3,Dv,Jt,w3⟩;rcases turn i n σ3 H3 w3 with⟨stop,qn⟩|⟨go,N,hN,step⟩
 ·refine Qm hp (Dn (T.done X rfl rfl rfl hc i pr s3 σ3 H3 X.xe I3 (Fc Jt) Dv stop) fun r s4 Dl=>?_);obtain⟨hr,I4⟩:=Dl;subst hr;exact RC ⟨σ3,H3,I4,qn⟩
 ·refine Qm hp (Dn (T.item X rfl rfl rfl hc i pr s3 σ3 H3 X.xe I3 (Fc Jt) Dv go) fun r s4 Dl=>?_);obtain⟨u,hr,h4⟩:=Dl;subst hr;refine Qm hp (Dn h4 fun _ s5 Dl=>?_);obtain⟨x,H5,I5,r5,y5,Ei,K6⟩:=Dl;have K7:=I5.pinned (Fc K6) (T.obj _ _ Ei);refine Qm hp (Dn (hg _ s5 σ3 H5 x u _ K7 r5 (step x H5 y5)) fun _ s6 Dl=>?_);obtain⟨σ6,H6,I6,q6⟩:=Dl;refine Qm hp (Dn (hb _ s6 σ6 H6 _ I6 q6) fun f s7 q7=>?_);have again:∀{σ7:St}{H7:Hp},Inv X (pr++iV fp s5.heap) σ7 H7 s7->N σ7 H7->∃m,m<n/\∃i σ' H',Inv X pr σ' H' s7/\tn i s7.heap/\(∀b∈fp,H' b=none)/\W i m σ' H':=fun{σ7 H7} I7 n7=>by
   obtain⟨m',hm,w7⟩:=hN σ7 H7 n7;refine⟨m',hm,i+1,σ7,H7,I7.unpinned,T.keep _ _ _ Ei fun b hb o e=>(I7.pin (b,o) (Oj _ (Oj _ (cD hb e)))).1,fun b hb=>?_,w7⟩;obtain⟨o,e,d⟩:=T.obj _ _ Ei b hb;exact(I7.pin (b,o) (Oj _ (Oj _ (cD hb e)))).2.1
  cases f with
  |next=>obtain⟨σ7,H7,I7,n7⟩:=q7;exact again I7 n7
  |cont=>obtain⟨σ7,H7,I7,n7⟩:=q7;exact again I7 n7
  |brk=>obtain⟨σ7,H7,I7,q7⟩:=q7;exact⟨σ7,H7,I7.unpinned,q7⟩
  |ret v=>obtain⟨x7,σ7,H7,I7,r7,q7⟩:=q7;exact⟨x7,σ7,H7,I7.unpinned,r7,q7⟩
end
theorem for_list{K:W.Frag}{a:Addr}{xs:List V}{g:TG}{tb:TS}{D:Ends}{σ:St}{H:Hp}(Pv:Nat->St->Hp->Prop)(h0:Pv 0 σ H)(hl:∀i σ H,i<=xs.length->Pv i σ H->SqL K H a xs)
  (hs:∀i x σ H,xs[i]?=some x->Pv i σ H->g x σ H fun σ2 H2=>tb {D with nx:=Pv (i+1),ct:=Pv (i+1),bk:=D.nx} σ2 H2) (hd:∀σ H,Pv xs.length σ H->D.nx σ H):
  ∃W:Nat->Nat->St->Hp->Prop,(∃m,W 0 m σ H)/\∀i m σ H,W i m σ H->
   ((KJ K a).stop i H/\D.nx σ H)\/((KJ K a).go i H/\∃N:St->Hp->Prop,(∀σ' H',N σ' H'->∃m',m'<m/\W (i+1) m' σ' H')/\∀x H',(KJ K a).yld i H x H'->g x σ H' fun σ2 H2=>tb {D with nx:=N,ct:=N,bk:=D.nx} σ2 H2):=by
 refine⟨fun i m σ H=>m=xs.length-i/\i<=xs.length/\Pv i σ H,⟨xs.length,by simp,Pn _,h0⟩,?_⟩;rintro i m σ H ⟨rfl,hi,p⟩;have q:=hl i σ H hi p;by_cases DH:i<xs.length
 ·refine .inr ⟨⟨xs,xs[i],q,by simp[DH]⟩,Pv (i+1),fun σ' H' p'=>⟨xs.length-(i+1),by lia,rfl,DH,p'⟩,fun x H' y=>?_⟩;obtain⟨e,y⟩:=y;subst e;exact hs i x σ _ (y xs q) p
 ·have e:i=xs.length:=by lia
  subst e;exact .inl ⟨⟨xs,q,Oq _⟩,hd σ H p⟩
abbrev R2:=V->V->Hp->VK->Prop
def DK(X:Cx)(f:Value->Value->Sem Value)(r:R2):Prop:=
 ∀(pr:List (Addr×Obj)) (s:Shared) (σ:St) (H:Hp) (x y:V) (v u:Value) (Q:VK),Inv X pr σ H s->RelV x v->RelV y u->r x y H Q->
  wpAny (model X.prog X.w) X.A (f v u) (EP X pr σ Q) X.xe s
def MM(X:Cx)(f:Value->Sem Value)(r:V->Hp->VK->Prop):Prop:=
 ∀(pr:List (Addr×Obj)) (s:Shared) (σ:St) (H:Hp) (x:V) (v:Value) (Q:VK),Inv X pr σ H s->RelV x v->r x H Q->
  wpAny (model X.prog X.w) X.A (f v) (EP X pr σ Q) X.xe s
def d5(X:Cx)(f:Value)(r:List V->Hp->VK->Prop):Prop:=
 ∀(pr:List (Addr×Obj)) (s:Shared) (σ:St) (H:Hp) (xs:List V) (us:List Value) (Q:VK),Inv X pr σ H s->Vals xs us->r xs H Q->
  wpAny (model X.prog X.w) X.A (call f us) (EP X pr σ Q) X.xe s
def KL(r:R2)(ta tb:TE):TE:=fun σ H Q=>ta σ H fun x H1=>tb σ H1 fun y H2=>r x y H2 Q
def tUn(r:V->Hp->VK->Prop)(ta:TE):TE:=fun σ H Q=>ta σ H fun x H1=>r x H1 Q
def rI(C:Int->Int->Prop)(g:Int->Int->V):R2:=fun x y H Q=>∃i j,x=.int i/\y=.int j/\C i j/\Q (g i j) H
def KN(g:Int->Int->V):R2:=fun x y H Q=>∃i j,x=.int i/\y=.int j/\Q (g i j) H
def rU(g:Int->V):V->Hp->VK->Prop:=fun x H Q=>∃i,x=.int i/\Q (g i) H
section
variable{X:Cx}{a b c:Expr}{ta tb tc:TE}{pos:Pos}
theorem AJ(ha:PE X a ta)(hb:PE X b tb){pr:List (Addr×Obj)}{s:Shared}{σ:St}{H:Hp}{R:V->V->Hp->Prop}(I:Inv X pr σ H s)
  (h:ta σ H fun x H1=>tb σ H1 fun y H2=>R x y H2) {Q:Value->Shared->Prop}{f:Value->Value->Sem Value}
  (hf:∀v u s2 x y H2,Inv X pr σ H2 s2->RelV x v->RelV y u->R x y H2->wpAny (model X.prog X.w) X.A (f v u) Q X.xe s2):
  wpAny (model X.prog X.w) X.A (eval a X.env) (fun v s₁=>wpAny (model X.prog X.w) X.A (eval b X.env) (fun u s₂=>wpAny (model X.prog X.w) X.A (f v u) Q X.xe s₂) X.xe s₁) X.xe s:=by
 refine Dn (ha pr s σ H _ I h) fun v s1 Dl=>?_
 obtain⟨x,H1,I1,r1,q1⟩:=Dl;refine Dn (hb pr s1 σ H1 _ I1 q1) fun u s2 Dl=>?_
 obtain⟨y,H2,I2,r2,q2⟩:=Dl;exact hf v u s2 x y H2 I2 r1 r2 q2
theorem AK{op:Operator}{r:R2}(ho:DK X (binaryOp op) r)(ha:PE X a ta)(hb:PE X b tb):PE X (.BinOp a op b pos) (KL r ta tb):=by
 intro pr s σ H Q I h;exact wpAny_BinOp (AJ ha hb I h fun v u s2 x y H2 I2 rx ry q=>ho pr s2 σ H2 x y v u Q I2 rx ry q)
theorem AL{op:UnaryOp}{r:V->Hp->VK->Prop}(ho:MM X (unaryOp op) r)(ha:PE X a ta):PE X (.UnaryOp op a pos) (tUn r ta):=by
 intro pr s σ H Q I h;exact UnaryOp_ (Dn (ha pr s σ H _ I h) fun v s1 ⟨x,H1,I1,r1,q1⟩=>ho pr s1 σ H1 x v Q I1 r1 q1)
theorem Ju{f:Value->Value->Sem Value}{C:Int->Int->Prop}{g:Int->Int->Int}
  (rule:∀(i j:Int) (t u:Tok) (s:Shared) (Q:Value->Shared->Prop) (E:Value->Shared->Prop),C i j->Q (.int (g i j) s.toks) {s with toks:=s.toks+1}->wpAny (model X.prog X.w) X.A (f (.int i t) (.int j u)) Q E s):
  DK X f (rI C fun i j=>.int (g i j)):=by
 intro pr s σ H x y v u Q I rx ry h;obtain⟨i,j,rfl,rfl,hc,q⟩:=h;obtain⟨t,rfl⟩:=rx;obtain⟨t',rfl⟩:=ry;exact rule i j t t' s _ _ hc ⟨.int (g i j),H,I.tok _,⟨_,rfl⟩,q⟩
theorem BI{f:Value->Value->Sem Value}{g:Int->Int->Int}
  (rule:∀(i j:Int) (t u:Tok) (s:Shared) (Q:Value->Shared->Prop) (E:Value->Shared->Prop),Q (.int (g i j) s.toks) {s with toks:=s.toks+1}->wpAny (model X.prog X.w) X.A (f (.int i t) (.int j u)) Q E s):
  DK X f (KN fun i j=>.int (g i j)):=by
 intro pr s σ H x y v u Q I rx ry h;obtain⟨i,j,rfl,rfl,q⟩:=h;obtain⟨t,rfl⟩:=rx;obtain⟨t',rfl⟩:=ry;exact rule i j t t' s _ _ ⟨.int (g i j),H,I.tok _,⟨_,rfl⟩,q⟩
theorem BJ{f:Value->Value->Sem Value}{g:Int->Int->Bool}
  (rule:∀(i j:Int) (t u:Tok) (s:Shared) (Q:Value->Shared->Prop) (E:Value->Shared->Prop),Q (.bool (g i j)) s->wpAny (model X.prog X.w) X.A (f (.int i t) (.int j u)) Q E s):
  DK X f (KN fun i j=>.bl (g i j)):=by
 intro pr s σ H x y v u Q I rx ry h;obtain⟨i,j,rfl,rfl,q⟩:=h;obtain⟨t,rfl⟩:=rx;obtain⟨t',rfl⟩:=ry;exact rule i j t t' s _ _ ⟨.bl (g i j),H,I,rfl,q⟩
def Cc(i j:Int):Prop:=0<j/\j<1073741824
def Cd(i j:Int):Prop:=0<=j/\j<=1000000/\i.natAbs<2 ^ 64
def CMul(i j:Int):Prop:=(-(2 ^ 64)<i/\i<2 ^ 64)\/(-(2 ^ 64)<j/\j<2 ^ 64)
theorem CMul.ok{i j:Int}(h:CMul i j):IntMulOk i j:=by
 rcases h with⟨h1,h2⟩|⟨h1,h2⟩
 ·exact .of_left (intBits_le_64 h1 h2)
 ·exact .of_right (intBits_le_64 h1 h2)
theorem x5:DK X (binaryOp .Add) (KN fun i j=>.int (i+j)):=BI fun _ _ _ _ _ _ _ q=>add_int q
theorem x6:DK X (binaryOp .Sub) (KN fun i j=>.int (i-j)):=BI fun _ _ _ _ _ _ _ q=>sub_int q
theorem x9:DK X (binaryOp .Mult) (rI CMul fun i j=>.int (i*j)):=Ju fun _ _ _ _ _ _ _ hc q=>mul_int q hc.ok
theorem vA:DK X (binaryOp .FloorDiv) (rI Cc fun i j=>.int (i / j)):=Ju fun i j _ _ _ _ _ hc q=>by
 have h1:(0:Int)<j:=hc.1;have h2:j<1073741824:=hc.2;exact floordiv_int (by lia) (by rw[Int.fdiv_eq_ediv_of_nonneg i (by lia)];exact q) (.inl (PyProof.noPylong_small (by lia)))
theorem yc:DK X (binaryOp .Mod) (rI (fun _ j=>0<j) fun i j=>.int (i%j)):=Ju fun i j _ _ _ _ _ hc q=>by
 have h1:(0:Int)<j:=hc;exact mod_int' (by lia) (by rw[Int.fmod_eq_emod_of_nonneg i (by lia)];exact q)
theorem vB:DK X (binaryOp .Mod) (rI (fun _ j=>j≠0) fun i j=>.int (i.fmod j)):=Ju fun _ _ _ _ _ _ _ hc q=>mod_int' hc q
theorem yd:DK X (binaryOp .Pow) (rI Cd fun i j=>.int (i ^ j.toNat)):=Ju fun _ _ _ _ _ _ _ hc q=>pow_int_small hc.1 hc.2.1 hc.2.2 q
theorem unI{f:Value->Sem Value}{g:Int->Int}
  (rule:∀(i:Int) (t:Tok) (s:Shared) (Q:Value->Shared->Prop) (E:Value->Shared->Prop),Q (.int (g i) s.toks) {s with toks:=s.toks+1}->wpAny (model X.prog X.w) X.A (f (.int i t)) Q E s):
  MM X f (rU fun i=>.int (g i)):=by
 intro pr s σ H x v Q I rx h;obtain⟨i,rfl,q⟩:=h;obtain⟨t,rfl⟩:=rx;exact rule i t s _ _ ⟨.int (g i),H,I.tok _,⟨_,rfl⟩,q⟩
theorem ye:MM X (unaryOp .USub) (rU fun i=>.int (-i)):=unI fun _ _ _ _ _ q=>neg_int q
end
section
variable{X:Cx}{a b c:Expr}{ta tb tc:TE}{pos:Pos}
theorem oP{pr:List (Addr×Obj)}{σ:St}{H:Hp}{s:Shared}{Q:VK}{k k':Bool}(I:Inv X pr σ H s)(q:Q (.bl k) H)(e:k=k'):EP X pr σ Q (.bool k') s:=by
 subst e;exact⟨.bl k,H,I,rfl,q⟩
theorem AM:DK X (compareOp .Lt) (KN fun i j=>.bl (decide (i<j))):=BJ fun _ _ _ _ _ _ _ q=>lt_int q
theorem AN:DK X (compareOp .Gt) (KN fun i j=>.bl (decide (j<i))):=BJ fun _ _ _ _ _ _ _ q=>gt_int q
theorem oQ:DK X (compareOp .Lt) (fun x y H Q=>∃i j,x=.str i/\y=.str j/\Q (.bl (decide (i.cps.toList<j.cps.toList))) H):=by
 intro pr s σ H x y v u Q I rx ry h;obtain⟨i,j,rfl,rfl,q⟩:=h;obtain⟨t,rfl⟩:=rx;obtain⟨t',rfl⟩:=ry;exact lt_str (oP I q rfl)
theorem oR:DK X (compareOp .In) (fun x y H Q=>∃i j,x=.str i/\y=.str j/\Q (.bl (!(Builtin.Str.occurrences j i 0 j.length 1).isEmpty)) H):=by
 intro pr s σ H x y v u Q I rx ry h;obtain⟨i,j,rfl,rfl,q⟩:=h;obtain⟨t,rfl⟩:=rx;obtain⟨t',rfl⟩:=ry;exact in_str (oP I q rfl)
theorem j5:DK X (compareOp .NotIn) (fun x y H Q=>∃i j,x=.str i/\y=.str j/\Q (.bl (!(!(Builtin.Str.occurrences j i 0 j.length 1).isEmpty))) H):=by
 intro pr s σ H x y v u Q I rx ry h;obtain⟨i,j,rfl,rfl,q⟩:=h;obtain⟨t,rfl⟩:=rx;obtain⟨t',rfl⟩:=ry;exact notIn_str (oP I q rfl)
theorem bx(b:Expr){op:CmpOp}(h:op≠.In:=by decide)(h2:op≠.NotIn:=by decide):behindInMarks op b=false:=by
 have e1:(op==CmpOp.In)=false:=by cases op <;> first|rfl|exact absurd rfl h
 have e2:(op==CmpOp.NotIn)=false:=by cases op <;> first|rfl|exact absurd rfl h2
 cases b <;> simp[behindInMarks,e1,e2]
theorem vC{op:CmpOp}{r:R2}(ho:DK X (compareOp op) r)(ha:PE X a ta)(hb:PE X b tb)(hm:behindInMarks op b=false):PE X (.Compare a [op] [b] pos) (KL r ta tb):=by
 intro pr s σ H Q I h;exact wpAny_Compare1 (AJ ha hb I h fun v u s2 x y H2 I2 rx ry q=>ho pr s2 σ H2 x y v u Q I2 rx ry q) hm
def AO(t:TE):TT:=fun σ H Q=>t σ H fun x H'=>∃k,x=.bl k/\Q k H'
theorem oS{op:CmpOp}{r:R2}(ho:DK X (compareOp op) r)(ha:PE X a ta)(hb:PE X b tb)(hm:behindInMarks op b=false):PT X (.Compare a [op] [b] pos) (AO (KL r ta tb)):=by
 intro pr s σ H Q I h;refine wpAny_isTrue_Compare1 (Dn (ha pr s σ H _ I h) fun v s1 ⟨x,H1,I1,r1,q1⟩=>Dn (hb pr s1 σ H1 _ I1 q1) fun u s2 ⟨y,H2,I2,r2,q2⟩=>
  Dn (ho pr s2 σ H2 x y v u _ I2 r1 r2 q2) fun c s3 ⟨z,H3,I3,r3,k,e,q3⟩=>?_) hm
 subst e;cases r3;exact QD ⟨H3,I3,q3⟩
theorem iW:(sizeLine:Nat)<2 ^ 63:=by rw[QU];decide
theorem nO:DK X (binaryOp .Add) (fun x y H Q=>∃i j,x=.str i/\y=.str j/\i.length+j.length<=sizeLine/\Q (.str (i++j)) H):=by
 intro pr s σ H x y v u Q I rx ry h;obtain⟨i,j,rfl,rfl,hz,q⟩:=h;obtain⟨t,rfl⟩:=rx;obtain⟨t',rfl⟩:=ry;exact add_str (fun t' tk=>⟨.str (i++j),H,I.tok _,⟨_,rfl⟩,q⟩) hz
theorem j6{x:V}{us:List Value}(r:Vals [x] us):∃u,us=[u]/\RelV x u:=by
 cases r with
 |cons r1 r2=>cases r2;exact⟨_,rfl,r1⟩
theorem yf{x y:V}{us:List Value}(r:Vals [x,y] us):∃u w',us=[u,w']/\RelV x u/\RelV y w':=by
 cases r with
 |cons r1 r2=>
  cases r2 with
  |cons r3 r4=>cases r4;exact⟨_,_,rfl,r1,r3⟩
theorem sf:d5 X (.builtin "abs") (fun xs H Q=>∃i,xs=[.int i]/\Q (.int (if i<0 then -i else i)) H):=by
 intro pr s σ H xs us Q I r h;obtain⟨i,rfl,q⟩:=h;obtain⟨u,rfl,t,rfl⟩:=j6 r;exact call_abs_int fun u tk=>⟨.int (if i<0 then -i else i),H,I.tok _,⟨_,rfl⟩,q⟩
end
section
variable{prog:Program}{w:World}{A:Around}{E:Value->Shared->Prop}{s:Shared}{K:W.Frag}{x dx C f:Addr}{mA:Str->Option Value}{name:Str}{v:Value}
end
theorem RelO.some_of{v:V}{o:Option Value}(r:RelO (some v) o):∃u,o=some u/\RelV v u:=by
 cases o with
 |none=>exact(show False from r).elim
 |some u=>exact⟨u,rfl,r⟩
section
variable{P:Program}{w:World}{H H':Hp}{h h':Heap}{a C dx:Addr}{fs fs':List (Str×V)}
end
section
variable{X:Cx}{pr:List (Addr×Obj)}{σ:St}{H:Hp}{s:Shared}{a C dx:Addr}{fs:List (Str×V)}{f:Str}{v:V}{A:Around}{E:Value->Shared->Prop}
end
def InOp(X:Cx)(op:Operator)(rd:V->V->Hp->VK->Prop):Prop:=
 ∀(pr:List (Addr×Obj)) (s:Shared) (σ:St) (H:Hp) (x y:V) (u v:Value) (Q:VK),Inv X pr σ H s->RelV x u->RelV y v->rd x y H Q->wpAny (model X.prog X.w) X.A (inplaceOp op u v) (EP X pr σ Q) X.xe s
section
variable{X:Cx}{o e value:Expr}{f:Str}{pos pos' JU:Pos}{ta tv:TE}
def Ce:V->V->Hp->VK->Prop:=fun x y H Q=>∃i j,x=.int i/\y=.int j/\Q (.int (i+j)) H
theorem in_add:InOp X .Add Ce:=by
 rintro pr s σ H x y u v Q I rx ry ⟨i,j,rfl,rfl,q⟩;obtain⟨t,rfl⟩:=(show ∃t,u=Value.int i t from rx)
 obtain⟨t',rfl⟩:=(show ∃t',v=Value.int j t' from ry)
 exact PyProof.Rows.iadd_int ⟨.int (i+j),H,I.tok _,⟨_,rfl⟩,q⟩
end
section
variable{X:Cx}{pr:List (Addr×Obj)}{σ:St}{H:Hp}{s:Shared}{A:Around}{E:Value->Shared->Prop}{Q:Value->Shared->Prop}{c:Value}{b:Bool}
end
structure Room(k:Nat)(A:Around):Prop where
 hd:A.handled=none
 dp:A.depth+3*k+5<recursionLimit
 un:A.units+16*k+200<cLine
theorem Room.mono{j k:Nat}{A:Around}(r:Room k A)(h:j<=k):Room j A:=⟨r.hd,by have:=r.dp;lia,by have:=r.un;lia⟩
theorem Room.m{j k:Nat}{A:Around}(r:Room k A)(h:j<=k:=by decide):Room j A:=r.mono h
theorem Room.deeper{k:Nat}{A:Around}(r:Room (k+1) A)(env:Env):Room k (A.deeper env):=
 ⟨r.hd,by have:=r.dp;show A.depth+1+3*k+5<_;lia,by have:=r.un;show A.units+3+16*k+200<_;lia⟩
theorem Room.depth{k:Nat}{A:Around}(r:Room k A):A.depth<recursionLimit:=by have:=r.dp;lia
theorem Room.units{k:Nat}{A:Around}(r:Room k A):A.units+64<cLine:=by have:=r.un;lia
theorem Room.units0{k:Nat}{A:Around}(r:Room k A):A.units<cLine:=by have:=r.un;lia
def Cf:TA:=fun _ H Q=>Q [] H
def AQ(ta:TE)(tr:TA):TA:=fun σ H Q=>ta σ H fun x H1=>tr σ H1 fun xs H2=>Q (x::xs) H2
section
variable{X:Cx}{e:Expr}{es:List Expr}{te:TE}{t:TA}{pos:Pos}
theorem oT:PA X [] Cf:=fun _ _ _ _ H Q I h=>Calls.spliced_nil ⟨[],H,I,.nil,h⟩
theorem jk(ha:PE X e te)(hr:PA X es t)(hs:starEach (e::es) X.env=(false,eval e X.env)::starEach es X.env:=by rfl):PA X (e::es) (AQ te t):=by
 intro pos pr s σ H Q I h;rw[hs];show wpAny _ _ (spliced ((false,eval e X.env)::backTo pos (starEach es X.env))) _ _ s;refine Calls.spliced_cons (Dn (ha pr s σ H _ I h) fun u s1 Dl=>?_);obtain⟨x,H1,I1,r1,q1⟩:=Dl;exact Dn (hr pos pr s1 σ H1 _ I1 q1) fun us s2 ⟨xs,H2,I2,r2,q2⟩=>⟨x::xs,H2,I2,.cons r1 r2,q2⟩
def Cg(t:TA):TE:=fun σ H Q=>t σ H fun xs H1=>xs.length<=sizeLine/\∀p,H1 p=none->Q (.ref p) (upd H1 p (.tup xs))
def Ci(t:TA):TE:=fun σ H Q=>t σ H fun xs H1=>xs.length<=sizeLine/\∀p,H1 p=none->Q (.ref p) (upd H1 p (.lst xs))
theorem yg{x1}(h:PA X es t):PE X (.Tuple es x1 pos) (Cg t):=by
 intro pr s σ H Q I hq;refine wpAny_Tuple_spliced (Dn (h pos pr s σ H _ I hq) fun us s1 ⟨xs,H1,I1,r,z,q⟩=>⟨by rw[<-r.length];exact z,?_⟩);have hf:H1 s1.heap.objs.size=none:=I1.hok.fresh (Oq _);refine⟨.ref s1.heap.objs.size,upd H1 s1.heap.objs.size (.tup xs),I1.laid (t':=s1.toks) (fun b u e=>Oi _ e) (Oq _) ?_,rfl,q _ hf⟩;exact⟨z,us,r,⟨_,Ow _ rfl,rfl,⟨_,rfl⟩,rfl⟩⟩
theorem yh(h:PA X es t):PE X (.List es pos) (Ci t):=by
 intro pr s σ H Q I hq;refine wpAny_List_spliced (Dn (h pos pr s σ H _ I hq) fun us s1 ⟨xs,H1,I1,r,z,q⟩=>⟨by rw[<-r.length];exact z,?_⟩);have hf:H1 s1.heap.objs.size=none:=I1.hok.fresh (Oq _);refine⟨.ref s1.heap.objs.size,upd H1 s1.heap.objs.size (.lst xs),I1.laid (t':=s1.toks) (fun b u e=>Oi _ e) (Oq _) ?_,rfl,q _ hf⟩;exact⟨z,us,0,r,Ow _ rfl⟩
end
abbrev Sp:=List V->Hp->VK->XK->Prop
abbrev CXT:=List Env->Hp->Shared->XK->Value->Shared->Prop
structure Env0(P:Program)(w:World)(K:W.Frag)(mg:Str->Option Value)(base:Heap)(A:Around)(outer:List Env)(s:Shared)(H:Hp):Prop where
 frames:A.frames=some outer
 mod:Mod K mg base
 bs:∀b o,base.get? b=some o->s.heap.get? b=some o/\H b=none
 bsz:base.objs.size<=s.heap.objs.size
 funs:s.heap.FunFrames base outer
 frf:∀b∈GD outer,H b=none
 hok:HOk P w H s.heap
 bare:AllBare s.gens
def CE(outer:List Env)(P:Program)(w:World)(H:Hp)(s:Shared)(Q:VK)(u:Value)(s':Shared):Prop:=
 ∃v H',s'.os=s.os/\AllBare s'.gens/\Un (GD outer) [] H H' s.heap s'.heap/\HOk P w H' s'.heap/\RelV v u/\Q v H'
def CR(CX:CXT)(outer:List Env)(P:Program)(w:World)(H:Hp)(s:Shared)(Q:VK)(E:XK)(r:Result)(s':Shared):Prop:=
 match r with
 | .ok (.ret u)=>CE outer P w H s Q u s'
 | .ok _=>False
 | .error e=>CX outer H s E e s'
structure FnOk(P:Program)(w:World)(K:W.Frag)(mg:Str->Option Value)(base:Heap)(CX:CXT)(k:Nat)(f:Addr)(fd:FuncData)(ps:List Str)(sp:Sp):Prop where
 len:∀vs H Q E,sp vs H Q E->vs.length=ps.length
 run:∀(A:Around) (outer:List Env) (s:Shared) (H:Hp) (args:Args) (us:List Value) (vs:List V) (Q:VK) (E:XK),Room k A->Env0 P w K mg base A outer s H->BindsTo s fd args (ps.zip us)->Vals vs us->sp vs H Q E->
  codeAny (model P w) A (.call (.ref f) args) (CR CX outer P w H s Q E) s
theorem FnOk.imp{P:Program}{w:World}{K:W.Frag}{mg:Str->Option Value}{base:Heap}{CX:CXT}{k:Nat}{f:Addr}{fd:FuncData}{ps:List Str}{sp NB:Sp}(F:FnOk P w K mg base CX k f fd ps sp)
  (h:∀vs H Q E,NB vs H Q E->sp vs H Q E):FnOk P w K mg base CX k f fd ps NB:=
 ⟨fun vs H Q E q=>F.len vs H Q E (h _ _ _ _ q),fun A outer s H args us vs Q E hr he hb hv hs=>F.run A outer s H args us vs Q E hr he hb hv (h _ _ _ _ hs)⟩
section
variable{X:Cx}{pr:List (Addr×Obj)}{σ:St}{H:Hp}{s s':Shared}
theorem Inv.env0(I:Inv X pr σ H s):Env0 X.prog X.w X.K X.mg X.base X.A X.stack s H:=
 ⟨I.ok.frames,I.ok.mod,I.bs,OF I.ok.bsz I.sz,I.stack,I.stkFree,I.hok,I.bare⟩
theorem Inv.after{Q:VK}{u:Value}(I:Inv X pr σ H s)(h:CE X.stack X.prog X.w H s Q u s'):EP X pr σ Q u s':=by
 obtain⟨v,H',os,bare,un,hok,r,q⟩:=h;obtain⟨hh,g,d,t,NC⟩:=s';obtain rfl:NC=s.os:=os;exact⟨v,H',I.call (h':=hh) (g':=g) (d':=d) (t':=t) (ch:=[]) un hok bare (fun b z=>absurd z (by simp)),r,q⟩
end
def tCall(sp:Sp)(Jv:List V)(E:XK)(t:TA):TE:=fun σ H Q=>t σ H fun vs H1=>sp (vs++Jv) H1 Q E
def Binds(K:W.Frag)(fd:FuncData)(ps:List Str)(ds:List Value):Prop:=
 ∀(s:Shared) (us:List Value),K.In s.heap->(us++ds).length=ps.length->BindsTo s fd ⟨us,[]⟩ (ps.zip (us++ds))
theorem Binds.all{K:W.Frag}{fd:FuncData}{ps:List Str}(h:∀us:List Value,us.length=ps.length->bindArgs fd ⟨us,[]⟩=pure (ps.zip us)):Binds K fd ps []:=fun s us _ hl=>by
 rw[OK]at hl ⊢;exact .of_eq (h us hl)
def oU(CX:CXT)(X:Cx)(E:XK):Prop:=∀(pr:List (Addr×Obj)) (σ:St) (H:Hp) (s:Shared) (e:Value) (s':Shared),Inv X pr σ H s->CX X.stack H s E e s'->X.xe e s'
section
variable{X:Cx}{CX:CXT}{k:Nat}{f C:Addr}{fd:FuncData}{ps:List Str}{sp:Sp}{Jv:List V}{ds:List Value}{E:XK}{x m:Str}{p pos apos:Pos}{e o:Expr}{es:List Expr}{ta:TE}{t:TA}
theorem yi{pr:List (Addr×Obj)}{σ:St}{H:Hp}{s:Shared}{Q:VK}{us:List Value}{vs:List V}(F:FnOk X.prog X.w X.K X.mg X.base CX k f fd ps sp)(hr:Room k X.A)(hb:Binds X.K fd ps ds)(hd:Vals Jv ds)(hx:oU CX X E)
  (I:Inv X pr σ H s) (r:Vals vs us) (h:sp (vs++Jv) H Q E):wpAny (model X.prog X.w) X.A (call (.ref f) us) (EP X pr σ Q) X.xe s:=by
 have r2:Vals (vs++Jv) (us++ds):=r.append hd;have hl:(us++ds).length=ps.length:=by rw[<-r2.length];exact F.len _ _ _ _ h
 refine wpAny_call (codeAny_mono (F.run X.A X.stack s H ⟨us,[]⟩ (us++ds) (vs++Jv) Q E hr I.env0 (hb s us I.kIn hl) r2 h) fun r s' hq=>?_);cases r with
 |error e=>exact hx pr σ H s e s' I hq
 |ok fl=>
  cases fl with
  |ret u=>exact I.after hq
  |next=>exact False.elim hq
  |brk=>exact False.elim hq
  |cont=>exact False.elim hq
theorem vD(F:FnOk X.prog X.w X.K X.mg X.base CX k f fd ps sp)(hr:Room k X.A)(hg:Gl X x)(hm:X.mg x=some (.ref f))(hk:PySem.W.keepIn X.K (.ref f)=true)(hb:Binds X.K fd ps ds)(hd:Vals Jv ds)(hx:oU CX X E)
  (ha:PA X (e::es) t) (Fd:(x==("__debug__" : Str))=false:=by decide) (he:starEach (e::es) X.env=(false,eval e X.env)::starEach es X.env:=by rfl) (Es:(backTo pos (starEach es X.env)).any (·.1)=false:=by rfl):
  PE X (.Call (.Name x p) (e::es) [] pos) (tCall sp Jv E t):=by
 intro pr s σ H Q I h;refine P5 (vn I hg hm ?_ Fd);refine PySem.W.callWith_K (h₀:=X.base) I.ok.mod.kin hk (Dn (ha pos pr s σ H _ I h) fun us s1 ⟨vs,H1,I1,r,q⟩=>⟨I1.kIn,?_⟩) he Es;exact yi F hr hb hd hx I1 r q
end
section
variable{X:Cx}{CX:CXT}{k:Nat}{f C:Addr}{fd:FuncData}{ps ks:List Str}{sp:Sp}{E:XK}{x m:Str}{p pos apos K8:Pos}{e o:Expr}{es:List Expr}{kws:List Keyword}{te ta:TE}{t tk:TA}{nm:Option Str}
variable{g:List Value->List Value->List Value}{gV:List V->List V->List V}
end
structure FnScope(N P:List Str)(sc:Scope):Prop where
 kind:sc.kind=.function
 co:sc.isCoroutine=false
 gen:sc.isGenerator=false
 nd:N.Nodup
 pre:N.take P.length=P
 par:∀x∈P,sc.names.lookup x=some .local\/sc.names.lookup x=some .cell
 nofree:∀y∈sc.names,y.2≠.free
theorem fs{N P:List Str}{sc:Scope}(a:sc.kind=.function:=by rfl)(b:sc.isCoroutine=false:=by rfl)(c:sc.isGenerator=false:=by rfl)(d:N.Nodup:=by decide +kernel)(e:N.take P.length=P:=by rfl)(f:∀x∈P,sc.names.lookup x=some .local\/sc.names.lookup x=some .cell:=by decide +kernel)(g:∀y∈sc.names,y.2≠.free:=by decide +kernel):FnScope N P sc:=⟨a,b,c,d,e,f,g⟩
theorem j7{kindOf:Str->Option NameKind}{x:Str}:∀{binds:List (Str×Value)}{m:Str->Option Value},(∀v,(x,v)∉binds)->bindL kindOf binds m x=m x
 |[],_,_=>rfl
 |(n,v)::r,m,h=>by
  unfold bindL;rw[j7 fun w hw=>h w (Og _ hw)];split
  ·have:x≠n:=by rintro rfl;exact h v Oh
   simp[this]
  ·rfl
theorem j8{kindOf:Str->Option NameKind}{x:Str}:∀{binds:List (Str×Value)}{m:Str->Option Value},(∀v,(x,v)∉binds)->bindC kindOf binds m x=m x
 |[],_,_=>rfl
 |(n,v)::r,m,h=>by
  unfold bindC;rw[j8 fun w hw=>h w (Og _ hw)];split
  ·rfl
  ·have:x≠n:=by rintro rfl;exact h v Oh
   simp[this]
theorem j9{kindOf:Str->Option NameKind}{x:Str}{v:Value}:∀{P:List Str}{vs:List Value}{i:Nat}{m:Str->Option Value},P.Nodup->P[i]?=some x->vs[i]?=some v->kindOf x=some .local->
  bindL kindOf (P.zip vs) m x=some v
 |[],_,_,_,_,h,_,_=>by simp at h
 |_::_,[],_,_,_,_,h,_=>by simp at h
 |p::P,w::vs,0,m,nd,h1,h2,hk=>by
  simp at h1 h2;subst h1;subst h2;show bindL kindOf ((p,w)::P.zip vs) m p=_;unfold bindL;rw[j7 fun v hv=>(OU.mp nd).1 (Q2 hv).1,Oy hk];simp
 |p::P,w::vs,i+1,m,nd,h1,h2,hk=>by
  show bindL kindOf ((p,w)::P.zip vs) m x=_;unfold bindL;exact j9 (i:=i) (OU.mp nd).2 (by simpa using h1) (by simpa using h2) hk
theorem ka{kindOf:Str->Option NameKind}{x:Str}{v:Value}:∀{P:List Str}{vs:List Value}{i:Nat}{m:Str->Option Value},P.Nodup->P[i]?=some x->vs[i]?=some v->kindOf x≠some .local->
  bindC kindOf (P.zip vs) m x=some v
 |[],_,_,_,_,h,_,_=>by simp at h
 |_::_,[],_,_,_,_,h,_=>by simp at h
 |p::P,w::vs,0,m,nd,h1,h2,hk=>by
  simp at h1 h2;subst h1;subst h2;show bindC kindOf ((p,w)::P.zip vs) m p=_;unfold bindC;rw[j8 fun v hv=>(OU.mp nd).1 (Q2 hv).1,OD hk];simp
 |p::P,w::vs,i+1,m,nd,h1,h2,hk=>by
  show bindC kindOf ((p,w)::P.zip vs) m x=_;unfold bindC;exact ka (i:=i) (OU.mp nd).2 (by simpa using h1) (by simpa using h2) hk
def start(N:List Str)(vs:List V):St:=vs.map some++List.replicate (N.length-vs.length) none
noncomputable def si(CX:CXT)(P:Program)(w:World)(K:W.Frag)(mg:Str->Option Value)(base:Heap)(N:List Str)(qual:Str)(scope:Scope)(f:Addr)(cd:Value)(A:Around)(outer:List Env)(s:Shared)(H:Hp)(E:XK):Cx where
 prog:=P
 w:=w
 K:=K
 mg:=mg
 base:=base
 A:=A.deeper (envOfC qual scope s.heap.objs.size f cd)
 N:=N
 s₀:=s
 H₀:=H
 env:=envOfC qual scope s.heap.objs.size f cd
 outer:=outer
 stack:=envOfC qual scope s.heap.objs.size f cd::outer
 ex:=[]
 calm:=true
 fn:=fun _=>true
 pn:=[]
 xe:=fun e s'=>wpAny (model P w) (A.deeper (envOfC qual scope s.heap.objs.size f cd)) (leaving (envOfC qual scope s.heap.objs.size f cd) e) (fun _ MN=>CX outer H s E e MN) (fun e' MN=>CX outer H s E e' MN) s'
theorem mr{sc:Scope}{n:Nat}{x:Str}(h:sc.names.lookup x=some .cell):∃c,(cellsFrom n sc.names []).lookup x=some c:=by
 have q:=Sf sc.names n [] (.inl h);exact P6.mp q
theorem oV{CX:CXT}{P:Program}{w:World}{K:W.Frag}{mg:Str->Option Value}{base:Heap}{N ps:List Str}{qual:Str}{scope:Scope}{f:Addr}{cd:Value}{A:Around}{outer:List Env}{s s1:Shared}{H:Hp}{E:XK}{us:List Value}{vs:List V}
  (S:FnScope N ps scope) (hd:A.handled=none) (e0:Env0 P w K mg base A outer s H) (hl:vs.length=ps.length) (r:Vals vs us)
  (x:InCallC s s.heap.objs.size (bindL (envOfC qual scope s.heap.objs.size f cd).kindOf (ps.zip us) fun _=>none) (cellsFrom (s.heap.objs.size+1) scope.names []) (bindC (envOfC qual scope s.heap.objs.size f cd).kindOf (ps.zip us) fun _=>none) s1):
  Inv (si CX P w K mg base N qual scope f cd A outer s H E) [] (start N vs) H s1:=by
 have Es:ps.length<=N.length:=by have:=P0 List.length S.pre;rw[Pp]at this;lia
 obtain⟨h1,tk,rfl,hk⟩:=x.done;have K9:∀b:Addr,b∉(si CX P w K mg base N qual scope f cd A outer s H E).ex:=fun b z=>absurd (show b∈([]:List Addr) from z) (by simp)
 refine⟨⟨e0.mod,S.kind,rfl,rfl,Oq _,fun y z c h1 h2=>?_,fun y hy=>?_,fun y c _ h=>?_,fun _=>hd,Around.frames_deeper e0.frames,.inr ⟨rfl,rfl⟩,fun b z=>absurd z (K9 b),e0.bs,e0.bsz,fun b _ _=>K9 b,fun b z=>absurd z (K9 b),e0.funs,e0.frf⟩,
  rfl,e0.bare,Un.kept hk,⟨_,x.toInCall.ns,fun i y v h1 h2 h3=>?_⟩,fun y c h=>⟨_,x.cell y c h⟩,e0.hok.fresh (Oq _),fun y c h=>?_,fun p hp=>absurd (show p∈([]:List (Addr×Obj)) from hp) (by simp),e0.hok.kept hk,?_⟩
 ·exact name_of_addr x.apart (Pz h1) (Pz h2)
 ·have hy:scope.names.lookup y=some .cell\/scope.names.lookup y=some .free:=hy;rcases hy with hy|hy
  ·exact mr hy
  ·exact absurd rfl (S.nofree _ (Pz hy))
 ·exact Ri (x.above y c (Pz h))
 ·have hi:i<vs.length:=by
   unfold start at h2;by_cases hi:i<vs.length
   ·exact hi
   ·rw[QH (by simpa using hi)]at h2;rw[List.getElem?_replicate]at h2;split at h2 <;> cases h2
  have ha:vs[i]?=some v:=by
   unfold start at h2;rw[QK (by simpa using hi),OG]at h2;cases e:vs[i]? with
   |none=>rw[e]at h2;cases h2
   |some a=>rw[e]at h2;cases h2;rfl
  obtain⟨u,hu,rv⟩:=r.get ha;have hp:ps[i]?=some y:=by
   rw[<-S.pre,List.getElem?_take_of_lt (by lia)];exact h1
  have NF:ps.Nodup:=by rw[<-S.pre];exact S.nd.sublist (List.take_sublist _ _)
  refine⟨u,rv,?_⟩;rcases S.par y (Pr hp) with k|k
  ·exact .inl ⟨k,j9 NF hp hu k⟩
  ·obtain⟨c,e⟩:=mr (n:=s.heap.objs.size+1) k;refine .inr ⟨.inl k,c,e,?_⟩;have q:=x.cell y c e;rw[ka NF hp hu (by show scope.names.lookup y≠_;rw[k];decide)]at q;exact q
 ·exact e0.hok.fresh (Ri (x.above y c (Pz h)))
 ·unfold start;show _=N.length;rw[O8,OI,Ss];lia
theorem AR{CX:CXT}{P:Program}{w:World}{K:W.Frag}{mg:Str->Option Value}{base:Heap}{k:Nat}{f:Addr}{name qual:Str}{params:Arguments}{body:List Stmt}{scope:Scope}{dV kV doc pm Dx ct oc:Value}{an od:Option Addr}
  {Io:Array (Option Value)}{N ps:List Str}{sp:Sp}(lk:K.lookup f=some ⟨oc,od,.func (PySem.W.fnOf name qual params body scope dV kV doc pm an Dx ct),Io⟩) (Gd:PySem.W.codeIn K Dx qual=true) (S:FnScope N ps scope)
  (len:∀vs H Q E,sp vs H Q E->vs.length=ps.length)
  (HB:∀(A:Around) (outer:List Env) (s:Shared) (H:Hp) (vs:List V) (Q:VK) (E:XK),Room k (A.deeper (envOfC qual scope s.heap.objs.size f Dx))->sp vs H Q E->
   ∃t,PSs (si CX P w K mg base N qual scope f Dx A outer s H E) body t/\t {nx:=fun _ H'=>Q .non H',rt:=Q} (start N vs) H):
  FnOk P w K mg base CX (k+1) f (PySem.W.fnOf name qual params body scope dV kV doc pm an Dx ct) ps sp:=by
 refine⟨len,fun A outer s H args us vs Q E hr e0 hb r Jw=>?_⟩;have hl:=len _ _ _ _ Jw;have KX:K.In s.heap:=e0.mod.kin.keeps fun b o e=>(e0.bs b o e).1
 have lim:s.heap.NoLimit:=e0.mod.nolimit.keeps fun b o e=>(e0.bs b o e).1
 have La:∀y∈ps.zip us,scope.names.lookup y.1=some .local\/(scope.names.lookup y.1=some .cell/\((cellsFrom (s.heap.objs.size+1) scope.names []).lookup y.1).isSome=true):=fun Dg hy=>by
  obtain⟨n,v⟩:=Dg;rcases S.par n (Q2 hy).1 with q|q
  ·exact .inl q
  ·exact .inr ⟨q,Sf _ _ _ (.inl q)⟩
 refine codeAny_call_function hr.depth (KX _ _ lk) rfl S.co S.gen rfl (PySem.W.codeRec_of KX Gd) (hb _ _ _ _ ?_);refine wpAny_newFunctionEnv_cells S.kind La fun env he s1 x=>?_
 subst he;refine⟨lim.keeps x.toInCall.keep,codeAny_func ?_⟩;obtain⟨t,ht,hq⟩:=HB A outer s H vs Q E (hr.deeper _) Jw;have I:Inv (si CX P w K mg base N qual scope f Dx A outer s H E) [] (start N vs) H s1:=oV S hr.hd e0 hl r x;refine Rb (ht [] s1 (start N vs) H _ I hq) (fun fl s' hs=>?_) fun e s' hs=>hs
 have fin:∀{σ':St}{H':Hp}{v:V}{u:Value},Inv (si CX P w K mg base N qual scope f Dx A outer s H E) [] σ' H' s'->RelV v u->Q v H'->CE outer P w H s Q u s':=
  fun{σ' H' v u} J rv q=>⟨v,H',J.os,J.bare,J.base,J.hok,rv,q⟩
 cases fl with
 |ret u=>
  obtain⟨v,σ',H',J,rv,q⟩:=hs;exact fin J rv q
 |next=>
  obtain⟨σ',H',J,q⟩:=hs;exact fin (v:=V.non) (u:=Value.none) J rfl q
 |brk=>
  obtain⟨_,_,_,q⟩:=hs;exact False.elim q
 |cont=>
  obtain⟨_,_,_,q⟩:=hs;exact False.elim q
section
variable{X:Cx}{x:Str}{p pos:Pos}{e:Expr}{es:List Expr}{t:TA}{id T:String}{r:List V->Hp->VK->Prop}
def MO(r:List V->Hp->VK->Prop)(t:TA):TE:=fun σ H Q=>t σ H fun vs H1=>r vs H1 Q
theorem mv(hc:d5 X (.builtin id) r)(hg:Gl X x)(hm:X.mg x=none)(hv:bootBuiltins x=some (.builtin id))(ha:PA X (e::es) t)(hn:x≠"__name__":=by decide)(Fd:(x==("__debug__" : Str))=false:=by decide)
  (he:starEach (e::es) X.env=(false,eval e X.env)::starEach es X.env:=by rfl) (Es:(backTo pos (starEach es X.env)).any (·.1)=false:=by rfl):PE X (.Call (.Name x p) (e::es) [] pos) (MO r t):=by
 intro pr s σ H Q I h;refine P5 (gH I hg hm hv ?_ hn Fd);exact PyProof.Rows.callWith_builtin1 (Dn (ha pos pr s σ H _ I h) fun us s1 ⟨vs,H1,I1,r1,q1⟩=>hc pr s1 σ H1 vs us Q I1 r1 q1) he Es
theorem oW(hc:d5 X (.type T) r)(hg:Gl X x)(hm:X.mg x=none)(hv:bootBuiltins x=some (.type T))(ha:PA X (e::es) t)(hn:x≠"__name__":=by decide)(Fd:(x==("__debug__" : Str))=false:=by decide)
  (he:starEach (e::es) X.env=(false,eval e X.env)::starEach es X.env:=by rfl) (Es:(backTo pos (starEach es X.env)).any (·.1)=false:=by rfl):PE X (.Call (.Name x p) (e::es) [] pos) (MO r t):=by
 intro pr s σ H Q I h;refine P5 (gH I hg hm hv ?_ hn Fd);exact Pm (Dn (ha pos pr s σ H _ I h) fun us s1 ⟨vs,H1,I1,r1,q1⟩=>hc pr s1 σ H1 vs us Q I1 r1 q1) he Es
end
end L2
namespace HT
open PySem PyProof.Rows
section
open PySem.SeqAt
open PySem.AutoSeq1 (wpAny_loadPart')
open PySem.MeetsSeq PySem.MeetsSeq2 PySem.MeetsSeq3
end
section
variable{prog:Program}{w:World}{A:Around}{E:Value->Shared->Prop}{s:Shared}
theorem vE{t b:Addr}{vs ws:List Value}{Q:Value->Shared->Prop}(ht:IsTup s.heap t vs.toArray)(hb:IsTup s.heap b ws.toArray)(hv:vs≠[])
  (h1:ws=[]->Q (.ref t) s) (h2:ws≠[]->Q (.ref s.heap.objs.size) {s with heap:=s.heap.push {cls:=.type "tuple",data:=.seq (vs++ws).toArray}})
  (hsz:vs.length+ws.length<=sizeLine):wpAny (model prog w) A (binaryOp .Add (.ref t) (.ref b)) Q E s:=by
 obtain⟨⟨cls,dd,data,sl⟩,ho,hc,n,hd⟩:=id ht;obtain⟨⟨JV,Ip,data2,Iq⟩,Ez,G0,n2,hd2⟩:=id hb;simp only at hc hd G0 hd2;subst hc hd G0 hd2;have e:vs.toArray++ws.toArray=(vs++ws).toArray:=by simp
 by_cases hw:ws=[]
 ·exact Su ⟨_,ho,rfl⟩ ⟨_,Ez,rfl⟩ R9 Ti Q9 Q3 (QZ _ _)
   (tuple_addW1 t b vs.toArray ws.toArray n n2 dd Ip sl Iq (by simpa using hv) (by simp[hw])) ⟨ho,Ez,h1 hw⟩
 ·refine Su ⟨_,ho,rfl⟩ ⟨_,Ez,rfl⟩ R9 Ti Q9 Q3 (QZ _ _)
   (tuple_addW2 t b vs.toArray ws.toArray n n2 dd Ip sl Iq (by simpa using hv) (by simpa using hw) (by rw[Of,Of];exact hsz)) ⟨ho,Ez,?_⟩
  rw[e];exact h2 hw
def sIx(n d:Nat):Option Int->Nat
 |none=>d
 |some v=>if v<0 then(v+(n:Int)).toNat else min v.toNat n
theorem mw(n d:Nat):sIx n d none=d:=rfl
theorem oX(n d k:Nat):sIx n d (some (k:Int))=min k n:=by
 show(if(k:Int)<0 then((k:Int)+(n:Int)).toNat else min (k:Int).toNat n)=min k n;rw[OD (by lia),OW]
theorem oY(n d:Nat)(hd:d<=n)(o:Option Int):sIx n d o<=n:=by
 cases o with
 |none=>exact hd
 |some v=>
  show(if v<0 then(v+(n:Int)).toNat else min v.toNat n)<=n;by_cases hv:v<0
  ·rw[Oy hv];lia
  ·rw[OD hv];exact Nat.min_le_right _ _
theorem oZ(v:Int)(n d:Nat):(if v<0 then max (v+(n:Int)) 0 else min v (n:Int))=((sIx n d (some v):Nat):Int):=by
 show(if v<0 then max (v+(n:Int)) 0 else min v (n:Int))=(((if v<0 then(v+(n:Int)).toNat else min v.toNat n):Nat):Int)
 by_cases hv:v<0
 ·simp only[Oy hv];lia
 ·simp only[OD hv];lia
theorem nP(lo hi:Option Int)(n:Nat):Builtin.Slice.sliceAdjust lo hi 1 (n:Int)=(((sIx n 0 lo:Nat):Int),((sIx n n hi:Nat):Int)):=by
 have h1:¬ ((1:Int)<0):=by lia
 unfold Builtin.Slice.sliceAdjust;simp only[h1,SQ];refine Prod.ext ?_ ?_
 ·cases lo with
  |none=>rfl
  |some v=>exact oZ v n 0
 ·cases hi with
  |none=>rfl
  |some v=>exact oZ v n n
theorem nQ(i j:Nat):Builtin.Slice.slicePlaces (i:Int) (j:Int) 1=j-i:=by
 unfold Builtin.Slice.slicePlaces;have h1:(1:Int)>0:=by lia
 simp only[h1,Qg,Int.ediv_one];split <;> lia
theorem iX{v:Value}{o:Option Int}{Q:Option Int->Shared->Prop}(p:IsPart v o)(h:Q o s):wpAny (model prog w) A (Builtin.Slice.slicePartIndex v) Q E s:=by
 cases p with
 |none=>exact slicePart_none h
 |int i t=>exact slicePart_int h
theorem dR{sl:Addr}{vl vu:Value}{lo hi:Option Int}{n:Nat}{Q:Int×Int×Nat->Shared->Prop}(hs:s.heap.IsSliceOf sl vl vu .none)(pl:IsPart vl lo)(pu:IsPart vu hi)
  (h:Q (((sIx n 0 lo:Nat):Int),1,sIx n n hi-sIx n 0 lo) s):wpAny (model prog w) A (Builtin.Slice.sliceApplied (.ref sl) (pure (n:Int))) Q E s:=by
 obtain⟨os,JW,Mn,Iz⟩:=id hs;unfold Builtin.Slice.sliceApplied Builtin.Slice.sliceFields;refine Oe (Oe (PJ JW Iz (x:=vl) rfl (Oe (PJ JW Iz (x:=vu) rfl (Oe (PJ JW Iz (x:=.none) rfl (Ox ?_)))))));refine Oe (slicePart_none ?_);show wpAny _ _ (if((1:Int)==0)=true then _ else _) _ _ s;rw[OD (by decide)];refine Oe (iX pl (Oe (iX pu (Oe (Ox ?_)))));show wpAny _ _ (match Builtin.Slice.sliceAdjust lo hi 1 (n:Int) with|(lo,hi)=>pure (lo,(1:Int),Builtin.Slice.slicePlaces lo hi 1)) _ _ s;rw[nP lo hi n];show wpAny _ _ (pure (((sIx n 0 lo:Nat):Int),(1:Int),Builtin.Slice.slicePlaces ((sIx n 0 lo:Nat):Int) ((sIx n n hi:Nat):Int) 1)) _ _ s;rw[nQ];exact Ox h
theorem sj(xs:Array Value)(i k:Nat):((List.range k).filterMap fun(m:Nat)=>xs[((i:Int)+(m:Int)*1).toNat]?).toArray=((xs.toList.drop i).take k).toArray:=by
 have e:(fun(m:Nat)=>xs[((i:Int)+(m:Int)*1).toNat]?)=fun m=>xs[i+m]?:=by
  funext m
  have:((i:Int)+(m:Int)*1).toNat=i+m:=by lia
  rw[this]
 rw[e];have:=pick_run xs i k;rw[List.filterMap_map]at this;have e2:((fun x=>xs[x]?)∘fun x=>i+x)=fun m=>xs[i+m]?:=rfl
 rw[e2]at this;rw[this]
theorem gs{t sl:Addr}{items:Array Value}{vl vu:Value}{lo hi:Option Int}{Q:Value->Shared->Prop}(ht:IsTup s.heap t items)(hs:s.heap.IsSliceOf sl vl vu .none)(pl:IsPart vl lo)(pu:IsPart vu hi)
  (hw:¬ (sIx items.size 0 lo=0/\sIx items.size items.size hi=items.size))
  (h:Q (.ref s.heap.objs.size) {s with heap:=s.heap.push {cls:=.type "tuple",data:=.seq ((items.toList.drop (sIx items.size 0 lo)).take (sIx items.size items.size hi-sIx items.size 0 lo)).toArray}})
  (hsz:items.size<=sizeLine):wpAny (model prog w) A (getItem (.ref t) (.ref sl)) Q E s:=by
 have G9:sizeOk (.seq ((items.toList.drop (sIx items.size 0 lo)).take (sIx items.size items.size hi-sIx items.size 0 lo)).toArray):=by
  show((items.toList.drop (sIx items.size 0 lo)).take (sIx items.size items.size hi-sIx items.size 0 lo)).toArray.size<=sizeLine;rw[Of,Pp,QM,PN];lia
 have hj:sIx items.size items.size hi<=items.size:=oY _ _ (Oq _) hi;obtain⟨os,JW,Mn,Iz⟩:=id hs;have MP:s.TypeIs (.ref sl) "slice":=⟨os,JW,Mn⟩
 unfold getItem;try with_reducible refine RZ ?_
 first|refine Oe (Ox ?_)|skip
 refine Oe (wpAny_sequenceKey ht.typeIs (by decide) ?_);refine Oe (Pq (name:=Str.ofString "__getitem__") ht.typeIs PR
  (Qt PR ht.typeIs entry_tuple_getitem ?_ (args_tuple_getitem _ _)))
 show wpAny _ _ (Builtin.Tuple.tupleItemsOf (.ref t) >>= _) _ _ s;refine Oe (tupleItemsOf_ ht ?_);refine Oe (Sv MP ?_);rw[Oy (by decide)];refine Oe (dR hs pl pu ?_);have Lb:¬ ((((sIx items.size 0 lo:Nat):Int)==0&&(1:Int)==1&&(sIx items.size items.size hi-sIx items.size 0 lo)==items.size)=true):=by
  intro q;rw[Oz,Oz]at q;have q1:((sIx items.size 0 lo:Nat):Int)=0:=eq_of_beq q.1.1;have q2:sIx items.size items.size hi-sIx items.size 0 lo=items.size:=eq_of_beq q.2;exact hw ⟨by lia,by lia⟩
 show wpAny _ _ (if(((sIx items.size 0 lo:Nat):Int)==0&&(1:Int)==1&&(sIx items.size items.size hi-sIx items.size 0 lo)==items.size)=true then _ else _) _ _ s;rw[OD Lb,sj];first
  |exact Oe (m:=Builtin.Tuple.tupleExact _) (PU (Ox ⟨_,rfl,Ox h⟩) G9)
  |exact Oe (m:=Builtin.Tuple.tupleExact _) (PU (Oe (Ox (Ox ⟨_,rfl,Ox h⟩))) G9)
  |exact Oe (Oe (m:=Builtin.Tuple.tupleExact _) (PU (Ox (Ox ⟨_,rfl,Ox h⟩)) G9))
  |exact Oe (Oe (m:=Builtin.Tuple.tupleExact _) (PU (Ox ⟨_,rfl,Ox h⟩) G9))
end
end HT
namespace L2
open PySem PySem.Spec PyProof.Rows
abbrev TO:=St->Hp->(Option Int->Hp->Prop)->Prop
def PO(X:Cx)(e:Option Expr)(t:TO):Prop:=
 ∀(pr:List (Addr×Obj)) (s:Shared) (σ:St) (H:Hp) (Q:Option Int->Hp->Prop),Inv X pr σ H s->t σ H Q->
  wpAny (model X.prog X.w) X.A (evalPart e X.env) (fun u s'=>∃o H',Inv X pr σ H' s'/\IsPart u o/\Q o H') X.xe s
def vF:TO:=fun _ H Q=>Q none H
def AS(t:TE):TO:=fun σ H Q=>t σ H fun x H1=>∃i,x=.int i/\Q (some i) H1
section
variable{X:Cx}{e:Expr}{te:TE}{lo hi:Option Expr}{tl th:TO}{pos p2:Pos}
theorem vG:PO X none vF:=by
 intro pr s σ H Q I h;rw[evalPart_none];exact Ox ⟨none,H,I,.none,h⟩
theorem vH(h:PE X e te):PO X (some e) (AS te):=by
 intro pr s σ H Q I hw;rw[evalPart_some];refine Dn (h pr s σ H _ I hw) fun u s1 Dl=>?_
 obtain⟨x,H1,I1,r1,q1⟩:=Dl;obtain⟨i,rfl,q⟩:=q1;obtain⟨t,rfl⟩:=r1;exact⟨some i,H1,I1,.int i t,q⟩
def JX(X:Cx)(r:V->Option Int->Option Int->Hp->VK->Prop):Prop:=
 ∀(pr:List (Addr×Obj)) (s:Shared) (σ:St) (H:Hp) (x:V) (v vl vu:Value) (lo hi:Option Int) (sl:Addr) (Q:VK),Inv X pr σ H s->RelV x v->s.heap.IsSliceOf sl vl vu .none->IsPart vl lo->IsPart vu hi->r x lo hi H Q->
  ∃T id,typeLookup (.type T) "__getitem__" = pure (some (.builtin id))/\s.TypeIs v T/\wpAny (model X.prog X.w) X.A (getItem v (.ref sl)) (EP X pr σ Q) X.xe s
def tSl(r:V->Option Int->Option Int->Hp->VK->Prop)(te:TE)(tl th:TO):TE:=fun σ H Q=>te σ H fun x H1=>tl σ H1 fun l H2=>th σ H2 fun u H3=>r x l u H3 Q
theorem sm{r:V->Option Int->Option Int->Hp->VK->Prop}(hr:JX X r)(he:PE X e te)(hl:PO X lo tl)(hu:PO X hi th):PE X (.Subscript e (.Slice lo hi none p2) pos) (tSl r te tl th):=by
 intro pr s σ H Q I h;refine Subscript_ (Dn (he pr s σ H _ I h) fun v s1 Dl=>?_);obtain⟨x,H1,I1,r1,q1⟩:=Dl;refine wpAny_Slice (Dn (hl pr s1 σ H1 _ I1 q1) fun vl s2 ⟨l,H2,I2,pl,q2⟩=>Dn (hu pr s2 σ H2 _ I2 q2) fun vu s3 Dl=>?_);obtain⟨u,H3,I3,pu,q3⟩:=Dl;rw[evalPart_none];refine Ox ?_;have I4:Inv X pr σ H3 {s3 with heap:=s3.heap.push {cls:=.type "slice",data:=.fields #[vl,vu,.none]}}:=I3.kept (t':=s3.toks) fun b ob q=>Oi _ q
 obtain⟨T,id,hT,ht,hg⟩:=hr pr {s3 with heap:=s3.heap.push {cls:=.type "slice",data:=.fields #[vl,vu,.none]}} σ H3 x v vl vu l u s3.heap.objs.size Q I4 r1 (Heap.IsSliceOf.new ..) pl pu q3;show wpAny (model X.prog X.w) X.A (subscriptTail e (.Slice lo hi none p2) v (.ref s3.heap.objs.size)) (EP X pr σ Q) X.xe {s3 with heap:=s3.heap.push {cls:=.type "slice",data:=.fields #[vl,vu,.none]}};exact tail_any (ops:=[.ref s3.heap.objs.size,v]) ht hT hg (by with_unfolding_all rfl)
def uq(xs:List V)(lo hi:Option Int):List V:=(xs.drop (HT.sIx xs.length 0 lo)).take (HT.sIx xs.length xs.length hi-HT.sIx xs.length 0 lo)
theorem ib(xs:List V)(lo hi:Option Int):(uq xs lo hi).length<=xs.length:=by
 unfold uq;rw[Pp,QM];lia
def Cj(K:W.Frag):V->Option Int->Option Int->Hp->VK->Prop:=fun x lo hi H Q=>∃a xs,x=.ref a/\SqT K H a xs/\
 ¬ (HT.sIx xs.length 0 lo=0/\HT.sIx xs.length xs.length hi=xs.length)/\∀p,H p=none->Q (.ref p) (upd H p (.tup (uq xs lo hi)))
theorem yj:JX X (Cj X.K):=by
 intro pr s σ H x v vl vu lo hi sl Q I rx hs pl pu h;obtain⟨a,xs,rfl,hx,hw,q⟩:=h;cases rx;obtain⟨C3,r,ht,hz⟩:=I.tuple hx;have hlen:C3.toArray.size=xs.length:=by rw[Of];exact r.length.symm
 refine⟨"tuple",_,PyProof.Rows.slot_tuple_getitem.lookup,ht.typeIs,?_⟩;refine HT.gs ht hs pl pu (by rw[hlen];exact hw) ?_ (by rw[hlen];exact hz);rw[hlen];refine⟨.ref s.heap.objs.size,_,I.laid (t':=s.toks) (o:=.tup (uq xs lo hi)) (fun b ob q=>Oi _ q) (Oq _) ?_,rfl,q _ (I.hok.fresh (Oq _))⟩;exact⟨OF (ib xs lo hi) hz,_,(r.drop (HT.sIx xs.length 0 lo)).take (HT.sIx xs.length xs.length hi-HT.sIx xs.length 0 lo),IsTupN.new _ _⟩
def AU(K:W.Frag):R2:=fun x y H Q=>∃a b xs ys,x=.ref a/\y=.ref b/\SqT K H a xs/\SqT K H b ys/\xs≠[]/\xs.length+ys.length<=sizeLine/\
 (ys=[]->Q (.ref a) H)/\(ys≠[]->∀p,H p=none->Q (.ref p) (upd H p (.tup (xs++ys))))
theorem Vals.nil_iff{xs:List V}{us:List Value}(r:Vals xs us):us=[]<->xs=[]:=by
 cases r with
 |nil=>simp
 |cons _ _=>simp
theorem vI:DK X (binaryOp .Add) (AU X.K):=by
 intro pr s σ H x y v u Q I rx ry h;obtain⟨a,b,xs,ys,rfl,rfl,ha,hb,hx,hz,q1,q2⟩:=h;cases rx;cases ry;obtain⟨C3,r1,p1,_⟩:=I.tuple ha;obtain⟨Hh,r2,p2,_⟩:=I.tuple hb;refine HT.vE p1 p2 (fun z=>hx (r1.nil_iff.mp z)) (fun z=>⟨.ref a,H,I,rfl,q1 (r2.nil_iff.mp z)⟩) (fun z=>?_) (by rw[<-r1.length,<-r2.length];exact hz);refine⟨.ref s.heap.objs.size,_,I.laid (t':=s.toks) (o:=.tup (xs++ys)) (fun b ob q=>Oi _ q) (Oq _) ?_,rfl,q2 (fun w=>z (r2.nil_iff.mpr w)) _ (I.hok.fresh (Oq _))⟩;exact⟨by rw[O8];exact hz,_,r1.append r2,IsTupN.new _ _⟩
end
def ixN(n:Nat)(i:Int):Option Nat:=if 0<=i then(if i<n then some i.toNat else none) else if -(n:Int)<=i then some (i+n).toNat else none
def FD{α:Type}(xs:List α)(i:Int):Option α:=(ixN xs.length i).bind fun j=>xs[j]?
theorem o3{n:Nat}{i:Int}{j:Nat}(h:ixN n i=some j):seqIndex? i n=some j/\j<n/\-(n:Int)<=i/\i<n:=by
 unfold ixN at h;by_cases h0:0<=i
 ·rw[Oy h0]at h;by_cases h1:i<n
  ·rw[Oy h1]at h;have e:i.toNat=j:=OP h;exact⟨by rw[seqIndex_of h0 h1,e],by lia,by lia,h1⟩
  ·rw[OD h1]at h;cases h
 ·rw[OD h0]at h;by_cases h1:-(n:Int)<=i
  ·rw[Oy h1]at h;have e:(i+n).toNat=j:=OP h;exact⟨by rw[seqIndex_neg (by lia) h1,e],by lia,h1,by lia⟩
  ·rw[OD h1]at h;cases h
theorem lA{α:Type}{xs:List α}{i:Int}{v:α}(h:FD xs i=some v):∃j,seqIndex? i xs.length=some j/\xs[j]?=some v/\j<xs.length/\-(xs.length:Int)<=i/\i<xs.length:=by
 unfold FD at h;cases e:ixN xs.length i with
 |none=>rw[e]at h;cases h
 |some j=>
  rw[e]at h;obtain⟨h1,h2,h3,h4⟩:=o3 e;exact⟨j,h1,h,h2,h3,h4⟩
theorem gu{α:Type}{xs:List α}{j:Nat}{v:α}(h:xs[j]?=some v):FD xs (j:Int)=some v:=by
 have hj:j<xs.length:=(Om.mp h).1;have e:ixN xs.length (j:Int)=some j:=by
  unfold ixN;rw[Oy (by lia),Oy (by lia)];simp
 unfold FD;rw[e];exact h
def o4(b:Expr):Prop:=∀o i,subscripted b false o i=operate [o,i] (getItem o i)
def Lc(X:Cx)(r:R2):Prop:=
 ∀(value slice:Expr) (pr:List (Addr×Obj)) (s:Shared) (σ:St) (H:Hp) (x y:V) (v u:Value) (Q:VK),Inv X pr σ H s->RelV x v->RelV y u->r x y H Q->
  subscripted slice false v u=operate [v,u] (getItem v u)->wpAny (model X.prog X.w) X.A (subscriptTail value slice v u) (EP X pr σ Q) X.xe s
def NG(X:Cx)(id:String)(r:V->List V->Hp->VK->Prop):Prop:=
 ∀(pr:List (Addr×Obj)) (s:Shared) (σ:St) (H:Hp) (x:V) (xs:List V) (v:Value) (us:List Value) (Q:VK),Inv X pr σ H s->RelV x v->Vals xs us->r x xs H Q->
  wpAny (model X.prog X.w) X.A (call (.builtin id) (v::us)) (EP X pr σ Q) X.xe s
section
variable{X:Cx}{a b:Expr}{ta tb:TE}{pos:Pos}
theorem AV{r:R2}(hr:Lc X r)(ha:PE X a ta)(hb:PE X b tb)(hs:o4 b):PE X (.Subscript a b pos) (KL r ta tb):=by
 intro pr s σ H Q I h;exact Subscript_ (AJ ha hb I h fun v u s2 x y H2 I2 rx ry q=>hr a b pr s2 σ H2 x y v u Q I2 rx ry q (hs _ _))
def Ck(K:W.Frag):R2:=fun x y H Q=>∃p xs i v,x=.ref p/\y=.int i/\SqL K H p xs/\FD xs i=some v/\Q v H
def Cm(K:W.Frag):R2:=fun x y H Q=>∃p xs i v,x=.ref p/\y=.int i/\SqT K H p xs/\FD xs i=some v/\Q v H
def Cn:R2:=fun x y H Q=>∃z i c,x=.str z/\y=.int i/\z.length<=sizeLine/\FD z.cps.toList i=some c/\Q (.str ⟨#[c]⟩) H
theorem vJ:Lc X (Ck X.K):=by
 intro value slice pr s σ H x y v u Q I rx ry h hs;obtain⟨p,xs,i,z,rfl,rfl,hq,he,q⟩:=h;cases rx;obtain⟨t,rfl⟩:=ry;obtain⟨C3,r,pl,hz⟩:=I.list hq;obtain⟨j,h1,h2,h3,h4,h5⟩:=lA he;obtain⟨w,ew,Hi⟩:=r.get h2;have hl:=r.length;have hn:=iW;have fin:EP X pr σ Q w s:=⟨z,H,I,Hi,q⟩
 by_cases h0:0<=i
 ·have hj:i.toNat=j:=by
   rw[seqIndex_of h0 h5]at h1;exact OP h1
  exact item_listR pl.isList h0 (by lia) (by rw[hj];simpa using ew) fin hs
 ·have hj:(i+(C3.toArray.size:Int)).toNat=j:=by
   rw[seqIndex_neg (by lia) h4]at h1;rw[Of,<-hl];exact OP h1
  exact subscriptTail_builtinR (x:=w) pl.isList.typeIs slot_list_getitem.lookup
   (wpAny_getItem_list_neg (Q:=fun r s'=>r=w/\EP X pr σ Q r s') pl.isList (by lia) (by rw[Of] <;> lia) (by lia) (by rw[hj];simpa using ew) ⟨rfl,fin⟩) hs
theorem yk:Lc X (Cm X.K):=by
 intro value slice pr s σ H x y v u Q I rx ry h hs;obtain⟨p,xs,i,z,rfl,rfl,hq,he,q⟩:=h;cases rx;obtain⟨t,rfl⟩:=ry;obtain⟨C3,r,pl,hz⟩:=I.tuple hq;obtain⟨j,h1,h2,h3,h4,h5⟩:=lA he;obtain⟨w,ew,Hi⟩:=r.get h2;have hl:=r.length;have hn:=iW;have fin:EP X pr σ Q w s:=⟨z,H,I,Hi,q⟩
 exact subscriptTail_builtinR (x:=w) pl.typeIs slot_tuple_getitem.lookup
  (getItem_tuple (j:=j) (Q:=fun r s'=>r=w/\EP X pr σ Q r s') pl (by lia) (by lia) (by rw[Of,<-hl];exact h1) (by simpa using ew) ⟨rfl,fin⟩) hs
theorem ym:Lc X Cn:=by
 intro value slice pr s σ H x y v u Q I rx ry h hs;obtain⟨z,i,c,rfl,rfl,hz,he,q⟩:=h;obtain⟨t,rfl⟩:=rx;obtain⟨t',rfl⟩:=ry;obtain⟨j,h1,h2,h3,h4,h5⟩:=lA he;have hl:z.cps.toList.length=z.length:=by simp[Str.length]
 rw[hl]at h1 h4 h5;have hn:=iW;exact tail_any (typeIs_str s z t) slot_str_getitem.lookup (getItem_str (c:=c) (by
  have e1:decide (i < -(2 ^ 63:Int))=false:=O0 (by lia);have e2:decide (i>=2 ^ 63)=false:=O0 (by lia);rw[e1,e2,Tn]) (by rw[h1];simpa using h2) ⟨.str ⟨#[c]⟩,H,I.tok _,⟨_,rfl⟩,q⟩) hs
theorem nR(C3:List Value)(n j:Nat)(u:Value):Obj.mapSeq (·.setIfInBounds j u) {cls:=.type "list",data:=.seq C3.toArray n}={cls:=.type "list",data:=.seq (C3.set j u).toArray n}:=by
 simp[Obj.mapSeq]
theorem Inv.lst{pr:List (Addr×Obj)}{σ:St}{H:Hp}{s:Shared}{p:Addr}{xs:List V}(I:Inv X pr σ H s)(h:H p=some (.lst xs)):
  ∃(C3:List Value) (n:Nat),Vals xs C3/\s.heap.get? p=some {cls:=.type "list",data:=.seq C3.toArray n}/\xs.length<=sizeLine:=by
 obtain⟨z,C3,n,r,e⟩:=I.hok p _ h;exact⟨C3,n,r,e,z⟩
theorem Inv.lstUpd{pr:List (Addr×Obj)}{σ:St}{H:Hp}{s:Shared}{p:Addr}{xs ys:List V}{C3 its':List Value}{n n':Nat}{f:Obj->Obj}(I:Inv X pr σ H s)(h:H p=some (.lst xs))
  (ho:s.heap.get? p=some {cls:=.type "list",data:=.seq C3.toArray n}) (hf:f {cls:=.type "list",data:=.seq C3.toArray n}={cls:=.type "list",data:=.seq its'.toArray n'}) (r:Vals ys its') (hz:ys.length<=sizeLine) (t:Nat):
  Inv X pr σ (upd H p (.lst ys)) {s with heap:=s.heap.update p f,toks:=t}:=by
 have e:(s.heap.update p f).get? p=some {cls:=.type "list",data:=.seq its'.toArray n'}:=by
  rw[Rj f ho (by rw[hf] <;> rfl),hf]
 refine I.write (x:=p) (e:=p) (by rw[h];trivial) (.inl rfl) (fun b u hb q=>(Ra _ _ (Qb hb)).trans q) ⟨_,e⟩ ?_;exact⟨hz,its',n',r,e⟩
def yn:V->V->V->Hp->(Hp->Prop)->Prop:=fun o i v H Q=>∃p xs k j,o=.ref p/\i=.int k/\H p=some (.lst xs)/\ixN xs.length k=some j/\Q (upd H p (.lst (xs.set j v)))
theorem so:B6 X yn:=by
 intro pr s σ H o i v ov iv u Q I ro ri rv h;obtain⟨p,xs,k,j,rfl,rfl,hp,hj,q⟩:=h;cases ro;obtain⟨t,rfl⟩:=ri;obtain⟨C3,n,r,ho,hz⟩:=I.lst hp;obtain⟨h1,h2,h3,h4⟩:=o3 hj;have hl:=r.length;have hn:=iW;have I':Inv X pr σ (upd H p (.lst (xs.set j v))) {s with heap:=s.heap.update p (Obj.mapSeq (·.setIfInBounds j u))}:=
  I.lstUpd hp ho (nR C3 n j u) (r.set rv j) (by rw[O1];exact hz) s.toks
 by_cases h0:0<=k
 ·have hk:k.toNat=j:=by
   rw[seqIndex_of h0 h4]at h1;exact OP h1
  exact PySem.W.ki_setAt ho h0 (by lia) (by rw[Of,<-hl];exact h4) (by rw[hk];exact⟨_,I',q⟩)
 ·have hk:(k+(C3.toArray.size:Int)).toNat=j:=by
   rw[seqIndex_neg (by lia) h3]at h1;rw[Of,<-hl];exact OP h1
  exact PySem.W.ki_setBack ho (by lia) (by rw[Of,<-hl];exact h3) (by lia) (by rw[hk];exact⟨_,I',q⟩)
theorem kc(lo hi:Option Int)(n:Nat):(sliceBounds lo hi none n).1=((HT.sIx n 0 lo:Nat):Int)/\(sliceBounds lo hi none n).2.1=((HT.sIx n n hi:Nat):Int)/\(sliceBounds lo hi none n).2.2=1:=by
 refine⟨?_,?_,rfl⟩
 ·cases lo with
  |none=>simp[sliceBounds,HT.sIx]
  |some i=>
   simp only[sliceBounds,HT.sIx,Option.getD_none,show(1:Int)>0 by decide,Qg];by_cases h:i<0
   ·simp only[h,Qg] <;> lia
   ·simp only[h,SQ] <;> lia
 ·cases hi with
  |none=>simp[sliceBounds,HT.sIx]
  |some i=>
   simp only[sliceBounds,HT.sIx,Option.getD_none,show(1:Int)>0 by decide,Qg];by_cases h:i<0
   ·simp only[h,Qg] <;> lia
   ·simp only[h,SQ] <;> lia
theorem jl(C3:List Value)(lo hi:Option Int):slicePick C3.toArray lo hi none=((C3.drop (HT.sIx C3.length 0 lo)).take (HT.sIx C3.length C3.length hi-HT.sIx C3.length 0 lo)).toArray:=by
 obtain⟨h1,h2,h3⟩:=kc lo hi C3.toArray.size;unfold slicePick;rw[h1,h2,h3];simp only[sliceRange_one,pick_run,Of] <;> rfl
def Co(K:W.Frag):V->Option Int->Option Int->Hp->VK->Prop:=fun x lo hi H Q=>∃a xs,x=.ref a/\SqL K H a xs/\∀p,H p=none->Q (.ref p) (upd H p (.lst (uq xs lo hi)))
theorem vK:JX X (Co X.K):=by
 intro pr s σ H x v vl vu lo hi sl Q I rx hs pl pu h;obtain⟨a,xs,rfl,hx,q⟩:=h;cases rx;obtain⟨C3,r,ht,hz⟩:=I.list hx;have hlen:=r.length;refine⟨"list",_,slot_list_getitem.lookup,ht.isList.typeIs,?_⟩;refine wpAny_getItem_list_slice ht.isList hs pl pu .none (by simp) ?_ (by rw[Of] <;> lia);rw[jl,<-hlen];refine⟨.ref s.heap.objs.size,_,I.laid (t':=s.toks) (o:=.lst (uq xs lo hi)) (fun b ob q=>Oi _ q) (Oq _) ?_,rfl,q _ (I.hok.fresh (Oq _))⟩;exact⟨OF (ib xs lo hi) hz,_,0,(r.drop (HT.sIx xs.length 0 lo)).take (HT.sIx xs.length xs.length hi-HT.sIx xs.length 0 lo),Ow _ rfl⟩
def sr:V->Bool
 | .non=>true
 | .bl _=>true
 | .int _=>true
 | .str _=>true
 |_=>false
def MQ:V->V->Bool
 | .non,.non=>true
 | .bl a,.bl b=>a==b
 | .bl a,.int b=>(if a then 1 else 0)==b
 | .int a,.bl b=>a==(if b then 1 else 0)
 | .int a,.int b=>a==b
 | .str a,.str b=>a==b
 |_,_=>false
theorem yo{A:Around}{s:Shared}{y x:V}{u v:Value}(ry:RelV y u)(rx:RelV x v)(fy:sr y=true)(fx:sr x=true):SeqAt.EqAt A s u v (MQ y x):=by
 cases y with
 |non=>
  cases ry;cases x with
  |non=>cases rx;exact SeqAt.EqAt.same _
  |bl b=>cases rx;exact SeqAt.EqAt.none_bool b
  |int b=>obtain⟨t,rfl⟩:=rx;exact SeqAt.EqAt.none_int b t
  |str b=>obtain⟨t,rfl⟩:=rx;exact SeqAt.EqAt.none_str b t
  |_=>exact absurd (show false=true from fx) OB
 |bl a=>
  cases ry;cases x with
  |non=>cases rx;exact SeqAt.EqAt.bool_none a
  |bl b=>cases rx;exact SeqAt.EqAt.bool_bool a b
  |int b=>obtain⟨t,rfl⟩:=rx;exact SeqAt.EqAt.bool_int a b t
  |str b=>obtain⟨t,rfl⟩:=rx;exact SeqAt.EqAt.bool_str a b t
  |_=>exact absurd (show false=true from fx) OB
 |int a=>
  obtain⟨t',rfl⟩:=ry;cases x with
  |non=>cases rx;exact SeqAt.EqAt.int_none a t'
  |bl b=>cases rx;exact SeqAt.EqAt.int_bool a t' b
  |int b=>obtain⟨t,rfl⟩:=rx;exact SeqAt.EqAt.int_int a t' b t
  |str b=>obtain⟨t,rfl⟩:=rx;exact SeqAt.EqAt.int_str a t' b t
  |_=>exact absurd (show false=true from fx) OB
 |str a=>
  obtain⟨t',rfl⟩:=ry;cases x with
  |non=>cases rx;exact SeqAt.EqAt.str_none a t'
  |bl b=>cases rx;exact SeqAt.EqAt.str_bool a t' b
  |int b=>obtain⟨t,rfl⟩:=rx;exact SeqAt.EqAt.str_int a t' b t
  |str b=>obtain⟨t,rfl⟩:=rx;exact SeqAt.EqAt.str_str a t' b t
  |_=>exact absurd (show false=true from fx) OB
 |_=>exact absurd (show false=true from fy) OB
theorem gJ:d5 X (.builtin "len") (fun xs H Q=>∃p ys,xs=[.ref p]/\(SqL X.K H p ys\/SqT X.K H p ys)/\Q (.int ys.length) H):=by
 intro pr s σ H xs us Q I r h;obtain⟨p,ys,rfl,hq,q⟩:=h;obtain⟨u,rfl,rx⟩:=j6 r;cases rx;have hn:=iW;rcases hq with hq|hq
 ·obtain⟨C3,r',pl,hz⟩:=I.list hq;have hlen:=r'.length;exact Calls.call_len_list pl.isList (by simp only[Of] <;> lia) ⟨.int ys.length,H,I.tok _,⟨s.toks+1,by rw[Of,hlen]⟩,q⟩
 ·obtain⟨C3,r',pl,hz⟩:=I.tuple hq;have hlen:=r'.length;exact len_tuple pl (by simp only[Of] <;> lia) ⟨.int ys.length,H,I.tok _,⟨s.toks+1,by rw[Of,hlen]⟩,q⟩
theorem kd:d5 X (.builtin "len") (fun xs H Q=>∃z,xs=[.str z]/\z.length<=sizeLine/\Q (.int z.length) H):=by
 intro pr s σ H xs us Q I r h;obtain⟨z,rfl,hz,q⟩:=h;obtain⟨u,rfl,t,rfl⟩:=j6 r;have hn:=iW;exact len_str (by lia) ⟨.int z.length,H,I.tok _,⟨_,rfl⟩,q⟩
theorem gK:d5 X (.type "list") (fun xs H Q=>∃p ys,xs=[.ref p]/\(SqL X.K H p ys\/SqT X.K H p ys)/\∀l,H l=none->Q (.ref l) (upd H l (.lst ys))):=by
 intro pr s σ H xs us Q I r h;obtain⟨p,ys,rfl,hq,q⟩:=h;obtain⟨u,rfl,rx⟩:=j6 r;cases rx;have fin:∀(C3:List Value),Vals ys C3->ys.length<=sizeLine->∀(h':Heap) (c':Nat),(∀b o',s.heap.get? b=some o'->h'.get? b=some o')->
   h'.get? s.heap.objs.size=some {cls:=.type "list",dict:=none,data:=.seq C3.toArray c',slots:=#[]}->EP X pr σ Q (.ref s.heap.objs.size) {s with heap:=h'}:=fun C3 r' hz h' c' kp e=>
  ⟨.ref s.heap.objs.size,_,I.laid (t':=s.toks) kp (Oq _) (show ObjOk X.prog X.w _ h' _ (.lst ys) from⟨hz,C3,c',r',e⟩),rfl,q _ (I.hok.fresh (Oq _))⟩
 rcases hq with hq|hq
 ·obtain⟨C3,r',pl,hz⟩:=I.list hq;have hlen:=r'.length;obtain⟨o,ho,hc,n,hd⟩:=pl.isList;exact call_list_seq p (.inl rfl) ho hc hd (fun h' c' kp e=>fin C3 r' hz h' c' kp e) (by simp only[Of] <;> lia)
 ·obtain⟨C3,r',pl,hz⟩:=I.tuple hq;have hlen:=r'.length;obtain⟨o,ho,hc,n,hd⟩:=pl;exact call_list_seq p (.inr rfl) ho hc hd (fun h' c' kp e=>fin C3 r' hz h' c' kp e) (by simp only[Of] <;> lia)
theorem fJ:d5 X (.type "tuple") (fun xs H Q=>∃p ys,xs=[.ref p]/\((SqL X.K H p ys/\∀l,H l=none->Q (.ref l) (upd H l (.tup ys)))\/(SqT X.K H p ys/\Q (.ref p) H))):=by
 intro pr s σ H xs us Q I r h;obtain⟨p,ys,rfl,h⟩:=h;obtain⟨u,rfl,rx⟩:=j6 r;cases rx;rcases h with⟨hq,q⟩|⟨hq,q⟩
 ·obtain⟨C3,r',pl,hz⟩:=I.list hq;have hlen:=r'.length;refine call_tuple_list pl.isList (fun h' kp=>?_) (by simp only[Of] <;> lia);have I1:Inv X pr σ H {s with heap:=h'}:=I.kept (t':=s.toks) kp;have I2:Inv X pr σ (upd H h'.objs.size (.tup ys)) {s with heap:=h'.push {cls:=.type "tuple",data:=.seq C3.toArray}}:=
   I1.laid (t':=s.toks) (fun b o e=>Oi _ e) (Oq _) (show ObjOk X.prog X.w _ _ _ (.tup ys) from⟨hz,C3,r',IsTupN.new _ _⟩)
  exact⟨.ref h'.objs.size,_,I2,rfl,q _ (I1.hok.fresh (Oq _))⟩
 ·obtain⟨C3,r',pl,hz⟩:=I.tuple hq;exact call_tuple_same pl ⟨.ref p,H,I,rfl,q⟩
def Mo(K:W.Frag)(T:String)(x:V)(H:Hp):Prop:=match x with
 | .str _=>T = "str"
 | .int _=>T = "int"
 | .ref p=>(T = "list"/\∃xs,SqL K H p xs)\/(T = "tuple"/\∃o,K.lookup p=some o/\o.cls=.type "tuple"/\o.dict=none)\/
   (T = "dict"/\((∃C1,H p=some (.dK C1))\/∃C1,H p=some (.dT C1)))\/(T = "set"/\∃S n,H p=some (.set S n))
 |_=>False
theorem ur{pr:List (Addr×Obj)}{σ:St}{H:Hp}{s:Shared}{T:String}{x:V}{v:Value}(I:Inv X pr σ H s)(r:RelV x v)(ty:Mo X.K T x H):
  s.TypeIs v T/\∀a,v=.ref a->∃ob,s.heap.get? a=some ob/\ob.dict=none:=by
 cases x with
 |str z=>
  obtain⟨t,rfl⟩:=r;cases(show T = "str" from ty);exact⟨typeIs_str s z t,fun _ e=>nomatch e⟩
 |int i=>
  obtain⟨t,rfl⟩:=r;cases(show T = "int" from ty);exact⟨SR s i t,fun _ e=>nomatch e⟩
 |ref p=>
  cases r;rcases ty with⟨rfl,xs,hq⟩|⟨rfl,o,hk,hc,hd⟩|⟨rfl,hk⟩|⟨rfl,S,n,hk⟩
  ·obtain⟨C3,_,pl,_⟩:=I.list hq;refine⟨pl.isList.typeIs,fun a e=>?_⟩;cases e;obtain⟨o,n,e,c,hd,_⟩:=pl;exact⟨o,e,hd⟩
  ·refine⟨⟨o,I.kIn p o hk,hc⟩,fun a e=>?_⟩;cases e;exact⟨o,I.kIn _ o hk,hd⟩
  ·have z:∃o,s.heap.get? p=some o/\o.ExactDict:=by
    rcases hk with⟨C1,hk⟩|⟨C1,hk⟩
    ·obtain⟨_,_,_,_,o,_,_,e,ex,_⟩:=I.hok p _ hk;exact⟨o,e,ex⟩
    ·obtain⟨_,_,_,_,o,_,_,e,ex,_⟩:=I.hok p _ hk;exact⟨o,e,ex⟩
   obtain⟨o,e,ex⟩:=z;refine⟨⟨o,e,ex.1⟩,fun a e2=>?_⟩;cases e2;exact⟨o,e,ex.2.1⟩
  ·obtain⟨o,_,_,_,e,ex,_⟩:=I.hok p _ hk;refine⟨⟨o,e,ex.1⟩,fun a e2=>?_⟩;cases e2;exact⟨o,e,ex.2.1⟩
 |_=>exact False.elim ty
def Cp(K:W.Frag)(T:String)(r:V->List V->Hp->VK->Prop)(to:TE):TE:=fun σ H Q=>to σ H fun x H1=>Mo K T x H1/\r x [] H1 Q
def tBM(K:W.Frag)(T:String)(r:V->List V->Hp->VK->Prop)(to:TE)(t:TA):TE:=fun σ H Q=>to σ H fun x H1=>Mo K T x H1/\t σ H1 fun xs H2=>r x xs H2 Q
variable{o e:Expr}{es:List Expr}{to:TE}{t:TA}{name:Str}{apos DO:Pos}{T id:String}{r:V->List V->Hp->VK->Prop}
theorem yp(pa:PlainAttrs T)(slot:Slot T name id)(Ld:typeOf (.builtin id)=pure (.type "method_descriptor"))(hm:NG X id r)(ho:PE X o to)
  (Fe:attributeBase o name X.env (eval o X.env)=eval o X.env:=by rfl) (Ff:(apos.endLine==DO.line)=true:=by rfl):PE X (.Call (.Attribute o name apos) [] [] DO) (Cp X.K T r to):=by
 intro pr s σ H Q I h;refine wpAny_Call_method0_late Fe Ff (Dn (ho pr s σ H _ I h) fun v s1 Dl=>?_);obtain⟨x,H1,I1,r1,ty,q1⟩:=Dl;obtain⟨h1,h2⟩:=ur I1 r1 ty;exact⟨T,id,pa,slot,Ld,h1,h2,Calls.callWith_builtin rfl (PySem.evalArgs_none (hm pr s1 σ H1 x [] v [] Q I1 r1 .nil q1))⟩
theorem AW(pa:PlainAttrs T)(slot:Slot T name id)(Ld:typeOf (.builtin id)=pure (.type "method_descriptor"))(hm:NG X id r)(ho:PE X o to)(ha:PA X (e::es) t)
  (Fe:attributeBase o name X.env (eval o X.env)=eval o X.env:=by rfl)
  (JY:((backTo DO (starEach (e::es) X.env)).all (fun x=>!x.1)&&(backToKw DO (keywordEach [] X.env)).all (fun x=>x.1.isSome)
   && decide ((e::es).length+([]:List Keyword).length+(if([]:List Keyword).isEmpty then 0 else 1)<30))=true:=by rfl)
  (Ff:(apos.endLine==DO.line)=true:=by rfl) (hs:starEach (e::es) X.env=(false,eval e X.env)::starEach es X.env:=by rfl) (GF:(backTo DO (starEach es X.env)).any (·.1)=false:=by rfl):
  PE X (.Call (.Attribute o name apos) (e::es) [] DO) (tBM X.K T r to t):=by
 intro pr s σ H Q I h;refine wpAny_Call_method_late Fe JY Ff rfl (Dn (ho pr s σ H _ I h) fun v s1 Dl=>?_);obtain⟨x,H1,I1,r1,ty,q1⟩:=Dl;obtain⟨h1,h2⟩:=ur I1 r1 ty;refine⟨T,id,pa,slot,Ld,h1,h2,?_⟩;have hA:=ha DO pr s1 σ H1 _ I1 q1;rw[hs]at hA ⊢;refine Calls.callWith_builtin (by show(false||(backTo DO (starEach es X.env)).any (·.1))=false;rw[GF] <;> rfl) (Calls.evalArgs_plain ?_);exact Dn hA fun us s2 ⟨vs,H2,I2,r2,q2⟩=>hm pr s2 σ H2 x vs v us Q I2 r1 r2 q2
end
def MtM(X:Cx)(id:String)(r:V->List V->Hp->VK->Prop):Prop:=
 ∀(pr:List (Addr×Obj)) (s:Shared) (σ:St) (H:Hp) (x:V) (xs:List V) (v:Value) (us:List Value) (Q:VK),Inv X pr σ H s->RelV x v->Vals xs us->r x xs H Q->
  wpAny (model X.prog X.w) X.A (call (.builtin id) (v::us)) (EP X pr σ Q) X.xe s
theorem Vals.one:∀{x:V}{us:List Value},Vals [x] us->∃u,us=[u]/\RelV x u
 |_,_,.cons r .nil=>⟨_,rfl,r⟩
theorem Vals.zero:∀{us:List Value},Vals [] us->us=[]
 |_,.nil=>rfl
theorem Vals.dropLast{xs:List V}{us:List Value}(h:Vals xs us):Vals xs.dropLast us.dropLast:=by
 induction h with
 |nil=>exact .nil
 |cons r t ih=>
  cases t with
  |nil=>exact .nil
  |cons q t'=>exact .cons r ih
theorem Vals.rep{xs:List V}{us:List Value}(h:Vals xs us):∀k:Nat,Vals (List.replicate k xs).flatten (List.replicate k us).flatten
 | 0=>.nil
 |k+1=>by
  rw[Po,Po,PX,PX];exact Vals.append h (Vals.rep h k)
theorem nS{α:Type}(l:List α):l.eraseIdx (l.length-1)=l.dropLast:=by
 induction l with
 |nil=>rfl
 |cons a r ih=>
  cases r with
  |nil=>rfl
  |cons b r=>
   have e:(a::b::r).length-1=((b::r).length-1)+1:=by
    have h1:(a::b::r).length=r.length+2:=rfl;have h2:(b::r).length=r.length+1:=rfl;lia
   rw[e,List.eraseIdx_cons_succ,ih];all_goals rfl
theorem ic(C3:List Value):∀(k:Nat) (acc:List Value),
  List.foldl (fun x1 x2=>x1++x2) acc.toArray (List.replicate k C3.toArray)=(acc++(List.replicate k C3).flatten).toArray
 | 0,acc=>by simp
 |k+1,acc=>by
  have e:acc.toArray++C3.toArray=(acc++C3).toArray:=by simp
  have e2:(acc++C3)++(List.replicate k C3).flatten=acc++(List.replicate (k+1) C3).flatten:=by
   rw[Po,PX,OX]
  rw[<-e2,<-ic C3 k (acc++C3),<-e,Po,Q4]
section
variable{X:Cx}{pr:List (Addr×Obj)}{σ:St}{H:Hp}{s:Shared}{l b:Addr}{xs ys zs:List V}
theorem Inv.lset{C3 its':List Value}{n:Nat}{f:Array Value->Array Value}{t':Nat}(I:Inv X pr σ H s)(hH:H l=some (.lst xs))
  (e:s.heap.get? l=some {cls:=.type "list",data:=.seq C3.toArray n}) (hf:f C3.toArray=its'.toArray) (hv:Vals ys its') (hz:ys.length<=sizeLine):
  Inv X pr σ (upd H l (.lst ys)) {s with heap:=s.heap.update l (Obj.mapSeq f),toks:=t'}:=by
 have q:=PySem.IsL.update e f;rw[hf]at q;refine I.write (x:=l) (e:=l) (by rw[hH];exact trivial) (.inl rfl) (fun b' u hb hu=>(Ra s.heap (Obj.mapSeq f) (Qb hb)).trans hu) ⟨_,q⟩ ?_;exact⟨hz,its',_,hv,q⟩
theorem Inv.lnew{C3:List Value}{t':Nat}(I:Inv X pr σ H s)(hv:Vals ys C3)(hz:ys.length<=sizeLine):
  Inv X pr σ (upd H s.heap.objs.size (.lst ys)) {s with heap:=s.heap.push {cls:=.type "list",data:=.seq C3.toArray},toks:=t'}:=
 I.laid (fun _ _ q=>Oi _ q) (Oq _) ⟨hz,C3,0,hv,Ow _ rfl⟩
theorem Inv.fresh(I:Inv X pr σ H s):H s.heap.objs.size=none:=I.hok.fresh (Oq _)
theorem Inv.lstM(I:Inv X pr σ H s)(hH:H l=some (.lst xs)):xs.length<=sizeLine/\∃(C3:List Value) (n:Nat),Vals xs C3/\xs.length=C3.length/\s.heap.get? l=some {cls:=.type "list",data:=.seq C3.toArray n}:=by
 obtain⟨z,C3,n,r,e⟩:=I.hok l _ hH;exact⟨z,C3,n,r,r.length,e⟩
theorem su{n:Nat}(h:n<=sizeLine):Builtin.List.listTooLong n=false:=by
 unfold Builtin.List.listTooLong;exact O0 (by lia)
end
section
variable{X:Cx}
def vM:V->List V->Hp->VK->Prop:=fun x vs H Q=>∃l xs y,x=.ref l/\vs=[y]/\H l=some (.lst xs)/\xs.length<sizeLine/\Q .non (upd H l (.lst (xs++[y])))
theorem ie:MtM X "list.append" vM:=by
 intro pr s σ H x vs v us Q I rx rv h;obtain⟨l,xs,y,rfl,rfl,hH,hz,q⟩:=h;cases rx;obtain⟨u,rfl,ru⟩:=rv.one;obtain⟨z,C3,n,r,hl,e⟩:=I.lstM hH;refine Rc F.slot_list_append ⟨_,e,rfl⟩ F.entry_list_append (F.args_list_append_2 _ _) (PySem.list_append l C3.toArray n u (by rw[Of];lia)) ⟨e,?_⟩;refine⟨.non,_,I.lset (its':=C3++[u]) hH e (by simp) (r.append (.cons ru .nil)) ?_,rfl,q⟩;rw[O8,Sw];lia
def Cq:V->List V->Hp->VK->Prop:=fun x vs H Q=>∃l xs y,x=.ref l/\vs=[]/\H l=some (.lst xs)/\xs[xs.length-1]?=some y/\Q y (upd H l (.lst xs.dropLast))
theorem yq:MtM X "list.pop" Cq:=by
 intro pr s σ H x vs v us Q I rx rv h;obtain⟨l,xs,y,rfl,rfl,hH,hy,q⟩:=h;cases rx;have hus:=rv.zero;subst hus;obtain⟨z,C3,n,r,hl,e⟩:=I.lstM hH;obtain⟨u,hu,ru⟩:=r.get hy;have hy':C3.toArray[C3.toArray.size-1]?=some u:=by
  show C3.toArray[C3.length-1]?=some u;rw[<-Sy,<-hl];exact hu
 refine Rc F.slot_list_pop ⟨_,e,rfl⟩ F.entry_list_pop (F.args_list_pop_1 _) (MeetsSeq.list_pop_last l C3.toArray n u hy' (by rw[Of];lia)) ⟨e,?_⟩;refine⟨y,_,I.lset (its':=C3.dropLast) hH e ?_ r.dropLast ?_,ru,q⟩
 ·show C3.toArray.eraseIdxIfInBounds (C3.toArray.size-1)=C3.dropLast.toArray;rw[Of,List.eraseIdxIfInBounds_toArray,nS]
 ·rw[List.length_dropLast];lia
theorem fB{α:Type}(xs:List α)(k:Nat):(List.replicate k xs).flatten.length=k*xs.length:=by
 induction k with
 |zero=>simp
 |succ k ih=>rw[Po,PX,O8,ih,Sz,Nat.add_comm]
end
section
variable{prog:Program}{w:World}{A:Around}{E:Value->Shared->Prop}{s:Shared}
end
section
variable{X:Cx}
end
end L2
namespace Att
open PySem PySem.W PySem.Calls PyProof.Rows
theorem ig{P:Params}{h:Heap}:∀(ns:List Int) (vs:List Value),WellAll P h vs (ns.map WData.int)->IntsAre vs ns:=by
 intro ns;induction ns with
 |nil=>
  intro vs w;rw[Pt]at w;cases w;exact .nil
 |cons n ns ih=>
  intro vs w;rw[OH]at w;cases w with
  |cons a b=>
   cases a;exact .cons _ _ (ih _ b)
theorem o5{l:OpenLaw}{n:Nat}(hn:l.most=some n){P:Params}{h:Heap}{args:List WData}{vals:List Value}
  (IA:l.row.toRowW.claim.pre args=true) (JZ:WellAll P h vals args):
  ∃a vs ns,vals=[Value.ref a]/\args=[WData.list (ns.map WData.int)]/\h.get? a=some {cls:=.type "list",data:=.seq vs.toArray}/\IntsAre vs ns/\ns.length<=n:=by
 have hsh:WShape.hasAll [] args [.list .int]=true:=(pre_splitW IA).1;have hc:l.pre.holds [] {args:=args}=true:=(pre_splitW IA).2;obtain⟨d,r,rfl,h1,h2⟩:=hasAllW_cons hsh;obtain rfl:=hasAllW_nil h2;obtain⟨xs,rfl,h3⟩:=hasW_list h1;obtain⟨ns,rfl⟩:=items_int h3;have hlen:ns.length<=n:=by
  unfold OpenLaw.pre at hc;have h4:(WTm.not (.lt (.lit (.int (n:Int))) (.len (.arg 0)))).holds [] {args:=[.list (ns.map .int)]}=true:=by
   have h4:=(holds_andW hc).1;rw[hn]at h4;exact h4
  have h5:=condW_of h4 (w_not (w_lt w_lit (w_len_list (w_arg rfl))));rw[OI]at h5;refine Nat.le_of_not_lt fun q=>?_
  have q':(n:Int)<((ns.length:Nat):Int):=by lia
  first
   |(rw[O9 q']at h5;exact absurd h5 (by decide))
   |(simp at h5;lia)
 cases JZ with
 |cons w1 w2=>
  cases w2;cases w1 with
  |list ho hall=>exact⟨_,_,ns,rfl,rfl,ho,ig ns _ hall,hlen⟩
theorem o6(l:OpenLaw)(args:List WData):l.row.toRowW.claim.post args (.bool true) args=true:=
 postW_of (r:=l.row.toRowW) (X:=(true==true))
  (show WShape.has [] (.bool true) .bool=true by first|rfl|decide|simp[WShape.has,WShape.arms,WShape.armsAll])
  (show(WTm.eq .res (.lit (.bool true))).value [] {args:=args,res:=some (.bool true),after:=args}=some (.bool (true==true)) from w_eq_bool (w_res rfl) w_lit) rfl
theorem attach_call{l:OpenLaw}{n:Nat}{q:Program}{loose:List Str}{XP:(Str->Option Value)->Heap->Prop}{YP:World->Heap->Prop}{d:DefRec}
  (hn:l.most=some n) (Le:d.params.defaults=[])
  (call:∀(w:World) (s₀ s₁:Shared) (mg mb:Str->Option Value) (fa:Addr) (o:Obj) (pm cd doc:Value) (a:Addr) (vs:List Value) (ns:List Int),
   Ground q loose [] XP w s₀ mg mb s₁.heap->YP w s₁.heap->
   s₁.heap.get? fa=some o->o.data=.func (docDef d.name d.params d.body d.scope pm cd doc)->s₁.heap.CodeRec cd d.name->mg d.name=some (.ref fa)->
   s₁.heap.get? a=some {cls:=.type "list",data:=.seq vs.toArray}->IntsAre vs ns->ns.length<=n->s₁.gens = #[]->
   codeAny (model l.prog w) callerA (.call (.ref fa) ⟨[.ref a],[]⟩) (fun r s'=>r=.ok (.ret (.bool true))/\OldK s₁.heap s'.heap/\s'.os=s₁.os/\AllBare s'.gens) s₁):
  WalkO q loose XP YP l.row.toRowW d [] (fun f vs=>PySem.call f vs):=by
 intro w s₀ s₁ mg mb G Y fa o pm cd doc dV kV ho hd Gd hD Lf hg args vals as IA hlay hrd JZ Gf;obtain rfl:dV=.none:=Dflts.none hD Le;obtain rfl:kV=.none:=Dflts.noKw hD;obtain⟨a,vs,ns,rfl,rfl,J0,hints,hlen⟩:=o5 hn IA JZ;refine enter_call (codeAny_mono (call w s₀ s₁ mg mb fa o pm cd doc a vs ns G Y ho (fd_plain hd) Gd Lf J0 hints hlen hg) fun r s' hq=>?_);obtain⟨rfl,h2,h3,h4⟩:=hq;exact⟨.inl ⟨.bool true,.bool true,[],rfl,fun _=>rfl,.bool true,o6 l _,fun _=>⟨List.Pairwise.nil,fun _ hm=>(nomatch hm)⟩⟩,h2,h3,h4⟩
section
variable{prog:Program}{w:World}{A:Around}{E:Value->Shared->Prop}{s:Shared}{K:Frag}
end
end Att
namespace L2
open PySem PySem.Spec PyProof.Rows
theorem ke:∀{vs:List Value}{ns:List Int},IntsAre vs ns->Vals (ns.map V.int) vs
 |_,_,.nil=>.nil
 |_,_,.cons n t h=>.cons ⟨t,rfl⟩ (ke h)
def AX(H:Hp):Prop:=∀b,H b=none\/∃o xs,H b=some (.frz o (.lst xs))
theorem sv{P:Program}{w:World}{K:W.Frag}{mg mb:Str->Option Value}{CX:CXT}{k:Nat}{fa a:Addr}{fd:FuncData}{x:Str}{sp:Sp}{s₁:Shared}{vs:List Value}{ns:List Int}
  (KX:K.In s₁.heap) (NH:s₁.heap.Ns mainGlobals mg) (hb:s₁.heap.Ns builtinsNs mb) (hbb:∀x:Str,x≠"__name__"->mb x=bootBuiltins x) (hlim:s₁.heap.NoLimit) (hg:s₁.gens = #[])
  (ha:s₁.heap.get? a=some {cls:=.type "list",data:=.seq vs.toArray}) (hi:IntsAre vs ns) (hl:ns.length<=sizeLine) (hr:Room k callerA)
  (F:∀base:Heap,K.In base->base.Ns mainGlobals mg->FnOk P w K mg base CX k fa fd [x] sp) (Lg:∀(s:Shared) (u:Value),BindsTo s fd ⟨[u],[]⟩ [(x,u)])
  (Jw:∀H:Hp,AX H->SqL K H a (ns.map V.int)->sp [.ref a] H (fun v _=>v=.bl true) fun _ _ _=>False)
  (MR:∀H e s',CX [] H s₁ (fun _ _ _=>False) e s'->False):
  codeAny (model P w) callerA (.call (.ref fa) ⟨[.ref a],[]⟩) (fun r s'=>r=.ok (.ret (.bool true))/\OldK s₁.heap s'.heap/\s'.os=s₁.os/\AllBare s'.gens) s₁:=by
 have rv:=ke hi;have lenV:=hi.length;have core:∀H:Hp,AX H->SqL K H a (ns.map V.int)->HOk P w H s₁.heap->(∀b,H b≠none->b=a)->(H a≠none->K.lookup a=none)->
   codeAny (model P w) callerA (.call (.ref fa) ⟨[.ref a],[]⟩) (fun r s'=>r=.ok (.ret (.bool true))/\OldK s₁.heap s'.heap/\s'.os=s₁.os/\AllBare s'.gens) s₁:=by
  intro H hO hS hok hA hK;have Ha:∀{b:Addr}{o:Obj},s₁.heap.get? b=some o->H b=none->(rY s₁.heap H).get? b=some o:=fun e n=>rZ e n
  have K9:∀{b:Addr}{o:Obj}{es:Array DictEntry}{ep:Nat},s₁.heap.get? b=some o->o.data=.dict es ep->H b=none:=fun{b o es ep} e d=>by
   cases q:H b with
   |none=>rfl
   |some u=>
    have e':b=a:=hA b (by rw[q];simp);subst e';rw[ha]at e;cases e;have d':Data.seq vs.toArray _=Data.dict es ep:=d;cases d'
  have Mp:∀{b:Addr}{m:Str->Option Value},s₁.heap.Ns b m->(rY s₁.heap H).Ns b m:=fun{b m} ⟨o,es,ep,e,d,r⟩=>⟨o,es,ep,Ha e (K9 e d),d,r⟩
  have NI:K.In (rY s₁.heap H):=fun b o e=>Ha (KX b o e) (by
   cases q:H b with
   |none=>rfl
   |some u=>
    have e':b=a:=hA b (by rw[q];simp);subst e';rw[hK (by rw[q];simp)]at e;cases e)
  have hM:Mod K mg (rY s₁.heap H):=⟨NI,Mp NH,⟨mb,Mp hb,hbb⟩,let⟨mc,h1,h2⟩:=hlim;⟨mc,Mp h1,h2⟩⟩
  have e0:Env0 P w K mg (rY s₁.heap H) callerA [] s₁ H:=⟨rfl,hM,fun b o e=>vk e,Rk (oJ _ _),trivial,fun b hb=>absurd (show b∈([]:List Addr) from hb) (by simp),hok,.of_eq hg⟩
  refine codeAny_mono ((F _ NI (Mp NH)).run callerA [] s₁ H ⟨[.ref a],[]⟩ [.ref a] [.ref a] _ _ hr e0 (Lg s₁ (.ref a)) (.cons rfl .nil) (Jw H hO hS)) fun r s' h=>?_
  cases r with
  |error e=>exact(MR H e s' h).elim
  |ok fl=>
   cases fl with
   |next=>exact False.elim h
   |brk=>exact False.elim h
   |cont=>exact False.elim h
   |ret u=>
    obtain⟨v,H',os,bare,un,hok',r',q⟩:=h;have q':v=.bl true:=q;subst q';obtain rfl:u=Value.bool true:=r';refine⟨rfl,OldK.of_keep fun b o e=>?_,os,bare⟩;cases q:H b with
    |none=>exact un.keep b o e q (by intro z;exact absurd (show b∈([]:List Addr) from z) (by simp)) (by simp)
    |some u=>
     rcases hO b with z|⟨ob,xs,z⟩
     ·rw[q]at z;cases z
     ·have z2:=un.frzs b ob _ z;obtain⟨e1,_⟩:=hok b _ z;obtain⟨e2,_⟩:=hok' b _ z2;rw[e]at e1;cases e1;exact e2
 cases hk:K.lookup a with
 |some o=>
  have e:=KX a o hk;rw[ha]at e;cases e;refine core (fun _=>none) (fun _=>.inl rfl) (.inr ⟨_,vs.toArray,_,hk,rfl,rfl,rfl,by rw[Of,lenV];exact hl,by simpa using rv⟩) (fun b u z=>by have z':(none:Option HO)=some u:=z;cases z') (fun b z=>absurd rfl z) fun z=>absurd rfl z
 |none=>
  refine core (fun b=>if b=a then some (.frz {cls:=.type "list",data:=.seq vs.toArray} (.lst (ns.map V.int))) else none) (fun b=>?_) (.inl (.inr ⟨{cls:=.type "list",data:=.seq vs.toArray},Oy rfl⟩)) (fun b u z=>?_) (fun b z=>?_) fun _=>hk
  ·by_cases hb:b=a
   ·exact .inr ⟨_,_,Oy hb⟩
   ·exact .inl (OD hb)
  ·by_cases hb:b=a
   ·have z':=(Oy hb).symm.trans z;cases z';subst hb;exact⟨ha,by rw[OI];exact hl,vs,_,rv,ha⟩
   ·have z':=(OD hb).symm.trans z;cases z'
  ·by_cases hb:b=a
   ·exact hb
   ·exact absurd (OD hb) z
theorem vN{l:PySem.W.OpenLaw}{n k:Nat}{q:Program}{loose:List Str}{XP:(Str->Option Value)->Heap->Prop}{YP:World->Heap->Prop}{d:DefRec}{K:Params->W.Frag}{CX:World->CXT}{sp:World->Sp}{x:Str}
  (hn:l.most=some n) (hn2:n<=sizeLine) (Le:d.params.defaults=[]) (hr:Room k callerA)
  (hY:∀(w:World) (h:Heap),YP w h->(K w.params).In h)
  (F:∀(w:World) (mg:Str->Option Value) (fa:Addr) (h:Heap),(K w.params).In h->h.Ns mainGlobals mg->mg d.name=some (.ref fa)->
   ∃fd:FuncData,(∀(s:Shared) (u:Value),BindsTo s fd ⟨[u],[]⟩ [(x,u)])/\
    ∀base:Heap,(K w.params).In base->base.Ns mainGlobals mg->FnOk l.prog w (K w.params) mg base (CX w) k fa fd [x] (sp w))
  (Jw:∀(w:World) (H:Hp) (a:Addr) (ns:List Int),ns.length<=n->AX H->SqL (K w.params) H a (ns.map V.int)->sp w [.ref a] H (fun v _=>v=.bl true) fun _ _ _=>False)
  (MR:∀(w:World) (H:Hp) (s:Shared) (e:Value) (s':Shared),CX w [] H s (fun _ _ _=>False) e s'->False):
  PySem.W.WalkO q loose XP YP l.row.toRowW d [] (fun f vs=>PySem.call f vs):=by
 refine Att.attach_call hn Le fun w s₀ s₁ mg mb fa o pm cd doc a vs ns G Y ho hd Gd Lf J0 hints hlen hg=>?_
 have KX:=hY w _ Y;obtain⟨fd,hb,hF⟩:=F w mg fa _ KX G.T.g Lf;exact sv KX G.T.g G.T.b G.T.builtins G.T.nolimit hg J0 hints (OF hlen hn2) hr hF hb (fun H hO hS=>Jw w H a ns hlen hO hS) fun H e s'=>MR w H s₁ e s'
def dw(s:Stmt):Arguments:=match s with
 | .FunctionDef _ a _ _ _ _ _ _ _ _=>a
 |_=>{posonlyargs:=[],args:=[],vararg:=none,kwonlyargs:=[],kw_defaults:=[],kwarg:=none,defaults:=[]}
def b8(s:Stmt):List Stmt:=match s with
 | .FunctionDef _ _ b _ _ _ _ _ _ _=>b
 |_=>[]
def defScope(s:Stmt):Scope:=match s with
 | .FunctionDef _ _ _ _ _ _ sc _ _ _=>sc
 |_=>{kind:=.function,names:=[],isGenerator:=false,isCoroutine:=false}
abbrev Ht:CXT:=fun _ _ _ _ _ _=>False
abbrev E0:XK:=fun _ _ _=>False
theorem AY{X:Cx}:oU Ht X E0:=fun _ _ _ _ _ _ _ h=>h.elim
structure Fun(K:W.Frag)(x qual:Str)(st:Stmt)(f:Addr)(fd:FuncData):Prop where
 ex:∃(oc:Value) (od:Option Addr) (kV doc pm:Value) (an:Option Addr) (Dx ct:Value) (Io:Array (Option Value)),
  fd=PySem.W.fnOf x qual (dw st) (b8 st) (defScope st) .none kV doc pm an Dx ct/\K.lookup f=some ⟨oc,od,.func fd,Io⟩/\PySem.W.codeIn K Dx qual=true
 kp:PySem.W.keepIn K (.ref f)=true
section
variable{P:Program}{w:World}{K:W.Frag}{mg:Str->Option Value}{base:Heap}
theorem Fun.ok{x qual:Str}{st:Stmt}{f:Addr}{fd:FuncData}{N ps:List Str}{k:Nat}{sp:Sp}(F:Fun K x qual st f fd)(S:FnScope N ps (defScope st))(len:∀vs H Q E,sp vs H Q E->vs.length=ps.length)
  (HB:∀(Dx:Value) (A:Around) (outer:List Env) (s:Shared) (H:Hp) (vs:List V) (Q:VK) (E:XK),Room k (A.deeper (envOfC qual (defScope st) s.heap.objs.size f Dx))->sp vs H Q E->
   ∃t,PSs (si Ht P w K mg base N qual (defScope st) f Dx A outer s H E).nox (b8 st) t/\t {nx:=fun _ H'=>Q .non H',rt:=Q} (start N vs) H):FnOk P w K mg base Ht (k+1) f fd ps sp:=by
 obtain⟨oc,od,kV,doc,pm,an,Dx,ct,Io,rfl,lk,Gd⟩:=F.ex;refine AR lk Gd S len fun A outer s H vs Q E hr Jw=>?_
 obtain⟨t,h,q⟩:=HB Dx A outer s H vs Q E hr Jw;exact⟨t,h.nox,q⟩
theorem Fun.binds{x qual:Str}{st:Stmt}{f:Addr}{fd:FuncData}{ps:List Str}(F:Fun K x qual st f fd)
  (h:∀(kV doc pm:Value) (an:Option Addr) (Dx ct:Value) (us:List Value),us.length=ps.length->bindArgs (PySem.W.fnOf x qual (dw st) (b8 st) (defScope st) .none kV doc pm an Dx ct) ⟨us,[]⟩=pure (ps.zip us)):Binds K fd ps []:=by
 obtain⟨oc,od,kV,doc,pm,an,Dx,ct,Io,rfl,lk,Gd⟩:=F.ex;exact .all (h kV doc pm an Dx ct)
theorem uu{x qual:Str}{st:Stmt}{f:Addr}{oc:Value}{od an:Option Addr}{Io:Array (Option Value)}{kV doc pm Dx ct:Value}(l:K.lookup f=some ⟨oc,od,.func (PySem.W.fnOf x qual (dw st) (b8 st) (defScope st) .none kV doc pm an Dx ct),Io⟩)
  (c:PySem.W.codeIn K Dx qual=true) (k:PySem.W.keepIn K (.ref f)=true):Fun K x qual st f (PySem.W.fnOf x qual (dw st) (b8 st) (defScope st) .none kV doc pm an Dx ct):=⟨⟨oc,od,kV,doc,pm,an,Dx,ct,Io,rfl,l,c⟩,k⟩
end
theorem hu_of{A:Around}{k:Nat}(hr:Room k A):A.units+1<cLine:=PK (Nat.add_le_add_left (by decide:1<=64) _) hr.units
section
variable{X:Cx}
theorem pv(i:Nat){x:Str}{pos:Pos}(hN:X.N[i]?=some x:=by rfl)(hv:MK X.env.scope x:=by first|exact Or.inl rfl|exact Or.inr (Or.inl rfl)|exact Or.inr (Or.inr rfl))(hd:(x==("__debug__" : Str))=false:=by decide)
  (Gd:(x==("__classdict__" : Str))=false:=by decide):PE X (.Name x pos) (nL i):=xM hN hv hd Gd
end
theorem iteF{A B:Prop}(h:B):if false=true then A else B:=by
 rw[OD OB];exact h
theorem xB{A B:Prop}(h:A):if true=true then A else B:=by
 rw[Oy rfl];exact h
def Same(H H':Hp):Prop:=∀b o,H b=some o->H' b=some o
theorem Same.refl(H:Hp):Same H H:=fun _ _ h=>h
theorem Same.trans{H H1 H2:Hp}(a:Same H H1)(b:Same H1 H2):Same H H2:=fun c o h=>b c o (a c o h)
theorem Same.free{H H':Hp}(e:Same H H'){l:Addr}(h:H' l=Option.none):H l=Option.none:=by
 cases q:H l with
 |none=>rfl
 |some o=>
  rw[e l o q]at h;cases h
end L2
set_option maxHeartbeats 4000000
namespace NX
open PySem PySem.Spec PyProof.Rows L2
section
variable{X:Cx}
theorem sx(v:Int)(n:Nat):max (0:Int) (min (if v<0 then v+(n:Int) else v) (n:Int))=((HT.sIx n 0 (some v):Nat):Int):=by
 show _=(((if v<0 then(v+(n:Int)).toNat else min v.toNat n):Nat):Int)
 split <;> lia
theorem yr(a b:Nat):sliceRange (a:Int) (b:Int) 1=(List.range (b-a)).map (fun k=>a+k):=by
 unfold sliceRange;rw[Oy (by decide:(1:Int)>0)];by_cases DH:(a:Int)<b
 ·have e3:(((b:Int)-a+1-1) / 1).toNat=b-a:=by first|lia|(simp;done)|(simp;lia)
  simp only[DH,Qg,e3];refine PY fun k _=>?_
  lia
 ·have:b-a=0:=by lia
  simp[DH,this]
theorem Cr(lo hi:Option Int)(n:Nat):Builtin.Str.strSliceIndices lo hi 1 n=(List.range (HT.sIx n n hi-HT.sIx n 0 lo)).map (fun k=>HT.sIx n 0 lo+k):=by
 rw[<-yr];unfold Builtin.Str.strSliceIndices;simp only[show(1:Int)>0 from by decide,Qg];cases lo with
 |none=>
  cases hi with
  |none=>rfl
  |some v=>exact P0 (fun z=>sliceRange 0 z 1) (sx v n)
 |some u=>
  cases hi with
  |none=>exact P0 (fun z=>sliceRange z (n:Int) 1) (sx u n)
  |some v=>exact(P0 (fun z=>sliceRange z _ 1) (sx u n)).trans (P0 (fun z=>sliceRange _ z 1) (sx v n))
def yt(xs:List Nat)(lo hi:Option Int):List Nat:=(xs.drop (HT.sIx xs.length 0 lo)).take (HT.sIx xs.length xs.length hi-HT.sIx xs.length 0 lo)
theorem uv{α:Type}(l:List α):∀(n a:Nat),a+n<=l.length->((List.range n).map (fun k=>a+k)).filterMap (l[·]?)=(l.drop a).take n
 | 0,_,_=>by simp
 |n+1,a,h=>by
  have DH:a+n<l.length:=by lia
  rw[RD,O6,List.filterMap_append,uv l n a (by lia),List.take_add_one,List.getElem?_drop];simp[Ol DH]
theorem o7(x:Str)(lo hi:Option Int):(Txt.slice x lo hi).cps.toList=yt x.cps.toList lo hi:=by
 have hl:x.cps.toList.length=x.length:=PN;have ha:=HT.oY x.length 0 (Pn _) lo;have hb:=HT.oY x.length x.length (Oq _) hi;unfold Txt.slice yt;rw[Cr,hl];split
 ·rename_i h;have h2:HT.sIx x.length x.length hi-HT.sIx x.length 0 lo=x.length:=by simpa using h
  have ez:HT.sIx x.length 0 lo=0\/x.length=0:=by lia
  rcases ez with e|e
  ·rw[h2,e,SX,Pk (by lia)]
  ·have:x.cps.toList=[]:=OY (by lia);rw[this];simp
 ·have hk:∀(f:List Nat),f.filterMap (x.cps[·]?)=f.filterMap (x.cps.toList[·]?):=fun f=>by
   congr 1
   funext i
   simp
  show(List.filterMap _ _).toArray.toList=_;rw[List.toList_toArray,hk];by_cases hle:HT.sIx x.length 0 lo<=HT.sIx x.length x.length hi
  ·rw[uv _ _ _ (by lia)]
  ·have e0:HT.sIx x.length x.length hi-HT.sIx x.length 0 lo=0:=by lia
   rw[e0];rfl
abbrev S(l:List Nat):Str:=⟨l.toArray⟩
theorem lB(x:Str):S x.cps.toList=x:=by cases x;simp[S]
theorem vO{a b:List Nat}(h:S a=S b):a=b:=by
 have:=P0 (fun z:Str=>z.cps.toList) h;simpa[S] using this
theorem kg(l:List Nat):(S l).length=l.length:=by simp[S,Str.length]
theorem eZ(l:List Nat):(S l).cps.toList=l:=by simp[S]
theorem AZ(a b:List Nat):S a++S b=S (a++b):=by
 rw[<-lB (S a++S b),PySem.W.KT.app_list,eZ,eZ]
def Cs:V->Option Int->Option Int->Hp->VK->Prop:=fun x lo hi H Q=>∃l,x=.str (S l)/\l.length<=sizeLine/\Q (.str (S (yt l lo hi))) H
theorem yu:JX X Cs:=by
 intro pr s σ H x v vl vu lo hi sl Q I rx hs pl pu h;obtain⟨l,rfl,hz,q⟩:=h;obtain⟨t,rfl⟩:=rx;have hz':(S l).length<=sizeLine:=by rw[kg];exact hz
 have e:∀t' k,EP X pr σ Q (.str (Txt.slice (S l) lo hi) t') {s with toks:=k}:=fun t' k=>by
  refine⟨.str (S (yt l lo hi)),H,I.tok _,⟨t',?_⟩,q⟩;have e1:=o7 (S l) lo hi;rw[eZ]at e1;rw[<-e1,lB]
 refine⟨"str",_,PySem.F.slot_str_getitem.lookup,typeIs_str _ _ _,?_⟩;have key:∀(J2 Mq:Option (Int×Tok)),partValue J2=vl->partValue Mq=vu->J2.map (·.1)=lo->Mq.map (·.1)=hi->
   wpAny (model X.prog X.w) X.A (getItem (.str (S l) t) (.ref sl)) (EP X pr σ Q) X.xe s:=by
  rintro J2 Mq rfl rfl rfl rfl;exact wpAny_getItem_str_slice (l:=J2) (u:=Mq) (st:=none) hs rfl (post_val_or_str ⟨OF (Txt.slice_le (S l) _ _) hz',fun t' k=>e t' k⟩)
 cases pl with
 |none=>
  cases pu with
  |none=>exact key none none rfl rfl rfl rfl
  |int j uj=>exact key none (some (j,uj)) rfl rfl rfl rfl
 |int i ui=>
  cases pu with
  |none=>exact key (some (i,ui)) none rfl rfl rfl rfl
  |int j uj=>exact key (some (i,ui)) (some (j,uj)) rfl rfl rfl rfl
end
def Def(K:W.Frag)(mg:Str->Option Value)(x:Str)(st:Stmt):Prop:=∃f fd,Fun K x x st f fd/\mg x=some (.ref f)
def Ct(P:Program)(w:World)(K:W.Frag)(mg:Str->Option Value)(base:Heap)(x:Str)(k:Nat)(sp:Sp):Prop:=
 ∃f fd ps,FnOk P w K mg base Ht k f fd ps sp/\mg x=some (.ref f)/\PySem.W.keepIn K (.ref f)=true/\Binds K fd ps []
section
variable{X:Cx}{e:Expr}{es:List Expr}{t:TA}{x:Str}{p pos:Pos}{k:Nat}{sp:Sp}
theorem yv(C:Ct X.prog X.w X.K X.mg X.base x k sp)(hr:Room k X.A)(hg:Gl X x)(ha:PA X (e::es) t)(Fd:(x==("__debug__" : Str))=false:=by decide)
  (he:starEach (e::es) X.env=(false,eval e X.env)::starEach es X.env:=by rfl) (Es:(backTo pos (starEach es X.env)).any (·.1)=false:=by rfl):
  PE X (.Call (.Name x p) (e::es) [] pos) (tCall sp [] E0 t):=by
 obtain⟨f,fd,ps,G,m,kp,b⟩:=C;exact vD G hr hg m kp b .nil AY ha Fd he Es
end
theorem bt_len:bootBuiltins "len" = some (.builtin "len"):=by decide +kernel
theorem jm:bootBuiltins "isinstance" = some (.builtin "isinstance"):=by decide +kernel
theorem lC:bootBuiltins "list" = some (.type "list"):=by decide +kernel
theorem yw:bootBuiltins "int" = some (.type "int"):=by decide +kernel
theorem eN:bootBuiltins "tuple" = some (.type "tuple"):=by decide +kernel
theorem vP:bootBuiltins "bool" = some (.type "bool"):=by decide +kernel
theorem line_eq:sizeLine=16777216:=QU
theorem flat_strs(a:List (List Nat)):(a.map fun l=>V.str (S l)).all sr=true:=by
 rw[OS];intro v hv;obtain⟨l,_,rfl⟩:=SA.mp hv;rfl
section
variable{X:Cx}{e:Expr}{st:Stmt}
end
def clOf(scope:Scope)(env:Env):List (Str×Addr):=scope.names.foldl (fun cs y=>if y.2==NameKind.free then(y.1,(env.cells.lookup y.1).getD 0)::cs else cs) []
def cE(scope:Scope)(env:Env):Bool:=scope.names.all fun y=>y.2 != NameKind.free||env.kindOf y.1==some .cell||env.kindOf y.1==some .free
theorem dj(env:Env):∀(l:List (Str×NameKind)) (cs:List (Str×Addr)),(∀y∈l,y.2=.free->∃c,env.cells.lookup y.1=some c)->
  (forIn l cs fun(y:Str×NameKind) (r:List (Str×Addr))=>(do
   if y.2==NameKind.free then
    let a <-cellOf env y.1
    pure (ForInStep.yield ((y.1,a)::r))
   else pure (ForInStep.yield r):Sem (ForInStep (List (Str×Addr)))))=pure (l.foldl (fun cs y=>if y.2==NameKind.free then(y.1,(env.cells.lookup y.1).getD 0)::cs else cs) cs)
 |[],cs,_=>by simp
 |y::l,cs,h=>by
  rw[SD,Q4];by_cases k:y.2=.free
  ·obtain⟨c,e⟩:=h y Oh k;have e2:cellOf env y.1=pure c:=by unfold cellOf;rw[e]
   simp only[k,OZ,Qg,e2,e,Option.getD_some,pure_bind];exact dj env l _ fun z hz=>h z (Og _ hz)
  ·have kb:(y.2==NameKind.free)=false:=by simpa using k
   simp only[kb,RK,SQ,pure_bind];exact dj env l _ fun z hz=>h z (Og _ hz)
theorem e7(env:Env)(x:Str)(c:Addr):∀(l:List (Str×NameKind)) (cs:List (Str×Addr)),(∀y∈l,y.2=.free->∃c,env.cells.lookup y.1=some c)->(cs.lookup x=some c->env.cells.lookup x=some c)->
  (l.foldl (fun cs y=>if y.2==NameKind.free then(y.1,(env.cells.lookup y.1).getD 0)::cs else cs) cs).lookup x=some c->env.cells.lookup x=some c
 |[],_,_,h,e=>h e
 |y::l,cs,hf,h,e=>by
  rw[Q4]at e;refine e7 env x c l _ (fun z hz=>hf z (Og _ hz)) (fun q=>?_) e;split at q
  ·rename_i k;have k:y.2=.free:=by simpa using k
   obtain⟨d,ed⟩:=hf y Oh k;rw[OM]at q;cases hx:x==y.1 with
   |true=>
    rw[hx]at q;have exy:x=y.1:=by simpa using hx
    rw[ed,Option.getD_some]at q;rw[exy,ed];exact q
   |false=>
    rw[hx]at q;exact h q
  ·exact h q
theorem ij(env:Env)(x:Str):∀(l:List (Str×NameKind)) (cs:List (Str×Addr)),((∃d,cs.lookup x=some d)\/(x,NameKind.free)∈l)->
  ∃d,(l.foldl (fun cs y=>if y.2==NameKind.free then(y.1,(env.cells.lookup y.1).getD 0)::cs else cs) cs).lookup x=some d
 |[],_,h=>by
  rcases h with h|h
  ·exact h
  ·cases h
 |y::l,cs,h=>by
  rw[Q4];refine ij env x l _ ?_;rcases h with⟨d,h⟩|h
  ·refine .inl ?_;split
   ·rw[OM];cases hx:x==y.1 with
    |true=>exact⟨_,rfl⟩
    |false=>exact⟨d,h⟩
   ·exact⟨d,h⟩
  ·rcases Ov.mp h with h|h
   ·refine .inl ?_;rw[<-h];refine⟨(env.cells.lookup x).getD 0,?_⟩;show List.lookup x ((x,_)::cs)=_;rw[OM,OZ]
   ·exact .inr h
noncomputable def aQ(X:Cx)(scope:Scope)(N:List Str)(C:Addr)(s:Shared)(H:Hp)(fp:List Addr)(pn:List (Addr×Obj)):Cx:=
 {X with N:=N,s₀:=s,H₀:=H,env:=compEnvC scope (clOf scope X.env) C X.env,outer:=X.stack,ex:=fp,fn:=fun _=>false,pn:=pn,xe:=fun _ _=>False}
def cV(ix:List (Option Nat))(σ:L2.St):L2.St:=ix.map fun i=>i.bind fun i=>(σ[i]?).bind id
noncomputable def nU(wi:TI)(ix:List (Option Nat))(g:TG)(tc:TT)(te:TE):TE:=fun σ H Q=>wi σ H fun J H1=>∀D,H1 D=none->∃W:Nat->Nat->L2.St->Hp->Prop,(∃m,W 0 m (cV ix σ) (upd H1 D (.lst [])))/\
 ∀i m σ1 H2,W i m σ1 H2->(J.stop i H2/\Q (.ref D) H2)\/(J.go i H2/\∀x H3,J.yld i H2 x H3->g x σ1 H3 fun σ2 H4=>tc σ2 H4 fun b H5=>if b=true then te σ2 H5 fun v H6=>
  ∃ys,H6 D=some (.lst ys)/\ys.length<sizeLine/\∃m',m'<m/\W (i+1) m' σ2 (upd H6 D (.lst (ys++[v]))) else ∃m',m'<m/\W (i+1) m' σ2 H5)
abbrev HC:Value->Shared->Prop:=fun _ _=>False
theorem KP{α:Type}{M:Model}{A:Around}{t:Sem α}{Q Q':α->Shared->Prop}{E:Value->Shared->Prop}{s:Shared}(h:wpAny M A t Q HC s)(k:∀a s,Q a s->Q' a s):wpAny M A t Q' E s:=Rb h k fun _ _ z=>z.elim
theorem kh{prog:Program}{w:World}{A:Around}{R:Result->Shared->Prop}{s:Shared}{elt target iter:Expr}{ifs:List Expr}{scope:Scope}{pos:Pos}{it acc:Value}{env:Env}(I:Nat->Shared->Prop)
  (turn:∀n s,I n s->wpAny (model prog w) A (pyNext it) (fun r s₁=>match r with
   |none=>R (.ok .next) s₁
   |some v=>wpAny (model prog w) A (letOwnedTupleGo target it v) (fun _ s₂=>wpAny (model prog w) A (assign target env v) (fun _ s₃=>
     wpAny (model prog w) A (forIn ifs true fun c r=>if r=true then do let ok <-isTrue c env (eval c env);pure (ForInStep.yield ok) else pure (ForInStep.yield r)) (fun ok s₄=>
      if ok=true then wpAny (model prog w) A (eval elt env) (fun x s₅=>
       wpAny (model prog w) A (call (.builtin "list.append") [acc,x]) (fun _ s₆=>∃m,m<n/\I m s₆) HC s₅) HC s₄
      else ∃m,m<n/\I m s₄) HC s₃) HC s₂) HC s₁) HC s)
  (n:Nat) (h:I n s):codeAny (model prog w) A (.compLoop (.ListComp elt [⟨target,iter,ifs,0⟩] scope pos) 0 it acc env) R s:=by
 refine codeAny_loop rfl I (fun n s hI=>?_) n h;show wpAny _ A ((compTurn (.ListComp elt [⟨target,iter,ifs,0⟩] scope pos) 0 it acc env).onRaise (fun x=>do noteFrame x env;theTreesLotGoes x)) _ _ s;refine wpAny_noted ?_;rw[compTurn_list];refine Oe (wpAny_standAt (Oe (KP (turn n s hI) fun r s₁ h₁=>?_)));cases r with
 |none=>exact Ox h₁
 |some v=>
  refine Oe (KP h₁ fun _ s₂ h₂=>Oe (KP h₂ fun _ s₃ h₃=>Oe (KP h₃ fun ok s₄ h₄=>?_)));cases ok with
  |false=>exact Ox ⟨rfl,h₄⟩
  |true=>exact Oe (Oe (KP h₄ fun x s₅ h₅=>Oe (KP h₅ fun _ s₆ h₆=>Ox (Ox ⟨rfl,h₆⟩))))
def Jx(X:Cx)(ifs:List Expr)(t:TT):Prop:=
 ∀(pr:List (Addr×Obj)) (s:Shared) (σ:L2.St) (H:Hp) (Q:Bool->Hp->Prop),Inv X pr σ H s->t σ H Q->
  wpAny (model X.prog X.w) X.A (forIn ifs true fun c r=>if r=true then do let ok <-isTrue c X.env (eval c X.env);pure (ForInStep.yield ok) else pure (ForInStep.yield r)) (TP X pr σ Q) X.xe s
def Cu:TT:=fun _ H Q=>Q true H
theorem vQ{X:Cx}:Jx X [] Cu:=fun _ _ _ H _ I h=>wpAny_tests_nil ⟨H,I,h⟩
theorem vR{X:Cx}{c:Expr}{t:TT}(h:PT X c t):Jx X [c] t:=fun pr s σ H Q I k=>wpAny_tests_one (h pr s σ H Q I k)
def lh(X:Cx)(scope:Scope)(N:List Str)(ix:List (Option Nat)):Bool:=
 N.length==ix.length&&(N.zip ix).all fun y=>match y.2 with
  |none=>true
  |some j=>X.N[j]?==some y.1&&scope.names.lookup y.1==some .free
theorem gL{scope:Scope}{env:Env}{x:Str}(h:scope.names.lookup x=some .free):(relabel scope env).names.lookup x=some .cell\/(relabel scope env).names.lookup x=some .free:=by
 unfold relabel;dsimp only;generalize scope.names=l at h;induction l with
 |nil=>cases h
 |cons y l ih=>
  obtain⟨n,k⟩:=y;rw[OM]at h;rw[OH];cases hx:x==n with
  |true=>
   rw[hx]at h;have hk:k=.free:=OP h;subst hk;dsimp only;split
   ·exact .inl (by rw[OM,hx])
   ·exact .inr (by rw[OM,hx])
  |false=>
   rw[hx]at h;dsimp only;split
   ·rw[OM,hx];exact ih h
   ·rw[OM,hx];exact ih h
theorem ki{scope:Scope}{env:Env}{x:Str}(hc:∀y∈scope.names,y.2≠.cell)(h:(relabel scope env).names.lookup x=some .cell\/(relabel scope env).names.lookup x=some .free):(x,NameKind.free)∈scope.names:=by
 unfold relabel at h;dsimp only at h;generalize scope.names=l at h hc;induction l with
 |nil=>rcases h with h|h <;> cases h
 |cons y l ih=>
  obtain⟨n,k⟩:=y;rw[OH]at h;dsimp only at h;have nk:k≠.cell:=hc (n,k) Oh;have NJ:=ih (hc:=fun z hz=>hc z (Og _ hz));by_cases cnd:(k==NameKind.free&&env.scope.kind==.function&&env.kindOf n==some .cell)=true
  ·rw[Oy cnd,OM]at h;have kf:k=.free:=by
    have:(k==NameKind.free)=true:=by
     simp only[Oz]at cnd;exact cnd.1.1
    simpa using this
   cases hx:x==n with
   |true=>
    have:x=n:=by simpa using hx
    rw[this,kf];exact Oh
   |false=>
    rw[hx]at h;exact Og _ (NJ h)
  ·rw[OD cnd,OM]at h;cases hx:x==n with
   |true=>
    rw[hx]at h;have:x=n:=by simpa using hx
    rcases h with h|h
    ·exact absurd (OP h) nk
    ·rw[this,<-OP h];exact Oh
   |false=>
    rw[hx]at h;exact Og _ (NJ h)
section
variable{X:Cx}{pr:List (Addr×Obj)}{σ:L2.St}{H:Hp}{s:Shared}{scope:Scope}{N:List Str}{ix:List (Option Nat)}{fp:List Addr}
theorem hU(ok:X.Ok)(hf:cE scope X.env=true):∀y∈scope.names,y.2=.free->∃c,X.env.cells.lookup y.1=some c:=fun y hy k=>by
 have:=OS.mp hf y hy;rw[k]at this;simp only[bne_self_eq_false,To,RE,OO]at this;exact ok.has y.1 this
theorem dS(ok:X.Ok)(hf:cE scope X.env=true){x:Str}{c:Addr}(h:(clOf scope X.env).lookup x=some c):X.env.cells.lookup x=some c:=
 e7 X.env x c scope.names [] (hU ok hf) (fun z=>nomatch z) h
theorem jn(ok:X.Ok)(hf:cE scope X.env=true){x:Str}(h:(x,NameKind.free)∈scope.names):∃c,(clOf scope X.env).lookup x=some c/\X.env.cells.lookup x=some c:=by
 obtain⟨c,e⟩:=ij X.env x scope.names [] (.inr h);exact⟨c,e,dS ok hf e⟩
theorem _root_.L2.Inv.block(I:Inv X pr σ H s)(hf:cE scope X.env=true)(hk:scope.kind=.function)(Dp:∀y∈scope.names,y.2≠.cell)(D7:lh X scope N ix=true)(fo:∀b∈fp,j4 X pr H b)(fin:∀b∈fp,∃o,s.heap.get? b=some o)
  {h1:Heap}{t1:Nat}{D C:Addr}(hD:D=s.heap.objs.size) (hC:C=s.heap.objs.size+1) (old:∀b o,s.heap.get? b=some o->h1.get? b=some o) {n:Nat}(acc:h1.get? D=some {cls:=.type "list",data:=.seq #[] n})
  {m:Str->Option Value}(ns:h1.Ns C m):Inv (aQ X scope N C s H fp (X.pn++pr)) [] (cV ix σ) (upd H D (.lst [])) {s with heap:=h1,toks:=t1}:=by
 have DP:s.heap.objs.size<=C:=by rw[hC];exact QV _
 have freshD:s.heap.objs.size<=D:=by rw[hD];exact Oq _
 have nD:H D=none:=I.hok.fresh freshD;have DC:D≠C:=by rw[hD,hC];exact OC (Pf _)
 have Gg:∀b,H b=none->b≠D->upd H D (.lst []) b=none:=fun b n z=>by rw[ai z];exact n
 have IB:∀b o,s.heap.get? b=some o->b≠D:=fun b o e=>OC (Ot (Ou e) freshD)
 have F8:∀b o,s.heap.get? b=some o->b≠C:=fun b o e=>OC (Ot (Ou e) DP)
 have cellAt:∀x c,(clOf scope X.env).lookup x=some c->∃v o,s.heap.get? c=some o/\o.data=.cell v:=fun x c e=>by
  obtain⟨v,o,ho,hd⟩:=I.cell x c (dS I.ok hf e);exact⟨v,o,ho,hd⟩
 have MS:(aQ X scope N C s H fp (X.pn++pr)).Ok:=by
  refine⟨I.ok.mod,hk,I.ok.glob,I.ok.blt,DP,fun x y c e1 e2=>?_,fun x hx=>?_,fun x c z _=>?_,I.ok.hd,I.ok.frames,.inl rfl,fun b hb=>?_,I.bs,?_,fun b o e hb=>?_,fun b hb hs=>?_,I.stack,I.stkFree⟩
  ·exact I.ok.inj x y c (dS I.ok hf e1) (dS I.ok hf e2)
  ·obtain⟨c,e,_⟩:=jn I.ok hf (ki Dp hx);exact⟨c,e⟩
  ·exact absurd (show false=true from z) OB
  ·obtain⟨f0,f1,f2,f3,f4,f5⟩:=fo b hb;refine⟨?_,fun x c e=>f4 x c (dS I.ok hf e)⟩;intro z;have z:b=C:=z;obtain⟨o,ho⟩:=fin b hb;exact F8 b o ho z
  ·exact OF I.ok.bsz I.sz
  ·obtain⟨f0,f1,f2,f3,f4,f5⟩:=fo b hb;rcases f3 with q|q
   ·exact I.ok.noex b o e q
   ·exact absurd (Ot (Ou e) (OF I.ok.bsz q)) (Py _)
  ·obtain⟨f0,f1,f2,_⟩:=fo b hb;exact(Ov.mp (I.stkSub b hs)).elim f1 f2
 refine⟨MS,rfl,I.bare,Un.laid old freshD nD,⟨m,ns,fun i x v e1 e2 e3=>?_⟩,fun x c e=>?_,?_,fun x c e=>?_,fun p hp=>?_,I.hok.laid old freshD ⟨Pn _,[],n,.nil,acc⟩,?_⟩
 ·
  have e2:(ix.map fun i=>i.bind fun i=>(σ[i]?).bind id)[i]?=some (some v):=e2;have e1:N[i]?=some x:=e1;unfold lh at D7;rw[Oz]at D7;rw[OG]at e2;cases q:ix[i]? with
  |none=>rw[q]at e2;cases e2
  |some o=>
   rw[q]at e2;have e2:(o.bind fun i=>(σ[i]?).bind id)=some v:=OP e2;cases o with
   |none=>cases e2
   |some j=>
    have e2:(σ[j]?).bind id=some v:=e2;have hσ:σ[j]?=some (some v):=by
     cases w':σ[j]? with
     |none=>rw[w']at e2;cases e2
     |some y=>rw[w']at e2;exact P0 some e2
    have hz:(N.zip ix)[i]?=some (x,some j):=by
     rw[Ql];exact⟨e1,q⟩
    have hy:=OS.mp D7.2 _ (Pr hz);simp only[Oz,OO]at hy;have J3:(x,NameKind.free)∈scope.names:=Pz hy.2;obtain⟨c,c1,c2⟩:=jn I.ok hf J3;have Lh:X.env.kindOf x=some .cell\/X.env.kindOf x=some .free:=by
     have:=OS.mp hf _ J3;simpa using this
    obtain⟨mo,Lb,Gf⟩:=I.loc;obtain⟨u,r,l⟩:=Gf j x v hy.1 hσ (.inr Lh);refine⟨u,r,.inr ⟨gL hy.2,c,c1,?_⟩⟩;rcases l with⟨k1,_⟩|⟨_,c',e',HA⟩
    ·rcases Lh with k2|k2 <;> (rw[k1]at k2;cases k2)
    ·rw[c2]at e';cases e';obtain⟨o,ho,hd⟩:=HA;exact⟨o,old c o ho,hd⟩
 ·obtain⟨v,o,ho,hd⟩:=cellAt x c e;exact⟨v,o,old c o ho,hd⟩
 ·exact Gg C (I.hok.fresh DP) (Qb DC)
 ·obtain⟨v,o,ho,hd⟩:=cellAt x c e;exact Gg c (I.freeC x c (dS I.ok hf e)) (IB c o ho)
 ·have hp:p∈X.pn++pr:=by
   have:p∈(X.pn++pr)++[]:=hp
   rwa [OK]at this
  obtain⟨e,nn,ne,nf,d⟩:=I.pin p hp;refine⟨old _ _ e,Gg _ nn (IB _ _ e),F8 _ _ e,fun z=>?_,d⟩;exact(Ov.mp (I.stkSub p.1 z)).elim ne nf
 ·unfold lh at D7;rw[Oz]at D7;have:N.length=ix.length:=by simpa using D7.1
  show(ix.map _).length=N.length;rw[OI,this]
theorem _root_.L2.Inv.unblock{C:Addr}{σ1:L2.St}{H1:Hp}{s1:Shared}{h2:Heap}(I:Inv X pr σ H s)(fo:∀b∈fp,j4 X pr H b)(hC:s.heap.objs.size<=C)(J:Inv (aQ X scope N C s H fp (X.pn++pr)) [] σ1 H1 s1)(hs:Heap.SameBut C s1.heap h2):
  Inv X pr σ H1 {s1 with heap:=h2}:=by
 have F8:∀b o,s.heap.get? b=some o->b≠C:=fun b o e=>OC (Ot (Ou e) hC)
 have bb:Un (GD X.stack) fp H H1 s.heap s1.heap:=J.base;have jf:H1 C=none:=J.free;refine I.call' (s':={s1 with heap:=h2}) (ch:=fp) J.os ⟨fun b o e n hb hx=>?_,fun b o e n hb hx=>?_,bb.free,fun b o e hx=>?_,bb.tups,bb.frzs,bb.tbls⟩ (fun b ob e=>?_) J.bare fun b hb=>?_
 ·exact(hs.2 b (F8 b o e)).trans (bb.keep b o e n hb hx)
 ·obtain⟨sl,q⟩:=bb.slot b o e n hb hx;exact⟨sl,(hs.2 b (F8 b o e)).trans q⟩
 ·obtain⟨o',q⟩:=bb.there b o e hx;exact⟨o',(hs.2 b (F8 b o e)).trans q⟩
 ·refine(J.hok b ob e).stay (fun c w' hc q=>(hs.2 c ?_).trans q) (fun _ q=>q) fun _ _ q=>q
  rintro rfl;rcases hc with rfl|hc
  ·rw[jf]at e;cases e
  ·rw[jf]at hc;cases hc
 ·obtain⟨f0,f1,f2,f3,f4,f5⟩:=fo b hb;exact⟨f3,f1,f4,f5⟩
end
section
variable{X:Cx}{scope:Scope}{N:List Str}{ix:List (Option Nat)}{tg iter elt:Expr}{ifs:List Expr}{pos:Pos}{wi:TI}{g:TG}{tc:TT}{te:TE}
theorem iY{pr:List (Addr×Obj)}{σ:L2.St}{H2:Hp}{s2:Shared}{J:It}{fp:List Addr}{it:Addr}{tn:Nat->Heap->Prop}{Q:VK}{RR:Value->Addr->Result->Shared->Prop}{E:Value->Shared->Prop}
  (hc:X.calm=true) (I2:Inv X pr σ H2 s2) (T:Turn X.prog X.w X.K tg J fp it tn) (De:tn 0 s2.heap) (f2:∀b∈fp,j4 X pr H2 b)
  (hg:∀C s H fp pn,PG (aQ X scope N C s H fp pn) tg g) (ht:∀C s H fp pn,Jx (aQ X scope N C s H fp pn) ifs tc) (he:∀C s H fp pn,PE (aQ X scope N C s H fp pn) elt te)
  (hf:cE scope X.env=true) (hk:scope.kind=.function) (Dp:∀y∈scope.names,y.2≠.cell) (D7:lh X scope N ix=true)
  (q:∀D,H2 D=none->∃W:Nat->Nat->L2.St->Hp->Prop,(∃m,W 0 m (cV ix σ) (upd H2 D (.lst [])))/\
   ∀i m σ1 H3,W i m σ1 H3->(J.stop i H3/\Q (.ref D) H3)\/(J.go i H3/\∀x H4,J.yld i H3 x H4->g x σ1 H4 fun σ2 H5=>tc σ2 H5 fun b H6=>if b=true then te σ2 H6 fun v H7=>
    ∃ys,H7 D=some (.lst ys)/\ys.length<sizeLine/\∃m',m'<m/\W (i+1) m' σ2 (upd H7 D (.lst (ys++[v]))) else ∃m',m'<m/\W (i+1) m' σ2 H6))
  (MT:∀(D C:Addr) (σ1:L2.St) (H1:Hp) (s1:Shared),s2.heap.objs.size<=C->Inv (aQ X scope N C s2 H2 fp (X.pn++pr)) [] σ1 H1 s1->Q (.ref D) H1->RR (.ref D) C (.ok .next) s1):
  wpAny (model X.prog X.w) X.A (newList []) (fun acc s₃=>wpAny (model X.prog X.w) X.A (newFunctionEnv scope X.env.globals (clOf scope X.env) [] X.env.qual none .none (some X.env)) (fun HD s₄=>
   codeAny (model X.prog X.w) X.A (.compStart (.ListComp elt [⟨tg,iter,ifs,0⟩] scope pos) 0 (.ref it) acc {HD with scope:=relabel scope X.env}) (RR acc HD.locals) s₄) E s₃) E s2:=by
 refine PU (wpAny_newFunctionEnv Dp (by intro y hy;simp at hy) (fun h₁ hns₁ hsb₁=>?_) hk);dsimp only at hns₁ hsb₁ ⊢;generalize IC:s2.heap.push {cls:=.type "list",dict:=none,data:=.seq ([]:List Value).toArray}=HH at hns₁ hsb₁ ⊢;have hC:HH.objs.size=s2.heap.objs.size+1:=by rw[<-IC,Pa]
 have NK:s2.heap.objs.size≠HH.objs.size:=by rw[hC];exact OC (Pf _)
 have Hj:s2.heap.objs.size<=HH.objs.size:=by rw[hC];exact QV _
 have F8:∀b o,s2.heap.get? b=some o->b≠HH.objs.size:=fun b o e=>OC (Ot (Ou e) Hj)
 have old:∀b o,s2.heap.get? b=some o->h₁.get? b=some o:=fun b o e=>hsb₁.extBut b o (F8 b o e) (Oi _ (IC▸Oi _ e))
 have EW:h₁.get? s2.heap.objs.size=some {cls:=.type "list",data:=.seq #[] 0}:=hsb₁.extBut _ _ NK (Oi _ (IC▸Ow _ rfl));obtain⟨W,⟨m0,w0⟩,turn⟩:=q s2.heap.objs.size (I2.hok.fresh (Oq _));have fin:∀b∈fp,∃o,s2.heap.get? b=some o:=fun b hb=>let⟨o,e,_⟩:=T.obj 0 _ De b hb;⟨o,e⟩
 have Fc:∀{H':Hp},(∀b∈fp,H' b=none)->∀b∈fp,j4 (aQ X scope N HH.objs.size s2 H2 fp (X.pn++pr)) [] H' b:=fun{H'} hn b hb=>by
  obtain⟨f0,f1,ff,f3,f4,f5⟩:=f2 b hb;refine⟨hn b hb,?_,fun z=>?_,.inl hb,fun x c e=>f4 x c (dS I2.ok hf e),fun p hp=>?_⟩
  ·intro z;have z:b=HH.objs.size:=z;obtain⟨o,ho⟩:=fin b hb;exact F8 b o ho z
  ·exact(Ov.mp (I2.stkSub b z)).elim f1 ff
  ·have hp:p∈X.pn++pr:=by
    have:p∈(X.pn++pr)++[]:=hp
    rwa [OK]at this
   exact f5 p hp
 have loop:∀s₃:Shared,s₃={s2 with heap:=h₁,toks:=s2.toks+([]:List (Str×Value)).length}->
   codeAny (model X.prog X.w) X.A (.compLoop (.ListComp elt [⟨tg,iter,ifs,0⟩] scope pos) 0 (.ref it) (.ref s2.heap.objs.size) (compEnvC scope (clOf scope X.env) HH.objs.size X.env)) (RR (.ref s2.heap.objs.size) HH.objs.size) s₃:=by
  rintro s₃ rfl;refine kh (fun n s'=>∃i σ' H',Inv (aQ X scope N HH.objs.size s2 H2 fp (X.pn++pr)) [] σ' H' s'/\tn i s'.heap/\(∀b∈fp,H' b=none)/\W i n σ' H') ?_ m0
   ⟨0,_,_,I2.block hf hk Dp D7 f2 fin rfl hC old EW hns₁,T.keep 0 _ _ De fun b _ o e=>old b o e,fun b hb=>?_,w0⟩
  ·rintro n s3 ⟨i,σ3,H3,I3,Dv,Jt,w3⟩;rcases turn i n σ3 H3 w3 with⟨stop,qn⟩|⟨go,step⟩
   ·refine Dn (T.done (aQ X scope N HH.objs.size s2 H2 fp (X.pn++pr)) rfl rfl rfl hc i [] s3 σ3 H3 HC I3 (Fc Jt) Dv stop) fun r s4 Dl=>?_
    obtain⟨hr,I4⟩:=Dl;subst hr;exact MT _ _ σ3 H3 s4 Hj I4 qn
   ·refine Dn (T.item (aQ X scope N HH.objs.size s2 H2 fp (X.pn++pr)) rfl rfl rfl hc i [] s3 σ3 H3 HC I3 (Fc Jt) Dv go) fun r s4 Dl=>?_
    obtain⟨u,hr,h4⟩:=Dl;subst hr;refine Dn h4 fun _ s5 Dl=>?_
    obtain⟨x,H5,I5,r5,y5,Ei,K6⟩:=Dl;have K7:=I5.pinned (Fc K6) (T.obj _ _ Ei);refine Dn (hg _ _ _ _ _ _ s5 σ3 H5 x u _ K7 r5 (step x H5 y5)) fun _ s6 Dl=>?_
    obtain⟨σ6,H6,I6,q6⟩:=Dl;refine Dn (ht _ _ _ _ _ _ s6 σ6 H6 _ I6 q6) fun ok s7 Dl=>?_
    obtain⟨H7,I7,q7⟩:=Dl;have again:∀{H8:Hp}{s8:Shared},Inv (aQ X scope N HH.objs.size s2 H2 fp (X.pn++pr)) ([]++iV fp s5.heap) σ6 H8 s8->(∃m',m'<n/\W (i+1) m' σ6 H8)->
      ∃m,m<n/\∃i σ' H',Inv (aQ X scope N HH.objs.size s2 H2 fp (X.pn++pr)) [] σ' H' s8/\tn i s8.heap/\(∀b∈fp,H' b=none)/\W i m σ' H':=fun{H8 s8} I8 ⟨m',hm,w8⟩=>by
     refine⟨m',hm,i+1,σ6,H8,I8.unpinned,T.keep _ _ _ Ei fun b hb o e=>(I8.pin (b,o) (Oj _ (Oj _ (cD hb e)))).1,fun b hb=>?_,w8⟩;obtain⟨o,e,d⟩:=T.obj _ _ Ei b hb;exact(I8.pin (b,o) (Oj _ (Oj _ (cD hb e)))).2.1
    cases ok with
    |false=>exact again I7 q7
    |true=>
     show wpAny _ _ _ _ _ _;refine Dn (he _ _ _ _ _ _ s7 σ6 H7 _ I7 q7) fun x8 s8 Dl=>?_
     obtain⟨v8,H8,I8,r8,ys,MU,DH,q8⟩:=Dl;refine Dn (ie _ s8 σ6 H8 (.ref s2.heap.objs.size) [v8] (.ref s2.heap.objs.size) [x8] (fun _ H9=>∃m',m'<n/\W (i+1) m' σ6 H9) I8 rfl (.cons r8 .nil) ⟨_,ys,v8,rfl,rfl,MU,DH,q8⟩) fun _ s9 Dl=>?_
     obtain⟨_,H9,I9,_,q9⟩:=Dl;exact again I9 q9
  ·rw[ai (fun z=>by
    obtain⟨o,ho⟩:=fin b hb;exact absurd z (OC (Ou ho)))]
   exact(f2 b hb).1
 exact codeAny_compStart_list (loop _ rfl) (T.self _ 0 _ _ _ (T.keep 0 _ _ De fun b _ o e=>old b o e) (loop _ rfl))
theorem lD(ix:List (Option Nat))(N:List Str)(hc:X.calm=true)(hi:PI X tg iter wi)(hg:∀C s H fp pn,PG (aQ X scope N C s H fp pn) tg g)(ht:∀C s H fp pn,Jx (aQ X scope N C s H fp pn) ifs tc)(he:∀C s H fp pn,PE (aQ X scope N C s H fp pn) elt te)
  (hf:cE scope X.env=true:=by rfl) (hk:scope.kind=.function:=by rfl) (Dp:∀y∈scope.names,y.2≠.cell:=by decide +kernel) (DA:∀y∈scope.names,y.2=.local->scope.names.lookup y.1=some .local:=by decide +kernel) (D7:lh X scope N ix=true:=by rfl)
  (hs:∀x,foldedSetIterable iter X.env x=pure x:=by intro _;rfl):PE X (.ListComp elt [⟨tg,iter,ifs,0⟩] scope pos) (nU wi ix g tc te):=by
 intro pr s σ H Q I h;rw[eval_ListComp];have Gh:closureFor scope X.env=pure (clOf scope X.env):=by
  unfold closureFor clOf;have:=dj X.env scope.names [] (hU I.ok hf);simpa using this
 refine Q0 (use:=none) rfl hs Gh hk DA (Dn (hi pr s σ H _ I h) fun v s1 h1=>Dn h1 fun K5 s2 h2=>?_);obtain⟨it,fp,tn,J,H2,e,I2,T,De,f2,q⟩:=h2;subst e;refine iY (RR:=fun acc C=>compPost (model X.prog X.w) X.A X.xe none (EP X pr σ Q) acc C) (Q:=Q) (iter:=iter) hc I2 T De f2 hg ht he hf hk Dp D7 q fun D C σ1 H1 s1 hC J1 q1=>?_
 obtain⟨m,ns,_⟩:=J1.loc;exact⟨m,ns,fun h' Li=>⟨.ref D,H1,I2.unblock f2 hC J1 Li,rfl,q1⟩⟩
end
section
variable{X:Cx}{scope:Scope}{N:List Str}{ix:List (Option Nat)}{tg iter elt:Expr}{ifs:List Expr}{pos:Pos}{wi:TI}{g:TG}{tc:TT}{te:TE}
theorem vS{i:Nat}{y:Str}{py HE:Pos}(ix:List (Option Nat))(N:List Str)(hN:X.N.Nodup)(MV:X.N[i]?=some y)(hy:Loc X.env.scope y)(hc:X.calm=true)(hi:PI X tg iter wi)(hg:∀C s H fp pn,PG (aQ X scope N C s H fp pn) tg g)(ht:∀C s H fp pn,Jx (aQ X scope N C s H fp pn) ifs tc)
  (he:∀C s H fp pn,PE (aQ X scope N C s H fp pn) elt te) (Lj:swapsWith (.ListComp elt [⟨tg,iter,ifs,0⟩] scope pos) (some (.Name y py)) HE.line X.env=pure true:=by rfl)
  (hf:cE scope X.env=true:=by rfl) (hk:scope.kind=.function:=by rfl) (Dp:∀y∈scope.names,y.2≠.cell:=by decide +kernel) (DA:∀y∈scope.names,y.2=.local->scope.names.lookup y.1=some .local:=by decide +kernel) (D7:lh X scope N ix=true:=by rfl)
  (hs:∀x,foldedSetIterable iter X.env x=pure x:=by intro _;rfl) (JR:X.fn y=true\/X.env.scope.names.lookup y=some .local:=by first|exact .inl rfl|exact .inr rfl):
  PS X (.Assign [.Name y py] (.ListComp elt [⟨tg,iter,ifs,0⟩] scope pos) HE) (fun D σ H=>nU wi ix g tc te σ H fun v H'=>D.nx (σ.set i (some v)) H'):=by
 intro pr s σ H Dd I h;rw[exec_Assign_Name_used _ _ _ _ Lj];have Gh:closureFor scope X.env=pure (clOf scope X.env):=by
  unfold closureFor clOf;have:=dj X.env scope.names [] (hU I.ok hf);simpa using this
 refine Oe (wpAny_standAt (Oe ?_));show wpAny _ X.A (do let _ <-comprehension (.ListComp elt [⟨tg,iter,ifs,0⟩] scope pos) scope X.env _ (newList []) false (eval iter X.env) (some (assign (.Name y py) X.env))) _ _ s;refine Oe (Rb (Q0 (use:=some (assign (.Name y py) X.env)) (Q:=fun _ s'=>SP X pr Dd .next s') rfl hs Gh hk DA
  (Dn (hi pr s σ H _ I h) fun v s1 h1=>Dn h1 fun K5 s2 h2=>?_)) (fun _ s' hq=>Ox (Ox hq)) fun _ _ e=>e)
 obtain⟨it,fp,tn,J,H2,e,I2,T,De,f2,q⟩:=h2;subst e;refine iY (RR:=fun acc C=>compPost (model X.prog X.w) X.A X.xe (some (assign (.Name y py) X.env)) (fun _ s'=>SP X pr Dd .next s') acc C) (Q:=fun v H'=>Dd.nx (σ.set i (some v)) H') (iter:=iter) hc I2 T De f2 hg ht he hf hk Dp D7 q fun D C σ1 H1 s1 hC J1 q1=>?_
 obtain⟨m,ns,_⟩:=id J1.loc;have ns:s1.heap.Ns C m:=ns;have I3:Inv X pr σ H1 s1:=I2.unblock f2 hC J1 (.refl ..);show wpAny _ X.A (assign (.Name y py) X.env (.ref D)) _ _ s1;refine wpAny_assign_Name (j3 I3 hN MV hy (v:=.ref D) rfl (fun s4 I4 ⟨a,sb,ha⟩=>?_) JR);have aC:C≠a:=by
  intro z;rcases ha with ha|ha
  ·exact OC (Ot I2.lt hC) (ha▸z.symm)
  ·obtain⟨v,o,ho,_⟩:=I2.cell y a ha;exact OC (Ot (Ou ho) hC) z.symm
 refine⟨m,ns.sameBut sb aC,fun h' Li=>?_⟩;have jf:H1 C=none:=J1.free;have kk:∀b o,b≠C->s4.heap.get? b=some o->h'.get? b=some o:=fun b o hb e=>(Li.2 b hb).trans e
 refine⟨σ.set i (some (.ref D)),H1,?_,q1⟩;have z:=I4.turned (t':=s4.toks) kk jf (fun z=>OC (Ot I2.lt hC) z.symm) (.inr (OF I2.sz hC)) (fun x c e z=>by
  obtain⟨v,o,ho,_⟩:=I2.cell x c e;exact OC (Ot (Ou ho) hC) z) (fun p hp z=>OC (Ot (Ou (I2.pin p hp).1) hC) z)
 exact z
end
def Itv(val:Nat->V)(n:Nat):It:=⟨fun i _=>i<n,fun i H x H'=>H'=H/\x=val i,fun i _=>i=n⟩
theorem mx{P:Program}{w:World}{K:W.Frag}{tg:Expr}(ty:String)(Ld:["enumerate","zip","dict_itemiterator","dict_reverseitemiterator","odict_iterator","itertools.zip_longest","itertools.pairwise"].contains ty=false)(l:List Nat)(t:Tok)(it:Addr)
  (Wk:∀A:Around,A.handled=none->Walks P w A it [it] [it] (S l).cps.size (SignAt (S l)) (fun i h=>h.IsStrIter it ty (S l) t i))
  (self:∀(A:Around) (i:Nat) (s:Shared) (Q:Value->Shared->Prop) (E:Value->Shared->Prop),s.heap.IsStrIter it ty (S l) t i->Q (.ref it) s->wpAny (model P w) A (pyIter (.ref it)) Q E s):
  Turn P w K tg (Itv (fun i=>.str (S [l.getD i 0])) l.length) [it] it (fun i h=>h.IsStrIter it ty (S l) t i) where
 mem:=by simp
 obj:=fun i h st b hb=>by
  have e:b=it:=by simpa using hb
  subst e;obtain⟨o,e,c,d⟩:=st;exact⟨o,e,fun v z=>by rw[d]at z;cases z⟩
 keep:=fun i h h' st k=>by
  obtain⟨o,e,r⟩:=st;exact⟨o,k it (by simp) o e,r⟩
 item:=by
  intro X hP hw hK hc i pr s σ H E I hf st hg;subst hP hw hK;obtain⟨f0,f1,f2,f3,f4,f5⟩:=hf it (by simp);have hg:i<l.length:=hg;refine(Wk X.A (I.ok.hd hc)).item i s _ _ (by simpa[S] using hg) st fun v h' tk hv Ge kk=>?_
  obtain⟨c,u,Mk,rfl⟩:=hv;have I1:Inv X pr σ H {s with heap:=h',toks:=tk}:=I.turned (fun b o hb e=>kk b o (by simpa using hb) e) f0 f1 f3 f4 f5;obtain⟨o,e,cc,d⟩:=id Ge;have FN:l.getD i 0=c:=by
   have:l[i]?=some c:=by simpa[S] using Mk
   rw[Od,this];rfl
  refine⟨_,rfl,oK (s:={s with heap:=h',toks:=tk}) e cc d Ld ⟨.str (S [l.getD i 0]),H,I1,⟨u,?_⟩,⟨rfl,rfl⟩,Ge,fun b hb=>(hf b hb).1⟩⟩;rw[FN]
 done:=by
  intro X hP hw hK hc i pr s σ H E I hf st hg;subst hP hw hK;obtain⟨f0,f1,f2,f3,f4,f5⟩:=hf it (by simp);have hg:i=l.length:=hg;have hn:(S l).cps.size=i:=by rw[hg];simp[S]
  refine(Wk X.A (I.ok.hd hc)).done s _ _ (by rw[hn];exact st) fun h' tk kk=>⟨rfl,I.turned (fun b o hb e=>kk b o (by simpa using hb) e) f0 f1 f3 f4 f5⟩
 self:=self
def Cv(tl:TE):TI:=fun σ H R=>tl σ H fun x H1=>∃l,x=.str (S l)/\R (Itv (fun i=>.str (S [l.getD i 0])) l.length) H1
section
variable{X:Cx}{tg:Expr}
theorem yx{l:Expr}{tl:TE}(hl:PE X l tl):PI X tg l (Cv tl):=by
 intro pr s σ H R I h;refine Dn (hl pr s σ H _ I h) fun v s1 Dl=>?_
 obtain⟨x,H1,I1,r1,l,e,q⟩:=Dl;subst e;obtain⟨t,rfl⟩:=r1;cases ha:(S l).cps.all (·< 128)
 ·refine wpAny_pyIter_wide ha ?_;refine⟨s1.heap.objs.size,[s1.heap.objs.size],_,_,H1,rfl,I1.kept (t':=s1.toks) fun b o e=>Oi _ e,
   mx "str_iterator" (by decide) l t _ (fun A hA=>Walks.strWide hA _ _ _) (fun _ _ _ _ _ st h=>wpAny_pyIter_striter_wide st h),⟨_,Ow _ rfl,rfl,rfl⟩,fun b hb=>?_,q⟩
  have e:b=s1.heap.objs.size:=by simpa using hb
  subst e;exact I1.fpOk (Oq _) (I1.hok.fresh (Oq _))
 ·refine wpAny_pyIter_ascii ha ?_;refine⟨s1.heap.objs.size,[s1.heap.objs.size],_,_,H1,rfl,I1.kept (t':=s1.toks) fun b o e=>Oi _ e,
   mx "str_ascii_iterator" (by decide) l t _ (fun A hA=>Walks.strAscii hA _ _ _) (fun _ _ _ _ _ st h=>wpAny_pyIter_striter_ascii st h),⟨_,Ow _ rfl,rfl,rfl⟩,fun b hb=>?_,q⟩
  have e:b=s1.heap.objs.size:=by simpa using hb
  subst e;exact I1.fpOk (Oq _) (I1.hok.fresh (Oq _))
theorem sy{pr:List (Addr×Obj)}{s:Shared}{σ:L2.St}{H:Hp}{p:Addr}{xs:List V}{E:Value->Shared->Prop}{R:Value->Shared->Prop}(hc:X.calm=true)(I:Inv X pr σ H s)(h:SqL X.K H p xs\/SqT X.K H p xs)
  (k:∀(it:Addr) (fp:List Addr) (o:Obj) (us:List Value) (Sx:Nat->Heap->Prop),Vals xs us->Walks X.prog X.w X.A.in1 it fp [it] us.length (fun i v=>us[i]?=some v) Sx->Sx 0 (s.heap.push o)->(∀b∈fp,b<(s.heap.push o).objs.size)->it=s.heap.objs.size->R (.ref it) {s with heap:=s.heap.push o}):
  wpAny (model X.prog X.w) X.A.in1 (pyIter (.ref p)) R E s:=by
 have hh:X.A.in1.handled=none:=I.ok.hd hc;rcases h with h|h
 ·obtain⟨us,r,pl,hz⟩:=I.list h;have DH:p<s.heap.objs.size:=by obtain⟨o,ho,_⟩:=pl.isList;exact Ou ho
  refine PQ pl.isList (k s.heap.objs.size [s.heap.objs.size,p] _ us (fun i h=>h.IsListIter s.heap.objs.size p i/\h.IsList p us.toArray) r (by
   have W:=Walks.list (prog:=X.prog) (w:=X.w) hh s.heap.objs.size p (OC DH) us.toArray;simpa using W) ⟨⟨_,Ow _ rfl,rfl,rfl⟩,pl.isList.at fun o e=>Oi _ e⟩ (fun b hb=>?_) rfl)
  rw[Pa];rcases Ov.mp hb with rfl|hb
  ·exact Pf _
  ·rw[Pb]at hb;rw[hb];exact RS DH
 ·obtain⟨us,r,pl,hz⟩:=I.tuple h;have J2:s.heap.IsTuple p us.toArray:=pl;have DH:p<s.heap.objs.size:=by obtain⟨o,ho,_⟩:=pl;exact Ou ho
  refine PH J2 (k s.heap.objs.size [s.heap.objs.size,p] _ us (fun i h=>h.IsTupleIter s.heap.objs.size p i/\h.IsTuple p us.toArray) r (by
   have W:=Walks.tuple (prog:=X.prog) (w:=X.w) hh s.heap.objs.size p (OC DH) us.toArray;simpa using W) ⟨⟨_,Ow _ rfl,rfl,rfl⟩,J2.at fun o e=>Oi _ e⟩ (fun b hb=>?_) rfl)
  rw[Pa];rcases Ov.mp hb with rfl|hb
  ·exact Pf _
  ·rw[Pb]at hb;rw[hb];exact RS DH
theorem nV{pr:List (Addr×Obj)}{s:Shared}{σ:L2.St}{H:Hp}{o:Obj}{h':Heap}{tk:Nat}(I:Inv X pr σ H s)(kk:∀b ob,b∉[s.heap.objs.size]->(s.heap.push o).get? b=some ob->h'.get? b=some ob):
  Inv X pr σ H {s with heap:=h',toks:=tk}:=I.kept fun b ob e=>kk b ob (fun z=>OC (Ou e) (by simpa using z)) (Oi _ e)
theorem o8{α:Type}(l:List α)(i:Nat)(d:α)(h:i<l.length):l.getD i d=l[i]:=by
 rw[Od,Ol h];rfl
theorem vT{ns:List Int}{us:List Value}(r:Vals (ns.map V.int) us){i:Nat}{v:Value}(h:us[i]?=some v):∃t,v=.int (ns.getD i 0) t:=by
 have hl:=r.length;rw[OI]at hl;obtain⟨hi,_⟩:=Om.mp h;have e1:(ns.map V.int)[i]?=some (.int (ns.getD i 0)):=by
  rw[OG,Ol (by lia),o8 _ _ _ (by lia)];rfl
 obtain⟨u,hu,t,rfl⟩:=r.get e1;rw[h]at hu;exact⟨t,OP hu⟩
def yy(ns:List Int):Int:=ns.foldl max (ns.headD 0)
def A0(ns:List Int):Int:=ns.foldl min (ns.headD 0)
theorem kj(ns:List Int):∀k,k<=ns.length->preSum (fun i=>ns.getD i 0) k=(ns.take k).sum
 | 0,_=>by simp[preSum]
 |k+1,h=>by
  have et:ns.take (k+1)=ns.take k++[ns.getD k 0]:=by
   rw[List.take_add_one,Ol (by lia),o8 _ _ _ (by lia)];rfl
  rw[et,List.sum_append,<-kj ns k (by lia)];simp[preSum]
theorem o9(hc:X.calm=true):d5 X (.builtin "sum") (fun vs H Q=>∃(p:Addr) (ns:List Int),vs=[.ref p]/\(SqL X.K H p (ns.map V.int)\/SqT X.K H p (ns.map V.int))/\Q (.int ns.sum) H):=by
 intro pr s σ H vs us Q I r h;obtain⟨p,ns,rfl,hp,q⟩:=h;obtain⟨u,rfl,r1⟩:=j6 r;cases r1;refine call_sum_walkG (sy hc I hp fun it fp o ws Sx rv W st hf hit=>?_);have hl:=rv.length;rw[OI]at hl;refine⟨it,fp,[it],_,_,Sx,fun i=>ns.getD i 0,rfl,W,st,hf,fun i v hv=>vT rv hv,fun h' tk t' kk=>?_⟩;subst hit;refine⟨.int ns.sum,H,nV (s:=s) I kk,⟨t',?_⟩,q⟩;rw[<-hl,kj ns _ (Oq _),Sa]
end
section
variable{prog:Program}{w:World}{A:Around}{R:Result->Shared->Prop}{it:Addr}{fp wr:List Addr}{n:Nat}{Pv:Nat->Value->Prop}{Sx:Nat->Heap->Prop}{kw:List (Str×Value)}
end
section
variable{X:Cx}{e k:Expr}{te tk:TE}{p pos K8:Pos}
def maxD(ns:List Int)(d:Int):Int:=if ns=[] then d else yy ns
end
section
variable{prog:Program}{w:World}{A:Around}{E:Value->Shared->Prop}{s:Shared}
theorem sH{it t:Addr}{i:Nat}{items:Array Value}{x:Value}{Q:Value->Shared->Prop}(hi:s.heap.IsTupleIter it t i)(ht:s.heap.IsTuple t items)(hx:items[i]?=some x)
  (k:∀h',h'.IsTupleIter it t (i+1)->Heap.SameBut it s.heap h'->Q x {s with heap:=h'}):wpAny (model prog w) A (Builtin.SmallTypes.nextOf (.ref it)) Q E s:=by
 obtain⟨o,ho,oc,od⟩:=id hi;obtain⟨q,hq,_,n,qd⟩:=ht;unfold Builtin.SmallTypes.nextOf;refine Oe (Pq (name:=Str.ofString "__next__") hi.typeIs Qh (Qt Qh hi.typeIs RF ?_ (Rw _)));show wpAny _ _ (field (.ref it) 0 >>= _) _ _ s;refine Oe (PJ ho od (x:=.ref t) rfl ?_);show wpAny _ _ (if(Value.ref t==Value.none)=true then _ else _) _ _ s;rw[OD (fun z:(Value.ref t==Value.none)=true=>OB z)];show wpAny _ _ (field (.ref it) 1 >>= _) _ _ s;refine Oe (PJ ho od (x:=.int i 0) rfl (Oe (Qa hq qd ?_)));simp only[OW,hx];refine Oe (wpAny_setField ho od (by simp) (Ox ⟨x,rfl,Ox (k _ ⟨_,Rj _ ho (Obj.isFreed_of_fields (Obj.data_mapFields od _)),(Obj.cls_mapFields ..).trans oc,?_⟩ (Heap.SameBut.update ..))⟩));rw[Obj.data_mapFields od];simp[rawInt]
theorem vU{it t:Addr}{i:Nat}{items:Array Value}{Q:Value->Shared->Prop}(hh:A.handled=none)(hi:s.heap.IsTupleIter it t i)(ht:s.heap.IsTuple t items)(hx:items[i]?=none)
  (k:∀h' e,Heap.ExtBut it s.heap h'->(∃o,h'.get? e=some o/\o.cls=.type "StopIteration")->E (.ref e) {s with heap:=h'}):wpAny (model prog w) A (Builtin.SmallTypes.nextOf (.ref it)) Q E s:=by
 obtain⟨o,ho,oc,od⟩:=id hi;obtain⟨q,hq,_,n,qd⟩:=ht;unfold Builtin.SmallTypes.nextOf;refine Oe (Pq (name:=Str.ofString "__next__") hi.typeIs Qh (Qt Qh hi.typeIs RF ?_ (Rw _)));show wpAny _ _ (field (.ref it) 0 >>= _) _ _ s;refine Oe (PJ ho od (x:=.ref t) rfl ?_);show wpAny _ _ (if(Value.ref t==Value.none)=true then _ else _) _ _ s;rw[OD (fun z:(Value.ref t==Value.none)=true=>OB z)];show wpAny _ _ (field (.ref it) 1 >>= _) _ _ s;refine Oe (PJ ho od (x:=.int i 0) rfl (Oe (Qa hq qd ?_)));simp only[OW,hx];refine Oe (TJ (Oe (wpAny_setField ho od (by simp) ?_)));show wpAny _ _ (newExc (.type "StopIteration") [] >>= _) _ _ _;refine Oe ?_;simp only[newExc,newTuple];refine Oe (PU (Oe (m:=firstArgMember _ _) (wpAny_of_eq (a:=Value.none) (by first|rfl|(simp only[firstArgMember];rfl)) (PU ?_ (by size_fits)))) (by size_fits));simp only[raiseNew];refine Oe (wpAny_handled ?_);first
  |rw[show A.in1.handled=none from hh]
  |rw[hh]
 exact Oe (Ox (wpAny_throw (k _ _ (((Heap.SameBut.update ..).extBut.push _).push _) ⟨_,Ow _ rfl,rfl⟩)))
def IsIt(k:Bool)(h:Heap)(it l:Addr)(i:Nat):Prop:=match k with
 |true=>h.IsListIter it l i
 |false=>h.IsTupleIter it l i
def IsSq(k:Bool)(h:Heap)(l:Addr)(xs:Array Value):Prop:=match k with
 |true=>h.IsList l xs
 |false=>h.IsTuple l xs
theorem IsIt.at{k:Bool}{h h':Heap}{it l:Addr}{i:Nat}(x:IsIt k h it l i)(e:∀o,h.get? it=some o->h'.get? it=some o):IsIt k h' it l i:=by
 cases k with
 |true=>obtain⟨o,ho,r⟩:=(show h.IsListIter it l i from x);exact(show h'.IsListIter it l i from⟨o,e o ho,r⟩)
 |false=>obtain⟨o,ho,r⟩:=(show h.IsTupleIter it l i from x);exact(show h'.IsTupleIter it l i from⟨o,e o ho,r⟩)
theorem IsSq.at{k:Bool}{h h':Heap}{l:Addr}{xs:Array Value}(x:IsSq k h l xs)(e:∀o,h.get? l=some o->h'.get? l=some o):IsSq k h' l xs:=by
 cases k with
 |true=>obtain⟨o,ho,r⟩:=(show h.IsList l xs from x);exact(show h'.IsList l xs from⟨o,e o ho,r⟩)
 |false=>obtain⟨o,ho,r⟩:=(show h.IsTuple l xs from x);exact(show h'.IsTuple l xs from⟨o,e o ho,r⟩)
theorem IsIt.obj{k:Bool}{h:Heap}{it l:Addr}{i:Nat}(x:IsIt k h it l i):∃o,h.get? it=some o/\∀v,o.data≠.cell v:=by
 cases k with
 |true=>obtain⟨o,ho,_,d⟩:=(show h.IsListIter it l i from x);exact⟨o,ho,fun v z=>by rw[d]at z;cases z⟩
 |false=>obtain⟨o,ho,_,d⟩:=(show h.IsTupleIter it l i from x);exact⟨o,ho,fun v z=>by rw[d]at z;cases z⟩
theorem jo{k:Bool}{it l:Addr}{i:Nat}{xs:Array Value}{x:Value}{Q:Value->Shared->Prop}(hi:IsIt k s.heap it l i)(hl:IsSq k s.heap l xs)(hx:xs[i]?=some x)
  (q:∀h',IsIt k h' it l (i+1)->Heap.SameBut it s.heap h'->Q x {s with heap:=h'}):wpAny (model prog w) A (Builtin.SmallTypes.nextOf (.ref it)) Q E s:=by
 cases k with
 |true=>exact wpAny_nextOf_list_item hi hl hx q
 |false=>exact sH hi hl hx q
theorem pb{k:Bool}{it l:Addr}{i:Nat}{xs:Array Value}{Q:Value->Shared->Prop}(hh:A.handled=none)(hi:IsIt k s.heap it l i)(hl:IsSq k s.heap l xs)(hx:xs[i]?=none)
  (q:∀h' e,Heap.ExtBut it s.heap h'->(∃o,h'.get? e=some o/\o.cls=.type "StopIteration")->E (.ref e) {s with heap:=h'}):wpAny (model prog w) A (Builtin.SmallTypes.nextOf (.ref it)) Q E s:=by
 cases k with
 |true=>exact wpAny_nextOf_list_end hh hi hl hx q
 |false=>exact vU hh hi hl hx q
theorem vV{k1 k2:Bool}{z TI TO i1 i2 l1 l2:Addr}{i:Nat}{xs ys:Array Value}{x y a b:Value}{Q:Value->Shared->Prop}(D:ZipApart z TI TO i1 i2 l1 l2)(hz:IsZip s.heap z TI TO .none)(GH:IsPair s.heap TI (.ref i1) (.ref i2))(Hk:IsPair s.heap TO a b)
  (h1:IsIt k1 s.heap i1 l1 i) (h2:IsIt k2 s.heap i2 l2 i) (g1:IsSq k1 s.heap l1 xs) (g2:IsSq k2 s.heap l2 ys) (hx:xs[i]?=some x) (hy:ys[i]?=some y)
  (q:∀h',IsZip h' z TI TO (rawInt s.heap.objs.size)->IsPair h' TO x y->IsIt k1 h' i1 l1 (i+1)->IsIt k2 h' i2 l2 (i+1)->IsPair h' s.heap.objs.size x y->
   (∀c o,c≠z->c≠TO->c≠i1->c≠i2->s.heap.get? c=some o->h'.get? c=some o)->Q (.ref s.heap.objs.size) {s with heap:=h'}):
  wpAny (model prog w) A (Builtin.«zip.__next__» ⟨[.ref z],[]⟩) (fun fin s'=>∃v,fin=.done (.ret v)/\Q v s') E s:=by
 show wpAny _ _ (field (.ref z) 2 >>= _) _ _ _;refine Oe (PJ hz rfl (x:=.bool false) rfl ?_);show wpAny _ _ (field (.ref z) 3 >>= _) _ _ _;refine Oe (PJ hz rfl (x:=.ref TI) rfl (Oe (Qa GH rfl ?_)));show wpAny _ _ (Builtin.SmallTypes.ownedTupleIsFree (.ref z) >>= _) _ _ _;refine Oe ?_;unfold Builtin.SmallTypes.ownedTupleIsFree;refine Oe (PJ hz rfl (x:=.none) rfl (Ox ?_));rw[Oy (by rfl)];refine Oe (TJ (Oe (PJ hz rfl (x:=.ref TO) rfl (Oe (Qj hz (by simp) fun hA zA sA=>?_)))));have zA:IsZip hA z TI TO .ellipsis:=zA;refine Oe ?_;simp only[Ro,List.zipIdx_nil,SD,SY];refine Oe (Oe (R3 ?_));show wpAny _ _ (Builtin.SmallTypes.nextOf (.ref i1) >>= _) _ _ _;refine Oe (jo (h1.at fun o e=>sA.extBut _ _ D.i1z e) (g1.at fun o e=>sA.extBut _ _ D.l1z e) hx fun hB iB sB=>Ox ?_);have tB:IsPair hB TO a b:=sB.extBut _ _ D.TOi1 (sA.extBut _ _ D.TOz Hk);refine Oe (Qa tB rfl (Oe (Rt tB fun hC tC sC=>Oe (R4 (Ox ?_)))));have tC:IsPair hC TO x b:=tC;refine Oe (Oe (R3 ?_));show wpAny _ _ (Builtin.SmallTypes.nextOf (.ref i2) >>= _) _ _ _;refine Oe (jo (h2.at fun o e=>sC.extBut _ _ D.TOi2.symm (sB.extBut _ _ D.i12.symm (sA.extBut _ _ D.i2z e))) (g2.at fun o e=>sC.extBut _ _ D.l2TO (sB.extBut _ _ D.l2i1 (sA.extBut _ _ D.l2z e))) hy fun hD iD sD=>Ox ?_);have tD:IsPair hD TO x b:=sD.extBut _ _ D.TOi2 tC;refine Oe (Qa tD rfl (Oe (Rt tD fun hE tE sE=>Oe (R4 (Ox (Ox ?_))))));have tE:IsPair hE TO x y:=tE;refine Oe (Qa tE rfl (Oe (wpAny_newTuple ?_)));have ez:hE.objs.size=s.heap.objs.size:=by rw[sE.1,sD.1,sC.1,sB.1,sA.1]
 have zE:IsZip hE z TI TO .ellipsis:=sE.extBut _ _ D.TOz.symm (sD.extBut _ _ D.i2z.symm (sC.extBut _ _ D.TOz.symm (sB.extBut _ _ D.i1z.symm zA)));have kE:∀c o,c≠z->c≠TO->c≠i1->c≠i2->s.heap.get? c=some o->hE.get? c=some o:=fun c o c1 c2 c3 c4 e=>sE.extBut _ _ c2 (sD.extBut _ _ c4 (sC.extBut _ _ c2 (sB.extBut _ _ c3 (sA.extBut _ _ c1 e))))
 have i1E:IsIt k1 hE i1 l1 (i+1):=iB.at fun o e=>sE.extBut _ _ D.TOi1.symm (sD.extBut _ _ D.i12 (sC.extBut _ _ D.TOi1.symm e))
 have i2E:IsIt k2 hE i2 l2 (i+1):=iD.at fun o e=>sE.extBut _ _ D.TOi2.symm e
 show wpAny _ _ (Builtin.SmallTypes.ownedTupleHandOut (.ref z) (.ref hE.objs.size) >>= _) _ _ _;refine Oe ?_;unfold Builtin.SmallTypes.ownedTupleHandOut;have zF:IsZip (hE.push {cls:=.type "tuple",data:=.seq #[x,y]}) z TI TO .ellipsis:=Oi _ zE;refine Oe (Qj zF (by simp) fun hG zG sG=>?_);have zG:IsZip hG z TI TO (rawInt hE.objs.size):=zG;refine Qj zG (by simp) fun hK zK sK=>?_
 have zK:IsZip hK z TI TO (rawInt hE.objs.size):=zK;have up:∀c o,c≠z->hE.get? c=some o->hK.get? c=some o:=fun c o c1 e=>sK.extBut _ _ c1 (sG.extBut _ _ c1 (Oi _ e))
 have nz:hE.objs.size≠z:=Qy (Ou zE);have tK:IsPair hK hE.objs.size x y:=sK.extBut _ _ nz (sG.extBut _ _ nz (Ow _ rfl));rw[ez]at zK tK;refine Ox ⟨_,rfl,?_⟩;show Q (.ref hE.objs.size) _;rw[ez];exact q hK zK (up _ _ D.TOz tE) (i1E.at fun o e=>up _ o D.i1z e) (i2E.at fun o e=>up _ o D.i2z e) tK fun c o c1 c2 c3 c4 e=>up c o c1 (kE c o c1 c2 c3 c4 e)
theorem yz{k1 k2:Bool}{z TI TO i1 i2 l1 l2:Addr}{i:Nat}{xs ys:Array Value}{a b:Value}{Q:Fin->Shared->Prop}(hh:A.handled=none)(D:ZipApart z TI TO i1 i2 l1 l2)(hz:IsZip s.heap z TI TO .none)(GH:IsPair s.heap TI (.ref i1) (.ref i2))(Hk:IsPair s.heap TO a b)
  (h1:IsIt k1 s.heap i1 l1 i) (h2:IsIt k2 s.heap i2 l2 i) (g1:IsSq k1 s.heap l1 xs) (g2:IsSq k2 s.heap l2 ys) (he:xs[i]?=none\/ys[i]?=none)
  (q:∀h' e,(∀c o,c≠z->c≠TO->c≠i1->c≠i2->s.heap.get? c=some o->h'.get? c=some o)->(∃o,h'.get? e=some o/\o.cls=.type "StopIteration")->E (.ref e) {s with heap:=h'}):
  wpAny (model prog w) A (Builtin.«zip.__next__» ⟨[.ref z],[]⟩) Q E s:=by
 show wpAny _ _ (field (.ref z) 2 >>= _) _ _ _;refine Oe (PJ hz rfl (x:=.bool false) rfl ?_);show wpAny _ _ (field (.ref z) 3 >>= _) _ _ _;refine Oe (PJ hz rfl (x:=.ref TI) rfl (Oe (Qa GH rfl ?_)));show wpAny _ _ (Builtin.SmallTypes.ownedTupleIsFree (.ref z) >>= _) _ _ _;refine Oe ?_;unfold Builtin.SmallTypes.ownedTupleIsFree;refine Oe (PJ hz rfl (x:=.none) rfl (Ox ?_));rw[Oy (by rfl)];refine Oe (TJ (Oe (PJ hz rfl (x:=.ref TO) rfl (Oe (Qj hz (by simp) fun hA zA sA=>?_)))));have zA:IsZip hA z TI TO .ellipsis:=zA;refine Oe ?_;simp only[Ro,List.zipIdx_nil,SD,SY];refine Oe (Oe (R3 ?_));show wpAny _ _ (Builtin.SmallTypes.nextOf (.ref i1) >>= _) _ _ _;cases hx:xs[i]? with
 |none=>
  refine Oe (pb hh (h1.at fun o e=>sA.extBut _ _ D.i1z e) (g1.at fun o e=>sA.extBut _ _ D.l1z e) hx fun hB e sB Dl=>?_);obtain⟨oe,ge,ce⟩:=Dl;have zB:IsZip hB z TI TO .ellipsis:=sB _ _ D.i1z.symm zA;have ne:e≠z:=fun x=>by subst x;rw[zB]at ge;cases ge;simp at ce
  exact Qj zB (by simp) fun hC _ sC=>q hC e (fun c o c1 _ c3 _ x=>sC.extBut _ _ c1 (sB _ _ c3 (sA.extBut _ _ c1 x))) ⟨oe,sC.extBut _ _ ne ge,ce⟩
 |some x=>
  have hy:ys[i]?=none:=by
   rcases he with z|z
   ·rw[hx]at z;cases z
   ·exact z
  refine Oe (jo (h1.at fun o e=>sA.extBut _ _ D.i1z e) (g1.at fun o e=>sA.extBut _ _ D.l1z e) hx fun hB iB sB=>Ox ?_);have tB:IsPair hB TO a b:=sB.extBut _ _ D.TOi1 (sA.extBut _ _ D.TOz Hk);refine Oe (Qa tB rfl (Oe (Rt tB fun hC tC sC=>Oe (R4 (Ox ?_)))));refine Oe (Oe (R3 ?_));show wpAny _ _ (Builtin.SmallTypes.nextOf (.ref i2) >>= _) _ _ _;refine Oe (pb hh (h2.at fun o e=>sC.extBut _ _ D.TOi2.symm (sB.extBut _ _ D.i12.symm (sA.extBut _ _ D.i2z e))) (g2.at fun o e=>sC.extBut _ _ D.l2TO (sB.extBut _ _ D.l2i1 (sA.extBut _ _ D.l2z e))) hy fun hD e sD Dl=>?_);obtain⟨oe,ge,ce⟩:=Dl;have zD:IsZip hD z TI TO .ellipsis:=sD _ _ D.i2z.symm (sC.extBut _ _ D.TOz.symm (sB.extBut _ _ D.i1z.symm zA));have ne:e≠z:=fun x=>by subst x;rw[zD]at ge;cases ge;simp at ce
  exact Qj zD (by simp) fun hF _ sF=>q hF e (fun c o c1 c2 c3 c4 x=>sF.extBut _ _ c1 (sD _ _ c4 (sC.extBut _ _ c2 (sB.extBut _ _ c3 (sA.extBut _ _ c1 x))))) ⟨oe,sF.extBut _ _ ne ge,ce⟩
end
def itObj(k:Bool)(l:Addr):Obj:=match k with
 |true=>{cls:=.type "list_iterator",data:=.fields #[.ref l,.int 0 0]}
 |false=>{cls:=.type "tuple_iterator",data:=.fields #[.ref l,.int 0 0]}
theorem jq(k:Bool)(h:Heap)(l:Addr):IsIt k (h.push (itObj k l)) h.objs.size l 0:=by
 cases k with
 |true=>exact⟨_,Ow _ rfl,rfl,rfl⟩
 |false=>exact⟨_,Ow _ rfl,rfl,rfl⟩
abbrev zA(h:Heap)(k1:Bool)(l1:Addr):Heap:=h.push (itObj k1 l1)
abbrev zB(h:Heap)(k1 k2:Bool)(l1 l2:Addr):Heap:=(zA h k1 l1).push (itObj k2 l2)
abbrev zC(h:Heap)(k1 k2:Bool)(l1 l2:Addr):Heap:=(zB h k1 k2 l1 l2).push {cls:=.type "tuple",data:=.seq #[.ref h.objs.size,.ref (zA h k1 l1).objs.size]}
abbrev zD(h:Heap)(k1 k2:Bool)(l1 l2:Addr):Heap:=(zC h k1 k2 l1 l2).push {cls:=.type "tuple",data:=.seq #[.none,.none]}
abbrev zE(h:Heap)(k1 k2:Bool)(l1 l2:Addr):Heap:=(zD h k1 k2 l1 l2).push {cls:=.type "zip",data:=.fields #[.none,.bool false,.bool false,.ref (zB h k1 k2 l1 l2).objs.size,.ref (zC h k1 k2 l1 l2).objs.size]}
set_option maxHeartbeats 8000000 in
theorem yA(k1 k2:Bool)(l1 l2:Addr)(xs ys:Array Value):
  Meets (Builtin.«zip.__new__» ⟨[.type "zip",.ref l1,.ref l2],[]⟩) (fun _ R s=>IsSq k1 s.heap l1 xs/\IsSq k2 s.heap l2 ys/\R (.ok (.ret (.ref (zD s.heap k1 k2 l1 l2).objs.size))) {s with heap:=zE s.heap k1 k2 l1 l2}):=
 .of_wp fun prog w A R s h=>by
  obtain⟨hp,g,d,tk,os⟩:=s;obtain⟨g1,g2,q⟩:=h;have hsub:=sub_zip;cases k1 with
  |true=>
   have e1:Heap.IsList (Shared.heap ⟨hp,g,d,tk,os⟩) l1 xs:=g1;cases k2 with
   |true=>
    have e2:Heap.IsList (Shared.heap ⟨hp.push {cls:=.type "list_iterator",data:=.fields #[.ref l1,.int 0 0]},g,d,tk,os⟩) l2 ys:=Heap.IsList.push g2 _
    wp_walk using PQ e1,PQ e2
    exact⟨_,rfl,q⟩
   |false=>
    have e2:Heap.IsTuple (Shared.heap ⟨hp.push {cls:=.type "list_iterator",data:=.fields #[.ref l1,.int 0 0]},g,d,tk,os⟩) l2 ys:=Heap.IsTuple.push g2 _
    wp_walk using PQ e1,PH e2
    exact⟨_,rfl,q⟩
  |false=>
   have e1:Heap.IsTuple (Shared.heap ⟨hp,g,d,tk,os⟩) l1 xs:=g1;cases k2 with
   |true=>
    have e2:Heap.IsList (Shared.heap ⟨hp.push {cls:=.type "tuple_iterator",data:=.fields #[.ref l1,.int 0 0]},g,d,tk,os⟩) l2 ys:=Heap.IsList.push g2 _
    wp_walk using PH e1,PQ e2
    exact⟨_,rfl,q⟩
   |false=>
    have e2:Heap.IsTuple (Shared.heap ⟨hp.push {cls:=.type "tuple_iterator",data:=.fields #[.ref l1,.int 0 0]},g,d,tk,os⟩) l2 ys:=Heap.IsTuple.push g2 _
    wp_walk using PH e1,PH e2
    exact⟨_,rfl,q⟩
def ZS(k1 k2:Bool)(z TI TO i1 i2 l1 l2:Addr)(i:Nat)(h:Heap):Prop:=IsZip h z TI TO .none/\IsPair h TI (.ref i1) (.ref i2)/\(∃a b,IsPair h TO a b)/\IsIt k1 h i1 l1 i/\IsIt k2 h i2 l2 i
theorem vW{prog:Program}{w:World}{A:Around}{E:Value->Shared->Prop}{s:Shared}{k1 k2:Bool}{l1 l2:Addr}{xs ys:Array Value}{Q:Value->Shared->Prop}(g1:IsSq k1 s.heap l1 xs)(g2:IsSq k2 s.heap l2 ys)
  (q:∀h',ZS k1 k2 (s.heap.objs.size+4) (s.heap.objs.size+2) (s.heap.objs.size+3) s.heap.objs.size (s.heap.objs.size+1) l1 l2 0 h'->(∀c o,s.heap.get? c=some o->h'.get? c=some o)->Q (.ref (s.heap.objs.size+4)) {s with heap:=h'}):
  wpAny (model prog w) A (call (.type "zip") [.ref l1,.ref l2]) Q E s:=by
 refine callType_new F.called_zip (by decide) (F.typeCall_zip_2 _ _) (F.newCall_zip_2 _ _) (fun obj=>F.args_object_init_3 obj _ _) F.entry_zip_new (yA k1 k2 l1 l2 xs ys) ⟨g1,g2,?_⟩;have nA:(zA s.heap k1 l1).objs.size=s.heap.objs.size+1:=Pa ..;have nB:(zB s.heap k1 k2 l1 l2).objs.size=s.heap.objs.size+2:=by rw[Pa,nA]
 have nC:(zC s.heap k1 k2 l1 l2).objs.size=s.heap.objs.size+3:=by rw[Pa,nB]
 have nD:(zD s.heap k1 k2 l1 l2).objs.size=s.heap.objs.size+4:=by rw[Pa,nC]
 have pu:∀{h:Heap}{o:Obj}{c:Addr}{v:Obj},h.get? c=some v->(h.push o).get? c=some v:=fun e=>Oi _ e
 have gz:(zE s.heap k1 k2 l1 l2).get? (zD s.heap k1 k2 l1 l2).objs.size=some _:=Ow _ rfl;have go:(zE s.heap k1 k2 l1 l2).get? (zC s.heap k1 k2 l1 l2).objs.size=some _:=pu (Ow _ rfl);have gi:(zE s.heap k1 k2 l1 l2).get? (zB s.heap k1 k2 l1 l2).objs.size=some _:=pu (pu (Ow _ rfl));have j2:IsIt k2 (zE s.heap k1 k2 l1 l2) (zA s.heap k1 l1).objs.size l2 0:=(jq k2 (zA s.heap k1 l1) l2).at fun o e=>pu (pu (pu e))
 have j1:IsIt k1 (zE s.heap k1 k2 l1 l2) s.heap.objs.size l1 0:=(jq k1 s.heap l1).at fun o e=>pu (pu (pu (pu e)))
 show _/\_;rw[nB,nC,nD]at gz;rw[nA,nB]at gi;rw[nC]at go;rw[nA]at j2;rw[nD];exact⟨⟨_,gz,rfl⟩,q _ ⟨gz,gi,⟨_,_,go⟩,j1,j2⟩ fun c o x=>pu (pu (pu (pu (pu x))))⟩
noncomputable def MW(K:W.Frag)(k1 k2:Bool)(a b:Addr):It:=
 ⟨fun i H=>∃xs ys x y,(if k1 then SqL K H a xs else SqT K H a xs)/\(if k2 then SqL K H b ys else SqT K H b ys)/\xs[i]?=some x/\ys[i]?=some y,
  fun i H v H'=>∃T,H T=none/\v=.ref T/\∀xs ys x y,(if k1 then SqL K H a xs else SqT K H a xs)->(if k2 then SqL K H b ys else SqT K H b ys)->xs[i]?=some x->ys[i]?=some y->H'=upd H T (.tup [x,y]),
  fun i H=>∃xs ys,(if k1 then SqL K H a xs else SqT K H a xs)/\(if k2 then SqL K H b ys else SqT K H b ys)/\i=min xs.length ys.length⟩
section
variable{X:Cx}{pr:List (Addr×Obj)}{σ:L2.St}{H:Hp}{s:Shared}
theorem jr(I:Inv X pr σ H s){k:Bool}{a:Addr}{xs:List V}(h:if k then SqL X.K H a xs else SqT X.K H a xs):∃us:List Value,Vals xs us/\IsSq k s.heap a us.toArray:=by
 cases k with
 |true=>
  obtain⟨us,r,p,_⟩:=I.list (show SqL X.K H a xs from h);exact⟨us,r,p.isList⟩
 |false=>
  obtain⟨us,r,p,_⟩:=I.tuple (show SqT X.K H a xs from h);exact⟨us,r,(show s.heap.IsTuple a us.toArray from p)⟩
theorem pd(I:Inv X pr σ H s){k:Bool}{a:Addr}{xs ys:List V}(h:if k then SqL X.K H a xs else SqT X.K H a xs)(h':if k then SqL X.K H a ys else SqT X.K H a ys):xs=ys:=by
 cases k with
 |true=>exact I.list_inj (show SqL X.K H a xs from h) (show SqL X.K H a ys from h')
 |false=>exact I.tuple_inj (show SqT X.K H a xs from h) (show SqT X.K H a ys from h')
theorem dy(I:Inv X pr σ H s){k:Bool}{a b:Addr}{xs:List V}(h:if k then SqL X.K H a xs else SqT X.K H a xs)(f:j4 X pr H b):a≠b:=by
 rintro rfl;obtain⟨f0,_,_,f3,_⟩:=f;have nb:∀o,X.K.lookup a=some o->False:=fun o hk=>by
  have e:=I.ok.mod.kin a o hk;rcases f3 with z|z
  ·exact I.ok.noex a o e z
  ·exact absurd (Ot (Ou e) (OF I.ok.bsz z)) (Py _)
 cases k with
 |true=>
  rcases(show SqL X.K H a xs from h) with(h|⟨o,h⟩)|⟨o,C3,n,hk,_⟩
  ·rw[f0]at h;cases h
  ·rw[f0]at h;cases h
  ·exact nb o hk
 |false=>
  rcases(show SqT X.K H a xs from h) with(h|⟨o,h⟩)|⟨o,C3,n,hk,_⟩
  ·rw[f0]at h;cases h
  ·rw[f0]at h;cases h
  ·exact nb o hk
end
theorem nx_zip_item{prog:Program}{w:World}{A:Around}{E:Value->Shared->Prop}{s:Shared}{k1 k2:Bool}{z TI TO i1 i2 l1 l2:Addr}{i:Nat}{xs ys:Array Value}{x y:Value}{Q:Option Value->Shared->Prop}(D:ZipApart z TI TO i1 i2 l1 l2)(st:ZS k1 k2 z TI TO i1 i2 l1 l2 i s.heap)
  (g1:IsSq k1 s.heap l1 xs) (g2:IsSq k2 s.heap l2 ys) (hx:xs[i]?=some x) (hy:ys[i]?=some y)
  (q:∀h',IsZip h' z TI TO (rawInt s.heap.objs.size)->IsPair h' TO x y->IsIt k1 h' i1 l1 (i+1)->IsIt k2 h' i2 l2 (i+1)->IsPair h' s.heap.objs.size x y->
   (∀c o,c≠z->c≠TO->c≠i1->c≠i2->s.heap.get? c=some o->h'.get? c=some o)->Q (some (.ref s.heap.objs.size)) {s with heap:=h'}):wpAny (model prog w) A (pyNext (.ref z)) Q E s:=by
 obtain⟨hz,GH,⟨a,b,Hk⟩,h1,h2⟩:=st;have ty:s.TypeIs (.ref z) "zip":=⟨_,hz,rfl⟩
 unfold pyNext;exact Oe (wpAny_attempt (Pq (name:=Str.ofString "__next__") ty RG (Qt RG ty F.entry_zip_next (vV D hz GH Hk h1 h2 g1 g2 hx hy fun h' a1 a2 a3 a4 a5 a6=>Ox (q h' a1 a2 a3 a4 a5 a6)) (F.args_zip_next_1 _))))
theorem nW{prog:Program}{w:World}{A:Around}{E:Value->Shared->Prop}{s:Shared}{k1 k2:Bool}{z TI TO i1 i2 l1 l2:Addr}{i:Nat}{xs ys:Array Value}{Q:Option Value->Shared->Prop}(hh:A.handled=none)(D:ZipApart z TI TO i1 i2 l1 l2)(st:ZS k1 k2 z TI TO i1 i2 l1 l2 i s.heap)
  (g1:IsSq k1 s.heap l1 xs) (g2:IsSq k2 s.heap l2 ys) (he:xs[i]?=none\/ys[i]?=none) (q:∀h',(∀c o,c≠z->c≠TO->c≠i1->c≠i2->s.heap.get? c=some o->h'.get? c=some o)->Q none {s with heap:=h'}):wpAny (model prog w) A (pyNext (.ref z)) Q E s:=by
 obtain⟨hz,GH,⟨a,b,Hk⟩,h1,h2⟩:=st;have ty:s.TypeIs (.ref z) "zip":=⟨_,hz,rfl⟩
 unfold pyNext;refine Oe (wpAny_attempt (Pq (name:=Str.ofString "__next__") ty RG (Qt RG ty F.entry_zip_next (yz hh D hz GH Hk h1 h2 g1 g2 he fun h' e kk ⟨o,ho,oc⟩=>?_) (F.args_zip_next_1 _))));exact Oe (wpAny_isInstance (T:="StopIteration") (b:=true) ⟨o,ho,oc⟩ isSubtype_stop (Ox (q _ kk)))
theorem sI{P:Program}{w:World}{K:W.Frag}{es:List Expr}{kt:Nat}{pt:Pos}(k1 k2:Bool)(a b z TI TO i1 i2:Addr)(ne:z≠TI/\z≠TO/\z≠i1/\z≠i2/\TI≠TO/\TI≠i1/\TI≠i2/\TO≠i1/\TO≠i2/\i1≠i2):
  Turn P w K (.Tuple es kt pt) (MW K k1 k2 a b) [z,TI,TO,i1,i2] z (ZS k1 k2 z TI TO i1 i2 a b) where
 mem:=by simp
 obj:=fun i h st c hc=>by
  obtain⟨hz,GH,⟨x,y,Hk⟩,h1,h2⟩:=st;simp only[Ov,Pg,Rx]at hc;rcases hc with rfl|rfl|rfl|rfl|rfl
  ·exact⟨_,hz,fun v q=>by cases q⟩
  ·exact⟨_,GH,fun v q=>by cases q⟩
  ·exact⟨_,Hk,fun v q=>by cases q⟩
  ·exact h1.obj
  ·exact h2.obj
 keep:=fun i h h' st k=>by
  obtain⟨hz,GH,⟨x,y,Hk⟩,h1,h2⟩:=st;exact⟨k z (by simp) _ hz,k TI (by simp) _ GH,⟨x,y,k TO (by simp) _ Hk⟩,h1.at fun o e=>k i1 (by simp) o e,h2.at fun o e=>k i2 (by simp) o e⟩
 item:=by
  intro X hP hw hK hc i pr s σ H E I hf st hg;subst hP hw hK;obtain⟨xs,ys,x,y,s1,s2,hx,hy⟩:=hg;obtain⟨us,r1,q1⟩:=jr I s1;obtain⟨ws,r2,q2⟩:=jr I s2;obtain⟨u,hu,ru⟩:=r1.get hx;obtain⟨v,hv,rv⟩:=r2.get hy;obtain⟨n1,n2,n3,n4,n5,n6,n7,n8,n9,MX⟩:=ne;have f:=fun c hc=>hf c hc
  have D:ZipApart z TI TO i1 i2 a b:=⟨n1.symm,n2.symm,n3.symm,n4.symm,n5,n6,n7,n8,n9,MX,dy I s1 (f z (by simp)),dy I s1 (f TO (by simp)),dy I s1 (f i1 (by simp)),dy I s1 (f i2 (by simp)),
   dy I s2 (f z (by simp)),dy I s2 (f TO (by simp)),dy I s2 (f i1 (by simp)),dy I s2 (f i2 (by simp))⟩
  have GH:=st.2.1;refine nx_zip_item D st q1 q2 (by simpa using hu) (by simpa using hv) fun h' z1 t1 j1 j2 tp kk=>⟨_,rfl,?_⟩
  refine wpAny_letOwnedTupleGo_zip z1 fun h2 z2 sb=>?_
  have nT:H s.heap.objs.size=none:=I.hok.fresh (Oq _);have tT:s.heap.objs.size≠z:=Qy (Ou st.1);have all:∀c o,c≠z->c≠TO->c≠i1->c≠i2->s.heap.get? c=some o->h2.get? c=some o:=fun c o c1 c2 c3 c4 e=>(sb.2 c c1).trans (kk c o c1 c2 c3 c4 e)
  have fz:=f z (by simp);have fo:=f TO (by simp);have f1:=f i1 (by simp);have f2:=f i2 (by simp);have GI:∀c ob,H c=some ob->c≠z/\c≠TO/\c≠i1/\c≠i2:=fun c ob e=>⟨(fun q=>by rw[q,fz.1]at e;cases e),(fun q=>by rw[q,fo.1]at e;cases e),(fun q=>by rw[q,f1.1]at e;cases e),(fun q=>by rw[q,f2.1]at e;cases e)⟩
  refine⟨.ref s.heap.objs.size,upd H s.heap.objs.size (.tup [x,y]),?_,rfl,⟨_,nT,rfl,fun DS ys' x' y' a1 a2 a3 a4=>?_⟩,⟨z2,?_,⟨u,v,(sb.2 TO n2.symm).trans t1⟩,j1.at fun o e=>(sb.2 i1 n3.symm).trans e,j2.at fun o e=>(sb.2 i2 n4.symm).trans e⟩,fun c hc=>?_⟩
  ·have J4:h2.get? s.heap.objs.size=some {cls:=.type "tuple",data:=.seq #[u,v]}:=(sb.2 _ tT).trans tp;have S0:Inv X pr σ (upd H s.heap.objs.size (.tup [x,y])) {s with heap:=h2,gens:=s.gens,drawn:=s.drawn,toks:=s.toks}:=by
    refine I.step (ch:=[z,TO,i1,i2]) (fun c hc=>?_) (fun c o _ _ nc e _=>all c o (fun q=>nc (by simp[q])) (fun q=>nc (by simp[q])) (fun q=>nc (by simp[q])) (fun q=>nc (by simp[q])) e)
     (fun c o _ _ nc e _=>⟨o.slots,all c o (fun q=>nc (by simp[q])) (fun q=>nc (by simp[q])) (fun q=>nc (by simp[q])) (fun q=>nc (by simp[q])) e⟩) (fun c o _ e n=>by rw[ai (OC (Ou e))];exact n)
     (fun c o nc e=>⟨o,all c o (fun q=>nc (by simp[q])) (fun q=>nc (by simp[q])) (fun q=>nc (by simp[q])) (fun q=>nc (by simp[q])) e⟩) (fun c l e=>by rw[ai (aA e nT)];exact e) (fun c o u' e=>by rw[ai (aA e nT)];exact e)
     (fun c ps e=>⟨#[],by rw[ai (aA e nT),e];simp⟩) (fun m hm=>?_) (fun c ob e=>?_) I.bare
    ·simp only[Ov,Pg,Rx]at hc;rcases hc with rfl|rfl|rfl|rfl
     ·exact⟨fz.2.2.2.1,fz.2.1,fz.2.2.2.2.1,fz.2.2.2.2.2⟩
     ·exact⟨fo.2.2.2.1,fo.2.1,fo.2.2.2.2.1,fo.2.2.2.2.2⟩
     ·exact⟨f1.2.2.2.1,f1.2.1,f1.2.2.2.2.1,f1.2.2.2.2.2⟩
     ·exact⟨f2.2.2.2.1,f2.2.1,f2.2.2.2.2.1,f2.2.2.2.2.2⟩
    ·obtain⟨o,es,ep,ho,r⟩:=hm;exact⟨o,es,ep,all _ o (Qb fz.2.1) (Qb fo.2.1) (Qb f1.2.1) (Qb f2.2.1) ho,r⟩
    ·by_cases ec:c=s.heap.objs.size
     ·subst ec;rw[aw]at e;cases e;exact⟨by simp only[OA,P1];rw[QU];decide,[u,v],.cons ru (.cons rv .nil),⟨_,J4,rfl,⟨0,rfl⟩,rfl⟩⟩
     ·rw[ai ec]at e;refine(I.hok c ob e).stay (fun d w' hd q=>?_) (fun d q=>by rw[ai (aA q nT)];exact q) fun d l q=>by rw[ai (aA q nT)];exact q
      have Iy:∃oo,H d=some oo:=by
       rcases hd with rfl|hd
       ·exact⟨_,e⟩
       ·exact⟨_,hd⟩
      obtain⟨oo,J5⟩:=Iy;obtain⟨m1,m2,m3,m4⟩:=GI d oo J5;exact all d w' m1 m2 m3 m4 q
   exact S0
  ·have e1:=pd I a1 s1;have e2:=pd I a2 s2;subst e1 e2;rw[hx]at a3;rw[hy]at a4;cases a3;cases a4;rfl
  ·exact(sb.2 TI n1.symm).trans (kk TI _ n1.symm n5 n6 n7 GH)
  ·have hc0:=(f c hc).1;have cs:c≠s.heap.objs.size:=by
    have:=(fun i h st=>by
     exact(by
      obtain⟨hz,GH,⟨x,y,Hk⟩,h1,h2⟩:=st;simp only[Ov,Pg,Rx]at hc;rcases hc with rfl|rfl|rfl|rfl|rfl
      ·exact⟨_,hz⟩
      ·exact⟨_,GH⟩
      ·exact⟨_,Hk⟩
      ·obtain⟨o,e,_⟩:=h1.obj;exact⟨o,e⟩
      ·obtain⟨o,e,_⟩:=h2.obj;exact⟨o,e⟩:∃o,h.get? c=some o):∀i h,ZS k1 k2 z TI TO i1 i2 a b i h->∃o,h.get? c=some o) i s.heap st
    obtain⟨o,e⟩:=this;exact OC (Ou e)
   rw[ai cs];exact hc0
 done:=by
  intro X hP hw hK hc i pr s σ H E I hf st hg;subst hP hw hK;obtain⟨xs,ys,s1,s2,hi⟩:=hg;obtain⟨us,r1,q1⟩:=jr I s1;obtain⟨ws,r2,q2⟩:=jr I s2;have l1:=r1.length;have l2:=r2.length;obtain⟨n1,n2,n3,n4,n5,n6,n7,n8,n9,MX⟩:=ne;have f:=fun c hc=>hf c hc
  have D:ZipApart z TI TO i1 i2 a b:=⟨n1.symm,n2.symm,n3.symm,n4.symm,n5,n6,n7,n8,n9,MX,dy I s1 (f z (by simp)),dy I s1 (f TO (by simp)),dy I s1 (f i1 (by simp)),dy I s1 (f i2 (by simp)),
   dy I s2 (f z (by simp)),dy I s2 (f TO (by simp)),dy I s2 (f i1 (by simp)),dy I s2 (f i2 (by simp))⟩
  have fz:=f z (by simp);have fo:=f TO (by simp);have f1:=f i1 (by simp);have f2:=f i2 (by simp);refine nW (I.ok.hd hc) D st q1 q2 (by
   rcases Nat.le_total us.length ws.length with q|q
   ·exact .inl (by simp;lia)
   ·exact .inr (by simp;lia)) fun h' kk=>⟨rfl,?_⟩
  have GI:∀c ob,H c=some ob->c≠z/\c≠TO/\c≠i1/\c≠i2:=fun c ob e=>⟨(fun q=>by rw[q,fz.1]at e;cases e),(fun q=>by rw[q,fo.1]at e;cases e),(fun q=>by rw[q,f1.1]at e;cases e),(fun q=>by rw[q,f2.1]at e;cases e)⟩
  have S0:Inv X pr σ H {s with heap:=h',gens:=s.gens,drawn:=s.drawn,toks:=s.toks}:=by
   refine I.step (ch:=[z,TO,i1,i2]) (fun c hc=>?_) (fun c o _ _ nc e _=>kk c o (fun q=>nc (by simp[q])) (fun q=>nc (by simp[q])) (fun q=>nc (by simp[q])) (fun q=>nc (by simp[q])) e)
    (fun c o _ _ nc e _=>⟨o.slots,kk c o (fun q=>nc (by simp[q])) (fun q=>nc (by simp[q])) (fun q=>nc (by simp[q])) (fun q=>nc (by simp[q])) e⟩) (fun c o _ e n=>n)
    (fun c o nc e=>⟨o,kk c o (fun q=>nc (by simp[q])) (fun q=>nc (by simp[q])) (fun q=>nc (by simp[q])) (fun q=>nc (by simp[q])) e⟩) (fun c l e=>e) (fun c o u' e=>e)
    (fun c ps e=>⟨#[],by rw[e];simp⟩) (fun m hm=>?_) (fun c ob e=>?_) I.bare
   ·simp only[Ov,Pg,Rx]at hc;rcases hc with rfl|rfl|rfl|rfl
    ·exact⟨fz.2.2.2.1,fz.2.1,fz.2.2.2.2.1,fz.2.2.2.2.2⟩
    ·exact⟨fo.2.2.2.1,fo.2.1,fo.2.2.2.2.1,fo.2.2.2.2.2⟩
    ·exact⟨f1.2.2.2.1,f1.2.1,f1.2.2.2.2.1,f1.2.2.2.2.2⟩
    ·exact⟨f2.2.2.2.1,f2.2.1,f2.2.2.2.2.1,f2.2.2.2.2.2⟩
   ·obtain⟨o,es,ep,ho,r⟩:=hm;exact⟨o,es,ep,kk _ o (Qb fz.2.1) (Qb fo.2.1) (Qb f1.2.1) (Qb f2.2.1) ho,r⟩
   ·refine(I.hok c ob e).stay (fun d w' hd q=>?_) (fun d q=>q) fun d l q=>q
    have Iy:∃oo,H d=some oo:=by
     rcases hd with rfl|hd
     ·exact⟨_,e⟩
     ·exact⟨_,hd⟩
    obtain⟨oo,J5⟩:=Iy;obtain⟨m1,m2,m3,m4⟩:=GI d oo J5;exact kk d w' m1 m2 m3 m4 q
  exact S0
 self:=fun _ _ _ _ _ st h=>wpAny_pyIter_zip st.1 h
section
variable{X:Cx}{es:List Expr}{kt:Nat}{pt:Pos}
def Cw(K:W.Frag)(k1 k2:Bool)(ta:TA):TI:=fun σ H R=>ta σ H fun vs H1=>∃a b xs ys,vs=[.ref a,.ref b]/\(if k1 then SqL K H1 a xs else SqT K H1 a xs)/\(if k2 then SqL K H1 b ys else SqT K H1 b ys)/\R (MW K k1 k2 a b) H1
theorem yB(k1 k2:Bool){e1 e2:Expr}{ta:TA}{p pos:Pos}(hg:Gl X "zip")(hm:X.mg "zip" = none)(ha:PA X [e1,e2] ta)(he:starEach [e1,e2] X.env=(false,eval e1 X.env)::starEach [e2] X.env:=by rfl)(Es:(backTo pos (starEach [e2] X.env)).any (·.1)=false:=by rfl):
  PI X (.Tuple es kt pt) (.Call (.Name "zip" p) [e1,e2] [] pos) (Cw X.K k1 k2 ta):=by
 intro pr s σ H R I h;refine P5 (gH I hg hm (by decide +kernel:bootBuiltins "zip" = some (.type "zip")) ?_ (by decide) (by decide));refine Pm (Dn (ha pos pr s σ H _ I h) fun us s1 ⟨vs,H1,I1,r1,a,b,xs,ys,e,MY,s2',q⟩=>?_) he Es;subst e;obtain⟨u,w',rfl,ra,rb⟩:=yf r1;cases ra;cases rb;obtain⟨us,v1,q1⟩:=jr I1 MY;obtain⟨ws,v2,q2⟩:=jr I1 s2';refine vW q1 q2 fun h' st kk=>?_
 refine wpAny_pyIter_zip st.1 ?_;have fr:∀j,j4 X pr H1 (s1.heap.objs.size+j):=fun j=>I1.fpOk (Rp _ _) (I1.hok.fresh (Rp _ _))
 have nn:∀i j:Nat,i≠j->s1.heap.objs.size+i≠s1.heap.objs.size+j:=fun i j h z=>h (S6 z)
 refine⟨_,_,_,_,H1,rfl,I1.kept (t':=s1.toks) kk,sI k1 k2 a b (s1.heap.objs.size+4) (s1.heap.objs.size+2) (s1.heap.objs.size+3) (s1.heap.objs.size+0) (s1.heap.objs.size+1)
  ⟨nn 4 2 (by decide),nn 4 3 (by decide),nn 4 0 (by decide),nn 4 1 (by decide),nn 2 3 (by decide),nn 2 0 (by decide),nn 2 1 (by decide),nn 3 0 (by decide),nn 3 1 (by decide),nn 0 1 (by decide)⟩,st,fun c hc=>?_,q⟩
 simp only[Ov,Pg,Rx]at hc;rcases hc with rfl|rfl|rfl|rfl|rfl
 ·exact fr 4
 ·exact fr 2
 ·exact fr 3
 ·exact fr 0
 ·exact fr 1
end
end NX
namespace NX
open PySem PySem.W PyProof.Rows
section
variable{n:Nat}{O:KeyOrd}{κ:Nat->O.α}{cmp:Nat->Nat->(Bool->Shared->Prop)->Shared->Prop}{Good:Shared->Prop}
def kk(κ:Nat->O.α)(p:Array Nat)(i:Nat):O.α:=κ (p.getD i 0)
structure POk(n:Nat)(p:Array Nat):Prop where
 perm:p.toList.Perm (List.range n)
theorem POk.size{p:Array Nat}(h:POk n p):p.size=n:=by
 have:=h.perm.length_eq;simpa using this
theorem POk.lt{p:Array Nat}(h:POk n p){i:Nat}(hi:i<n):p.getD i 0<n:=by
 have hs:=h.size;have NL:i<p.size:=by lia
 have e:p.getD i 0=p[i]:=by simp[Array.getD,NL]
 rw[e];exact PD.mp (h.perm.mem_iff.mp (Array.getElem_mem_toList NL))
variable(hc:∀i j,i<n->j<n->∀(Q:Bool->Shared->Prop) s,Good s->(∀s',Good s'->Q (O.blt (κ i) (κ j)) s')->cmp i j Q s)
include hc
end
end NX
namespace NX
open PySem PySem.W PySem.Spec PyProof.Rows L2
section
variable{prog:Program}{w:World}{A:Around}{E:Value->Shared->Prop}{s:Shared}
end
def intO:KeyOrd where
 α:=Int
 blt a b:=decide (a<b)
 irrefl a:=by simp
 trans a b c h1 h2:=by simp only[OR] at *;lia
 negTrans a b c h:=by simp only[OR] at *;lia
 total a b h1 h2:=by simp only[R5] at *;lia
noncomputable def A1:KeyOrd where
 α:=Key
 blt a b:=match a,b with
  | .inl i,.inl j=>decide (i<j)
  | .inr x,.inr y=>decide (x.cps.toList<y.cps.toList)
  | .inl _,.inr _=>true
  | .inr _,.inl _=>false
 irrefl a:=by
  cases a with
  |inl i=>simp
  |inr x=>simpa using List.lt_irrefl x.cps.toList
 trans a b c h1 h2:=by
  cases a <;> cases b <;> cases c <;> simp_all
  ·lia
  ·exact List.lt_trans h1 h2
 negTrans a b c h:=by
  cases a <;> cases b <;> cases c <;> simp_all
  ·lia
  ·rename_i x y z;by_cases q:x.cps.toList<y.cps.toList
   ·exact .inl q
   ·exact .inr (List.lt_of_le_of_lt (Um.mp q) h)
 total a b h1 h2:=by
  cases a <;> cases b <;> simp_all
  ·lia
  ·rename_i x y;have e:x.cps.toList=y.cps.toList:=List.le_antisymm (by first|exact h2|exact Um.mp h2) (by first|exact h1|exact Um.mp h1);rw[<-lB x,<-lB y,e]
def my:List Key->List Key->Bool
 |[],[]=>false
 |[],_::_=>true
 |_::_,[]=>false
 |a::r,b::t=>if a=b then my r t else A1.blt a b
section
variable{O:KeyOrd}
end
section
variable{X:Cx}
end
def kinds(k:List Key):List Bool:=k.map fun x=>x.isLeft
section
variable{prog:Program}{w:World}{A:Around}{s:Shared}
theorem vX(a b:Key):MQ (kV a) (kV b)=decide (a=b):=by
 cases a <;> cases b <;> (rw[O7];simp[kV,MQ])
theorem mz(a:Key):sr (kV a)=true:=by cases a <;> rfl
end
section
variable{X:Cx}{pr:List (Addr×Obj)}{σ:L2.St}{H:Hp}{s:Shared}
end
section
variable{X:Cx}
end
end NX
namespace L2
open PySem PySem.Spec PyProof.Rows
section
variable{κ:Type}[DecidableEq κ]
def km(C1:List (κ×V))(k:κ):Option V:=(C1.find? fun kv=>decide (kv.1=k)).map (·.2)
def iP(C1:List (κ×V))(k:κ)(v:V):List (κ×V):=
 if(C1.any fun kv=>decide (kv.1=k))=true then C1.map (fun kv=>if kv.1=k then(kv.1,v) else kv) else C1++[(k,v)]
theorem jt{p:κ×V}{r:List (κ×V)}{k:κ}(e:p.1=k):km (p::r) k=some p.2:=by simp[km,Qz,e]
theorem ju{p:κ×V}{r:List (κ×V)}{k:κ}(e:¬ p.1=k):km (p::r) k=km r k:=by simp[km,Qz,e]
theorem mC(k:κ):∀C1:List (κ×V),(C1.any fun kv=>decide (kv.1=k))=(km C1 k).isSome
 |[]=>rfl
 |p::r=>by
  rw[Ry];by_cases e:p.1=k
  ·simp only[jt e,O9 e,Bool.true_or,Tq]
  ·rw[ju e,O0 e,To];exact mC k r
theorem ik(C1:List (κ×V))(k:κ)(v:V):(iP C1 k v).length<=C1.length+1:=by
 unfold iP;split
 ·rw[OI];lia
 ·rw[O8,OA,P1];lia
theorem RelO.isSome_eq{o:Option V}{u:Option Value}(r:RelO o u):o.isSome=u.isSome:=by
 cases o with
 |none=>cases u with
  |none=>rfl
  |some _=>exact(show False from r).elim
 |some _=>cases u with
  |none=>exact(show False from r).elim
  |some _=>rfl
theorem RelO.getD{o:Option V}{u:Option Value}{d:V}{d':Value}(r:RelO o u)(rd:RelV d d'):RelV (o.getD d) (u.getD d'):=by
 cases o with
 |none=>cases u with
  |none=>exact rd
  |some _=>exact(show False from r).elim
 |some _=>cases u with
  |none=>exact(show False from r).elim
  |some _=>exact r
theorem KV.val{C1:List (κ×V)}{vs:List (κ×Value)}(r:KV C1 vs)(k:κ):RelO (km C1 k) (valueAt vs k):=by
 unfold KV at r;induction r with
 |nil=>exact True.intro
 | @cons p q ps qs h t ih=>
  obtain⟨h1,h2⟩:=h;by_cases e:p.1=k
  ·have e':q.1=k:=h1.symm.trans e;have b:valueAt (q::qs) k=some q.2:=by simp[valueAt,Qz,e']
   rw[jt e,b];exact h2
  ·have e':¬ q.1=k:=fun z=>e (h1.trans z)
   have b:valueAt (q::qs) k=valueAt qs k:=by simp[valueAt,Qz,e']
   rw[ju e,b];exact ih
theorem KV.any{C1:List (κ×V)}{vs:List (κ×Value)}(r:KV C1 vs)(k:κ):(C1.any fun kv=>decide (kv.1=k))=vs.any fun kv=>decide (kv.1=k):=by
 unfold KV at r;induction r with
 |nil=>rfl
 |cons h t ih=>rw[Ry,Ry,ih,h.1]
theorem KV.repl{C1:List (κ×V)}{vs:List (κ×Value)}(r:KV C1 vs)(k:κ){y:V}{u:Value}(ry:RelV y u):
  KV (C1.map fun kv=>if kv.1=k then(kv.1,y) else kv) (vs.map fun kv=>if kv.1=k then(kv.1,u) else kv):=by
 unfold KV at r ⊢;induction r with
 |nil=>exact .nil
 | @cons p q ps qs h t ih=>
  rw[OH,OH];refine .cons ?_ ih;obtain⟨h1,h2⟩:=h;by_cases e:p.1=k
  ·rw[Oy e,Oy (h1.symm.trans e)];exact⟨h1,ry⟩
  ·rw[OD e,OD (fun z=>e (h1.trans z))];exact⟨h1,h2⟩
theorem KV.put{C1:List (κ×V)}{vs:List (κ×Value)}(r:KV C1 vs)(k:κ){y:V}{u:Value}(ry:RelV y u):KV (iP C1 k y) (stored vs k u):=by
 unfold iP stored;rw[r.any k];by_cases e:(vs.any fun kv=>decide (kv.1=k))=true
 ·rw[Oy e,Oy e];exact r.repl k ry
 ·rw[OD e,OD e];exact Paired.snoc r ⟨rfl,ry⟩
theorem KV.length{C1:List (κ×V)}{vs:List (κ×Value)}(r:KV C1 vs):C1.length=vs.length:=Rv r
end
theorem kV_is{P:Program}{w:World}{k:Key}{u:Value}(r:RelV (kV k) u):(mixKind P w).is k u=true:=by
 cases k with
 |inl i=>obtain⟨t,e⟩:=(show ∃t,u=Value.int i t from r);subst e;exact lx P w i t
 |inr x=>obtain⟨t,e⟩:=(show ∃t,u=Value.str x t from r);subst e;exact ly P w x t
theorem kn{P:Program}{w:World}:∀{ks:List Key}{us:List Value},Vals (ks.map kV) us->ItemsAre (mixKind P w) ks us
 |[],_,r=>by rw[Pt]at r;cases r;exact .nil
 |k::ks,_,r=>by
  rw[OH]at r;cases r with
  |cons h t=>exact .cons (kV_is h) (kn t)
abbrev KT(H:Hp):List (List Key×V)->List (List Key×Addr×Value)->Prop:=Paired fun p q=>p.1=q.1/\H q.2.1=some (.tup (p.1.map kV))/\RelV p.2 q.2.2
theorem KT.val{H:Hp}{C1:List (List Key×V)}{xs:List (List Key×Addr×Value)}(r:KT H C1 xs)(k:List Key):RelO (km C1 k) ((atKey xs k).map (·.2)):=by
 induction r with
 |nil=>exact True.intro
 | @cons p q ps qs h t ih=>
  obtain⟨h1,_,h2⟩:=h;by_cases e:p.1=k
  ·have e':q.1=k:=h1.symm.trans e;have b:atKey (q::qs) k=some q.2:=by simp[atKey,Qz,e']
   rw[jt e,b];exact h2
  ·have e':¬ q.1=k:=fun z=>e (h1.trans z)
   have b:atKey (q::qs) k=atKey qs k:=by simp[atKey,Qz,e']
   rw[ju e,b];exact ih
theorem KT.repl{H:Hp}{C1:List (List Key×V)}{xs:List (List Key×Addr×Value)}(r:KT H C1 xs)(k:List Key){y:V}{u:Value}(ry:RelV y u):
  KT H (C1.map fun kv=>if kv.1=k then(kv.1,y) else kv) (xs.map (putAt k u)):=by
 induction r with
 |nil=>exact .nil
 | @cons p q ps qs h t ih=>
  rw[OH,OH];refine .cons ?_ ih;obtain⟨h1,h2,h3⟩:=h;unfold putAt;by_cases e:p.1=k
  ·rw[Oy e,Oy (h1.symm.trans e)];exact⟨h1,h2,ry⟩
  ·rw[OD e,OD (fun z=>e (h1.trans z))];exact⟨h1,h2,h3⟩
theorem KT.put{H:Hp}{C1:List (List Key×V)}{xs:List (List Key×Addr×Value)}(r:KT H C1 xs)(k:List Key){b:Addr}{y:V}{u:Value}(hb:H b=some (.tup (k.map kV)))(ry:RelV y u):
  KT H (iP C1 k y) (storedH xs k b u):=by
 have e:(C1.any fun kv=>decide (kv.1=k))=(atKey xs k).isSome:=by
  rw[mC,(r.val k).isSome_eq,RT]
 unfold iP storedH;rw[e];by_cases q:(atKey xs k).isSome=true
 ·rw[Oy q,Oy q];exact r.repl k ry
 ·rw[OD q,OD q];exact Paired.snoc r ⟨rfl,hb,ry⟩
theorem KT.keeps{H H':Hp}{C1:List (List Key×V)}{xs:List (List Key×Addr×Value)}(r:KT H C1 xs)(ht:∀b ys,H b=some (.tup ys)->H' b=some (.tup ys)):KT H' C1 xs:=
 Paired.mapP r fun _ _ z=>⟨z.1,ht _ _ z.2.1,z.2.2⟩
section
variable{P:Program}{w:World}{H:Hp}{h:Heap}{a:Addr}
theorem yC{u:HO}(ok:HOk P w H h)(e:Rd H a u):ObjOk P w H h a u:=e.ok ok
theorem pe{C1:List (Key×V)}(ok:HOk P w H h)(e:Rd H a (.dK C1)):C1.length<=sizeLine/\(a==sysModules)=false/\∃vs,KV C1 vs/\h.DictOf (mixKind P w) a vs:=
 show ObjOk P w H h a (.dK C1) from yC ok e
theorem A2{C1:List (Key×V)}(ok:HOk P w H h)(e:H a=some (.dK C1)):C1.length<=sizeLine/\(a==sysModules)=false/\∃vs,KV C1 vs/\h.DictOf (mixKind P w) a vs:=pe ok (.inl e)
theorem ko{ks:List Key}(ok:HOk P w H h)(e:H a=some (.tup (ks.map kV))):(tupleKind (mixKind P w)).is h ks a:=by
 obtain⟨_,C3,r,o,h1,h2,⟨n,h3⟩,_⟩:=(show ObjOk P w H h a (.tup (ks.map kV)) from ok a _ e)
 exact⟨o,C3.toArray,n,h1,h2,h3,by simpa using kn r⟩
theorem pg{C1:List (List Key×V)}(ok:HOk P w H h)(e:Rd H a (.dT C1)):C1.length<=sizeLine/\(a==sysModules)=false/\
  ∃xs,KT H C1 xs/\h.DictOfH (tupleKind (mixKind P w)) a xs:=by
 obtain⟨z,y,xs,r,o,es,ep,h1,h2,h3,h4,h5⟩:=(show ObjOk P w H h a (.dT C1) from yC ok e)
 refine⟨z,y,xs,r,o,es,ep,h1,h2,h3,h4,fun x hx=>?_,h5⟩;have all:∀{l:List (List Key×V)}{m:List (List Key×Addr×Value)},KT H l m->∀x∈m,(tupleKind (mixKind P w)).is h x.1 x.2.1:=by
  intro l m q;induction q with
  |nil=>intro x hx;exact nomatch hx
  | @cons p q ps qs hq t ih=>
   intro x hx;rcases Ov.mp hx with e|hx
   ·subst e;exact ko ok (by rw[<-hq.1];exact hq.2.1)
   ·exact ih x hx
 exact all r x hx
theorem A3{C1:List (List Key×V)}(ok:HOk P w H h)(e:H a=some (.dT C1)):C1.length<=sizeLine/\(a==sysModules)=false/\
  ∃xs,KT H C1 xs/\h.DictOfH (tupleKind (mixKind P w)) a xs:=pg ok (.inl e)
end
def DGet(H:Hp)(a:Addr)(y:V)(r:Option V):Prop:=
 (∃C1 k,Rd H a (.dK C1)/\y=kV k/\r=km C1 k)\/∃C1 k b,Rd H a (.dT C1)/\y=.ref b/\H b=some (.tup (k.map kV))/\r=km C1 k
def DPut(H:Hp)(a:Addr)(y v:V)(H':Hp):Prop:=
 (∃C1 k,H a=some (.dK C1)/\y=kV k/\C1.length<sizeLine/\H'=upd H a (.dK (iP C1 k v)))\/
 ∃C1 k b,H a=some (.dT C1)/\y=.ref b/\H b=some (.tup (k.map kV))/\C1.length<sizeLine/\H'=upd H a (.dT (iP C1 k v))
theorem DGet.k{H:Hp}{a:Addr}{C1:List (Key×V)}{k:Key}(e:H a=some (.dK C1)):DGet H a (kV k) (km C1 k):=.inl ⟨C1,k,.inl e,rfl,rfl⟩
theorem DGet.t{H:Hp}{a b:Addr}{C1:List (List Key×V)}{k:List Key}(e:H a=some (.dT C1))(eb:H b=some (.tup (k.map kV))):DGet H a (.ref b) (km C1 k):=.inr ⟨C1,k,b,.inl e,rfl,eb,rfl⟩
theorem DPut.k{H:Hp}{a:Addr}{C1:List (Key×V)}{k:Key}{v:V}(e:H a=some (.dK C1))(hl:C1.length<sizeLine):DPut H a (kV k) v (upd H a (.dK (iP C1 k v))):=.inl ⟨C1,k,e,rfl,hl,rfl⟩
theorem DPut.t{H:Hp}{a b:Addr}{C1:List (List Key×V)}{k:List Key}{v:V}(e:H a=some (.dT C1))(eb:H b=some (.tup (k.map kV)))(hl:C1.length<sizeLine):
  DPut H a (.ref b) v (upd H a (.dT (iP C1 k v))):=.inr ⟨C1,k,b,e,rfl,eb,hl,rfl⟩
section
variable{X:Cx}{pr:List (Addr×Obj)}{σ:St}{H:Hp}{s:Shared}{a:Addr}{y v:V}{u r:Value}{o:Option V}{A:Around}{E:Value->Shared->Prop}
theorem Inv.big(I:Inv X pr σ H s):sysModules<s.heap.objs.size:=by
 have h:mainGlobals<s.heap.objs.size:=(I.mod.glob.keeps I.bk).lt;exact Nat.lt_trans (by decide) h
theorem ph{Q:Value->Shared->Prop}(hu:A.units+1<cLine)(I:Inv X pr σ H s)(g:DGet H a y (some v))(ry:RelV y u)(h:∀w' s',Inv X pr σ H s'->RelV v w'->Q w' s'):
  wpAny (model X.prog X.w) A (getItem (.ref a) u) Q E s:=by
 rcases g with⟨C1,k,e,ey,l⟩|⟨C1,k,b,e,ey,eb,l⟩
 ·subst ey;obtain⟨z,hd,vs,rel,dd⟩:=pe I.hok e;obtain⟨w',hw,Hi⟩:=RelO.some_of (v:=v) (o:=valueAt vs k) (by rw[l];exact rel.val k);exact wpAny_getItem_of (kV_is ry) dd.mapOf hw (h w' _ (I.tok _) Hi)
 ·subst ey;cases(show u=Value.ref b from ry);obtain⟨z,hd,xs,rel,dd⟩:=pg I.hok e;obtain⟨w',hw,Hi⟩:=RelO.some_of (v:=v) (o:=(atKey xs k).map (·.2)) (by rw[l];exact rel.val k);obtain⟨p,hp,NM⟩:=Qf.mp hw;refine wpAny_getItem_heap (Q5 hu) (ko I.hok eb) dd hp ?_;rw[NM];exact h w' _ (I.tok _) Hi
theorem Cy{Q:Value->Shared->Prop}(hu:A.units+1<cLine)(I:Inv X pr σ H s)(g:DGet H a y o)(ry:RelV y u)(h:∀s',Inv X pr σ H s'->Q (.bool o.isSome) s'):
  wpAny (model X.prog X.w) A (compareOp .In u (.ref a)) Q E s:=by
 rcases g with⟨C1,k,e,ey,l⟩|⟨C1,k,b,e,ey,eb,l⟩
 ·subst ey;obtain⟨z,hd,vs,rel,dd⟩:=pe I.hok e;refine wpAny_in_of (kV_is ry) hd dd.mapOf ?_;rw[<-(rel.val k).isSome_eq,<-l];exact h _ (I.tok _)
 ·subst ey;cases(show u=Value.ref b from ry);obtain⟨z,hd,xs,rel,dd⟩:=pg I.hok e;refine wpAny_in_heap (Q5 hu) (ko I.hok eb) hd dd ?_;have q:=(rel.val k).isSome_eq;rw[RT]at q;rw[<-q,<-l];exact h _ (I.tok _)
theorem vY{Q:Value->Shared->Prop}(hu:A.units+1<cLine)(I:Inv X pr σ H s)(g:DGet H a y o)(ry:RelV y u)(h:∀s',Inv X pr σ H s'->Q (.bool (!o.isSome)) s'):
  wpAny (model X.prog X.w) A (compareOp .NotIn u (.ref a)) Q E s:=by
 rcases g with⟨C1,k,e,ey,l⟩|⟨C1,k,b,e,ey,eb,l⟩
 ·subst ey;obtain⟨z,hd,vs,rel,dd⟩:=pe I.hok e;refine wpAny_notIn_of (kV_is ry) hd dd.mapOf ?_;rw[<-(rel.val k).isSome_eq,<-l];exact h _ (I.tok _)
 ·subst ey;cases(show u=Value.ref b from ry);obtain⟨z,hd,xs,rel,dd⟩:=pg I.hok e;refine wpAny_notIn_heap (Q5 hu) (ko I.hok eb) hd dd ?_;have q:=(rel.val k).isSome_eq;rw[RT]at q;rw[<-q,<-l];exact h _ (I.tok _)
theorem pj{h':Heap}{t':Nat}{ob:HO}(I:Inv X pr σ H s)(mu:K2 (H a))(hs:Heap.SameBut a s.heap h')(he:∃q,h'.get? a=some q)(new:ObjOk X.prog X.w (upd H a ob) h' a ob):
  Inv X pr σ (upd H a ob) {s with heap:=h',toks:=t'}:=
 I.write (x:=a) (e:=a) mu (.inl rfl) (fun b q hb z=>(hs.2 b hb).trans z) he new
theorem yD{P:Program}{w:World}{H':Hp}{h':Heap}{C1:List (Key×V)}{vs:List (Key×Value)}(z:C1.length<=sizeLine)(hd:(a==sysModules)=false)(rel:KV C1 vs)(dd:h'.DictOf (mixKind P w) a vs):
  ObjOk P w H' h' a (.dK C1):=⟨z,hd,vs,rel,dd⟩
theorem pk{H':Hp}{Q:Unit->Shared->Prop}(hu:A.units+1<cLine)(I:Inv X pr σ H s)(g:DPut H a y v H')(ry:RelV y u)(rv:RelV v r)(h:∀s',Inv X pr σ H' s'->Q () s'):
  wpAny (model X.prog X.w) A (setItem (.ref a) u r) Q E s:=by
 rcases g with⟨C1,k,e,ey,l,eH⟩|⟨C1,k,b,e,ey,eb,l,eH⟩
 ·subst ey eH;obtain⟨z,hd,vs,rel,dd⟩:=A2 I.hok e;have hz:vs.length<=sizeLine:=by rw[<-rel.length];exact z
  have hl:(iP C1 k v).length<=sizeLine:=by have:=ik C1 k v;lia
  refine wpAny_setItem_pairs (hsz:=hz) (kV_is ry) dd fun h' KQ hs=>h _ ?_
  have he:∃q,h'.get? a=some q:=let⟨q,_,_,hq,_⟩:=KQ;⟨q,hq⟩
  exact pj I (by rw[e];exact True.intro) hs he (yD hl hd (rel.put k rv) KQ)
 ·subst ey eH;cases(show u=Value.ref b from ry);obtain⟨z,hd,xs,rel,dd⟩:=A3 I.hok e;have hz:xs.length<=sizeLine:=by rw[<-Rv rel];exact z
  have hl:(iP C1 k v).length<=sizeLine:=by have:=ik C1 k v;lia
  refine wpAny_setItem_heap (hsz:=hz) (Q5 hu) (ko I.hok eb) dd fun h' KQ hs=>h _ ?_
  obtain⟨q,es,ep,hq,h2,h3,h4,_,h5⟩:=KQ;refine pj I (by rw[e];exact True.intro) hs ⟨q,hq⟩ ⟨hl,hd,_,(rel.put k eb rv).keeps fun c ys ec=>?_,q,es,ep,hq,h2,h3,h4,h5⟩;rw[ai (Aw ec e (fun z=>nomatch z))];exact ec
end
section
variable{X:Cx}{pr:List (Addr×Obj)}{σ:St}{H:Hp}{s:Shared}{a:Addr}{C1:List (Key×V)}{k:Key}{u:Value}{A:Around}{E:Value->Shared->Prop}
end
def NoSl(i:Expr):Prop:=∀ov iv,subscripted i false ov iv=operate [ov,iv] (getItem ov iv)
theorem vZ{prog:Program}{w:World}{A:Around}{E:Value->Shared->Prop}{s:Shared}{env:Env}{value slice:Expr}{pos:Pos}{T id:String}{Q:Value->Shared->Prop}
  (hl:typeLookup (.type T) "__getitem__" = pure (some (.builtin id))) (hs:NoSl slice)
  (h:wpAny (model prog w) A (eval value env) (fun o s₁=>wpAny (model prog w) A (eval slice env) (fun i s₂=>s₂.TypeIs o T/\wpAny (model prog w) A (getItem o i) Q E s₂) E s₁) E s):
  wpAny (model prog w) A (eval (.Subscript value slice pos) env) Q E s:=by
 refine Subscript_ (Rb h (fun o s₁ h₁=>Rb h₁ (fun i s₂ h₂=>?_) fun _ _ x=>x) fun _ _ x=>x);obtain⟨hT,h₂⟩:=h₂;unfold subscriptTail;refine Oe ?_;rw[getitemInPython_of_ne hT.not_modules];refine Oe (SE hT hl ?_);have fin:wpAny (model prog w) A (subscripted slice false o i) (fun r s₃=>wpAny (model prog w) A (letTemporaryGo value o r >>= fun _=>pure r) Q E s₃) E s₂:=by
  rw[hs o i];exact wpAny_operating (Rb h₂ (fun r s₃ h₃=>Oe (wpAny_letTemporaryGo (Ox h₃))) fun _ _ x=>x)
 first
  |exact Ox (Oe fin)
  |exact Oe (Ox (Oe fin))
  |exact Oe fin
theorem lE{X:Cx}{pr:List (Addr×Obj)}{σ:St}{H:Hp}{s:Shared}{a:Addr}{y:V}{o:Option V}(I:Inv X pr σ H s)(g:DGet H a y o):s.TypeIs (.ref a) "dict":=by
 rcases g with⟨C1,k,e,_,_⟩|⟨C1,k,b,e,_,_,_⟩
 ·obtain⟨_,_,vs,_,dd⟩:=pe I.hok e;exact dd.typeIs
 ·obtain⟨_,_,xs,_,dd⟩:=pg I.hok e;exact dd.typeIs
def A4(td ty:TE):TE:=fun σ H Q=>td σ H fun x H1=>ty σ H1 fun y H2=>∃a v,x=.ref a/\DGet H2 a y (some v)/\Q v H2
def A5(td ty tv:TE):TS:=fun D σ H=>tv σ H fun v H1=>td σ H1 fun x H2=>ty σ H2 fun y H3=>∃a H4,x=.ref a/\DPut H3 a y v H4/\D.nx σ H4
section
variable{X:Cx}{o i e value:Expr}{pos pos' JU:Pos}{td ty tv:TE}
theorem v9(hu:X.A.units+1<cLine)(ho:PE X o td)(hi:PE X i ty)(hs:NoSl i):PE X (.Subscript o i pos) (A4 td ty):=by
 intro pr s σ H Q I h;refine vZ PySem.F.slot_dict_getitem.lookup hs (Dn (ho pr s σ H _ I h) fun u s1 ⟨x,H1,I1,rx,q1⟩=>Dn (hi pr s1 σ H1 _ I1 q1) fun iv s2 Dl=>?_);obtain⟨y,H2,I2,ry,a,v,ex,g,q2⟩:=Dl;subst ex;obtain rfl:u=Value.ref a:=rx;exact⟨lE I2 g,ph hu I2 g ry fun w' s3 I3 Hi=>⟨v,H2,I3,Hi,q2⟩⟩
theorem wa(hu:X.A.units+1<cLine)(ho:PE X o td)(hi:PE X i ty)(hv:PE X value tv)(hs:swapsWith value (some (.Subscript o i pos')) pos.line X.env=pure false):
  PS X (.Assign [.Subscript o i pos'] value pos) (A5 td ty tv):=by
 intro pr s σ H D I h;refine wpAny_Assign_Subscript (Dn (hv pr s σ H _ I h) fun r s1 ⟨v,H1,I1,rv,q1⟩=>Dn (ho pr s1 σ H1 _ I1 q1) fun u s2 ⟨x,H2,I2,rx,q2⟩=>Dn (hi pr s2 σ H2 _ I2 q2) fun iv s3 ⟨y,H3,I3,ry,a,H4,ex,g,q3⟩=>?_) hs;subst ex;obtain rfl:u=Value.ref a:=rx;exact pk hu I3 g ry rv fun s4 I4=>⟨σ,H4,I4,q3⟩
end
theorem dk_empty{P:Program}{w:World}{H:Hp}(h:Heap)(hb:sysModules<h.objs.size):ObjOk P w H (h.push {cls:=.type "dict",data:=.dict #[]}) h.objs.size (.dK []):=
 ⟨Pn _,OQ.mpr (Qb (OC hb)),[],.nil,Heap.DictOf.new h⟩
def yE:TE:=fun _ H Q=>∀p,H p=none->Q (.ref p) (upd H p (.dK []))
section
variable{X:Cx}{pos:Pos}
theorem sJ:PE X (.Dict [] [] pos) yE:=fun pr s σ H Q I h=>
 wpAny_Dict_empty ⟨.ref s.heap.objs.size,_,I.laid (a:=s.heap.objs.size) (o:=.dK []) (t':=s.toks) (fun _ _ q=>Oi _ q) (Oq _) (dk_empty s.heap I.big),rfl,h _ (I.hok.fresh (Oq _))⟩
end
section
variable{X:Cx}{pr:List (Addr×Obj)}{σ:St}{H:Hp}{s:Shared}{a:Addr}{y d:V}{u r:Value}{o:Option V}{A:Around}{E:Value->Shared->Prop}
end
section
variable{X:Cx}{o e f:Expr}{apos DO:Pos}{td ty tx:TE}
end
section
variable{X:Cx}{pr:List (Addr×Obj)}{σ:St}{H:Hp}{s:Shared}{a:Addr}{C1:List (Key×V)}{A:Around}{E:Value->Shared->Prop}
end
section
variable{X:Cx}{pr:List (Addr×Obj)}{σ:St}{H:Hp}{s:Shared}{a:Addr}{y:V}{u:Value}{A:Around}{E:Value->Shared->Prop}
end
section
variable{κ:Type}[DecidableEq κ]
end
end L2
namespace NX
open PySem PySem.Spec PyProof.Rows L2
def RawD(h:Heap)(d:Addr)(es:Array DictEntry)(ep:Nat):Prop:=∃o,h.get? d=some o/\o.ExactDict/\o.data=.dict es ep
theorem RawD.at{h h':Heap}{d:Addr}{es:Array DictEntry}{ep:Nat}(x:RawD h d es ep)(e:∀o,h.get? d=some o->h'.get? d=some o):RawD h' d es ep:=by
 obtain⟨o,g,r⟩:=x;exact⟨o,e o g,r⟩
section
variable{prog:Program}{w:World}{A:Around}{E:Value->Shared->Prop}{s:Shared}{d it:Addr}{es:Array DictEntry}{ep i:Nat}
theorem sL(x:RawD s.heap d es ep):s.TypeIs (.ref d) "dict":=by
 obtain⟨o,g,ex,_⟩:=x;exact⟨o,g,ex.1⟩
end
end NX
namespace NX
open PySem PySem.W PySem.Spec PyProof.Rows L2
section
variable{prog:Program}{w:World}{A:Around}{E:Value->Shared->Prop}{s:Shared}
end
section
variable{X:Cx}{pr:List (Addr×Obj)}{σ:L2.St}{H:Hp}{s:Shared}
end
end NX
namespace NX
open PySem PySem.Spec PyProof.Rows L2
section
open PySem.SeqAt
open PySem.AutoSeq1 (wpAny_loadPart')
open PySem.MeetsSeq PySem.MeetsSeq2 PySem.MeetsSeq3
theorem sM{A:Around}{s:Shared}{a c:Key}{u v:Value}(ra:RelV (kV a) u)(rc:RelV (kV c) v):EqAt A s u v (decide (a=c)):=by
 have h:=yo (A:=A) (s:=s) ra rc (mz a) (mz c);rw[vX]at h;exact h
theorem sN{prog:Program}{w:World}{A:Around}{E:Value->Shared->Prop}{s:Shared}{Q:Value->Shared->Prop}{a c:Key}{u v:Value}(ra:RelV (kV a) u)(rc:RelV (kV c) v)(hk:a.isLeft=c.isLeft)(h:Q (.bool (A1.blt a c)) s):
  wpAny (model prog w) A (richCompare .Lt u v) Q E s:=by
 cases a with
 |inl i=>
  cases c with
  |inr _=>cases hk
  |inl j=>
   obtain⟨t,rfl⟩:=ra;obtain⟨t',rfl⟩:=rc;exact(PyProof.Rows.lt_int h:wpAny (model prog w) A (compareOp .Lt (.int i t) (.int j t')) Q E s)
 |inr x=>
  cases c with
  |inl _=>cases hk
  |inr y=>
   obtain⟨t,rfl⟩:=ra;obtain⟨t',rfl⟩:=rc;exact(PyProof.Rows.lt_str h:wpAny (model prog w) A (compareOp .Lt (.str x t) (.str y t')) Q E s)
theorem pq(a c:Key)(r t:List Key):my (a::r) (c::t)=if a=c then my r t else A1.blt a c:=rfl
theorem jv(l b:Addr)(items Fg:Array Value)(n n2:Nat)(dd Ip:Option Addr)(sl Iq:Array (Option Value))(ks js:List Key)(hi:Vals (ks.map kV) items.toList)(hj:Vals (js.map kV) Fg.toList)(hk:kinds ks=kinds js):
  Meets (Builtin.«tuple.__lt__» ⟨[.ref l,.ref b],[]⟩)
   (fun _ R s=>s.heap.get? l=some {cls:=.type "tuple",dict:=dd,data:=.seq items n,slots:=sl}/\s.heap.get? b=some {cls:=.type "tuple",dict:=Ip,data:=.seq Fg n2,slots:=Iq}/\R (.ok (.ret (.bool (my ks js)))) s):=
 .of_wp fun prog w A R s h=>by
  obtain⟨hp,g,d,tk,os⟩:=s;obtain⟨hl,hb,h⟩:=h;have f2:=AutoSeq1.sub_tuple_tuple;have z1:items.size=ks.length:=by have:=hi.length;simp at this;lia
  have z2:Fg.size=js.length:=by have:=hj.length;simp at this;lia
  have z3:ks.length=js.length:=by have:=P0 List.length hk;simpa[kinds] using this
  wp_walk using wpAny_loadPart' hl,wpAny_loadPart' hb,wpAny_forIn_list _ (fun aE b s'=>b.1=none/\s'=⟨hp,g,d,tk,os⟩/\∃(vs ws:List Value) (GA Hl:List Key),aE=vs.zip ws/\
   Vals (GA.map kV) vs/\Vals (Hl.map kV) ws/\kinds GA=kinds Hl/\R (.ok (.ret (.bool (my GA Hl)))) ⟨hp,g,d,tk,os⟩) _
  case turn=>
   rintro⟨y,x⟩ aE b s' ⟨MZ,rfl,vs,ws,GA,Hl,hz,Mr,M0,Jy,hR⟩;cases GA with
   |nil=>
    cases Mr;rw[List.zip_nil_left]at hz;cases hz
   |cons a GA=>
    cases Hl with
    |nil=>cases Jy
    |cons c Hl=>
     cases Mr with
     | @cons _ va _ F9 ra hvi'=>
      cases M0 with
      | @cons _ vc _ Lk rc hwi'=>
       rw[Q6]at hz;injection hz with hyx hrest;injection hyx with hy hx;subst hy hx;have KR:a.isLeft=c.isLeft:=(List.cons.inj Jy).1;have FQ:kinds GA=kinds Hl:=(List.cons.inj Jy).2;rw[pq]at hR;have he:=sM (A:=A.in1) (s:=⟨hp,g,d,tk,os⟩) ra rc;refine Oe (he prog w _ _ ?_);by_cases hac:a=c
       ·rw[Oy hac]at hR;rw[O9 hac]
        wp_walk
        exact⟨rfl,rfl,_,_,_,_,hrest,hvi',hwi',FQ,hR⟩
       ·rw[OD hac]at hR;rw[O0 hac];have hri:=fun E Q=>sN (prog:=prog) (w:=w) (A:=A.in1) (E:=E) (s:=⟨hp,g,d,tk,os⟩) (Q:=Q) ra rc KR
        wp_walk using hri
        exact⟨_,rfl,by simpa using hR⟩
  case fin=>
   rintro⟨b1,b2⟩ s' ⟨MZ,rfl,vs,ws,GA,Hl,hz,Mr,M0,Jy,hR⟩;simp only at MZ;subst MZ;have hv:my GA Hl=decide (items.size<Fg.size):=by
    cases GA with
    |nil=>
     cases Hl with
     |nil=>exact(O0 (by lia)).symm
     |cons c Hl=>cases Jy
    |cons a GA=>
     cases Hl with
     |nil=>cases Jy
     |cons c Hl=>
      cases Mr;cases M0;rw[Q6]at hz;cases hz
   rw[hv]at hR
   wp_walk
   exact⟨_,rfl,by simpa[Builtin.Tuple.tupleCompareSizes] using hR⟩
  case h=>
   exact⟨rfl,rfl,items.toList,Fg.toList,ks,js,rfl,hi,hj,hk,h⟩
end
section
variable{X:Cx}
def Cz(K:W.Frag)(neg:Bool):R2:=fun x y H Q=>∃a b ks js,x=.ref a/\y=.ref b/\SqT K H a (ks.map kV)/\SqT K H b (js.map kV)/\kinds ks=kinds js/\Q (.bl (if neg then !my ks js else my ks js)) H
theorem yF(hu:X.A.units<cLine):DK X (compareOp .Lt) (Cz X.K false):=by
 intro pr s σ H x y v u Q I rx ry h;obtain⟨a,b,ks,js,rfl,rfl,ha,hb,hk,q⟩:=h;cases rx;cases ry;obtain⟨C3,r1,p1,_⟩:=I.tuple ha;obtain⟨Hh,r2,p2,_⟩:=I.tuple hb;obtain⟨⟨cls,dd,data,sl⟩,ho,hc,n,hd⟩:=id p1;obtain⟨⟨JV,Ip,data2,Iq⟩,Ez,G0,n2,hd2⟩:=id p2;simp only at hc hd G0 hd2;subst hc hd G0 hd2;exact richCompare_meets_room (op:=.Lt) ⟨_,ho,rfl⟩ ⟨_,Ez,rfl⟩ PySem.F.slot_tuple_lt PySem.F.entry_tuple_lt (PySem.F.args_tuple_lt_2 _ _) (jv a b _ _ n n2 dd Ip sl Iq ks js (by simpa using r1) (by simpa using r2) hk)
  ⟨ho,Ez,show Value.bool (my ks js)≠Value.notImplemented/\EP X pr σ Q (.bool (my ks js)) s from⟨(fun x=>nomatch x),⟨.bl (my ks js),H,I,rfl,q⟩⟩⟩ hu
end
section
variable{prog:Program}{w:World}{A:Around}{E:Value->Shared->Prop}{s:Shared}
end
theorem wp_blockEnv{M:Model}{A:Around}{E:Value->Shared->Prop}{s:Shared}{scope:Scope}{globals:Addr}{cl:List (Str×Addr)}{qual:Str}{outer:Env}{Q:Env->Shared->Prop}
  (hQ:Q (newEnv scope s.heap.objs.size globals (cellsFrom (s.heap.objs.size+1) scope.names cl) qual none .none (some outer) builtinsNs) {s with heap:=pushCells (s.heap.push {cls:=.type "dict",data:=.dict #[]}) scope.names}):
  wpAny M A (newFunctionEnv scope globals cl [] qual none .none (some outer)) Q E s:=by
 simp only[newFunctionEnv,Tq,Qg];refine Oe (wpAny_alloc ?_);refine Oe (wpAny_layCells _ (fun name kind cells=>by cases hkc:kind==NameKind.cell <;> simp[hkc]) _ _ _ _ ?_);rw[show({s with heap:=s.heap.push {cls:=.type "dict",data:=.dict #[]}}:Shared).heap.objs.size=s.heap.objs.size+1 from Pa ..];refine Oe ?_;rw[SY];exact Ox (Ox hQ)
theorem hV{x:Str}{c:Addr}:∀(nY:List (Str×NameKind)) (h:Heap) (acc:List (Str×Addr)),(cellsFrom h.objs.size nY acc).lookup x=some c->acc.lookup x=some c\/(h.objs.size<=c/\(pushCells h nY).IsCell c none)
 |[],_,_,e=>.inl e
 |(name,kind)::r,h,acc,e=>by
  unfold cellsFrom at e;unfold pushCells;split at e
  ·rename_i hk;rw[Oy hk];have sz:h.objs.size+1=(h.push {cls:=.type "cell",data:=.cell none}).objs.size:=(Pa ..).symm;rw[sz]at e;rcases hV r _ _ e with e|⟨e1,e2⟩
   ·rw[OM]at e;cases hx:x==name with
    |true=>
     rw[hx]at e;cases e;exact .inr ⟨Oq _,_,SF r _ _ _ (Ow _ rfl),rfl⟩
    |false=>
     rw[hx]at e;exact .inl e
   ·rw[<-sz]at e1;exact .inr ⟨QF e1,e2⟩
  ·rename_i hk;rw[OD hk];exact hV r h acc e
theorem pw:∀(nY:List (Str×NameKind)) (n:Nat) (acc:List (Str×Addr)),(∀x y c,acc.lookup x=some c->acc.lookup y=some c->x=y)->(∀x c,acc.lookup x=some c->c<n)->
  ∀x y c,(cellsFrom n nY acc).lookup x=some c->(cellsFrom n nY acc).lookup y=some c->x=y
 |[],_,_,h,_=>h
 |(name,kind)::r,n,acc,h,hl=>by
  unfold cellsFrom;split
  ·refine pw r (n+1) ((name,n)::acc) (fun x y c e1 e2=>?_) (fun x c e=>?_)
   ·rw[OM]at e1 e2;cases hx:x==name with
    |true=>
     rw[hx]at e1;cases e1;cases hy:y==name with
     |true=>exact(OO.mp hx).trans (OO.mp hy).symm
     |false=>
      rw[hy]at e2;exact absurd (hl y _ e2) (Py _)
    |false=>
     rw[hx]at e1;cases hy:y==name with
     |true=>
      rw[hy]at e2;cases e2;exact absurd (hl x _ e1) (Py _)
     |false=>
      rw[hy]at e2;exact h x y c e1 e2
   ·rw[OM]at e;cases hx:x==name with
    |true=>rw[hx]at e;cases e;exact Pf _
    |false=>rw[hx]at e;exact RS (hl x c e)
  ·exact pw r n acc h hl
theorem px{x:Str}:∀(nY:List (Str×NameKind)) (n:Nat) (acc:List (Str×Addr)),((∃d,acc.lookup x=some d)\/(x,NameKind.cell)∈nY)->∃d,(cellsFrom n nY acc).lookup x=some d
 |[],_,_,h=>h.elim id fun z=>nomatch z
 |(name,kind)::r,n,acc,h=>by
  unfold cellsFrom;split
  ·rename_i hk;refine px r _ _ ?_;rw[OM];cases hx:x==name with
   |true=>exact .inl ⟨_,rfl⟩
   |false=>
    rcases h with h|h
    ·exact .inl h
    ·rcases Ov.mp h with h|h
     ·cases h;rw[OZ]at hx;cases hx
     ·exact .inr h
  ·rename_i hk;refine px r _ _ ?_;rcases h with h|h
   ·exact .inl h
   ·rcases Ov.mp h with h|h
    ·cases h;exact absurd rfl hk
    ·exact .inr h
theorem pA{x:Str}{c:Addr}{lo:Nat}:∀(nY:List (Str×NameKind)) (n:Nat) (acc:List (Str×Addr)),((∀c,acc.lookup x=some c->lo<=c)\/(x,NameKind.cell)∈nY)->lo<=n->(cellsFrom n nY acc).lookup x=some c->lo<=c
 |[],_,_,h,_,e=>h.elim (fun h=>h c e) fun z=>nomatch z
 |(name,kind)::r,n,acc,h,hn,e=>by
  unfold cellsFrom at e;split at e
  ·refine pA r _ _ ?_ (Nat.le_succ_of_le hn) e;cases hx:x==name with
   |true=>exact .inl fun c e=>by rw[OM,hx]at e;cases e;exact hn
   |false=>
    rcases h with h|h
    ·exact .inl fun c e=>by rw[OM,hx]at e;exact h c e
    ·rcases Ov.mp h with h|h
     ·cases h;rw[OZ]at hx;cases hx
     ·exact .inr h
  ·rename_i hk;refine pA r _ _ ?_ hn e;rcases h with h|h
   ·exact .inl h
   ·rcases Ov.mp h with h|h
    ·cases h;exact absurd rfl hk
    ·exact .inr h
theorem pB{x:Str}:∀(nY:List (Str×NameKind)) (n:Nat) (acc:List (Str×Addr)),(x,NameKind.cell)∉nY->(cellsFrom n nY acc).lookup x=acc.lookup x
 |[],_,_,_=>rfl
 |(name,kind)::r,n,acc,h=>by
  unfold cellsFrom;split
  ·rename_i hk;rw[pB r _ _ fun z=>h (Og _ z),OM];cases hx:x==name with
   |true=>
    refine absurd ?_ h;rw[OO.mp hx,<-OO.mp hk];exact Oh
   |false=>rfl
  ·exact pB r _ _ fun z=>h (Og _ z)
theorem jw{scope:Scope}{env:Env}{x:Str}(h:(relabel scope env).names.lookup x=some .cell\/(relabel scope env).names.lookup x=some .free):(x,NameKind.free)∈scope.names\/(x,NameKind.cell)∈scope.names:=by
 unfold relabel at h;dsimp only at h;generalize scope.names=l at h;induction l with
 |nil=>rcases h with h|h <;> cases h
 |cons y l ih=>
  obtain⟨n,k⟩:=y;rw[OH]at h;dsimp only at h;have up:((x,NameKind.free)∈l\/(x,NameKind.cell)∈l)->(x,NameKind.free)∈(n,k)::l\/(x,NameKind.cell)∈(n,k)::l:=fun z=>z.imp (Og _) (Og _)
  by_cases cnd:(k==NameKind.free&&env.scope.kind==.function&&env.kindOf n==some .cell)=true
  ·rw[Oy cnd,OM]at h;have kf:k=.free:=by
    have:(k==NameKind.free)=true:=by
     simp only[Oz]at cnd;exact cnd.1.1
    simpa using this
   cases hx:x==n with
   |true=>
    have:x=n:=by simpa using hx
    rw[this,kf];exact .inl Oh
   |false=>
    rw[hx]at h;exact up (ih h)
  ·rw[OD cnd,OM]at h;cases hx:x==n with
   |true=>
    rw[hx]at h;have:x=n:=by simpa using hx
    rw[this];rcases h with h|h
    ·rw[<-OP h];exact .inr Oh
    ·rw[<-OP h];exact .inl Oh
   |false=>
    rw[hx]at h;exact up (ih h)
noncomputable def bj(X:Cx)(scope:Scope)(N:List Str)(C:Addr)(s:Shared)(H:Hp)(fp:List Addr)(pn:List (Addr×Obj)):Cx:=
 {X with N:=N,s₀:=s,H₀:=H,env:=compEnvC scope (cellsFrom (C+1) scope.names (clOf scope X.env)) C X.env,outer:=X.stack,ex:=fp,fn:=fun x=>scope.names.lookup x==some .cell,pn:=pn,xe:=fun _ _=>False}
section
variable{X:Cx}{pr:List (Addr×Obj)}{σ:L2.St}{H:Hp}{s:Shared}{scope:Scope}{N:List Str}{ix:List (Option Nat)}{fp:List Addr}
theorem _root_.L2.Inv.blockK(I:Inv X pr σ H s)(hf:cE scope X.env=true)(hk:scope.kind=.function)(Dp:∀y∈scope.names,y.2=.cell->scope.names.lookup y.1=some .cell)(D7:lh X scope N ix=true)(fo:∀b∈fp,j4 X pr H b)(fin:∀b∈fp,∃o,s.heap.get? b=some o)
  {h0:Heap}{t1:Nat}{D C:Addr}(hD:D=s.heap.objs.size) (hC:C=s.heap.objs.size+1) (hsz:h0.objs.size=C+1) (ID:∀b o,s.heap.get? b=some o->h0.get? b=some o) {n:Nat}(acc0:h0.get? D=some {cls:=.type "list",data:=.seq #[] n})
  {m:Str->Option Value}(ns0:h0.Ns C m):Inv (bj X scope N C s H fp (X.pn++pr)) [] (cV ix σ) (upd H D (.lst [])) {s with heap:=pushCells h0 scope.names,toks:=t1}:=by
 have kp:=SF scope.names h0;have old:∀b o,s.heap.get? b=some o->(pushCells h0 scope.names).get? b=some o:=fun b o e=>kp b o (ID b o e)
 have DP:s.heap.objs.size<=C:=by rw[hC];exact QV _
 have freshD:s.heap.objs.size<=D:=by rw[hD];exact Oq _
 have nD:H D=none:=I.hok.fresh freshD;have DC:D≠C:=by rw[hD,hC];exact OC (Pf _)
 have Gg:∀b,H b=none->b≠D->upd H D (.lst []) b=none:=fun b n z=>by rw[ai z];exact n
 have IB:∀b o,s.heap.get? b=some o->b≠D:=fun b o e=>OC (Ot (Ou e) freshD)
 have F8:∀b o,s.heap.get? b=some o->b≠C:=fun b o e=>OC (Ot (Ou e) DP)
 have cs:∀{x c},(cellsFrom (C+1) scope.names (clOf scope X.env)).lookup x=some c->X.env.cells.lookup x=some c\/(C+1<=c/\(pushCells h0 scope.names).IsCell c none):=fun{x c} e=>by
  rw[<-hsz]at e;rcases hV scope.names h0 _ e with e|⟨e1,e2⟩
  ·exact .inl (dS I.ok hf e)
  ·exact .inr ⟨hsz▸e1,e2⟩
 have MS:(bj X scope N C s H fp (X.pn++pr)).Ok:=by
  refine⟨I.ok.mod,hk,I.ok.glob,I.ok.blt,DP,fun x y c e1 e2=>?_,fun x hx=>?_,fun x c z e=>?_,I.ok.hd,I.ok.frames,.inl rfl,fun b hb=>?_,I.bs,?_,fun b o e hb=>?_,fun b hb hs=>?_,I.stack,I.stkFree⟩
  ·refine pw scope.names (C+1) (clOf scope X.env) (fun x y c e1 e2=>I.ok.inj x y c (dS I.ok hf e1) (dS I.ok hf e2)) (fun x c e=>?_) x y c e1 e2;obtain⟨v,q⟩:=I.cell x c (dS I.ok hf e);exact Ot q.lt (OF DP (QV _))
  ·refine px scope.names (C+1) _ ?_;rcases jw hx with h|h
   ·obtain⟨c,e,_⟩:=jn I.ok hf h;exact .inl ⟨c,e⟩
   ·exact .inr h
  ·have z:(scope.names.lookup x==some NameKind.cell)=true:=z;have z:scope.names.lookup x=some .cell:=by simpa using z
   have:=pA (lo:=C+1) scope.names (C+1) _ (.inr (Pz z)) (Oq _) e;exact OF DP (QF this)
  ·obtain⟨f0,f1,f2,f3,f4,f5⟩:=fo b hb;obtain⟨o,ho⟩:=fin b hb;refine⟨?_,fun x c e=>?_⟩
   ·intro z;exact F8 b o ho z
   ·rcases cs e with e|⟨e1,_⟩
    ·exact f4 x c e
    ·intro z;subst z;exact absurd (Ot (Ou ho) (OF DP (QF e1))) (Py _)
  ·exact OF I.ok.bsz I.sz
  ·obtain⟨f0,f1,f2,f3,f4,f5⟩:=fo b hb;rcases f3 with q|q
   ·exact I.ok.noex b o e q
   ·exact absurd (Ot (Ou e) (OF I.ok.bsz q)) (Py _)
  ·obtain⟨f0,f1,f2,_⟩:=fo b hb;exact(Ov.mp (I.stkSub b hs)).elim f1 f2
 refine⟨MS,rfl,I.bare,Un.laid old freshD nD,⟨m,ns0.keeps kp,fun i x v e1 e2 e3=>?_⟩,fun x c e=>?_,?_,fun x c e=>?_,fun p hp=>?_,I.hok.laid old freshD ⟨Pn _,[],n,.nil,kp _ _ acc0⟩,?_⟩
 ·have e2:(ix.map fun i=>i.bind fun i=>(σ[i]?).bind id)[i]?=some (some v):=e2;have e1:N[i]?=some x:=e1;unfold lh at D7;rw[Oz]at D7;rw[OG]at e2;cases q:ix[i]? with
  |none=>rw[q]at e2;cases e2
  |some o=>
   rw[q]at e2;have e2:(o.bind fun i=>(σ[i]?).bind id)=some v:=OP e2;cases o with
   |none=>cases e2
   |some j=>
    have e2:(σ[j]?).bind id=some v:=e2;have hσ:σ[j]?=some (some v):=by
     cases w':σ[j]? with
     |none=>rw[w']at e2;cases e2
     |some y=>rw[w']at e2;exact P0 some e2
    have hz:(N.zip ix)[i]?=some (x,some j):=by
     rw[Ql];exact⟨e1,q⟩
    have hy:=OS.mp D7.2 _ (Pr hz);simp only[Oz,OO]at hy;have J3:(x,NameKind.free)∈scope.names:=Pz hy.2;obtain⟨c,c1,c2⟩:=jn I.ok hf J3;have nc:(x,NameKind.cell)∉scope.names:=fun z=>by
     have:=(Dp _ z rfl).symm.trans hy.2;cases this
    have c1:(cellsFrom (C+1) scope.names (clOf scope X.env)).lookup x=some c:=(pB _ _ _ nc).trans c1;have Lh:X.env.kindOf x=some .cell\/X.env.kindOf x=some .free:=by
     have:=OS.mp hf _ J3;simpa using this
    obtain⟨mo,Lb,Gf⟩:=I.loc;obtain⟨u,r,l⟩:=Gf j x v hy.1 hσ (.inr Lh);refine⟨u,r,.inr ⟨gL hy.2,c,c1,?_⟩⟩;rcases l with⟨k1,_⟩|⟨_,c',e',HA⟩
    ·rcases Lh with k2|k2 <;> (rw[k1]at k2;cases k2)
    ·rw[c2]at e';cases e';obtain⟨o,ho,hd⟩:=HA;exact⟨o,old c o ho,hd⟩
 ·rcases cs e with e|⟨_,e2⟩
  ·obtain⟨v,q⟩:=I.cell x c e;exact⟨v,q.keeps old⟩
  ·exact⟨none,e2⟩
 ·exact Gg C (I.hok.fresh DP) (Qb DC)
 ·rcases cs e with e|⟨e1,_⟩
  ·obtain⟨v,o,ho,hd⟩:=I.cell x c e;exact Gg c (I.freeC x c e) (IB c o ho)
  ·refine Gg c (I.hok.fresh (OF DP (QF e1))) fun z=>?_
   subst z;rw[hD,hC]at e1;exact absurd (OF (QV _) e1) (Nat.not_succ_le_self _)
 ·have hp:p∈X.pn++pr:=by
   have:p∈(X.pn++pr)++[]:=hp
   rwa [OK]at this
  obtain⟨e,nn,ne,nf,d⟩:=I.pin p hp;refine⟨old _ _ e,Gg _ nn (IB _ _ e),F8 _ _ e,fun z=>?_,d⟩;exact(Ov.mp (I.stkSub p.1 z)).elim ne nf
 ·unfold lh at D7;rw[Oz]at D7;have:N.length=ix.length:=by simpa using D7.1
  show(ix.map _).length=N.length;rw[OI,this]
theorem _root_.L2.Inv.unblockK{C:Addr}{σ1:L2.St}{H1:Hp}{s1:Shared}{h2:Heap}(I:Inv X pr σ H s)(fo:∀b∈fp,j4 X pr H b)(hC:s.heap.objs.size<=C)(J:Inv (bj X scope N C s H fp (X.pn++pr)) [] σ1 H1 s1)(hs:Heap.SameBut C s1.heap h2):
  Inv X pr σ H1 {s1 with heap:=h2}:=by
 have F8:∀b o,s.heap.get? b=some o->b≠C:=fun b o e=>OC (Ot (Ou e) hC)
 have bb:Un (GD X.stack) fp H H1 s.heap s1.heap:=J.base;have jf:H1 C=none:=J.free;refine I.call' (s':={s1 with heap:=h2}) (ch:=fp) J.os ⟨fun b o e n hb hx=>?_,fun b o e n hb hx=>?_,bb.free,fun b o e hx=>?_,bb.tups,bb.frzs,bb.tbls⟩ (fun b ob e=>?_) J.bare fun b hb=>?_
 ·exact(hs.2 b (F8 b o e)).trans (bb.keep b o e n hb hx)
 ·obtain⟨sl,q⟩:=bb.slot b o e n hb hx;exact⟨sl,(hs.2 b (F8 b o e)).trans q⟩
 ·obtain⟨o',q⟩:=bb.there b o e hx;exact⟨o',(hs.2 b (F8 b o e)).trans q⟩
 ·refine(J.hok b ob e).stay (fun c w' hc q=>(hs.2 c ?_).trans q) (fun _ q=>q) fun _ _ q=>q
  rintro rfl;rcases hc with rfl|hc
  ·rw[jf]at e;cases e
  ·rw[jf]at hc;cases hc
 ·obtain⟨f0,f1,f2,f3,f4,f5⟩:=fo b hb;exact⟨f3,f1,f4,f5⟩
end
section
variable{X:Cx}{scope:Scope}{N:List Str}{ix:List (Option Nat)}{tg iter elt:Expr}{ifs:List Expr}{pos:Pos}{wi:TI}{g:TG}{tc:TT}{te:TE}
theorem lF{pr:List (Addr×Obj)}{σ:L2.St}{H2:Hp}{s2:Shared}{J:It}{fp:List Addr}{it:Addr}{tn:Nat->Heap->Prop}{Q:VK}{RR:Value->Addr->Result->Shared->Prop}{E:Value->Shared->Prop}
  (hc:X.calm=true) (I2:Inv X pr σ H2 s2) (T:Turn X.prog X.w X.K tg J fp it tn) (De:tn 0 s2.heap) (f2:∀b∈fp,j4 X pr H2 b)
  (hg:∀C s H fp pn,PG (bj X scope N C s H fp pn) tg g) (ht:∀C s H fp pn,Jx (bj X scope N C s H fp pn) ifs tc) (he:∀C s H fp pn,PE (bj X scope N C s H fp pn) elt te)
  (hf:cE scope X.env=true) (hk:scope.kind=.function) (Dp:∀y∈scope.names,y.2=.cell->scope.names.lookup y.1=some .cell) (D7:lh X scope N ix=true)
  (q:∀D,H2 D=none->∃W:Nat->Nat->L2.St->Hp->Prop,(∃m,W 0 m (cV ix σ) (upd H2 D (.lst [])))/\
   ∀i m σ1 H3,W i m σ1 H3->(J.stop i H3/\Q (.ref D) H3)\/(J.go i H3/\∀x H4,J.yld i H3 x H4->g x σ1 H4 fun σ2 H5=>tc σ2 H5 fun b H6=>if b=true then te σ2 H6 fun v H7=>
    ∃ys,H7 D=some (.lst ys)/\ys.length<sizeLine/\∃m',m'<m/\W (i+1) m' σ2 (upd H7 D (.lst (ys++[v]))) else ∃m',m'<m/\W (i+1) m' σ2 H6))
  (MT:∀(D C:Addr) (σ1:L2.St) (H1:Hp) (s1:Shared),s2.heap.objs.size<=C->Inv (bj X scope N C s2 H2 fp (X.pn++pr)) [] σ1 H1 s1->Q (.ref D) H1->RR (.ref D) C (.ok .next) s1):
  wpAny (model X.prog X.w) X.A (newList []) (fun acc s₃=>wpAny (model X.prog X.w) X.A (newFunctionEnv scope X.env.globals (clOf scope X.env) [] X.env.qual none .none (some X.env)) (fun HD s₄=>
   codeAny (model X.prog X.w) X.A (.compStart (.ListComp elt [⟨tg,iter,ifs,0⟩] scope pos) 0 (.ref it) acc {HD with scope:=relabel scope X.env}) (RR acc HD.locals) s₄) E s₃) E s2:=by
 refine PU (wp_blockEnv ?_);dsimp only;generalize IC:s2.heap.push {cls:=.type "list",dict:=none,data:=.seq ([]:List Value).toArray}=HH;have hC:HH.objs.size=s2.heap.objs.size+1:=by rw[<-IC,Pa]
 have NK:s2.heap.objs.size≠HH.objs.size:=by rw[hC];exact OC (Pf _)
 have Hj:s2.heap.objs.size<=HH.objs.size:=by rw[hC];exact QV _
 have F8:∀b o,s2.heap.get? b=some o->b≠HH.objs.size:=fun b o e=>OC (Ot (Ou e) Hj)
 have ID:∀b o,s2.heap.get? b=some o->(HH.push {cls:=.type "dict",data:=.dict #[]}).get? b=some o:=fun b o e=>Oi _ (IC▸Oi _ e)
 have old:∀b o,s2.heap.get? b=some o->(pushCells (HH.push {cls:=.type "dict",data:=.dict #[]}) scope.names).get? b=some o:=fun b o e=>SF _ _ b o (ID b o e)
 have EW:(HH.push {cls:=.type "dict",data:=.dict #[]}).get? s2.heap.objs.size=some {cls:=.type "list",data:=.seq #[] 0}:=Oi _ (IC▸Ow _ rfl);obtain⟨W,⟨m0,w0⟩,turn⟩:=q s2.heap.objs.size (I2.hok.fresh (Oq _));have fin:∀b∈fp,∃o,s2.heap.get? b=some o:=fun b hb=>let⟨o,e,_⟩:=T.obj 0 _ De b hb;⟨o,e⟩
 have Fc:∀{H':Hp},(∀b∈fp,H' b=none)->∀b∈fp,j4 (bj X scope N HH.objs.size s2 H2 fp (X.pn++pr)) [] H' b:=fun{H'} hn b hb=>by
  obtain⟨f0,f1,ff,f3,f4,f5⟩:=f2 b hb;refine⟨hn b hb,?_,fun z=>?_,.inl hb,fun x c e=>?_,fun p hp=>?_⟩
  ·intro z;have z:b=HH.objs.size:=z;obtain⟨o,ho⟩:=fin b hb;exact F8 b o ho z
  ·exact(Ov.mp (I2.stkSub b z)).elim f1 ff
  ·have e:(cellsFrom (HH.objs.size+1) scope.names (clOf scope X.env)).lookup x=some c:=e;have sz:(HH.push {cls:=.type "dict",data:=.dict #[]}).objs.size=HH.objs.size+1:=Pa ..;rw[<-sz]at e;rcases hV scope.names _ _ e with e|⟨e1,_⟩
   ·exact f4 x c (dS I2.ok hf e)
   ·intro z;subst z;obtain⟨o,ho⟩:=fin c hb;rw[sz]at e1;exact absurd (Ot (Ou ho) (OF Hj (QF e1))) (Py _)
  ·have hp:p∈X.pn++pr:=by
    have:p∈(X.pn++pr)++[]:=hp
    rwa [OK]at this
   exact f5 p hp
 have loop:∀s₃:Shared,s₃={s2 with heap:=pushCells (HH.push {cls:=.type "dict",data:=.dict #[]}) scope.names}->
   codeAny (model X.prog X.w) X.A (.compLoop (.ListComp elt [⟨tg,iter,ifs,0⟩] scope pos) 0 (.ref it) (.ref s2.heap.objs.size) (compEnvC scope (cellsFrom (HH.objs.size+1) scope.names (clOf scope X.env)) HH.objs.size X.env)) (RR (.ref s2.heap.objs.size) HH.objs.size) s₃:=by
  rintro s₃ rfl;refine kh (fun n s'=>∃i σ' H',Inv (bj X scope N HH.objs.size s2 H2 fp (X.pn++pr)) [] σ' H' s'/\tn i s'.heap/\(∀b∈fp,H' b=none)/\W i n σ' H') ?_ m0
   ⟨0,_,_,I2.blockK hf hk Dp D7 f2 fin rfl hC (Pa ..) ID EW (Heap.Ns.new ..),T.keep 0 _ _ De fun b _ o e=>old b o e,fun b hb=>?_,w0⟩
  ·rintro n s3 ⟨i,σ3,H3,I3,Dv,Jt,w3⟩;rcases turn i n σ3 H3 w3 with⟨stop,qn⟩|⟨go,step⟩
   ·refine Dn (T.done (bj X scope N HH.objs.size s2 H2 fp (X.pn++pr)) rfl rfl rfl hc i [] s3 σ3 H3 HC I3 (Fc Jt) Dv stop) fun r s4 Dl=>?_
    obtain⟨hr,I4⟩:=Dl;subst hr;exact MT _ _ σ3 H3 s4 Hj I4 qn
   ·refine Dn (T.item (bj X scope N HH.objs.size s2 H2 fp (X.pn++pr)) rfl rfl rfl hc i [] s3 σ3 H3 HC I3 (Fc Jt) Dv go) fun r s4 Dl=>?_
    obtain⟨u,hr,h4⟩:=Dl;subst hr;refine Dn h4 fun _ s5 Dl=>?_
    obtain⟨x,H5,I5,r5,y5,Ei,K6⟩:=Dl;have K7:=I5.pinned (Fc K6) (T.obj _ _ Ei);refine Dn (hg _ _ _ _ _ _ s5 σ3 H5 x u _ K7 r5 (step x H5 y5)) fun _ s6 Dl=>?_
    obtain⟨σ6,H6,I6,q6⟩:=Dl;refine Dn (ht _ _ _ _ _ _ s6 σ6 H6 _ I6 q6) fun ok s7 Dl=>?_
    obtain⟨H7,I7,q7⟩:=Dl;have again:∀{H8:Hp}{s8:Shared},Inv (bj X scope N HH.objs.size s2 H2 fp (X.pn++pr)) ([]++iV fp s5.heap) σ6 H8 s8->(∃m',m'<n/\W (i+1) m' σ6 H8)->
      ∃m,m<n/\∃i σ' H',Inv (bj X scope N HH.objs.size s2 H2 fp (X.pn++pr)) [] σ' H' s8/\tn i s8.heap/\(∀b∈fp,H' b=none)/\W i m σ' H':=fun{H8 s8} I8 ⟨m',hm,w8⟩=>by
     refine⟨m',hm,i+1,σ6,H8,I8.unpinned,T.keep _ _ _ Ei fun b hb o e=>(I8.pin (b,o) (Oj _ (Oj _ (cD hb e)))).1,fun b hb=>?_,w8⟩;obtain⟨o,e,d⟩:=T.obj _ _ Ei b hb;exact(I8.pin (b,o) (Oj _ (Oj _ (cD hb e)))).2.1
    cases ok with
    |false=>exact again I7 q7
    |true=>
     show wpAny _ _ _ _ _ _;refine Dn (he _ _ _ _ _ _ s7 σ6 H7 _ I7 q7) fun x8 s8 Dl=>?_
     obtain⟨v8,H8,I8,r8,ys,MU,DH,q8⟩:=Dl;refine Dn (ie _ s8 σ6 H8 (.ref s2.heap.objs.size) [v8] (.ref s2.heap.objs.size) [x8] (fun _ H9=>∃m',m'<n/\W (i+1) m' σ6 H9) I8 rfl (.cons r8 .nil) ⟨_,ys,v8,rfl,rfl,MU,DH,q8⟩) fun _ s9 Dl=>?_
     obtain⟨_,H9,I9,_,q9⟩:=Dl;exact again I9 q9
  ·rw[ai (fun z=>by
    obtain⟨o,ho⟩:=fin b hb;exact absurd z (OC (Ou ho)))]
   exact(f2 b hb).1
 exact codeAny_compStart_list (loop _ rfl) (T.self _ 0 _ _ _ (T.keep 0 _ _ De fun b _ o e=>old b o e) (loop _ rfl))
theorem sO(ix:List (Option Nat))(N:List Str)(hc:X.calm=true)(hi:PI X tg iter wi)(hg:∀C s H fp pn,PG (bj X scope N C s H fp pn) tg g)(ht:∀C s H fp pn,Jx (bj X scope N C s H fp pn) ifs tc)(he:∀C s H fp pn,PE (bj X scope N C s H fp pn) elt te)
  (hf:cE scope X.env=true:=by rfl) (hk:scope.kind=.function:=by rfl) (Dp:∀y∈scope.names,y.2=.cell->scope.names.lookup y.1=some .cell:=by decide +kernel) (DA:∀y∈scope.names,y.2=.local->scope.names.lookup y.1=some .local:=by decide +kernel) (D7:lh X scope N ix=true:=by rfl)
  (hs:∀x,foldedSetIterable iter X.env x=pure x:=by intro _;rfl):PE X (.ListComp elt [⟨tg,iter,ifs,0⟩] scope pos) (nU wi ix g tc te):=by
 intro pr s σ H Q I h;rw[eval_ListComp];have Gh:closureFor scope X.env=pure (clOf scope X.env):=by
  unfold closureFor clOf;have:=dj X.env scope.names [] (hU I.ok hf);simpa using this
 refine Q0 (use:=none) rfl hs Gh hk DA (Dn (hi pr s σ H _ I h) fun v s1 h1=>Dn h1 fun K5 s2 h2=>?_);obtain⟨it,fp,tn,J,H2,e,I2,T,De,f2,q⟩:=h2;subst e;refine lF (RR:=fun acc C=>compPost (model X.prog X.w) X.A X.xe none (EP X pr σ Q) acc C) (Q:=Q) (iter:=iter) hc I2 T De f2 hg ht he hf hk Dp D7 q fun D C σ1 H1 s1 hC J1 q1=>?_
 obtain⟨m,ns,_⟩:=J1.loc;exact⟨m,ns,fun h' Li=>⟨.ref D,H1,I2.unblockK f2 hC J1 Li,rfl,q1⟩⟩
end
noncomputable def CXC(P:Program)(w:World)(base:Heap)(C:Addr):CXT:=fun outer H s E e s'=>
 ∃(a t:Addr) (B:Heap) (H':Hp),e=.ref a/\s'.os=s.os/\AllBare s'.gens/\Un (GD outer) [] H H' s.heap s'.heap/\HOk P w H' s'.heap/\Heap.FlyingW B outer a (.ref C) (.ref t) s'.heap/\
  (∀b u,s'.heap.get? b=some u->(H' b≠none\/∃o,s.heap.get? b=some o)->b∉GD outer->B.get? b=some u)/\E (.ref C) none H'
section
variable{X:Cx}{st:Stmt}{aE:List Stmt}{t:TS}{u u':L2.St->Hp->Prop}{e:Expr}{es:List Expr}{x:Str}{C:Addr}{Ww:Hp->Prop}{np DO pos:Pos}
end
def XP(X:Cx)(pr:List (Addr×Obj))(σ:L2.St)(C:Addr)(Ww:Hp->Prop)(e:Value)(s':Shared):Prop:=∃(s1:Shared) (H1:Hp),Inv X pr σ H1 s1/\CXC X.prog X.w X.base C X.stack H1 s1 (fun _ _ H'=>Ww H') e s'
abbrev TX:=L2.St->Hp->(Hp->Prop)->Prop
section
variable{X:Cx}{st:Stmt}{aE:List Stmt}{tx:TX}{e a b:Expr}{es:List Expr}{x:Str}{C:Addr}{k:Nat}{sp:Sp}{p pos:Pos}
end
open PySem.Builtin.ObjectAttr PySem.Builtin.Getset_descriptor
section
variable{prog:Program}{w:World}{A:Around}{E:Value->Shared->Prop}{s:Shared}{K:W.Frag}{x D:Addr}
end
section
variable{X:Cx}{pr:List (Addr×Obj)}{σ:L2.St}{H:Hp}{s:Shared}{a:Addr}{o:Obj}
end
end NX
namespace NX
open PySem PySem.W PySem.Spec PyProof.Rows L2
section
variable{prog:Program}{w:World}{A:Around}{E:Value->Shared->Prop}{s:Shared}
end
section
variable{X:Cx}
end
end NX
namespace NX
open PySem PySem.Spec PyProof.Rows L2
abbrev eB(h:Heap)(k:Bool)(l:Addr):Heap:=(zA h k l).push {cls:=.type "enumerate",data:=.fields #[.none,.bool false,.ref h.objs.size,rawInt 0,.none,.none]}
set_option maxHeartbeats 8000000 in
theorem yG(k:Bool)(l:Addr)(xs:Array Value):
  Meets (Builtin.«enumerate.__new__» ⟨[.type "enumerate",.ref l],[]⟩) (fun _ R s=>IsSq k s.heap l xs/\R (.ok (.ret (.ref (zA s.heap k l).objs.size))) {s with heap:=eB s.heap k l}):=
 .of_wp fun prog w A R s h=>by
  obtain⟨hp,g,d,tk,os⟩:=s;obtain⟨g1,q⟩:=h;have hsub:=sub_enumerate;cases k with
  |true=>
   obtain⟨o,ho,_⟩:=id (show Heap.IsList hp l xs from g1);have e1:Heap.IsList (Shared.heap ⟨hp,g,d,tk,os⟩) l xs:=g1;have hl:(Shared.heap ⟨hp,g,d,tk,os⟩).get? l=some o:=ho
   wp_walk using PB hl
   refine wpAny_stack_any fun sk=>Ox ?_
   split
   ·rename_i c _ _ _ _ _;cases(c==Value.type "enumerate") <;> (wp_walk using PB hl,PQ e1;exact⟨_,rfl,q⟩)
   ·wp_walk using PB hl,PQ e1
    exact⟨_,rfl,q⟩
  |false=>
   obtain⟨o,ho,_⟩:=id (show Heap.IsTuple hp l xs from g1);have e1:Heap.IsTuple (Shared.heap ⟨hp,g,d,tk,os⟩) l xs:=g1;have hl:(Shared.heap ⟨hp,g,d,tk,os⟩).get? l=some o:=ho
   wp_walk using PB hl
   refine wpAny_stack_any fun sk=>Ox ?_
   split
   ·rename_i c _ _ _ _ _;cases(c==Value.type "enumerate") <;> (wp_walk using PB hl,PH e1;exact⟨_,rfl,q⟩)
   ·wp_walk using PB hl,PH e1
    exact⟨_,rfl,q⟩
def ES(k:Bool)(e it l:Addr)(i:Nat)(h:Heap):Prop:=(∃old,IsEnum h e it i old)/\IsIt k h it l i
theorem wb{prog:Program}{w:World}{A:Around}{E:Value->Shared->Prop}{s:Shared}{k:Bool}{l:Addr}{xs:Array Value}{Q:Value->Shared->Prop}(g1:IsSq k s.heap l xs)
  (q:∀h',ES k (s.heap.objs.size+1) (s.heap.objs.size+0) l 0 h'->(∀c o,s.heap.get? c=some o->h'.get? c=some o)->Q (.ref (s.heap.objs.size+1)) {s with heap:=h'}):
  wpAny (model prog w) A (call (.type "enumerate") [.ref l]) Q E s:=by
 refine callType_new F.called_enumerate (by decide) (F.typeCall_enumerate_1 _) (F.newCall_enumerate_1 _) (fun obj=>F.args_object_init_2 obj _) F.entry_enumerate_new (yG k l xs) ⟨g1,?_⟩;have nA:(zA s.heap k l).objs.size=s.heap.objs.size+1:=Pa ..;have gz:(eB s.heap k l).get? (zA s.heap k l).objs.size=some _:=Ow _ rfl;have j1:IsIt k (eB s.heap k l) s.heap.objs.size l 0:=(jq k s.heap l).at fun o e=>Oi _ e
 show _/\_;rw[nA]at gz ⊢;exact⟨⟨_,gz,rfl⟩,q _ ⟨⟨_,gz⟩,j1⟩ fun c o x=>Oi _ (Oi _ x)⟩
theorem mD{prog:Program}{w:World}{A:Around}(k:Bool)(hh:A.handled=none)(it l:Addr)(ne:l≠it)(xs:Array Value):
  Draws prog w A it [it,l] xs.size (fun i v=>xs[i]?=some v) (fun i h=>IsIt k h it l i/\IsSq k h l xs) where
 live:=fun i h st=>by obtain⟨o,e,_⟩:=st.1.obj;exact⟨o,e⟩
 frame:=fun i h h' st kk=>⟨st.1.at fun o e=>kk it (by simp) o e,st.2.at fun o e=>kk l (by simp) o e⟩
 item:=fun i s Q E hi st q=>jo st.1 st.2 (x:=xs[i]) (by simp[hi]) fun h' j sb=>q _ h' s.toks (by simp[hi]) ⟨j,st.2.at fun o e=>sb.extBut _ _ ne e⟩ sb
 done:=fun s Q E st q=>pb hh st.1 st.2 (by simp) q
noncomputable def M1(K:W.Frag)(k:Bool)(a:Addr):It:=
 ⟨fun i H=>∃xs x,(if k then SqL K H a xs else SqT K H a xs)/\xs[i]?=some x,
  fun i H v H'=>∃T,H T=none/\v=.ref T/\∀xs x,(if k then SqL K H a xs else SqT K H a xs)->xs[i]?=some x->H'=upd H T (.tup [.int (i:Int),x]),
  fun i H=>∃xs,(if k then SqL K H a xs else SqT K H a xs)/\i=xs.length⟩
theorem pC{P:Program}{w:World}{K:W.Frag}{es:List Expr}{kt:Nat}{pt:Pos}(k:Bool)(a e it:Addr)(ne:e≠it):
  Turn P w K (.Tuple es kt pt) (M1 K k a) [e,it] e (ES k e it a) where
 mem:=by simp
 obj:=fun i h st c hc=>by
  obtain⟨⟨old,he⟩,h1⟩:=st;simp only[Ov,Pg,Rx]at hc;rcases hc with rfl|rfl
  ·exact⟨_,he,fun v q=>by cases q⟩
  ·exact h1.obj
 keep:=fun i h h' st k=>by
  obtain⟨⟨old,he⟩,h1⟩:=st;exact⟨⟨old,k e (by simp) _ he⟩,h1.at fun o x=>k it (by simp) o x⟩
 item:=by
  intro X hP hw hK hc i pr s σ H E I hf st hg;subst hP hw hK;obtain⟨xs,x,s1,hx⟩:=hg;obtain⟨us,r1,q1⟩:=jr I s1;obtain⟨u,hu,ru⟩:=r1.get hx;have fe:=hf e (by simp);have fi:=hf it (by simp);have na:a≠it:=dy I s1 fi;have nb:a≠e:=dy I s1 fe;obtain⟨⟨old,he⟩,h1⟩:=st;have lt:i<us.toArray.size:=by
   rw[Of];exact(Om.mp hu).1
  have dr:Draws X.prog X.w X.A.in1 it [it,a] us.toArray.size (fun i v=>us.toArray[i]?=some v) (fun i h=>IsIt k h it a i/\IsSq k h a us.toArray):=mD k (show X.A.in1.handled=none from I.ok.hd hc) it a na us.toArray;refine wpAny_pyNext_enum_itemD dr he ⟨h1,q1⟩ lt ne (by simp[ne,nb.symm]) fun v h' tk hv z1 j1 tp sz kk=>⟨_,rfl,?_⟩
  have hv:v=u:=by
   have Ms:us[i]?=some v:=by simpa using hv
   rw[hu]at Ms;cases Ms;rfl
  subst hv;refine wpAny_letOwnedTupleGo_enum z1 fun h2 z2 sb=>?_
  have nT:H s.heap.objs.size=none:=I.hok.fresh (Oq _);have tT:s.heap.objs.size≠e:=Qy (Ou he);have tI:s.heap.objs.size≠it:=by
   obtain⟨o,x,_⟩:=h1.obj;exact Qy (Ou x)
  have all:∀c o,c≠e->c≠it->s.heap.get? c=some o->h2.get? c=some o:=fun c o c1 c2 x=>(sb.2 c c1).trans (kk c o c1 c2 x)
  have GI:∀c ob,H c=some ob->c≠e/\c≠it:=fun c ob x=>⟨(fun q=>by rw[q,fe.1]at x;cases x),fun q=>by rw[q,fi.1]at x;cases x⟩
  refine⟨.ref s.heap.objs.size,upd H s.heap.objs.size (.tup [.int (i:Int),x]),?_,rfl,⟨_,nT,rfl,fun DS x' a1 a2=>?_⟩,⟨⟨v,z2⟩,j1.1.at fun o y=>(sb.2 it ne.symm).trans y⟩,fun c hc=>?_⟩
  ·have J4:h2.get? s.heap.objs.size=some {cls:=.type "tuple",data:=.seq #[.int i tk,v]}:=(sb.2 _ tT).trans tp;have S0:Inv X pr σ (upd H s.heap.objs.size (.tup [.int (i:Int),x])) {s with heap:=h2,gens:=s.gens,drawn:=s.drawn,toks:=tk+1}:=by
    refine I.step (ch:=[e,it]) (fun c hc=>?_) (fun c o _ _ nc y _=>all c o (fun q=>nc (by simp[q])) (fun q=>nc (by simp[q])) y)
     (fun c o _ _ nc y _=>⟨o.slots,all c o (fun q=>nc (by simp[q])) (fun q=>nc (by simp[q])) y⟩) (fun c o _ y n=>by rw[ai (OC (Ou y))];exact n)
     (fun c o nc y=>⟨o,all c o (fun q=>nc (by simp[q])) (fun q=>nc (by simp[q])) y⟩) (fun c l y=>by rw[ai (aA y nT)];exact y) (fun c o u' y=>by rw[ai (aA y nT)];exact y)
     (fun c ps y=>⟨#[],by rw[ai (aA y nT),y];simp⟩) (fun m hm=>?_) (fun c ob y=>?_) I.bare
    ·simp only[Ov,Pg,Rx]at hc;rcases hc with rfl|rfl
     ·exact⟨fe.2.2.2.1,fe.2.1,fe.2.2.2.2.1,fe.2.2.2.2.2⟩
     ·exact⟨fi.2.2.2.1,fi.2.1,fi.2.2.2.2.1,fi.2.2.2.2.2⟩
    ·obtain⟨o,es,ep,ho,r⟩:=hm;exact⟨o,es,ep,all _ o (Qb fe.2.1) (Qb fi.2.1) ho,r⟩
    ·by_cases ec:c=s.heap.objs.size
     ·subst ec;rw[aw]at y;cases y;exact⟨by simp only[OA,P1];rw[QU];decide,[.int i tk,v],.cons ⟨tk,rfl⟩ (.cons ru .nil),⟨_,J4,rfl,⟨0,rfl⟩,rfl⟩⟩
     ·rw[ai ec]at y;refine(I.hok c ob y).stay (fun d w' hd q=>?_) (fun d q=>by rw[ai (aA q nT)];exact q) fun d l q=>by rw[ai (aA q nT)];exact q
      have Iy:∃oo,H d=some oo:=by
       rcases hd with rfl|hd
       ·exact⟨_,y⟩
       ·exact⟨_,hd⟩
      obtain⟨oo,J5⟩:=Iy;obtain⟨m1,m2⟩:=GI d oo J5;exact all d w' m1 m2 q
   exact S0
  ·have e1:=pd I a1 s1;subst e1;rw[hx]at a2;cases a2;rfl
  ·have cs:c≠s.heap.objs.size:=by
    simp only[Ov,Pg,Rx]at hc;rcases hc with rfl|rfl
    ·exact tT.symm
    ·exact tI.symm
   rw[ai cs];exact(hf c hc).1
 done:=by
  intro X hP hw hK hc i pr s σ H E I hf st hg;subst hP hw hK;obtain⟨xs,s1,hi⟩:=hg;obtain⟨us,r1,q1⟩:=jr I s1;have l1:=r1.length;have fe:=hf e (by simp);have fi:=hf it (by simp);have na:a≠it:=dy I s1 fi;obtain⟨⟨old,he⟩,h1⟩:=st;have hn:i=us.toArray.size:=by rw[Of,hi,l1]
  subst hn;have dr:Draws X.prog X.w X.A.in1 it [it,a] us.toArray.size (fun i v=>us.toArray[i]?=some v) (fun i h=>IsIt k h it a i/\IsSq k h a us.toArray):=mD k (show X.A.in1.handled=none from I.ok.hd hc) it a na us.toArray;refine wpAny_pyNext_enum_endD dr he ⟨h1,q1⟩ fun h' kk=>⟨rfl,?_⟩
  have GI:∀c ob,H c=some ob->c≠it:=fun c ob x q=>by rw[q,fi.1]at x;cases x
  have S0:Inv X pr σ H {s with heap:=h',gens:=s.gens,drawn:=s.drawn,toks:=s.toks}:=by
   refine I.step (ch:=[it]) (fun c hc=>?_) (fun c o _ _ nc y _=>kk c o (fun q=>nc (by simp[q])) y)
    (fun c o _ _ nc y _=>⟨o.slots,kk c o (fun q=>nc (by simp[q])) y⟩) (fun c o _ y n=>n)
    (fun c o nc y=>⟨o,kk c o (fun q=>nc (by simp[q])) y⟩) (fun c l y=>y) (fun c o u' y=>y)
    (fun c ps y=>⟨#[],by rw[y];simp⟩) (fun m hm=>?_) (fun c ob y=>?_) I.bare
   ·rw[Pb.mp hc];exact⟨fi.2.2.2.1,fi.2.1,fi.2.2.2.2.1,fi.2.2.2.2.2⟩
   ·obtain⟨o,es,ep,ho,r⟩:=hm;exact⟨o,es,ep,kk _ o (Qb fi.2.1) ho,r⟩
   ·refine(I.hok c ob y).stay (fun d w' hd q=>?_) (fun d q=>q) fun d l q=>q
    have Iy:∃oo,H d=some oo:=by
     rcases hd with rfl|hd
     ·exact⟨_,y⟩
     ·exact⟨_,hd⟩
    obtain⟨oo,J5⟩:=Iy;exact kk d w' (GI d oo J5) q
  exact S0
 self:=fun _ _ _ _ _ st h=>by
  obtain⟨⟨old,he⟩,_⟩:=st;exact wpAny_pyIter_enum he h
section
variable{X:Cx}{es:List Expr}{kt:Nat}{pt:Pos}
def A6(K:W.Frag)(k:Bool)(ta:TA):TI:=fun σ H R=>ta σ H fun vs H1=>∃a xs,vs=[.ref a]/\(if k then SqL K H1 a xs else SqT K H1 a xs)/\R (M1 K k a) H1
theorem wc(k:Bool){e1:Expr}{ta:TA}{p pos:Pos}(hg:Gl X "enumerate")(hm:X.mg "enumerate" = none)(ha:PA X [e1] ta)(he:starEach [e1] X.env=[(false,eval e1 X.env)]:=by rfl):
  PI X (.Tuple es kt pt) (.Call (.Name "enumerate" p) [e1] [] pos) (A6 X.K k ta):=by
 intro pr s σ H R I h;refine P5 (gH I hg hm (by decide +kernel:bootBuiltins "enumerate" = some (.type "enumerate")) ?_ (by decide) (by decide));refine Pm (Dn (ha pos pr s σ H _ I h) fun us s1 ⟨vs,H1,I1,r1,a,xs,e,MY,q⟩=>?_) he rfl;subst e;cases r1 with
 |cons r rr=>
  cases rr;cases r;obtain⟨us,v1,q1⟩:=jr I1 MY;refine wb q1 fun h' st kk=>?_
  obtain⟨⟨old,ho⟩,hi⟩:=id st;refine wpAny_pyIter_enum ho ?_;have fr:∀j,j4 X pr H1 (s1.heap.objs.size+j):=fun j=>I1.fpOk (Rp _ _) (I1.hok.fresh (Rp _ _))
  refine⟨_,_,_,_,H1,rfl,I1.kept (t':=s1.toks) kk,pC k a (s1.heap.objs.size+1) (s1.heap.objs.size+0) (fun z=>by have:=S6 z;cases this),st,fun c hc=>?_,q⟩;simp only[Ov,Pg,Rx]at hc;rcases hc with rfl|rfl
  ·exact fr 1
  ·exact fr 0
end
section
variable{X:Cx}{scope:Scope}{N:List Str}{ix:List (Option Nat)}{tg iter elt:Expr}{ifs:List Expr}{pos:Pos}{wi:TI}{g:TG}{tc:TT}{te:TE}
end
end NX
namespace PV
open PySem L2 NX
inductive D where
 |non|bl (b:Bool)|int (i:Int)|str (l:List Nat)|tup (ds:List D)|lst (ds:List D)|dct (tk:Bool) (ks vs:List D)
inductive O where
 |f|l (c:O)|t (cs:List O)|d|pin (p:Addr) (c:O)
abbrev R:=O×D
abbrev Env:=List (Option R)
inductive Res(α:Type) where
 |ok (a:α)|exc (c:List Nat)|bad
def kD:Key->D
 | .inl i=>.int i
 | .inr x=>.str x.cps.toList
def isM:HO->Bool
 | .lst _=>true
 | .dK _=>true
 | .dT _=>true
 |_=>false
def isT:HO->Bool
 | .tup _=>true
 | .frz _ (.tup _)=>true
 |_=>false
def fitK:Key->Prop
 | .inl _=>True
 | .inr x=>x.cps.toList.length<=sizeLine
def DictO(o:HO)(tk:Bool)(ks:List D)(xs:List V):Prop:=match tk with
 |true=>∃C1:List (List Key×V),o=.dT C1/\ks=C1.map (fun kv=>D.tup (kv.1.map kD))/\xs=C1.map (·.2)/\∀kv∈C1,∀k∈kv.1,fitK k
 |false=>∃C1:List (Key×V),o=.dK C1/\ks=C1.map (fun kv=>kD kv.1)/\xs=C1.map (·.2)/\∀kv∈C1,fitK kv.1
mutual
noncomputable def Rep(K:W.Frag)(G:Hp):D->V->Prop
 | .non,v=>v=.non
 | .bl b,v=>v=.bl b
 | .int i,v=>v=.int i
 | .str l,v=>v=.str (S l)/\l.length<=sizeLine
 | .tup ds,v=>∃p xs,v=.ref p/\G p=some (.tup xs)/\Reps K G ds xs
 | .lst ds,v=>∃p xs,v=.ref p/\SqL K G p xs/\Reps K G ds xs
 | .dct tk ks vs,v=>∃p xs o,v=.ref p/\Rd G p o/\DictO o tk ks xs/\Reps K G vs xs
noncomputable def Reps(K:W.Frag)(G:Hp):List D->List V->Prop
 |[],xs=>xs=[]
 |d::ds,xs=>∃y ys,xs=y::ys/\Rep K G d y/\Reps K G ds ys
end
def AllO(P:D->V->List Addr->Prop):List D->List V->List Addr->Prop
 |[],xs,fp=>xs=[]/\fp=[]
 |d::ds,xs,fp=>∃y ys a b,xs=y::ys/\fp=a++b/\P d y a/\AllO P ds ys b
mutual
noncomputable def RepO(K:W.Frag)(G H:Hp):O->D->V->List Addr->Prop
 | .f,d,v,fp=>Rep K G d v/\fp=[]
 | .l c,.lst ds,v,fp=>∃p xs C6,v=.ref p/\H p=some (.lst xs)/\fp=p::C6/\AllO (RepO K G H c) ds xs C6
 | .t cs,.tup ds,v,fp=>∃p xs,v=.ref p/\G p=some (.tup xs)/\RepT K G H cs ds xs fp
 | .d,.dct tk ks vs,v,fp=>∃p xs o,v=.ref p/\H p=some o/\DictO o tk ks xs/\fp=[p]/\Reps K G vs xs
 | .pin p c,d,v,fp=>v=.ref p/\RepO K G H c d v fp
 |_,_,_,_=>False
noncomputable def RepT(K:W.Frag)(G H:Hp):List O->List D->List V->List Addr->Prop
 |[],[],xs,fp=>xs=[]/\fp=[]
 |c::cs,d::ds,xs,fp=>∃y ys a b,xs=y::ys/\fp=a++b/\RepO K G H c d y a/\RepT K G H cs ds ys b
 |_,_,_,_=>False
end
section
variable{K:W.Frag}{G G' H H':Hp}
theorem Rd.mono{p:Addr}{u:HO}(h:Same G G')(r:Rd G p u):Rd G' p u:=by
 rcases r with r|⟨o,r⟩
 ·exact .inl (h _ _ r)
 ·exact .inr ⟨o,h _ _ r⟩
theorem eO{p:Addr}{xs:List V}(h:Same G G')(r:SqL K G p xs):SqL K G' p xs:=r.elim (fun r=>.inl (Rd.mono h r)) .inr
theorem aU{p:Addr}{xs:List V}(h:Same G G')(r:SqT K G p xs):SqT K G' p xs:=r.elim (fun r=>.inl (Rd.mono h r)) .inr
mutual
theorem Rep.mono(h:Same G G'):∀{d:D}{v:V},Rep K G d v->Rep K G' d v
 | .non,_,r=>by simpa only[Rep] using r
 | .bl _,_,r=>by simpa only[Rep] using r
 | .int _,_,r=>by simpa only[Rep] using r
 | .str _,_,r=>by simpa only[Rep] using r
 | .tup ds,_,r=>by
  simp only[Rep]at r ⊢;obtain⟨p,xs,e,q,rs⟩:=r;exact⟨p,xs,e,h _ _ q,Reps.mono h rs⟩
 | .lst ds,_,r=>by
  simp only[Rep]at r ⊢;obtain⟨p,xs,e,q,rs⟩:=r;exact⟨p,xs,e,eO h q,Reps.mono h rs⟩
 | .dct tk ks vs,_,r=>by
  simp only[Rep]at r ⊢;obtain⟨p,xs,o,e,q,dd,rs⟩:=r;exact⟨p,xs,o,e,Rd.mono h q,dd,Reps.mono h rs⟩
theorem Reps.mono(h:Same G G'):∀{ds:List D}{xs:List V},Reps K G ds xs->Reps K G' ds xs
 |[],_,r=>by simpa only[Reps] using r
 |d::ds,_,r=>by
  simp only[Reps]at r ⊢;obtain⟨y,ys,e,r1,r2⟩:=r;exact⟨y,ys,e,Rep.mono h r1,Reps.mono h r2⟩
end
theorem AllO.imp{P P':D->V->List Addr->Prop}:∀{ds:List D}{xs:List V}{fp:List Addr},(∀d v a,(∀p∈a,p∈fp)->P d v a->P' d v a)->AllO P ds xs fp->AllO P' ds xs fp
 |[],_,_,_,r=>r
 |d::ds,xs,fp,h,r=>by
  obtain⟨y,ys,a,b,e1,e2,p,q⟩:=r;subst e2;exact⟨y,ys,a,b,e1,rfl,h _ _ _ (fun p hp=>Oo _ hp) p,AllO.imp (fun d v c hc=>h d v c fun p hp=>Oj _ (hc p hp)) q⟩
mutual
theorem RepO.step(h:Same G G'):∀{o:O}{d:D}{v:V}{fp:List Addr},(∀p∈fp,H' p=H p)->RepO K G H o d v fp->RepO K G' H' o d v fp
 | .f,d,v,fp,hk,r=>by
  simp only[RepO]at r ⊢;exact⟨Rep.mono h r.1,r.2⟩
 | .pin p c,d,v,fp,hk,r=>by
  simp only[RepO]at r ⊢;exact⟨r.1,RepO.step h hk r.2⟩
 | .l c,.lst ds,v,fp,hk,r=>by
  simp only[RepO]at r ⊢;obtain⟨p,xs,C6,e,q,e2,a⟩:=r;subst e2;exact⟨p,xs,C6,e,(hk p Oh).trans q,rfl,AllO.imp (fun d v c hc=>RepO.step h fun z hz=>hk z (Og _ (hc z hz))) a⟩
 | .t cs,.tup ds,v,fp,hk,r=>by
  simp only[RepO]at r ⊢;obtain⟨p,xs,e,q,a⟩:=r;exact⟨p,xs,e,h _ _ q,RepT.step h hk a⟩
 | .d,.dct tk ks vs,v,fp,hk,r=>by
  simp only[RepO]at r ⊢;obtain⟨p,xs,o,e,q,dd,e2,rs⟩:=r;subst e2;exact⟨p,xs,o,e,(hk p Oh).trans q,dd,rfl,Reps.mono h rs⟩
 | .l _,.non,_,_,_,r | .l _,.bl _,_,_,_,r | .l _,.int _,_,_,_,r | .l _,.str _,_,_,_,r | .l _,.tup _,_,_,_,r | .l _,.dct _ _ _,_,_,_,r=>by simp only[RepO]at r
 | .t _,.non,_,_,_,r | .t _,.bl _,_,_,_,r | .t _,.int _,_,_,_,r | .t _,.str _,_,_,_,r | .t _,.lst _,_,_,_,r | .t _,.dct _ _ _,_,_,_,r=>by simp only[RepO]at r
 | .d,.non,_,_,_,r | .d,.bl _,_,_,_,r | .d,.int _,_,_,_,r | .d,.str _,_,_,_,r | .d,.tup _,_,_,_,r | .d,.lst _,_,_,_,r=>by simp only[RepO]at r
theorem RepT.step(h:Same G G'):∀{cs:List O}{ds:List D}{xs:List V}{fp:List Addr},(∀p∈fp,H' p=H p)->RepT K G H cs ds xs fp->RepT K G' H' cs ds xs fp
 |[],[],_,_,_,r=>by simpa only[RepT] using r
 |c::cs,d::ds,xs,fp,hk,r=>by
  simp only[RepT]at r ⊢;obtain⟨y,ys,a,b,e1,e2,r1,r2⟩:=r;subst e2;exact⟨y,ys,a,b,e1,rfl,RepO.step h (fun p hp=>hk p (Oo _ hp)) r1,RepT.step h (fun p hp=>hk p (Oj _ hp)) r2⟩
 |[],_::_,_,_,_,r=>by simp only[RepT]at r
 |_::_,[],_,_,_,r=>by simp only[RepT]at r
end
theorem AllO.frozen{P:D->V->List Addr->Prop}:∀{ds:List D}{xs:List V}{fp:List Addr},(∀d v a,(∀p∈a,p∈fp)->P d v a->Rep K G' d v)->AllO P ds xs fp->Reps K G' ds xs
 |[],_,_,_,r=>by simp only[Reps];exact r.1
 |d::ds,xs,fp,h,r=>by
  obtain⟨y,ys,a,b,e1,e2,p,q⟩:=r;subst e2;simp only[Reps];exact⟨y,ys,e1,h _ _ _ (fun p hp=>Oo _ hp) p,AllO.frozen (fun d v c hc=>h d v c fun p hp=>Oj _ (hc p hp)) q⟩
mutual
theorem RepO.frozen(h:Same G G'):∀{o:O}{d:D}{v:V}{fp:List Addr},(∀p∈fp,∀u,H p=some u->G' p=some u)->RepO K G H o d v fp->Rep K G' d v
 | .f,d,v,fp,hk,r=>by
  simp only[RepO]at r;exact Rep.mono h r.1
 | .pin p c,d,v,fp,hk,r=>by
  simp only[RepO]at r;exact RepO.frozen h hk r.2
 | .l c,.lst ds,v,fp,hk,r=>by
  simp only[RepO]at r;simp only[Rep];obtain⟨p,xs,C6,e,q,e2,a⟩:=r;subst e2;exact⟨p,xs,e,SqL.of (hk p Oh _ q),AllO.frozen (fun d v c hc=>RepO.frozen h fun z hz=>hk z (Og _ (hc z hz))) a⟩
 | .t cs,.tup ds,v,fp,hk,r=>by
  simp only[RepO]at r;simp only[Rep];obtain⟨p,xs,e,q,a⟩:=r;exact⟨p,xs,e,h _ _ q,RepT.frozen h hk a⟩
 | .d,.dct tk ks vs,v,fp,hk,r=>by
  simp only[RepO]at r;simp only[Rep];obtain⟨p,xs,o,e,q,dd,e2,rs⟩:=r;subst e2;exact⟨p,xs,o,e,.inl (hk p Oh _ q),dd,Reps.mono h rs⟩
 | .l _,.non,_,_,_,r | .l _,.bl _,_,_,_,r | .l _,.int _,_,_,_,r | .l _,.str _,_,_,_,r | .l _,.tup _,_,_,_,r | .l _,.dct _ _ _,_,_,_,r=>by simp only[RepO]at r
 | .t _,.non,_,_,_,r | .t _,.bl _,_,_,_,r | .t _,.int _,_,_,_,r | .t _,.str _,_,_,_,r | .t _,.lst _,_,_,_,r | .t _,.dct _ _ _,_,_,_,r=>by simp only[RepO]at r
 | .d,.non,_,_,_,r | .d,.bl _,_,_,_,r | .d,.int _,_,_,_,r | .d,.str _,_,_,_,r | .d,.tup _,_,_,_,r | .d,.lst _,_,_,_,r=>by simp only[RepO]at r
theorem RepT.frozen(h:Same G G'):∀{cs:List O}{ds:List D}{xs:List V}{fp:List Addr},(∀p∈fp,∀u,H p=some u->G' p=some u)->RepT K G H cs ds xs fp->Reps K G' ds xs
 |[],[],_,_,_,r=>by simp only[RepT]at r;simp only[Reps];exact r.1
 |c::cs,d::ds,xs,fp,hk,r=>by
  simp only[RepT]at r;simp only[Reps];obtain⟨y,ys,a,b,e1,e2,r1,r2⟩:=r;subst e2;exact⟨y,ys,e1,RepO.frozen h (fun p hp=>hk p (Oo _ hp)) r1,RepT.frozen h (fun p hp=>hk p (Oj _ hp)) r2⟩
 |[],_::_,_,_,_,r=>by simp only[RepT]at r
 |_::_,[],_,_,_,r=>by simp only[RepT]at r
end
theorem AllO.live{P:D->V->List Addr->Prop}:∀{ds:List D}{xs:List V}{fp:List Addr},(∀d v a,P d v a->∀p∈a,∃u,H p=some u)->AllO P ds xs fp->∀p∈fp,∃u,H p=some u
 |[],_,_,_,r=>by rw[r.2];intro p hp;cases hp
 |d::ds,xs,fp,h,r=>by
  obtain⟨y,ys,a,b,e1,e2,p,q⟩:=r;subst e2;intro z hz;rcases OL.mp hz with hz|hz
  ·exact h _ _ _ p z hz
  ·exact AllO.live h q z hz
mutual
theorem RepO.live:∀{o:O}{d:D}{v:V}{fp:List Addr},RepO K G H o d v fp->∀p∈fp,∃u,H p=some u
 | .f,d,v,fp,r=>by
  simp only[RepO]at r;rw[r.2];intro p hp;cases hp
 | .pin p c,d,v,fp,r=>by
  simp only[RepO]at r;exact RepO.live r.2
 | .l c,.lst ds,v,fp,r=>by
  simp only[RepO]at r;obtain⟨p,xs,C6,e,q,e2,a⟩:=r;subst e2;intro z hz;rcases Ov.mp hz with rfl|hz
  ·exact⟨_,q⟩
  ·exact AllO.live (fun d v a=>RepO.live) a z hz
 | .t cs,.tup ds,v,fp,r=>by
  simp only[RepO]at r;obtain⟨p,xs,e,q,a⟩:=r;exact RepT.live a
 | .d,.dct tk ks vs,v,fp,r=>by
  simp only[RepO]at r;obtain⟨p,xs,o,e,q,dd,e2,rs⟩:=r;subst e2;intro z hz;rw[Pb]at hz;exact⟨_,hz▸q⟩
 | .l _,.non,_,_,r | .l _,.bl _,_,_,r | .l _,.int _,_,_,r | .l _,.str _,_,_,r | .l _,.tup _,_,_,r | .l _,.dct _ _ _,_,_,r=>by simp only[RepO]at r
 | .t _,.non,_,_,r | .t _,.bl _,_,_,r | .t _,.int _,_,_,r | .t _,.str _,_,_,r | .t _,.lst _,_,_,r | .t _,.dct _ _ _,_,_,r=>by simp only[RepO]at r
 | .d,.non,_,_,r | .d,.bl _,_,_,r | .d,.int _,_,_,r | .d,.str _,_,_,r | .d,.tup _,_,_,r | .d,.lst _,_,_,r=>by simp only[RepO]at r
theorem RepT.live:∀{cs:List O}{ds:List D}{xs:List V}{fp:List Addr},RepT K G H cs ds xs fp->∀p∈fp,∃u,H p=some u
 |[],[],_,_,r=>by
  simp only[RepT]at r;rw[r.2];intro p hp;cases hp
 |c::cs,d::ds,xs,fp,r=>by
  simp only[RepT]at r;obtain⟨y,ys,a,b,e1,e2,r1,r2⟩:=r;subst e2;intro z hz;rcases OL.mp hz with hz|hz
  ·exact RepO.live r1 z hz
  ·exact RepT.live r2 z hz
 |[],_::_,_,_,r=>by simp only[RepT]at r
 |_::_,[],_,_,r=>by simp only[RepT]at r
end
theorem DictO.isM{o:HO}{tk:Bool}{ks:List D}{xs:List V}(h:DictO o tk ks xs):PV.isM o=true:=by
 cases tk with
 |true=>
  obtain⟨C1,e,_⟩:=h;rw[e];rfl
 |false=>
  obtain⟨C1,e,_⟩:=h;rw[e];rfl
theorem AllO.mut{P:D->V->List Addr->Prop}:∀{ds:List D}{xs:List V}{fp:List Addr},(∀d v a,P d v a->∀p∈a,∃u,H p=some u/\isM u=true)->AllO P ds xs fp->∀p∈fp,∃u,H p=some u/\isM u=true
 |[],_,_,_,r=>by rw[r.2];intro p hp;cases hp
 |d::ds,xs,fp,h,r=>by
  obtain⟨y,ys,a,b,e1,e2,p,q⟩:=r;subst e2;intro z hz;rcases OL.mp hz with hz|hz
  ·exact h _ _ _ p z hz
  ·exact AllO.mut h q z hz
mutual
theorem RepO.mut:∀{o:O}{d:D}{v:V}{fp:List Addr},RepO K G H o d v fp->∀p∈fp,∃u,H p=some u/\isM u=true
 | .f,d,v,fp,r=>by
  simp only[RepO]at r;rw[r.2];intro p hp;cases hp
 | .pin p c,d,v,fp,r=>by
  simp only[RepO]at r;exact RepO.mut r.2
 | .l c,.lst ds,v,fp,r=>by
  simp only[RepO]at r;obtain⟨p,xs,C6,e,q,e2,a⟩:=r;subst e2;intro z hz;rcases Ov.mp hz with rfl|hz
  ·exact⟨_,q,rfl⟩
  ·exact AllO.mut (fun d v a=>RepO.mut) a z hz
 | .t cs,.tup ds,v,fp,r=>by
  simp only[RepO]at r;obtain⟨p,xs,e,q,a⟩:=r;exact RepT.mut a
 | .d,.dct tk ks vs,v,fp,r=>by
  simp only[RepO]at r;obtain⟨p,xs,o,e,q,dd,e2,rs⟩:=r;subst e2;intro z hz;rw[Pb]at hz;exact⟨_,hz▸q,dd.isM⟩
 | .l _,.non,_,_,r | .l _,.bl _,_,_,r | .l _,.int _,_,_,r | .l _,.str _,_,_,r | .l _,.tup _,_,_,r | .l _,.dct _ _ _,_,_,r=>by simp only[RepO]at r
 | .t _,.non,_,_,r | .t _,.bl _,_,_,r | .t _,.int _,_,_,r | .t _,.str _,_,_,r | .t _,.lst _,_,_,r | .t _,.dct _ _ _,_,_,r=>by simp only[RepO]at r
 | .d,.non,_,_,r | .d,.bl _,_,_,r | .d,.int _,_,_,r | .d,.str _,_,_,r | .d,.tup _,_,_,r | .d,.lst _,_,_,r=>by simp only[RepO]at r
theorem RepT.mut:∀{cs:List O}{ds:List D}{xs:List V}{fp:List Addr},RepT K G H cs ds xs fp->∀p∈fp,∃u,H p=some u/\isM u=true
 |[],[],_,_,r=>by
  simp only[RepT]at r;rw[r.2];intro p hp;cases hp
 |c::cs,d::ds,xs,fp,r=>by
  simp only[RepT]at r;obtain⟨y,ys,a,b,e1,e2,r1,r2⟩:=r;subst e2;intro z hz;rcases OL.mp hz with hz|hz
  ·exact RepO.mut r1 z hz
  ·exact RepT.mut r2 z hz
 |[],_::_,_,_,r=>by simp only[RepT]at r
 |_::_,[],_,_,r=>by simp only[RepT]at r
end
noncomputable def RepE(K:W.Frag)(G H:Hp):Env->List (Option V)->List Addr->Prop
 |[],vs,fp=>vs=[]/\fp=[]
 |e::es,vs,fp=>∃y ys,vs=y::ys/\match e with
  |none=>RepE K G H es ys fp
  |some r=>∃v a b,y=some v/\fp=a++b/\RepO K G H r.1 r.2 v a/\RepE K G H es ys b
theorem RepE.step(h:Same G G'):∀{es:Env}{vs:List (Option V)}{fp:List Addr},(∀p∈fp,H' p=H p)->RepE K G H es vs fp->RepE K G' H' es vs fp
 |[],_,_,_,r=>r
 |none::es,vs,fp,hk,r=>by
  obtain⟨y,ys,e,r⟩:=r;exact⟨y,ys,e,RepE.step h hk r⟩
 |some r::es,vs,fp,hk,q=>by
  obtain⟨y,ys,e,v,a,b,e1,e2,r1,r2⟩:=q;subst e2;exact⟨y,ys,e,v,a,b,e1,rfl,RepO.step h (fun p hp=>hk p (Oo _ hp)) r1,RepE.step h (fun p hp=>hk p (Oj _ hp)) r2⟩
theorem RepE.live:∀{es:Env}{vs:List (Option V)}{fp:List Addr},RepE K G H es vs fp->∀p∈fp,∃u,H p=some u
 |[],_,_,r=>by
  rw[r.2];intro p hp;cases hp
 |none::es,vs,fp,r=>by
  obtain⟨y,ys,e,r⟩:=r;exact RepE.live r
 |some r::es,vs,fp,q=>by
  obtain⟨y,ys,e,v,a,b,e1,e2,r1,r2⟩:=q;subst e2;intro z hz;rcases OL.mp hz with hz|hz
  ·exact r1.live z hz
  ·exact RepE.live r2 z hz
theorem RepE.mut:∀{es:Env}{vs:List (Option V)}{fp:List Addr},RepE K G H es vs fp->∀p∈fp,∃u,H p=some u/\isM u=true
 |[],_,_,r=>by
  rw[r.2];intro p hp;cases hp
 |none::es,vs,fp,r=>by
  obtain⟨y,ys,e,r⟩:=r;exact RepE.mut r
 |some r::es,vs,fp,q=>by
  obtain⟨y,ys,e,v,a,b,e1,e2,r1,r2⟩:=q;subst e2;intro z hz;rcases OL.mp hz with hz|hz
  ·exact r1.mut z hz
  ·exact RepE.mut r2 z hz
theorem RepE.length:∀{es:Env}{vs:List (Option V)}{fp:List Addr},RepE K G H es vs fp->vs.length=es.length
 |[],_,_,r=>by rw[r.1];rfl
 |none::es,vs,fp,r=>by
  obtain⟨y,ys,e,r⟩:=r;rw[e,OA,OA,RepE.length r]
 |some r::es,vs,fp,q=>by
  obtain⟨y,ys,e,v,a,b,e1,e2,r1,r2⟩:=q;rw[e,OA,OA,RepE.length r2]
theorem RepE.take:∀{es:Env}{vs:List (Option V)}{fp:List Addr}{i:Nat}{r:R},RepE K G H es vs fp->es[i]?=some (some r)->
  ∃v a b,vs[i]?=some (some v)/\RepO K G H r.1 r.2 v a/\RepE K G H (es.set i none) vs b/\fp.Perm (a++b)
 |[],_,_,_,_,_,e=>by simp at e
 |none::es,vs,fp,0,r,q,e=>by simp at e
 |some r'::es,vs,fp,0,r,q,e=>by
  obtain⟨y,ys,e0,v,a,b,e1,e2,r1,r2⟩:=q;simp at e;subst e;subst e0;subst e1;exact⟨v,a,b,rfl,r1,⟨some v,ys,rfl,r2⟩,by rw[e2]⟩
 |none::es,vs,fp,i+1,r,q,e=>by
  obtain⟨y,ys,e0,q⟩:=q;obtain⟨v,a,b,g1,g2,g3,g4⟩:=RepE.take q (i:=i) (r:=r) (by simpa using e);subst e0;exact⟨v,a,b,by simpa using g1,g2,⟨y,ys,rfl,g3⟩,g4⟩
 |some r'::es,vs,fp,i+1,r,q,e=>by
  obtain⟨y,ys,e0,v',a',b',e1,e2,r1,r2⟩:=q;obtain⟨v,a,b,g1,g2,g3,g4⟩:=RepE.take r2 (i:=i) (r:=r) (by simpa using e);subst e0;refine⟨v,a,a'++b,by simpa using g1,g2,⟨y,ys,rfl,v',a',b,e1,rfl,r1,g3⟩,?_⟩;rw[e2];refine(SG a' g4).trans ?_;rw[<-OX,<-OX];exact Sk b SH
theorem RepE.put:∀{es:Env}{vs:List (Option V)}{b:List Addr}{i:Nat}{r:R}{v:V}{a:List Addr},RepE K G H es vs b->es[i]?=some none->RepO K G H r.1 r.2 v a->
  ∃fp,RepE K G H (es.set i (some r)) (vs.set i (some v)) fp/\fp.Perm (a++b)
 |[],_,_,_,_,_,_,_,e,_=>by simp at e
 |none::es,vs,b,0,r,v,a,q,e,ro=>by
  obtain⟨y,ys,e0,q⟩:=q;subst e0;exact⟨a++b,⟨some v,ys,rfl,v,a,b,rfl,rfl,ro,q⟩,.refl _⟩
 |some r'::es,vs,b,0,r,v,a,q,e,ro=>by simp at e
 |none::es,vs,b,i+1,r,v,a,q,e,ro=>by
  obtain⟨y,ys,e0,q⟩:=q;obtain⟨fp,g1,g2⟩:=RepE.put q (i:=i) (r:=r) (by simpa using e) ro;subst e0;exact⟨fp,⟨y,_,rfl,g1⟩,g2⟩
 |some r'::es,vs,b,i+1,r,v,a,q,e,ro=>by
  obtain⟨y,ys,e0,v',a',b',e1,e2,r1,r2⟩:=q;obtain⟨fp,g1,g2⟩:=RepE.put r2 (i:=i) (r:=r) (by simpa using e) ro;subst e0;refine⟨a'++fp,⟨y,_,rfl,v',a',fp,e1,rfl,r1,g1⟩,?_⟩;rw[e2];refine(SG a' g2).trans ?_;rw[<-OX,<-OX];exact Sk b' SH
structure Rel(K:W.Frag)(G H:Hp)(es:Env)(vs:List (Option V))(fp:List Addr):Prop where
 rep:RepE K G H es vs fp
 nd:fp.Nodup
 gn:∀p∈fp,G p=none
 gh:Same G H
structure Step(G H:Hp)(fp:List Addr)(G' H':Hp)(C6:List Addr):Prop where
 gg:Same G G'
 keep:∀q u,H q=some u->q∉fp->H' q=some u
 fpn:∀q∈C6,q∈fp\/H q=none
 gnew:∀q u,G' q=some u->G q=some u\/q∈fp\/H q=none\/isT u=true/\H q=some u
 there:∀q u,H q=some u->∃u',H' q=some u'
theorem Step.refl{fp:List Addr}:Step G H fp G H fp:=⟨.refl _,fun _ _ h _=>h,fun _ h=>.inl h,fun _ _ h=>.inl h,fun _ u h=>⟨u,h⟩⟩
theorem Step.trans{G1 H1 G2 H2:Hp}{fp Ds Dw:List Addr}(a:Step G H fp G1 H1 Ds)(b:Step G1 H1 Ds G2 H2 Dw):Step G H fp G2 H2 Dw:=by
 refine⟨a.gg.trans b.gg,fun q u h n=>?_,fun q hq=>?_,fun q u hq=>?_,fun q u h=>?_⟩
 ·refine b.keep q u (a.keep q u h n) fun hq=>?_
  rcases a.fpn q hq with z|z
  ·exact n z
  ·rw[z]at h;cases h
 ·rcases b.fpn q hq with z|z
  ·exact a.fpn q z
  ·cases e:H q with
   |none=>exact .inr rfl
   |some u=>
    obtain⟨u',e'⟩:=a.there q u e;rw[z]at e';cases e'
 ·rcases b.gnew q u hq with z|z|z|⟨t,z⟩
  ·exact a.gnew q u z
  ·exact .inr ((a.fpn q z).imp_right .inl)
  ·cases e:H q with
   |none=>exact .inr (.inr (.inl rfl))
   |some u=>
    obtain⟨u',e'⟩:=a.there q u e;rw[z]at e';cases e'
  ·cases e:H q with
   |none=>exact .inr (.inr (.inl rfl))
   |some u2=>
    by_cases hf:q∈fp
    ·exact .inr (.inl hf)
    ·rw[a.keep q u2 e hf]at z;cases z;exact .inr (.inr (.inr ⟨t,rfl⟩))
 ·obtain⟨u',h'⟩:=a.there q u h;exact b.there q u' h'
theorem Step.perm{fp fq C6 Ll:List Addr}(a:Step G H fp G' H' C6)(h:∀q,q∈fp<->q∈fq)(h':∀q∈Ll,q∈C6):Step G H fq G' H' Ll:=
 ⟨a.gg,fun q u e n=>a.keep q u e fun z=>n ((h q).mp z),fun q hq=>(a.fpn q (h' q hq)).imp_left (h q).mp,fun q u e=>(a.gnew q u e).imp_right (Or.imp_left (h q).mp),a.there⟩
theorem Step.wide{fp fq C6 Ll:List Addr}(a:Step G H fp G' H' C6)(h:∀q∈fp,q∈fq)(h':∀q∈Ll,q∈C6\/q∈fq):Step G H fq G' H' Ll:=
 ⟨a.gg,fun q u e n=>a.keep q u e fun z=>n (h q z),fun q hq=>(h' q hq).elim (fun z=>(a.fpn q z).imp_left (h q)) .inl,fun q u e=>(a.gnew q u e).imp_right (Or.imp_left (h q)),a.there⟩
theorem Rel.perm{es:Env}{vs:List (Option V)}{fp fq:List Addr}(r:RepE K G H es vs fq)(nd:fp.Nodup)(gn:∀p∈fp,G p=none)(gh:Same G H)(h:fp.Perm fq):Rel K G H es vs fq:=
 ⟨r,h.nodup_iff.mp nd,fun p hp=>gn p (h.mem_iff.mpr hp),gh⟩
theorem Rel.frame{r:R}{v:V}{es:Env}{vs:List (Option V)}{fp:List Addr}(q:Rel K G H (some r::es) (some v::vs) fp):
  ∃a b,fp=a++b/\RepO K G H r.1 r.2 v a/\Rel K G H es vs b/\∀(G' H':Hp) (Gb:Env) (F9:List (Option V)) (b':List Addr),Step G H b G' H' b'->Rel K G' H' Gb F9 b'->
   Rel K G' H' (some r::Gb) (some v::F9) (a++b')/\Step G H (a++b) G' H' (a++b'):=by
 obtain⟨y,ys,e,v',a,b,e1,e2,r1,r2⟩:=q.rep;cases e;cases e1;subst e2;have nd:=ON.mp q.nd;refine⟨a,b,rfl,r1,⟨r2,nd.2.1,fun p hp=>q.gn p (Oj _ hp),q.gh⟩,fun G' H' Gb F9 b' st k=>?_⟩;have nb:∀p∈a,p∉b:=fun p hp hb=>nd.2.2 p hp p hb rfl
 have same:∀p∈a,H' p=H p:=fun p hp=>by
  obtain⟨u,hu⟩:=r1.live p hp;rw[hu];exact st.keep p u hu (nb p hp)
 refine⟨⟨⟨some v,F9,rfl,v,a,b',rfl,rfl,r1.step st.gg same,k.rep⟩,?_,fun p hp=>?_,k.gh⟩,st.wide (fun p hp=>Oj _ hp) fun p hp=>?_⟩
 ·rw[ON];refine⟨nd.1,k.nd,fun p hp z hz e=>?_⟩;subst e;obtain⟨u,hu⟩:=r1.live p hp;rcases st.fpn p hz with z|z
  ·exact nb p hp z
  ·rw[z]at hu;cases hu
 ·rcases OL.mp hp with hp|hp
  ·cases e:G' p with
   |none=>rfl
   |some u=>
    exfalso;obtain⟨u',hu⟩:=r1.live p hp;rcases st.gnew p u e with z|z|z|⟨t,z⟩
    ·rw[q.gn p (Oo _ hp)]at z;cases z
    ·exact nb p hp z
    ·rw[z]at hu;cases hu
    ·obtain⟨u2,h2,hm⟩:=r1.mut p hp;rw[z]at h2;cases h2;cases u with
     |tup _=>cases hm
     |frz _ _=>cases hm
     |_=>cases t
  ·exact k.gn p hp
 ·rcases OL.mp hp with hp|hp
  ·exact .inr (Oo _ hp)
  ·exact .inl hp
theorem Rel.freeze{r:R}{v:V}{es:Env}{vs:List (Option V)}{fp:List Addr}(q:Rel K G H (some r::es) (some v::vs) fp):
  ∃G' b,Rep K G' r.2 v/\Rel K G' H es vs b/\Step G H fp G' H b:=by
 obtain⟨y,ys,e,v',a,b,e1,e2,r1,r2⟩:=q.rep;cases e;cases e1;subst e2;have nd:=ON.mp q.nd;have nb:∀p∈a,p∉b:=fun p hp hb=>nd.2.2 p hp p hb rfl
 have hg:Same G (fun p=>if p∈a then H p else G p):=fun p u e=>by
  show(if p∈a then H p else G p)=some u;by_cases hp:p∈a
  ·rw[Oy hp];exact q.gh p u e
  ·rw[OD hp];exact e
 refine⟨fun p=>if p∈a then H p else G p,b,r1.frozen hg fun p hp u e=>?_,⟨r2.step hg fun _ _=>rfl,nd.2.1,fun p hp=>?_,fun p u e=>?_⟩,⟨hg,fun _ _ e _=>e,fun p hp=>.inl (Oj _ hp),fun p u e=>?_,fun _ u e=>⟨u,e⟩⟩⟩
 ·show(if p∈a then H p else G p)=some u;rw[Oy hp];exact e
 ·show(if p∈a then H p else G p)=none;rw[OD (fun z=>nb p z hp)];exact q.gn p (Oj _ hp)
 ·have e:(if p∈a then H p else G p)=some u:=e;by_cases hp:p∈a
  ·rw[Oy hp]at e;exact e
  ·rw[OD hp]at e;exact q.gh p u e
 ·have e:(if p∈a then H p else G p)=some u:=e;by_cases hp:p∈a
  ·exact .inr (.inl (Oo _ hp))
  ·rw[OD hp]at e;exact .inl e
end
section
variable{K:W.Frag}{G G' H H':Hp}{es:Env}{vs:List (Option V)}{fp:List Addr}
theorem mE:∀{ds:List D}{xs:List V}{fp:List Addr},AllO (RepO K G H .f) ds xs fp<->Reps K G ds xs/\fp=[]
 |[],xs,fp=>by simp only[AllO,Reps]
 |d::ds,xs,fp=>by
  simp only[AllO,Reps,RepO];constructor
  ·rintro⟨y,ys,a,b,e1,e2,⟨r,e3⟩,q⟩;obtain⟨q1,q2⟩:=mE.mp q;subst e3;subst q2;exact⟨⟨y,ys,e1,r,q1⟩,e2⟩
  ·rintro⟨⟨y,ys,e1,r,q1⟩,e⟩;exact⟨y,ys,[],[],e1,e,⟨r,rfl⟩,mE.mpr ⟨q1,rfl⟩⟩
theorem dk{d:D}{v:V}{a:List Addr}:RepO K G H .f d v a<->Rep K G d v/\a=[]:=by simp only[RepO]
theorem bz{ds:List D}{v:V}{a:List Addr}:RepO K G H (.l .f) (.lst ds) v a<->∃p xs,v=.ref p/\H p=some (.lst xs)/\a=[p]/\Reps K G ds xs:=by
 rw[RepO];constructor
 ·rintro⟨p,xs,b,e,q,e2,r⟩;obtain⟨r',eb⟩:=mE.mp r;subst eb;exact⟨p,xs,e,q,e2,r'⟩
 ·rintro⟨p,xs,e,q,e2,r⟩;exact⟨p,xs,[],e,q,e2,mE.mpr ⟨r,rfl⟩⟩
theorem Reps.length:∀{ds:List D}{xs:List V},Reps K G ds xs->xs.length=ds.length
 |[],xs,r=>by simp only[Reps]at r;rw[r];rfl
 |d::ds,xs,r=>by
  simp only[Reps]at r;obtain⟨y,ys,e,_,q⟩:=r;rw[e,OA,OA,Reps.length q]
theorem Reps.get:∀{ds:List D}{xs:List V}{i:Nat}{d:D},Reps K G ds xs->ds[i]?=some d->∃v,xs[i]?=some v/\Rep K G d v
 |[],_,_,_,_,e=>by simp at e
 |d'::ds,xs,0,d,r,e=>by
  simp only[Reps]at r;obtain⟨y,ys,e1,q,_⟩:=r;simp at e;subst e;exact⟨y,by rw[e1];rfl,q⟩
 |d'::ds,xs,i+1,d,r,e=>by
  simp only[Reps]at r;obtain⟨y,ys,e1,_,q⟩:=r;obtain⟨v,a,b⟩:=Reps.get q (i:=i) (d:=d) (by simpa using e);exact⟨v,by rw[e1];simpa using a,b⟩
theorem Reps.app:∀{ds es:List D}{xs ys:List V},Reps K G ds xs->Reps K G es ys->Reps K G (ds++es) (xs++ys)
 |[],_,_,_,r,q=>by simp only[Reps]at r;rw[r];exact q
 |d::ds,es,xs,ys,r,q=>by
  simp only[Reps]at r;obtain⟨z,zs,e,r1,r2⟩:=r;rw[e];simp only[QN,Reps];exact⟨z,_,rfl,r1,r2.app q⟩
theorem Reps.one{d:D}{v:V}(r:Rep K G d v):Reps K G [d] [v]:=by
 simp only[Reps];exact⟨v,[],rfl,r,rfl⟩
theorem Reps.nil:Reps K G [] []:=by simp only[Reps]
theorem Reps.cons{d:D}{v:V}{ds:List D}{xs:List V}(r:Rep K G d v)(q:Reps K G ds xs):Reps K G (d::ds) (v::xs):=by
 simp only[Reps];exact⟨v,xs,rfl,r,q⟩
theorem Reps.cons_iff{d:D}{v:V}{ds:List D}{xs:List V}:Reps K G (d::ds) (v::xs)<->Rep K G d v/\Reps K G ds xs:=by
 simp only[Reps];constructor
 ·rintro⟨y,ys,e,r,q⟩;cases e;exact⟨r,q⟩
 ·rintro⟨r,q⟩;exact⟨v,xs,rfl,r,q⟩
theorem Reps.take:∀{ds:List D}{xs:List V}(n:Nat),Reps K G ds xs->Reps K G (ds.take n) (xs.take n)
 |_,_,0,_=>by rw[RO,RO];exact Reps.nil
 |[],xs,n+1,r=>by simp only[Reps]at r;rw[r];exact Reps.nil
 |d::ds,xs,n+1,r=>by
  simp only[Reps]at r;obtain⟨y,ys,e,r1,r2⟩:=r;rw[e,S7,S7];exact .cons r1 (r2.take n)
theorem Reps.drop:∀{ds:List D}{xs:List V}(n:Nat),Reps K G ds xs->Reps K G (ds.drop n) (xs.drop n)
 |_,_,0,r=>r
 |[],xs,n+1,r=>by simp only[Reps]at r;rw[r];exact Reps.nil
 |d::ds,xs,n+1,r=>by
  simp only[Reps]at r;obtain⟨y,ys,e,r1,r2⟩:=r;rw[e,S8,S8];exact r2.drop n
theorem Reps.set:∀{ds:List D}{xs:List V}(n:Nat) {d:D}{v:V},Reps K G ds xs->Rep K G d v->Reps K G (ds.set n d) (xs.set n v)
 |[],xs,n,d,v,r,q=>by simp only[Reps]at r;rw[r];exact Reps.nil
 |d'::ds,xs,0,d,v,r,q=>by
  simp only[Reps]at r;obtain⟨y,ys,e,r1,r2⟩:=r;rw[e];exact .cons q r2
 |d'::ds,xs,n+1,d,v,r,q=>by
  simp only[Reps]at r;obtain⟨y,ys,e,r1,r2⟩:=r;rw[e];exact .cons r1 (r2.set n q)
theorem Step.cut{fq:List Addr}(h:∀q∈fq,q∈fp):Step G H fp G H fq:=⟨.refl _,fun _ _ e _=>e,fun q hq=>.inl (h q hq),fun _ _ e=>.inl e,fun _ u e=>⟨u,e⟩⟩
theorem Rel.drop{r:R}{y:Option V}(q:Rel K G H (some r::es) (y::vs) fp):∃b,Rel K G H es vs b/\Step G H fp G H b:=by
 obtain⟨y,ys,e,v',a,b,e1,e2,r1,r2⟩:=q.rep;cases e;cases e1;subst e2;have nd:=ON.mp q.nd;exact⟨b,⟨r2,nd.2.1,fun p hp=>q.gn p (Oj _ hp),q.gh⟩,Step.cut fun p hp=>Oj _ hp⟩
theorem Rel.top{r:R}{v:V}(q:Rel K G H (some r::es) (some v::vs) fp):Rep K H r.2 v:=by
 obtain⟨y,ys,e,v',a,b,e1,e2,r1,r2⟩:=q.rep;cases e;cases e1;exact r1.frozen q.gh fun p hp u e=>e
theorem Rel.out{i:Nat}{r:R}(q:Rel K G H es vs fp)(e:es[i]?=some (some r)):∃v fq,vs[i]?=some (some v)/\Rel K G H (some r::es.set i none) (some v::vs) fq/\Step G H fp G H fq/\Step G H fq G H fp:=by
 obtain⟨v,a,b,e1,r1,r2,pm⟩:=q.rep.take e;exact⟨v,a++b,e1,Rel.perm ⟨some v,vs,rfl,v,a,b,rfl,rfl,r1,r2⟩ q.nd q.gn q.gh pm,Step.cut fun p hp=>pm.mem_iff.mpr hp,Step.cut fun p hp=>pm.mem_iff.mp hp⟩
theorem Rel.view{i:Nat}{r:R}(q:Rel K G H es vs fp)(e:es[i]?=some (some r)):∃v,vs[i]?=some (some v)/\Rep K H r.2 v:=by
 obtain⟨v,fq,e1,r1,_⟩:=q.out e;exact⟨v,e1,r1.top⟩
theorem eP{α:Type}{l:List α}{i:Nat}{x:α}(h:l[i]?=some x):l.set i x=l:=by
 apply List.ext_getElem?;intro j;by_cases e:i=j
 ·subst e;rw[Pj (Om.mp h).1,h]
 ·rw[Rr e]
theorem Rel.store{i:Nat}{r:R}{v:V}(q:Rel K G H (some r::es) (some v::vs) fp)(hi:i<es.length):∃fq,Rel K G H (es.set i (some r)) (vs.set i (some v)) fq/\Step G H fp G H fq:=by
 obtain⟨y,ys,e,v',a,b,e1,e2,r1,r2⟩:=q.rep;cases e;cases e1;subst e2;obtain⟨c,hc⟩:∃c,es[i]?=some c:=⟨_,Ol hi⟩
 have nd:=ON.mp q.nd;have key:∃b',RepE K G H (es.set i none) vs b'/\(∀p∈b',p∈b)/\b'.Nodup:=by
  cases c with
  |none=>exact⟨b,by rw[eP hc];exact r2,fun _ h=>h,nd.2.1⟩
  |some r'=>
   obtain⟨v2,a2,b2,_,_,g,pm⟩:=r2.take hc;refine⟨b2,g,fun p hp=>pm.mem_iff.mpr (Oj _ hp),?_⟩;exact(ON.mp (pm.nodup_iff.mp nd.2.1)).2.1
 obtain⟨b',g,sub,ndb⟩:=key;obtain⟨fq,g2,pm⟩:=g.put (i:=i) (r:=r) (v:=v) (by rw[Pj hi]) r1;rw[P2]at g2;have M3:(a++b').Nodup:=by
  rw[ON];exact⟨nd.1,ndb,fun p hp z hz=>nd.2.2 p hp z (sub z hz)⟩
 refine⟨fq,Rel.perm g2 M3 (fun p hp=>?_) q.gh pm.symm,Step.cut fun p hp=>?_⟩
 ·refine q.gn p ?_;rcases OL.mp hp with hp|hp
  ·exact Oo _ hp
  ·exact Oj _ (sub p hp)
 ·rcases OL.mp (pm.mem_iff.mp hp) with hp|hp
  ·exact Oo _ hp
  ·exact Oj _ (sub p hp)
theorem Rel.back{i:Nat}{r:R}{v:V}(q:Rel K G H (some r::es) (some v::vs) fp)(hi:i<es.length)(hv:vs[i]?=some (some v)):∃fq,Rel K G H (es.set i (some r)) vs fq/\Step G H fp G H fq:=by
 obtain⟨fq,g,st⟩:=q.store hi;rw[eP hv]at g;exact⟨fq,g,st⟩
theorem Rel.freezeAt{i:Nat}{r:R}(q:Rel K G H es vs fp)(e:es[i]?=some (some r)):∃v G' fq,vs[i]?=some (some v)/\Rep K G' r.2 v/\Rel K G' H (es.set i (some (.f,r.2))) vs fq/\Step G H fp G' H fq:=by
 obtain⟨v,fq,ev,g,st,_⟩:=q.out e;obtain⟨G',b,rv,g2,De⟩:=g.freeze;have g3:Rel K G' H (some (.f,r.2)::es.set i none) (some v::vs) b:=by
  refine⟨⟨some v,vs,rfl,v,[],b,rfl,rfl,?_,g2.rep⟩,g2.nd,g2.gn,g2.gh⟩;exact dk.mpr ⟨rv,rfl⟩
 obtain⟨fz,g4,DQ⟩:=g3.back (i:=i) (by rw[O1];exact(Om.mp e).1) ev;rw[P2]at g4;exact⟨v,G',fz,ev,rv,g4,st.trans (De.trans DQ)⟩
theorem Rel.push{d:D}{v:V}(q:Rel K G H es vs fp)(r:Rep K G d v):Rel K G H (some (.f,d)::es) (some v::vs) fp:=by
 refine⟨⟨some v,vs,rfl,v,[],fp,rfl,rfl,?_,q.rep⟩,q.nd,q.gn,q.gh⟩;exact dk.mpr ⟨r,rfl⟩
theorem Rel.newF{p:Addr}{u:HO}(q:Rel K G H es vs fp)(hp:H p=none):Rel K (upd G p u) (upd H p u) es vs fp/\Step G H fp (upd G p u) (upd H p u) fp:=by
 have gp:G p=none:=by
  cases e:G p with
  |none=>rfl
  |some o=>rw[q.gh p o e]at hp;cases hp
 have np:p∉fp:=fun z=>by
  obtain⟨u,e⟩:=q.rep.live p z;rw[hp]at e;cases e
 have sg:Same G (upd G p u):=fun b o e=>by rw[ai (aA e gp)];exact e
 have sh:Same H (upd H p u):=fun b o e=>by rw[ai (aA e hp)];exact e
 refine⟨⟨q.rep.step sg fun z hz=>ai fun e=>np (e▸hz),q.nd,fun z hz=>?_,fun b o e=>?_⟩,⟨sg,fun b o e _=>sh b o e,fun _ h=>.inl h,fun b o e=>?_,fun b o e=>⟨o,sh b o e⟩⟩⟩
 ·have:z≠p:=fun e=>np (e▸hz)
  rw[ai this];exact q.gn z hz
 ·by_cases hb:b=p
  ·subst hb;rw[aw]at e ⊢;exact e
  ·rw[ai hb]at e ⊢;exact q.gh b o e
 ·by_cases hb:b=p
  ·subst hb;exact .inr (.inr (.inl hp))
  ·rw[ai hb]at e;exact .inl e
theorem Rel.newL{p:Addr}{ds:List D}{xs:List V}(q:Rel K G H es vs fp)(hp:H p=none)(r:Reps K G ds xs):
  Rel K G (upd H p (.lst xs)) (some (.l .f,.lst ds)::es) (some (.ref p)::vs) (p::fp)/\Step G H fp G (upd H p (.lst xs)) (p::fp):=by
 have gp:G p=none:=by
  cases e:G p with
  |none=>rfl
  |some o=>rw[q.gh p o e]at hp;cases hp
 have np:p∉fp:=fun z=>by
  obtain⟨u,e⟩:=q.rep.live p z;rw[hp]at e;cases e
 have sh:Same H (upd H p (.lst xs)):=fun b o e=>by rw[ai (aA e hp)];exact e
 refine⟨⟨⟨some (.ref p),vs,rfl,.ref p,[p],fp,rfl,rfl,bz.mpr ⟨p,xs,rfl,aw,rfl,r⟩,q.rep.step (.refl _) fun z hz=>ai fun e=>np (e▸hz)⟩,OU.mpr ⟨np,q.nd⟩,fun z hz=>?_,fun b o e=>?_⟩,
  ⟨.refl _,fun b o e _=>sh b o e,fun b hb=>?_,fun b o e=>.inl e,fun b o e=>⟨o,sh b o e⟩⟩⟩
 ·rcases Ov.mp hz with rfl|hz
  ·exact gp
  ·exact q.gn z hz
 ·exact sh b o (q.gh b o e)
 ·rcases Ov.mp hb with rfl|hb
  ·exact .inr hp
  ·exact .inl hb
theorem Rel.chg{i:Nat}{ds ds':List D}(q:Rel K G H es vs fp)(e:es[i]?=some (some (.l .f,.lst ds))):∃p xs,vs[i]?=some (some (.ref p))/\H p=some (.lst xs)/\Reps K G ds xs/\
  ∀DS,Reps K G ds' DS->∃fq,Rel K G (upd H p (.lst DS)) (es.set i (some (.l .f,.lst ds'))) vs fq/\Step G H fp G (upd H p (.lst DS)) fq:=by
 obtain⟨v,fq,ev,g,st,Ge⟩:=q.out e;obtain⟨y,ys,e0,v',a,b,e1,e2,r1,r2⟩:=g.rep;cases e0;cases e1;obtain⟨p,xs,e3,hp,e4,rs⟩:=bz.mp r1;subst e3;subst e4;subst e2;have nd:=OU.mp (show(p::b).Nodup from g.nd);refine⟨p,xs,ev,hp,rs,fun DS Et=>?_⟩;have g2:Rel K G (upd H p (.lst DS)) (some (.l .f,.lst ds')::es.set i none) (some (.ref p)::vs) (p::b):=by
  refine⟨⟨some (.ref p),vs,rfl,.ref p,[p],b,rfl,rfl,bz.mpr ⟨p,DS,rfl,aw,rfl,Et⟩,r2.step (.refl _) fun z hz=>ai fun e=>nd.1 (e▸hz)⟩,g.nd,g.gn,fun z o ez=>?_⟩;have:z≠p:=fun w=>by
   subst w;rw[g.gn z Oh]at ez;cases ez
  rw[ai this];exact g.gh z o ez
 have Lm:Step G H (p::b) G (upd H p (.lst DS)) (p::b):=by
  refine⟨.refl _,fun z o ez nz=>?_,fun z hz=>.inl hz,fun z o ez=>.inl ez,fun z o ez=>?_⟩
  ·have:z≠p:=fun w=>nz (by rw[w];exact Oh)
   rw[ai this];exact ez
  ·by_cases w:z=p
   ·subst w;exact⟨_,aw⟩
   ·exact⟨o,by rw[ai w];exact ez⟩
 obtain⟨fz,g3,Dv⟩:=g2.back (i:=i) (by rw[O1];exact(Om.mp e).1) ev;rw[P2]at g3;exact⟨fz,g3,st.trans (Lm.trans Dv)⟩
end
mutual
noncomputable def d4:D->Bool
 | .tup ds=>Dc ds
 | .lst _=>false
 | .dct _ _ _=>false
 |_=>true
noncomputable def Dc:List D->Bool
 |[]=>true
 |d::ds=>d4 d&&Dc ds
end
mutual
noncomputable def aH:O->D->Bool
 | .f,d=>d4 d
 | .l c,.lst ds=>ds.all (aH c)
 | .t cs,.tup ds=>mF cs ds
 | .d,.dct _ _ vs=>Dc vs
 | .pin _ c,d=>aH c d
 |_,_=>false
noncomputable def mF:List O->List D->Bool
 |[],[]=>true
 |c::cs,d::ds=>aH c d&&mF cs ds
 |_,_=>false
end
def frz:Option R->Option R:=Option.map fun r=>(.f,r.2)
theorem bF:∀ds,Dc ds=ds.all d4
 |[]=>rfl
 |d::ds=>by rw[Dc,Qr,bF ds]
section
variable{K:W.Frag}{G G' G2 G3 H H' H2:Hp}{es:Env}{vs:List (Option V)}{fp:List Addr}
mutual
theorem Rep.flat(h:∀p u,isT u=true->G2 p=some u->G3 p=some u):∀{d:D}{v:V},d4 d=true->Rep K G2 d v->Rep K G3 d v
 | .non,_,_,r=>by simpa only[Rep] using r
 | .bl _,_,_,r=>by simpa only[Rep] using r
 | .int _,_,_,r=>by simpa only[Rep] using r
 | .str _,_,_,r=>by simpa only[Rep] using r
 | .tup ds,_,e,r=>by
  simp only[Rep]at r ⊢;simp only[d4]at e;obtain⟨p,xs,ev,q,rs⟩:=r;exact⟨p,xs,ev,h _ _ rfl q,Reps.flat h e rs⟩
 | .lst ds,_,e,r=>by simp only[d4]at e;cases e
 | .dct _ _ _,_,e,r=>by simp only[d4]at e;cases e
theorem Reps.flat(h:∀p u,isT u=true->G2 p=some u->G3 p=some u):∀{ds:List D}{xs:List V},Dc ds=true->Reps K G2 ds xs->Reps K G3 ds xs
 |[],_,_,r=>by simpa only[Reps] using r
 |d::ds,_,e,r=>by
  simp only[Reps]at r ⊢;simp only[Dc,Oz]at e;obtain⟨y,ys,ev,r1,r2⟩:=r;exact⟨y,ys,ev,Rep.flat h e.1 r1,Reps.flat h e.2 r2⟩
end
theorem AllO.clean{P P':D->V->List Addr->Prop}{c:D->Bool}:∀{ds:List D}{xs:List V}{fp:List Addr},(∀d v a,c d=true->P d v a->P' d v a)->ds.all c=true->AllO P ds xs fp->AllO P' ds xs fp
 |[],_,_,_,_,r=>r
 |d::ds,xs,fp,h,e,r=>by
  obtain⟨y,ys,a,b,e1,e2,p,q⟩:=r;rw[Qr,Oz]at e;exact⟨y,ys,a,b,e1,e2,h _ _ _ e.1 p,AllO.clean h e.2 q⟩
mutual
theorem RepO.clean(h:∀p u,isT u=true->G2 p=some u->G3 p=some u):∀{o:O}{d:D}{v:V}{fp:List Addr},aH o d=true->RepO K G2 H o d v fp->RepO K G3 H o d v fp
 | .f,d,v,fp,e,r=>by
  simp only[RepO]at r ⊢;simp only[aH]at e;exact⟨r.1.flat h e,r.2⟩
 | .pin p c,d,v,fp,e,r=>by
  simp only[RepO]at r ⊢;simp only[aH]at e;exact⟨r.1,RepO.clean h e r.2⟩
 | .l c,.lst ds,v,fp,e,r=>by
  rw[RepO]at r ⊢;rw[aH]at e;obtain⟨p,xs,C6,ev,q,e2,a⟩:=r;exact⟨p,xs,C6,ev,q,e2,AllO.clean (fun d v a=>RepO.clean h) e a⟩
 | .t cs,.tup ds,v,fp,e,r=>by
  rw[RepO]at r ⊢;rw[aH]at e;obtain⟨p,xs,ev,q,a⟩:=r;exact⟨p,xs,ev,h _ _ rfl q,RepT.clean h e a⟩
 | .d,.dct tk ks vs,v,fp,e,r=>by
  rw[RepO]at r ⊢;rw[aH]at e;obtain⟨p,xs,o,ev,q,dd,e2,rs⟩:=r;exact⟨p,xs,o,ev,q,dd,e2,rs.flat h e⟩
 | .l _,.non,_,_,_,r | .l _,.bl _,_,_,_,r | .l _,.int _,_,_,_,r | .l _,.str _,_,_,_,r | .l _,.tup _,_,_,_,r | .l _,.dct _ _ _,_,_,_,r=>by simp only[RepO]at r
 | .t _,.non,_,_,_,r | .t _,.bl _,_,_,_,r | .t _,.int _,_,_,_,r | .t _,.str _,_,_,_,r | .t _,.lst _,_,_,_,r | .t _,.dct _ _ _,_,_,_,r=>by simp only[RepO]at r
 | .d,.non,_,_,_,r | .d,.bl _,_,_,_,r | .d,.int _,_,_,_,r | .d,.str _,_,_,_,r | .d,.tup _,_,_,_,r | .d,.lst _,_,_,_,r=>by simp only[RepO]at r
theorem RepT.clean(h:∀p u,isT u=true->G2 p=some u->G3 p=some u):∀{cs:List O}{ds:List D}{xs:List V}{fp:List Addr},mF cs ds=true->RepT K G2 H cs ds xs fp->RepT K G3 H cs ds xs fp
 |[],[],_,_,_,r=>by simpa only[RepT] using r
 |c::cs,d::ds,xs,fp,e,r=>by
  rw[RepT]at r ⊢;rw[mF,Oz]at e;obtain⟨y,ys,a,b,e1,e2,r1,r2⟩:=r;exact⟨y,ys,a,b,e1,e2,RepO.clean h e.1 r1,RepT.clean h e.2 r2⟩
 |[],_::_,_,_,_,r=>by simp only[RepT]at r
 |_::_,[],_,_,_,r=>by simp only[RepT]at r
end
theorem RepE.frz(h:Same G G'):∀{es:Env}{vs:List (Option V)}{fp:List Addr},(∀p∈fp,∀u,H p=some u->G' p=some u)->RepE K G H es vs fp->RepE K G' H' (es.map PV.frz) vs []
 |[],_,_,_,r=>⟨r.1,rfl⟩
 |none::es,vs,fp,hk,r=>by
  obtain⟨y,ys,e,r⟩:=r;exact⟨y,ys,e,RepE.frz h hk r⟩
 |some r::es,vs,fp,hk,q=>by
  obtain⟨y,ys,e,v,a,b,e1,e2,r1,r2⟩:=q;subst e2;exact⟨y,ys,e,v,[],[],e1,rfl,dk.mpr ⟨r1.frozen h (fun p hp=>hk p (Oo _ hp)),rfl⟩,RepE.frz h (fun p hp=>hk p (Oj _ hp)) r2⟩
theorem RepE.rep(h:Same G G'):∀{es:Env}{vs:List (Option V)}{fp:List Addr}{i:Nat}{r:R}{v:V},(∀p∈fp,∀u,H p=some u->G' p=some u)->RepE K G H es vs fp->es[i]?=some (some r)->vs[i]?=some (some v)->Rep K G' r.2 v:=fun{es vs fp i r v} hk q e ev=>by
 obtain⟨v',a,b,e1,r1,_,pm⟩:=q.take e;rw[ev]at e1;cases e1;exact r1.frozen h fun p hp=>hk p (pm.mem_iff.mpr (Oo _ hp))
theorem Rel.lend(q:Rel K G H es vs fp):∃G1,Same G G1/\Same G1 H/\(∀(i:Nat) (r:R) (v:V),es[i]?=some (some r)->vs[i]?=some (some v)->Rep K G1 r.2 v)/\
  RepE K G1 H (es.map PV.frz) vs []/\
  ∀(H2 G2:Hp) (Dw:List Addr) (r:R) (v:V),Step G1 H [] G2 H2 Dw->Rel K G2 H2 [some r] [some v] Dw->
   (aH r.1 r.2=true->∃G3 Eu,Step G H fp G3 H2 Eu/\Rel K G3 H2 (some r::es) (some v::vs) Eu)/\
   ∃G3 Eu,Step G H fp G3 H2 Eu/\Rel K G3 H2 (some r::es.map PV.frz) (some v::vs) Eu:=by
 have hg:Same G (fun p=>if p∈fp then H p else G p):=fun p u e=>by
  show(if p∈fp then H p else G p)=some u;by_cases hp:p∈fp
  ·rw[Oy hp];exact q.gh p u e
  ·rw[OD hp];exact e
 have hh:Same (fun p=>if p∈fp then H p else G p) H:=fun p u e=>by
  have e:(if p∈fp then H p else G p)=some u:=e;by_cases hp:p∈fp
  ·rw[Oy hp]at e;exact e
  ·rw[OD hp]at e;exact q.gh p u e
 have hk:∀p∈fp,∀u,H p=some u->(fun p=>if p∈fp then H p else G p) p=some u:=fun p hp u e=>by
  show(if p∈fp then H p else G p)=some u;rw[Oy hp];exact e
 refine⟨fun p=>if p∈fp then H p else G p,hg,hh,fun i r v e ev=>q.rep.rep hg hk e ev,q.rep.frz hg hk,fun H2 G2 Dw r v st k=>?_⟩;obtain⟨y,ys,e0,v',a,b,e1,e2,r1,r2⟩:=k.rep;cases e0;cases e1;obtain⟨_,e3⟩:=r2;subst e3;rw[OK]at e2;subst e2;have fresh:∀p∈Dw,H p=none:=fun p hp=>by
  rcases st.fpn p hp with z|z
  ·cases z
  ·exact z
 have kept:∀p∈fp,H2 p=H p:=fun p hp=>by
  obtain⟨u,hu⟩:=q.rep.live p hp;rw[hu];exact st.keep p u hu (by simp)
 refine⟨fun cl=>?_,⟨G2,Dw,⟨hg.trans st.gg,fun p u e n=>st.keep p u e (by simp),fun p hp=>.inr (fresh p hp),fun p u e=>?_,st.there⟩,?_⟩⟩
 ·have apart:∀p∈Dw,p∉fp:=fun p hp hf=>by
   obtain⟨u,hu⟩:=q.rep.live p hf;rw[fresh p hp]at hu;cases hu
  have g3:Same G (fun p=>if p∈fp then none else G2 p):=fun p u e=>by
   show(if p∈fp then none else G2 p)=some u;rw[OD (fun z=>by rw[q.gn p z]at e;cases e)];exact st.gg p u (hg p u e)
  refine⟨fun p=>if p∈fp then none else G2 p,Dw++fp,⟨g3,fun p u e n=>st.keep p u e (by simp),fun p hp=>?_,fun p u e=>?_,st.there⟩,⟨⟨some v,vs,rfl,v,Dw,fp,rfl,rfl,r1.clean (fun p u t e=>?_) cl,q.rep.step g3 kept⟩,?_,fun p hp=>?_,fun p u e=>?_⟩⟩
  ·rcases OL.mp hp with hp|hp
   ·exact .inr (fresh p hp)
   ·exact .inl hp
  ·have e:(if p∈fp then none else G2 p)=some u:=e;by_cases hp:p∈fp
   ·rw[Oy hp]at e;cases e
   ·rw[OD hp]at e;rcases st.gnew p u e with z|z|z
    ·have z:(if p∈fp then H p else G p)=some u:=z;rw[OD hp]at z;exact .inl z
    ·cases z
    ·exact .inr (.inr z)
  ·show(if p∈fp then none else G2 p)=some u;by_cases hp:p∈fp
   ·exfalso;obtain⟨u',hu,hm⟩:=q.rep.mut p hp;have:=st.gg p u' (hk p hp u' hu);rw[e]at this;cases this;cases u with
    |lst _=>cases t
    |dK _=>cases t
    |dT _=>cases t
    |_=>cases hm
   ·rw[OD hp];exact e
  ·rw[ON];exact⟨k.nd,q.nd,fun p hp z hz e=>apart p hp (e▸hz)⟩
  ·show(if p∈fp then none else G2 p)=none;by_cases hf:p∈fp
   ·rw[Oy hf]
   ·rw[OD hf];rcases OL.mp hp with hp|hp
    ·exact k.gn p hp
    ·exact absurd hp hf
  ·have e:(if p∈fp then none else G2 p)=some u:=e;by_cases hp:p∈fp
   ·rw[Oy hp]at e;cases e
   ·rw[OD hp]at e;exact k.gh p u e
 ·rcases st.gnew p u e with z|z|z
  ·have z:(if p∈fp then H p else G p)=some u:=z;by_cases hp:p∈fp
   ·exact .inr (.inl hp)
   ·rw[OD hp]at z;exact .inl z
  ·cases z
  ·exact .inr (.inr z)
 ·refine⟨⟨some v,vs,rfl,v,Dw,[],rfl,(OK _).symm,r1,q.rep.frz (hg.trans st.gg) fun p hp u e=>st.gg p u (hk p hp u e)⟩,k.nd,k.gn,k.gh⟩
end
end PV
namespace PV
open PySem PySem.Spec PyProof.Rows L2 NX
def Res.bind{α β:Type}:Res α->(α->Res β)->Res β
 | .ok a,f=>f a
 | .exc c,_=>.exc c
 | .bad,_=>.bad
inductive BindOk{α β:Type}(x:Res α)(f:α->Res β)(b:β):Prop
 |mk (a:α) (h:x=.ok a) (k:f a=.ok b):BindOk x f b
theorem ah{α β:Type}{x:Res α}{f:α->Res β}{b:β}(h:x.bind f=.ok b):BindOk x f b:=by
 cases x with
 |ok a=>exact⟨a,rfl,h⟩
 |exc c=>cases h
 |bad=>cases h
inductive Opd where
 |val (d:D)|var (i:Nat)
def OpdOk(K:W.Frag)(G:Hp)(σ:L2.St):Opd->V->Prop
 | .val d,v=>Rep K G d v
 | .var i,v=>σ[i]?=some (some v)
theorem OpdOk.mono{K:W.Frag}{G G':Hp}{σ:L2.St}{o:Opd}{v:V}(h:Same G G')(r:OpdOk K G σ o v):OpdOk K G' σ o v:=by
 cases o with
 |val d=>exact Rep.mono h r
 |var i=>exact r
def mG(K:W.Frag)(G:Hp)(σ:L2.St):List Opd->List V->Prop
 |[],vs=>vs=[]
 |o::os,vs=>∃y ys,vs=y::ys/\OpdOk K G σ o y/\mG K G σ os ys
def rS:O->Bool
 | .f=>true
 | .l .f=>true
 | .d=>true
 | .pin _ .f=>true
 | .pin _ (.l .f)=>true
 | .pin _ .d=>true
 |_=>false
def EI(env:PV.Env):Opd->Res D
 | .val d=>.ok d
 | .var i=>match env[i]? with
  |some (some r)=>if rS r.1 then .ok r.2 else .bad
  |_=>.bad
def nX(env:PV.Env):Opd->Res D
 | .val d=>.ok d
 | .var i=>match env[i]? with
  |some (some r)=>.ok r.2
  |_=>.bad
def oF(env:PV.Env):List Opd->Res (List D)
 |[]=>.ok []
 |o::os=>(EI env o).bind fun d=>(oF env os).bind fun ds=>.ok (d::ds)
def iQ(env:PV.Env):List Opd->Res (List D)
 |[]=>.ok []
 |o::os=>(nX env o).bind fun d=>(iQ env os).bind fun ds=>.ok (d::ds)
def Vw(K:W.Frag)(G H:Hp):D->V->Prop
 | .lst ds,v=>∃p xs,v=.ref p/\SqL K H p xs/\Reps K G ds xs
 | .dct tk ks vs,v=>∃p xs o,v=.ref p/\Rd H p o/\DictO o tk ks xs/\Reps K G vs xs
 |d,v=>Rep K G d v
def Mt(K:W.Frag)(G H:Hp):List D->List V->Prop
 |[],vs=>vs=[]
 |d::ds,vs=>∃y ys,vs=y::ys/\Vw K G H d y/\Mt K G H ds ys
section
variable{K:W.Frag}{G G' H H':Hp}{es:PV.Env}{σ:L2.St}{fp:List Addr}
theorem Vw.of{d:D}{v:V}(gh:Same G H)(r:Rep K G d v):Vw K G H d v:=by
 cases d with
 |lst ds=>
  rw[Rep]at r;obtain⟨p,xs,e,q,rs⟩:=r;exact⟨p,xs,e,eO gh q,rs⟩
 |dct tk ks vs=>
  rw[Rep]at r;obtain⟨p,xs,o,e,q,dd,rs⟩:=r;exact⟨p,xs,o,e,PV.Rd.mono gh q,dd,rs⟩
 |_=>exact r
theorem RepO.vw0{o:O}{d:D}{v:V}{a:List Addr}(gh:Same G H)(hs:o=.f\/o=.l .f\/o=.d)(r:RepO K G H o d v a):Vw K G H d v:=by
 rcases hs with rfl|rfl|rfl
 ·exact Vw.of gh (dk.mp r).1
 ·cases d with
  |lst ds=>
   obtain⟨p,xs,e,q,_,rs⟩:=bz.mp r;exact⟨p,xs,e,SqL.of q,rs⟩
  |_=>simp only[RepO]at r
 ·cases d with
  |dct tk ks vs=>
   rw[RepO]at r;obtain⟨p,xs,o,e,q,dd,_,rs⟩:=r;exact⟨p,xs,o,e,.inl q,dd,rs⟩
  |_=>simp only[RepO]at r
theorem RepO.vw{o:O}{d:D}{v:V}{a:List Addr}(gh:Same G H)(hs:rS o=true)(r:RepO K G H o d v a):Vw K G H d v:=by
 unfold rS at hs;split at hs
 ·exact r.vw0 gh (.inl rfl)
 ·exact r.vw0 gh (.inr (.inl rfl))
 ·exact r.vw0 gh (.inr (.inr rfl))
 ·rw[RepO]at r;exact r.2.vw0 gh (.inl rfl)
 ·rw[RepO]at r;exact r.2.vw0 gh (.inr (.inl rfl))
 ·rw[RepO]at r;exact r.2.vw0 gh (.inr (.inr rfl))
 ·cases hs
theorem Rel.vw{o:Opd}{v:V}{d:D}(q:Rel K G H es σ fp)(k:OpdOk K G σ o v)(e:EI es o=.ok d):Vw K G H d v:=by
 cases o with
 |val d'=>
  cases e;exact Vw.of q.gh k
 |var i=>
  unfold EI at e;dsimp only at e;split at e
  ·rename_i r hr;split at e
   ·rename_i hs;cases e;obtain⟨v',a,b,ev,r1,_⟩:=q.rep.take hr;have k:σ[i]?=some (some v):=k;rw[k]at ev;cases ev;exact r1.vw q.gh hs
   ·cases e
  ·cases e
theorem Rel.vwA{o:Opd}{v:V}{d:D}(q:Rel K G H es σ fp)(k:OpdOk K G σ o v)(e:nX es o=.ok d):Rep K H d v:=by
 cases o with
 |val d'=>
  cases e;exact Rep.mono q.gh k
 |var i=>
  unfold nX at e;dsimp only at e;split at e
  ·rename_i r hr;cases e;obtain⟨v',ev,r1⟩:=q.view hr;have k:σ[i]?=some (some v):=k;rw[k]at ev;cases ev;exact r1
  ·cases e
theorem Rel.vws(q:Rel K G H es σ fp):∀{os:List Opd}{vs:List V}{ds:List D},mG K G σ os vs->oF es os=.ok ds->Mt K G H ds vs
 |[],_,_,k,e=>by
  cases e;exact k
 |o::os,_,_,⟨y,ys,e0,k1,k2⟩,e=>by
  unfold oF at e;obtain⟨d,e1,e⟩:=ah e;obtain⟨ds,e2,e⟩:=ah e;cases e;exact⟨y,ys,e0,q.vw k1 e1,Rel.vws q k2 e2⟩
theorem il{G1:Hp}(gg:Same G G1)(ht:∀(i:Nat) (r:R) (v:V),es[i]?=some (some r)->σ[i]?=some (some v)->Rep K G1 r.2 v):∀{os:List Opd}{vs:List V}{ds:List D},mG K G σ os vs->iQ es os=.ok ds->Reps K G1 ds vs
 |[],_,_,k,e=>by
  cases e;have k:_=_:=k;rw[k];exact Reps.nil
 |o::os,_,_,⟨y,ys,e0,k1,k2⟩,e=>by
  unfold iQ at e;obtain⟨d,e1,e⟩:=ah e;obtain⟨ds,e2,e⟩:=ah e;cases e;rw[e0];refine .cons ?_ (il gg ht k2 e2);cases o with
  |val d'=>
   cases e1;exact Rep.mono gg k1
  |var i=>
   unfold nX at e1;dsimp only at e1;split at e1
   ·rename_i r hr;cases e1;exact ht i r y hr k1
   ·cases e1
end
abbrev FX:=PV.Env->Res (R×PV.Env)
abbrev FO:=PV.Env->Res (Opd×PV.Env)
abbrev FOs:=PV.Env->Res (List Opd×PV.Env)
abbrev FT:=PV.Env->Res (Bool×PV.Env)
inductive Out where
 |nx (env:PV.Env)|rt (r:R)|bk (env:PV.Env)|ct (env:PV.Env)
abbrev FS:=PV.Env->Res Out
inductive tQ(K:W.Frag)(f:FX)(σ:L2.St)(H:Hp)(Q:VK):Prop
 |mk:∀G env fp r env',Rel K G H env σ fp->f env=.ok (r,env')->(∀v H' G' C6,Step G H fp G' H' C6->Rel K G' H' (some r::env') (some v::σ) C6->Q v H')->tQ K f σ H Q
inductive tO(K:W.Frag)(f:FO)(σ:L2.St)(H:Hp)(Q:VK):Prop
 |mk:∀G env fp o env',Rel K G H env σ fp->f env=.ok (o,env')->(∀v H' G' C6,Step G H fp G' H' C6->Rel K G' H' env' σ C6->OpdOk K G' σ o v->Q v H')->tO K f σ H Q
inductive tOs(K:W.Frag)(f:FOs)(σ:L2.St)(H:Hp)(Q:List V->Hp->Prop):Prop
 |mk:∀G env fp o env',Rel K G H env σ fp->f env=.ok (o,env')->(∀v H' G' C6,Step G H fp G' H' C6->Rel K G' H' env' σ C6->mG K G' σ o v->Q v H')->tOs K f σ H Q
inductive tQT(K:W.Frag)(f:FT)(σ:L2.St)(H:Hp)(Q:Bool->Hp->Prop):Prop
 |mk:∀G env fp b env',Rel K G H env σ fp->f env=.ok (b,env')->(∀H' G' C6,Step G H fp G' H' C6->Rel K G' H' env' σ C6->Q b H')->tQT K f σ H Q
inductive Mode where
 |plain|mut
def BK(md:Mode)(K:W.Frag)(G H:Hp)(r:R)(v:V)(fp:List Addr):Prop:=match md with
 | .plain=>Rel K G H [some r] [some v] fp
 | .mut=>∃o d p c d0,r=(.t [o,.pin p c],.tup [d,d0])/\Rel K G H [some (o,d),some (.pin p c,d0)] [some v,some (.ref p)] fp
noncomputable def OutOk{md:Mode}(K:W.Frag)(G H:Hp)(fp:List Addr)(Dd:Ends):Res Out->Prop
 | .ok (.nx env')=>∀σ' H' G' C6,Step G H fp G' H' C6->Rel K G' H' env' σ' C6->Dd.nx σ' H'
 | .ok (.bk env')=>∀σ' H' G' C6,Step G H fp G' H' C6->Rel K G' H' env' σ' C6->Dd.bk σ' H'
 | .ok (.ct env')=>∀σ' H' G' C6,Step G H fp G' H' C6->Rel K G' H' env' σ' C6->Dd.ct σ' H'
 | .ok (.rt r)=>∀v H' G' C6,Step G H fp G' H' C6->BK md K G' H' r v C6->Dd.rt v H'
 |_=>False
inductive tQS{md:Mode}(K:W.Frag)(g:FS)(Dd:Ends)(σ:L2.St)(H:Hp):Prop
 |mk:∀G env fp,Rel K G H env σ fp->OutOk (md:=md) K G H fp Dd (g env)->tQS (md:=md) K g Dd σ H
def QE(X:Cx)(e:Expr)(f:FX):Prop:=PE X e (tQ X.K f)
def QO(X:Cx)(e:Expr)(f:FO):Prop:=PE X e (tO X.K f)
def Hu(X:Cx)(es:List Expr)(f:FOs):Prop:=PA X es (tOs X.K f)
def QT(X:Cx)(e:Expr)(f:FT):Prop:=PT X e (tQT X.K f)
def QW(X:Cx)(e:Expr)(f:FT):Prop:=PW X e (tQT X.K f)
def QS{md:Mode}(X:Cx)(st:Stmt)(g:FS):Prop:=PS X st (tQS (md:=md) X.K g)
def Hb{md:Mode}(X:Cx)(st:List Stmt)(g:FS):Prop:=PSs X st (tQS (md:=md) X.K g)
theorem a8{X:Cx}{e:Expr}{t t':TE}(h:PE X e t)(k:∀σ H Q,t' σ H Q->t σ H Q):PE X e t':=fun pr s σ H Q I w=>h pr s σ H Q I (k σ H Q w)
theorem mH{X:Cx}{e:Expr}{t t':TT}(h:PT X e t)(k:∀σ H Q,t' σ H Q->t σ H Q):PT X e t':=fun pr s σ H Q I w=>h pr s σ H Q I (k σ H Q w)
theorem uw{X:Cx}{e:Expr}{t t':TT}(h:PW X e t)(k:∀σ H Q,t' σ H Q->t σ H Q):PW X e t':=fun wh pr s σ H Q I w=>h wh pr s σ H Q I (k σ H Q w)
theorem mI{X:Cx}{e:List Expr}{t t':TA}(h:PA X e t)(k:∀σ H Q,t' σ H Q->t σ H Q):PA X e t':=fun pos pr s σ H Q I w=>h pos pr s σ H Q I (k σ H Q w)
theorem dm{X:Cx}{e:Stmt}{t t':TS}(h:PS X e t)(k:∀D σ H,t' D σ H->t D σ H):PS X e t':=fun pr s σ H D I w=>h pr s σ H D I (k D σ H w)
theorem pD{X:Cx}{e:List Stmt}{t t':TS}(h:PSs X e t)(k:∀D σ H,t' D σ H->t D σ H):PSs X e t':=fun pr s σ H D I w=>h pr s σ H D I (k D σ H w)
theorem OutOk.imp{md:Mode}{K:W.Frag}{G H G1 H1:Hp}{fp Ds:List Addr}{Dd Ln:Ends}{r:Res Out}(st:Step G H fp G1 H1 Ds)(h:OutOk (md:=md) K G H fp Dd r)(n:∀σ H,Dd.nx σ H->Ln.nx σ H)(b:∀σ H,Dd.bk σ H->Ln.bk σ H)(c:∀σ H,Dd.ct σ H->Ln.ct σ H)(t:∀v H,Dd.rt v H->Ln.rt v H):OutOk (md:=md) K G1 H1 Ds Ln r:=by
 match r,h with
 | .ok (.nx env'),h=>exact fun σ' H' G' C6 s q=>n _ _ (h σ' H' G' C6 (st.trans s) q)
 | .ok (.bk env'),h=>exact fun σ' H' G' C6 s q=>b _ _ (h σ' H' G' C6 (st.trans s) q)
 | .ok (.ct env'),h=>exact fun σ' H' G' C6 s q=>c _ _ (h σ' H' G' C6 (st.trans s) q)
 | .ok (.rt r),h=>exact fun v H' G' C6 s q=>t _ _ (h v H' G' C6 (st.trans s) q)
theorem OutOk.after{md:Mode}{K:W.Frag}{G H G1 H1:Hp}{fp Ds:List Addr}{Dd:Ends}{r:Res Out}(st:Step G H fp G1 H1 Ds)(h:OutOk (md:=md) K G H fp Dd r):OutOk (md:=md) K G1 H1 Ds Dd r:=h.imp st (fun _ _ z=>z) (fun _ _ z=>z) (fun _ _ z=>z) fun _ _ z=>z
def aT(d:D):FX:=fun env=>.ok ((.f,d),env)
def fz:O->O
 | .pin p .f=>.pin p .f
 |_=>.f
def aD(i:Nat):FX:=fun env=>match env[i]? with
 |some (some r)=>.ok ((.f,r.2),env.set i (some (fz r.1,r.2)))
 |_=>.bad
def jx(i:Nat):FX:=fun env=>match env[i]? with
 |some (some r)=>.ok (r,env.set i none)
 |_=>.bad
def aq(f:FX):FO:=fun env=>(f env).bind fun p=>.ok (.val p.1.2,p.2)
def ak(i:Nat):FO:=fun env=>match env[i]? with
 |some (some _)=>.ok (.var i,env)
 |_=>.bad
def ax:FOs:=fun env=>.ok ([],env)
def ag(f:FO)(g:FOs):FOs:=fun env=>(f env).bind fun p=>(g p.2).bind fun q=>.ok (p.1::q.1,q.2)
section
variable{X:Cx}
theorem ux{e:Expr}{v:V}{d:D}(h:PE X e (tC v))(r:∀G,Rep X.K G d v):QE X e (aT d):=a8 h fun σ H Q Dg=>by
 obtain⟨G,env,fp,rr,env',rel,e,k⟩:=Dg;cases e;exact k v H G fp .refl (rel.push (r G))
theorem ay{i j pos}:QE X (.Constant (.int i) j pos) (aT (.int i)):=ux xN fun G=>by rw[Rep]
theorem nZ{i j pos}:QE X (.Constant (.bool i) j pos) (aT (.bl i)):=ux Ax fun G=>by rw[Rep]
theorem az{i:Nat}{e:Expr}(h:PE X e (nL i)):QE X e (aD i):=a8 h fun σ H Q Dg=>by
 obtain⟨G,env,fp,rr,env',rel,e,k⟩:=Dg;unfold aD at e;split at e
 ·rename_i r hr;cases e;by_cases hf:fz r.1=.f
  ·obtain⟨v,G',fq,ev,rv,DN,st⟩:=rel.freezeAt hr;rw[hf]at k;exact⟨v,ev,k v H G' fq st (DN.push rv)⟩
  ·have hp:∃p,r.1=.pin p .f:=by
    unfold fz at hf;split at hf
    ·rename_i p hp;exact⟨p,hp⟩
    ·exact absurd rfl hf
   obtain⟨p,hp⟩:=hp;obtain⟨v,a,b,ev,r1,_,_⟩:=rel.rep.take hr;rw[hp,RepO]at r1;have es:env.set i (some (fz r.1,r.2))=env:=by
    refine eP ?_;rw[hr,hp];show some (some r)=some (some (.pin p .f,r.2));rw[<-hp]
   rw[es]at k;exact⟨v,ev,k v H G fp .refl (rel.push (dk.mp r1.2).1)⟩
 ·cases e
theorem gv{i:Nat}{e:Expr}(h:PE X e (nL i)):QE X e (jx i):=a8 h fun σ H Q Dg=>by
 obtain⟨G,env,fp,rr,env',rel,e,k⟩:=Dg;unfold jx at e;split at e
 ·rename_i r hr;cases e;obtain⟨v,fq,ev,DN,st,_⟩:=rel.out hr;exact⟨v,ev,k v H G fq st DN⟩
 ·cases e
theorem af{e:Expr}{f:FX}(h:QE X e f):QO X e (aq f):=a8 h fun σ H Q Dg=>by
 obtain⟨G,env,fp,o,env',rel,e,k⟩:=Dg;obtain⟨⟨r,C2⟩,e1,e⟩:=ah e;cases e;refine⟨G,env,fp,r,C2,rel,e1,fun v H' G' C6 st DN=>?_⟩;obtain⟨G2,b,rv,C4,De⟩:=DN.freeze;exact k v H' G2 b (st.trans De) C4 rv
theorem ab{i:Nat}{e:Expr}(h:PE X e (nL i)):QO X e (ak i):=a8 h fun σ H Q Dg=>by
 obtain⟨G,env,fp,o,env',rel,e,k⟩:=Dg;unfold ak at e;split at e
 ·rename_i r hr;cases e;obtain⟨v,ev,_⟩:=rel.view hr;exact⟨v,ev,k v H G fp .refl rel ev⟩
 ·cases e
theorem ao:Hu X [] ax:=mI oT fun σ H Q Dg=>by
 obtain⟨G,env,fp,o,env',rel,e,k⟩:=Dg;cases e;exact k [] H G fp .refl rel rfl
theorem ae{e:Expr}{es:List Expr}{f:FO}{g:FOs}(h:QO X e f)(hs:Hu X es g)(JT:starEach (e::es) X.env=(false,eval e X.env)::starEach es X.env:=by rfl):Hu X (e::es) (ag f g):=
 mI (jk h hs JT) fun σ H Q Dg=>by
  obtain⟨G,env,fp,o,env',rel,e,k⟩:=Dg;obtain⟨⟨o1,C2⟩,e1,e⟩:=ah e;obtain⟨⟨os,C8⟩,e2,e⟩:=ah e;cases e;exact⟨G,env,fp,o1,C2,rel,e1,fun v H1 G1 Ds Dj C5 EY=>⟨G1,C2,Ds,os,C8,C5,e2,fun vs H2 G2 Dw De C4 J6=>k _ H2 G2 Dw (Dj.trans De) C4 ⟨v,vs,rfl,EY.mono De.gg,J6⟩⟩⟩
def aJ(g:D->D->Res R)(fa fb:FO):FX:=fun env=>(fa env).bind fun p=>(fb p.2).bind fun q=>(EI q.2 p.1).bind fun a=>(EI q.2 q.1).bind fun b=>(g a b).bind fun r=>.ok (r,q.2)
def aN(g:D->D->Res R)(fa fb:FO):FX:=fun env=>(fa env).bind fun p=>(fb p.2).bind fun q=>(nX q.2 p.1).bind fun a=>(nX q.2 q.1).bind fun b=>(g a b).bind fun r=>.ok (r,q.2)
structure Goes(K:W.Frag)(H:Hp)(G:Hp)(fp:List Addr)(es:PV.Env)(vs:L2.St)(r:R)(Q:VK):Prop where
 rel:Rel K G H es vs fp
 goes:∀v H' G' C6,Step G H fp G' H' C6->Rel K G' H' (some r::es) (some v::vs) C6->Q v H'
inductive rG(K:W.Frag)(g:D->D->Res R)(x:V)(y:V)(H:Hp)(Q:VK):Prop
 |mk:∀G fp es vs a b r,Goes K H G fp es vs r Q->Vw K G H a x->Vw K G H b y->g a b=.ok r->rG K g x y H Q
inductive rGA(K:W.Frag)(g:D->D->Res R)(x:V)(y:V)(H:Hp)(Q:VK):Prop
 |mk:∀G fp es vs a b r,Goes K H G fp es vs r Q->Rep K H a x->Rep K H b y->g a b=.ok r->rGA K g x y H Q
variable{a b c:Expr}{fa fb fc:FO}{pos:Pos}{g g':D->D->Res R}
theorem pE{σ:L2.St}{H:Hp}{Q:VK}(h:tQ X.K (aJ g fa fb) σ H Q):KL (rG X.K g) (tO X.K fa) (tO X.K fb) σ H Q:=by
 obtain⟨G,env,fp,r,env',rel,e,k⟩:=h;obtain⟨⟨oa,e1⟩,ha,e⟩:=ah e;obtain⟨⟨ob,e2⟩,hb,e⟩:=ah e;obtain⟨da,Lo,e⟩:=ah e;obtain⟨db,Fd,e⟩:=ah e;obtain⟨r',hr,e⟩:=ah e;cases e;exact⟨G,env,fp,oa,e1,rel,ha,fun x H1 G1 Ds Dj C5 EY=>⟨G1,e1,Ds,ob,e2,C5,hb,fun y H2 G2 Dw De C4 J6=>
  ⟨G2,Dw,e2,σ,da,db,r,⟨C4,fun v H' G' C6 st DN=>k v H' G' C6 (Dj.trans (De.trans st)) DN⟩,C4.vw (EY.mono De.gg) Lo,C4.vw J6 Fd,hr⟩⟩⟩
theorem pF{σ:L2.St}{H:Hp}{Q:VK}(h:tQ X.K (aN g fa fb) σ H Q):KL (rGA X.K g) (tO X.K fa) (tO X.K fb) σ H Q:=by
 obtain⟨G,env,fp,r,env',rel,e,k⟩:=h;obtain⟨⟨oa,e1⟩,ha,e⟩:=ah e;obtain⟨⟨ob,e2⟩,hb,e⟩:=ah e;obtain⟨da,Lo,e⟩:=ah e;obtain⟨db,Fd,e⟩:=ah e;obtain⟨r',hr,e⟩:=ah e;cases e;exact⟨G,env,fp,oa,e1,rel,ha,fun x H1 G1 Ds Dj C5 EY=>⟨G1,e1,Ds,ob,e2,C5,hb,fun y H2 G2 Dw De C4 J6=>
  ⟨G2,Dw,e2,σ,da,db,r,⟨C4,fun v H' G' C6 st DN=>k v H' G' C6 (Dj.trans (De.trans st)) DN⟩,C4.vwA (EY.mono De.gg) Lo,C4.vwA J6 Fd,hr⟩⟩⟩
theorem aS{op:Operator}(ho:DK X (binaryOp op) (rG X.K g))(ha:QO X a fa)(hb:QO X b fb):QE X (.BinOp a op b pos) (aJ g fa fb):=a8 (AK ho ha hb) fun _ _ _=>pE
theorem lG{op:CmpOp}(ho:DK X (compareOp op) (rGA X.K g))(ha:QO X a fa)(hb:QO X b fb)(hm:behindInMarks op b=false):QE X (.Compare a [op] [b] pos) (aN g fa fb):=a8 (vC ho ha hb hm) fun _ _ _=>pF
def DF(f:FX):FT:=fun env=>(f env).bind fun p=>match p.1.2 with
 | .bl k=>.ok (k,p.2)
 |_=>.bad
theorem wd{f:FX}{σ:L2.St}{H:Hp}{Q:Bool->Hp->Prop}(h:tQT X.K (DF f) σ H Q):tQ X.K f σ H fun x H'=>∃k,x=.bl k/\Q k H':=by
 obtain⟨G,env,fp,k,env',rel,e,q⟩:=h;obtain⟨⟨⟨o,d⟩,C2⟩,e1,e⟩:=ah e;dsimp only at e;split at e
 ·cases e;refine⟨G,env,fp,_,_,rel,e1,fun v H' G' C6 st DN=>?_⟩;have hv:=DN.top;rw[show((o,D.bl k):R).2=D.bl k from rfl,Rep]at hv;obtain⟨b,C4,De⟩:=DN.drop;exact⟨k,hv,q H' G' b (st.trans De) C4⟩
 ·cases e
theorem pG{e:Expr}{f:FX}(h:QE X e f)(he:∀whole,isTrue e X.env whole=(do let v <-whole;standAt e.pos;holding [v] (truthy v)):=by intro _;rfl):QT X e (DF f):=mH (xO h he) fun _ _ _=>wd
theorem pH{op:CmpOp}(ho:DK X (compareOp op) (rG X.K g))(ha:QO X a fa)(hb:QO X b fb)(hm:behindInMarks op b=false):QT X (.Compare a [op] [b] pos) (DF (aJ g fa fb)):=
 mH (oS ho ha hb hm) fun _ _ _ h=>pE (wd h)
theorem bo{op:CmpOp}(ho:DK X (compareOp op) (rGA X.K g))(ha:QO X a fa)(hb:QO X b fb)(hm:behindInMarks op b=false):QT X (.Compare a [op] [b] pos) (DF (aN g fa fb)):=
 mH (oS ho ha hb hm) fun _ _ _ h=>pF (wd h)
def An(f g:FT):FT:=fun env=>(f env).bind fun p=>if p.1 then g p.2 else .ok (false,p.2)
def Mu(f g:FT):FT:=fun env=>(f env).bind fun p=>if p.1 then .ok (true,p.2) else g p.2
def yH(f:FT):FT:=fun env=>(f env).bind fun p=>.ok (!p.1,p.2)
variable{ga gb:FT}{aE:List Expr}
theorem we(h:QT X a ga):QW X (.BoolOp .And [a] pos) ga:=vp h
theorem uy(h:QT X a ga):QW X (.BoolOp .Or [a] pos) ga:=xP h
theorem yI(h:QT X a ga)(h2:QW X (.BoolOp .And (b::aE) pos) gb):QW X (.BoolOp .And (a::b::aE) pos) (An ga gb):=uw (xQ h h2) fun σ H Q Dg=>by
 obtain⟨G,env,fp,k,env',rel,e,q⟩:=Dg;obtain⟨⟨k1,C2⟩,e1,e⟩:=ah e;refine⟨G,env,fp,k1,C2,rel,e1,fun H1 G1 Ds Dj C5=>?_⟩;dsimp only at e;cases k1 with
 |true=>exact⟨G1,C2,Ds,k,env',C5,e,fun H2 G2 Dw De C4=>q H2 G2 Dw (Dj.trans De) C4⟩
 |false=>
  cases e;exact q H1 G1 Ds Dj C5
theorem yJ(h:QT X a ga)(h2:QW X (.BoolOp .Or (b::aE) pos) gb):QW X (.BoolOp .Or (a::b::aE) pos) (Mu ga gb):=uw (Ay h h2) fun σ H Q Dg=>by
 obtain⟨G,env,fp,k,env',rel,e,q⟩:=Dg;obtain⟨⟨k1,C2⟩,e1,e⟩:=ah e;refine⟨G,env,fp,k1,C2,rel,e1,fun H1 G1 Ds Dj C5=>?_⟩;dsimp only at e;cases k1 with
 |false=>exact⟨G1,C2,Ds,k,env',C5,e,fun H2 G2 Dw De C4=>q H2 G2 Dw (Dj.trans De) C4⟩
 |true=>
  cases e;exact q H1 G1 Ds Dj C5
theorem QW.qt{e:Expr}{f:FT}(h:QW X e f):QT X e f:=h.pt
theorem pI(h:QT X a ga):QT X (.UnaryOp .Not a pos) (yH ga):=mH (xR h) fun σ H Q Dg=>by
 obtain⟨G,env,fp,k,env',rel,e,q⟩:=Dg;obtain⟨⟨k1,C2⟩,e1,e⟩:=ah e;cases e;exact⟨G,env,fp,k1,C2,rel,e1,fun H1 G1 Ds Dj C5=>q H1 G1 Ds Dj C5⟩
def Ao(f g:FX):FX:=fun env=>(f env).bind fun p=>match p.1.2 with
 | .bl true=>g p.2
 | .bl false=>.ok ((.f,.bl false),p.2)
 |_=>.bad
def eOr(f g:FX):FX:=fun env=>(f env).bind fun p=>match p.1.2 with
 | .bl true=>.ok ((.f,.bl true),p.2)
 | .bl false=>g p.2
 |_=>.bad
def A7(f:FX):FX:=fun env=>(f env).bind fun p=>match p.1.2 with
 | .bl k=>.ok ((.f,.bl (!k)),p.2)
 |_=>.bad
def eIf(c:FT)(f g:FX):FX:=fun env=>(c env).bind fun p=>if p.1 then f p.2 else g p.2
variable{ea eb:FX}
theorem uz{op}(h:QE X a ea):QE X (.BoolOp op [a] pos) ea:=xS h
theorem cv{K:W.Frag}{G:Hp}(k:Bool):Rep K G (.bl k) (.bl k):=by rw[Rep]
theorem rep_int{K:W.Frag}{G:Hp}(k:Int):Rep K G (.int k) (.int k):=by rw[Rep]
theorem lH{K:W.Frag}{G:Hp}:Rep K G .non .non:=by rw[Rep]
theorem gw{K:W.Frag}{G:Hp}{l:List Nat}(h:l.length<=sizeLine):Rep K G (.str l) (.str (S l)):=by
 rw[Rep];exact⟨rfl,h⟩
theorem cw{K:W.Frag}{G:Hp}{k:Bool}{v:V}(h:Rep K G (.bl k) v):v=.bl k:=by rw[Rep]at h;exact h
theorem a9{K:W.Frag}{G:Hp}{k:Int}{v:V}(h:Rep K G (.int k) v):v=.int k:=by rw[Rep]at h;exact h
theorem bM{K:W.Frag}{G:Hp}{v:V}(h:Rep K G .non v):v=.non:=by rw[Rep]at h;exact h
theorem aR{K:W.Frag}{G:Hp}{l:List Nat}{v:V}(h:Rep K G (.str l) v):v=.str (S l)/\l.length<=sizeLine:=by rw[Rep]at h;exact h
inductive OfT(K:W.Frag)(G:Hp)(l:List D)(v:V):Prop
 |mk (p:Addr) (xs:List V) (e:v=.ref p) (q:SqT K G p xs) (r:Reps K G l xs):OfT K G l v
inductive OfL(K:W.Frag)(G:Hp)(l:List D)(v:V):Prop
 |mk (p:Addr) (xs:List V) (e:v=.ref p) (q:SqL K G p xs) (r:Reps K G l xs):OfL K G l v
theorem aV{K:W.Frag}{G:Hp}{l:List D}{v:V}(h:Rep K G (.tup l) v):OfT K G l v:=by
 rw[Rep]at h;obtain⟨p,xs,e,q,r⟩:=h;exact⟨p,xs,e,SqT.of q,r⟩
theorem pJ{K:W.Frag}{G:Hp}{l:List D}{v:V}(h:Rep K G (.tup l) v):∃p xs,v=.ref p/\G p=some (.tup xs)/\Reps K G l xs:=by rw[Rep]at h;exact h
theorem aW{K:W.Frag}{G:Hp}{l:List D}{v:V}(h:Rep K G (.lst l) v):OfL K G l v:=by
 rw[Rep]at h;obtain⟨p,xs,e,q,r⟩:=h;exact⟨p,xs,e,q,r⟩
theorem aO{K:W.Frag}{G H:Hp}{k:Int}{v:V}(h:Vw K G H (.int k) v):v=.int k:=a9 (K:=K) (G:=G) h
theorem gM{K:W.Frag}{G H:Hp}{l:List Nat}{v:V}(h:Vw K G H (.str l) v):v=.str (S l)/\l.length<=sizeLine:=aR (K:=K) (G:=G) h
theorem d6{K:W.Frag}{G H:Hp}{l:List D}{v:V}(h:Vw K G H (.tup l) v):OfT K G l v:=aV (K:=K) (G:=G) h
theorem uA(h:QE X a ea)(h2:QE X (.BoolOp .And (b::aE) pos) eb):QE X (.BoolOp .And (a::b::aE) pos) (Ao ea eb):=a8 (xT h h2) fun σ H Q Dg=>by
 obtain⟨G,env,fp,r,env',rel,e,q⟩:=Dg;obtain⟨⟨⟨o,d⟩,C2⟩,e1,e⟩:=ah e;refine⟨G,env,fp,_,C2,rel,e1,fun v H1 G1 Ds Dj C5=>?_⟩;have hv:=C5.top;obtain⟨b',C4,De⟩:=C5.drop;dsimp only at e hv;split at e
 ·exact⟨true,cw hv,xB ⟨G1,C2,b',r,env',C4,e,fun v H2 G2 Dw Dv DG=>q v H2 G2 Dw (Dj.trans (De.trans Dv)) DG⟩⟩
 ·cases e;exact⟨false,cw hv,iteF (q _ H1 G1 b' (Dj.trans De) (C4.push (cv _)))⟩
 ·cases e
theorem yK(h:QE X a ea):QE X (.UnaryOp .Not a pos) (A7 ea):=a8 (xU h) fun σ H Q Dg=>by
 obtain⟨G,env,fp,r,env',rel,e,q⟩:=Dg;obtain⟨⟨⟨o,d⟩,C2⟩,e1,e⟩:=ah e;refine⟨G,env,fp,_,C2,rel,e1,fun v H1 G1 Ds Dj C5=>?_⟩;have hv:=C5.top;obtain⟨b',C4,De⟩:=C5.drop;dsimp only at e hv;split at e
 ·cases e;exact⟨_,cw hv,q _ H1 G1 b' (Dj.trans De) (C4.push (cv _))⟩
 ·cases e
noncomputable def BM(g g':D->D->Res R)(fa fb fc:FO):FX:=fun env=>(fa env).bind fun p=>(fb p.2).bind fun q=>(EI q.2 p.1).bind fun a=>(EI q.2 q.1).bind fun b=>(g a b).bind fun r=>match r with
 |(.f,.bl true)=>(fc q.2).bind fun t=>(EI t.2 q.1).bind fun b=>(EI t.2 t.1).bind fun c=>(g' b c).bind fun r=>.ok (r,t.2)
 |(.f,.bl false)=>.ok ((.f,.bl false),q.2)
 |_=>.bad
inductive rC(K:W.Frag)(g:List D->Res R)(xs:List V)(H:Hp)(Q:VK):Prop
 |mk:∀G fp es vs ds r,Goes K H G fp es vs r Q->Mt K G H ds xs->g ds=.ok r->rC K g xs H Q
def bA(g:List D->Res R)(fs:FOs):FX:=fun env=>(fs env).bind fun p=>(oF p.2 p.1).bind fun ds=>(g ds).bind fun r=>.ok (r,p.2)
theorem lI{gg:List D->Res R}{fs:FOs}{σ:L2.St}{H:Hp}{Q:VK}(h:tQ X.K (bA gg fs) σ H Q):MO (rC X.K gg) (tOs X.K fs) σ H Q:=by
 obtain⟨G,env,fp,r,env',rel,e,k⟩:=h;obtain⟨⟨os,e1⟩,ha,e⟩:=ah e;obtain⟨ds,hd,e⟩:=ah e;obtain⟨r',hr,e⟩:=ah e;cases e;exact⟨G,env,fp,os,e1,rel,ha,fun vs H1 G1 Ds Dj C5 EY=>⟨G1,Ds,e1,σ,ds,r,⟨C5,fun v H' G' C6 st DN=>k v H' G' C6 (Dj.trans st) DN⟩,C5.vws EY hd,hr⟩⟩
variable{x:Str}{p:Pos}{e:Expr}{es:List Expr}{gg:List D->Res R}{fs:FOs}{id T:String}
theorem bu(hc:d5 X (.builtin id) (rC X.K gg))(hg:Gl X x)(hm:X.mg x=none)(hv:bootBuiltins x=some (.builtin id))(ha:Hu X (e::es) fs)(hn:x≠"__name__":=by decide)(Fd:(x==("__debug__" : Str))=false:=by decide)
  (he:starEach (e::es) X.env=(false,eval e X.env)::starEach es X.env:=by rfl) (Es:(backTo pos (starEach es X.env)).any (·.1)=false:=by rfl):QE X (.Call (.Name x p) (e::es) [] pos) (bA gg fs):=
 a8 (mv hc hg hm hv ha hn Fd he Es) fun _ _ _=>lI
theorem cF(hc:d5 X (.type T) (rC X.K gg))(hg:Gl X x)(hm:X.mg x=none)(hv:bootBuiltins x=some (.type T))(ha:Hu X (e::es) fs)(hn:x≠"__name__":=by decide)(Fd:(x==("__debug__" : Str))=false:=by decide)
  (he:starEach (e::es) X.env=(false,eval e X.env)::starEach es X.env:=by rfl) (Es:(backTo pos (starEach es X.env)).any (·.1)=false:=by rfl):QE X (.Call (.Name x p) (e::es) [] pos) (bA gg fs):=
 a8 (oW hc hg hm hv ha hn Fd he Es) fun _ _ _=>lI
inductive spF(K:W.Frag)(F:List D->Res R)(vs:List V)(H:Hp)(Q:VK)(zz:XK):Prop
 |mk:∀G ds r,Same G H->Reps K G ds vs->F ds=.ok r->(∀v H' G' C6,Step G H [] G' H' C6->Rel K G' H' [some r] [some v] C6->Q v H')->spF K F vs H Q zz
def g0(F:List D->Res R)(fs:FOs):FX:=fun env=>(fs env).bind fun p=>(iQ p.2 p.1).bind fun ds=>(F ds).bind fun r=>.ok (r,if aH r.1 r.2 then p.2 else p.2.map frz)
theorem b7{F:List D->Res R}{k:Nat}(C:Ct X.prog X.w X.K X.mg X.base x k (spF X.K F))(hr:Room k X.A)(hg:Gl X x)(ha:Hu X (e::es) fs)(Fd:(x==("__debug__" : Str))=false:=by decide)
  (he:starEach (e::es) X.env=(false,eval e X.env)::starEach es X.env:=by rfl) (Es:(backTo pos (starEach es X.env)).any (·.1)=false:=by rfl):QE X (.Call (.Name x p) (e::es) [] pos) (g0 F fs):=
 a8 (yv C hr hg ha Fd he Es) fun σ H Q Dg=>by
  obtain⟨G,env,fp,r,env',rel,e,k⟩:=Dg;obtain⟨⟨os,e1⟩,ha,e⟩:=ah e;obtain⟨ds,hd,e⟩:=ah e;obtain⟨r',hr,e⟩:=ah e;refine⟨G,env,fp,os,e1,rel,ha,fun vs H1 G1 Ds Dj C5 EY=>?_⟩;show spF X.K F (vs++[]) H1 Q _;rw[OK];obtain⟨G2,Hv,IF,E5,_,EA⟩:=C5.lend;refine⟨G2,ds,r',IF,il Hv E5 EY hd,hr,fun v H' G' C6 st DN=>?_⟩;obtain⟨k1,k2⟩:=EA H' G' C6 r' v st DN;by_cases hc:aH r'.1 r'.2=true
  ·rw[Oy hc]at e;cases e;obtain⟨G3,Eu,Dv,DG⟩:=k1 hc;exact k v H' G3 Eu (Dj.trans Dv) DG
  ·rw[OD hc]at e;cases e;obtain⟨G3,Eu,Dv,DG⟩:=k2;exact k v H' G3 Eu (Dj.trans Dv) DG
end
def sSeq(g1 g2:FS):FS:=fun env=>(g1 env).bind fun o=>match o with
 | .nx e=>g2 e
 |o=>.ok o
def d7:FS:=fun env=>.ok (.nx env)
def cy(i:Nat)(f:FX):FS:=fun env=>(f env).bind fun p=>if i<p.2.length then .ok (.nx (p.2.set i (some p.1))) else .bad
def lJ(f:FX):FS:=fun env=>(f env).bind fun p=>.ok (.nx p.2)
def iq(f:FX):FS:=fun env=>(f env).bind fun p=>.ok (.rt p.1)
def Ga(c:FT)(g h:FS):FS:=fun env=>(c env).bind fun p=>if p.1 then g p.2 else h p.2
section
variable{md:Mode}{X:Cx}{st:Stmt}{M4:List Stmt}{g h:FS}{f:FX}{c:FT}{pos:Pos}{e:Expr}
theorem b9:Hb (md:=md) X [] d7:=pD vq fun D σ H ⟨G,env,fp,rel,k⟩=>k σ H G fp .refl rel
theorem ar(a:QS (md:=md) X st g):Hb (md:=md) X [st] g:=vv a
theorem aj(a:QS (md:=md) X st g)(b:Hb (md:=md) X M4 h):Hb (md:=md) X (st::M4) (sSeq g h):=pD (r9 a b) fun D σ H Dg=>by
 obtain⟨G,env,fp,rel,k⟩:=Dg;refine⟨G,env,fp,rel,?_⟩;have k:OutOk X.K G H fp D ((g env).bind fun o=>match o with | .nx e=>h e|o=>.ok o):=k;match q:g env,k with
 | .ok (.nx C2),k=>exact fun σ1 H1 G1 Ds Dj C5=>⟨G1,C2,Ds,C5,OutOk.after Dj k⟩
 | .ok (.bk C2),k=>exact k
 | .ok (.ct C2),k=>exact k
 | .ok (.rt r),k=>exact k
theorem pK{K:W.Frag}{G H:Hp}{fp:List Addr}{D:Ends}{i:Nat}{env:PV.Env}{σ:L2.St}(rel:Rel K G H env σ fp)(k:OutOk (md:=md) K G H fp D (cy i f env)):tQ K f σ H fun v H'=>D.nx (σ.set i (some v)) H':=by
 unfold cy at k;match q:f env,k with
 | .ok (r,C2),k=>
  have k:OutOk K G H fp D (if i<C2.length then .ok (.nx (C2.set i (some r))) else .bad):=k;by_cases hi:i<C2.length
  ·rw[Oy hi]at k;refine⟨G,env,fp,r,C2,rel,q,fun v H1 G1 Ds Dj C5=>?_⟩;obtain⟨fq,C4,De⟩:=C5.store hi;exact k _ H1 G1 fq (Dj.trans De) C4
  ·rw[OD hi]at k;exact k.elim
theorem aK{i:Nat}{x:Str}{pos':Pos}(hN:X.N.Nodup)(hi:X.N[i]?=some x)(hx:Loc X.env.scope x)(he:QE X e f)(hs:swapsWith e (some (.Name x pos')) pos.line X.env=pure false:=by rfl)(hf:X.fn x=true\/X.env.scope.names.lookup x=some .local:=by first|exact .inl rfl|exact .inr rfl|assumption):
  QS (md:=md) X (.Assign [.Name x pos'] e pos) (cy i f):=dm (xX (i:=i) hN hi hx he hs hf) fun D σ H ⟨G,env,fp,rel,k⟩=>pK rel k
theorem jy(he:QE X e f)(hs:swapsWith e none pos.line X.env=pure false:=by rfl):QS (md:=md) X (.Expr e pos) (lJ f):=dm (vx he hs) fun D σ H Dg=>by
 obtain⟨G,env,fp,rel,k⟩:=Dg;unfold lJ at k;match q:f env,k with
 | .ok (r,C2),k=>
  refine⟨G,env,fp,r,C2,rel,q,fun v H1 G1 Ds Dj C5=>?_⟩;obtain⟨b,C4,De⟩:=C5.drop;exact k _ H1 G1 b (Dj.trans De) C4
theorem Rel.only{K:W.Frag}{G H:Hp}{r:R}{v:V}{es:PV.Env}{vs:L2.St}{fp:List Addr}(q:Rel K G H (some r::es) (some v::vs) fp):∃a,Rel K G H [some r] [some v] a/\Step G H fp G H a:=by
 obtain⟨y,ys,e,v',a,b,e1,e2,r1,r2⟩:=q.rep;cases e;cases e1;subst e2;have nd:=ON.mp q.nd;exact⟨a,⟨⟨some v,[],rfl,v,a,[],rfl,(OK _).symm,r1,rfl,rfl⟩,nd.1,fun p hp=>q.gn p (Oo _ hp),q.gh⟩,Step.cut fun p hp=>Oo _ hp⟩
theorem bS(he:QE X e f):QS (md:=.plain) X (.Return (some e) pos) (iq f):=dm (uo he) fun D σ H Dg=>by
 obtain⟨G,env,fp,rel,k⟩:=Dg;unfold iq at k;match q:f env,k with
 | .ok (r,C2),k=>
  refine⟨G,env,fp,r,C2,rel,q,fun v H1 G1 Ds Dj C5=>?_⟩;obtain⟨b,C4,De⟩:=C5.only;exact k _ H1 G1 b (Dj.trans De) C4
theorem Rel.nilF{K:W.Frag}{G H:Hp}{es:PV.Env}{vs:L2.St}{fp:List Addr}(q:Rel K G H es vs fp):Rel K G H [] [] []:=⟨⟨rfl,rfl⟩,QL,(fun _ h=>nomatch h),q.gh⟩
theorem gx{a b:List Stmt}{ct:Expr}(hc:QT X ct c)(ha:Hb (md:=md) X a g)(hb:Hb (md:=md) X b h):QS (md:=md) X (.If ct a b pos) (Ga c g h):=dm (AF hc ha hb) fun D σ H Dg=>by
 obtain⟨G,env,fp,rel,k⟩:=Dg;unfold Ga at k;match q:c env,k with
 | .ok (true,C2),k=>exact⟨G,env,fp,true,C2,rel,q,fun H1 G1 Ds Dj C5=>xB ⟨G1,C2,Ds,C5,OutOk.after Dj k⟩⟩
 | .ok (false,C2),k=>exact⟨G,env,fp,false,C2,rel,q,fun H1 G1 Ds Dj C5=>iteF ⟨G1,C2,Ds,C5,OutOk.after Dj k⟩⟩
def bT(c:FT)(g:FS):Nat->FS
 | 0,_=>.bad
 |n+1,env=>(c env).bind fun p=>if p.1 then(g p.2).bind fun o=>match o with
  | .nx e=>bT c g n e
  | .ct e=>bT c g n e
  | .bk e=>.ok (.nx e)
  | .rt r=>.ok (.rt r)
  else .ok (.nx p.2)
theorem jz{ct:Expr}{body:List Stmt}(n:Nat)(hp:PassesOwn (model X.prog X.w) X.A X.env X.xe)(hc:QT X ct c)(hb:Hb (md:=md) X body g):QS (md:=md) X (.While ct body [] pos) (bT c g n):=
 dm (sd hp hc hb) fun D σ H Dg=>by
  obtain⟨G,env,fp,rel,k⟩:=Dg;refine⟨fun m σ' H'=>∃G' env' C6,Rel X.K G' H' env' σ' C6/\OutOk X.K G' H' C6 D (bT c g m env'),⟨n,G,env,fp,rel,k⟩,?_⟩;rintro m σ1 H1 ⟨G1,C2,Ds,C5,k1⟩;cases m with
  |zero=>exact k1.elim
  |succ m=>
   unfold bT at k1;match q:c C2,k1 with
   | .ok (false,C8),k1=>exact⟨G1,C2,Ds,false,C8,C5,q,fun H2 G2 Dw De C4=>iteF (k1 _ H2 G2 Dw De C4)⟩
   | .ok (true,C8),k1=>
    refine⟨G1,C2,Ds,true,C8,C5,q,fun H2 G2 Dw De C4=>xB ?_⟩;refine⟨fun σ' H'=>∃G' env' C6,Rel X.K G' H' env' σ' C6/\OutOk X.K G' H' C6 D (bT c g m env'),fun σ' H' z=>⟨m,Pf _,z⟩,G2,C8,Dw,C4,?_⟩;have k2:OutOk X.K G1 H1 Ds D ((g C8).bind fun o=>match o with | .nx e=>bT c g m e | .ct e=>bT c g m e | .bk e=>.ok (.nx e) | .rt r=>.ok (.rt r)):=k1;match q2:g C8,k2 with
    | .ok (.nx e),k2=>exact fun σ' H' G' C6 st rel=>⟨G',e,C6,rel,OutOk.after (De.trans st) k2⟩
    | .ok (.ct e),k2=>exact fun σ' H' G' C6 st rel=>⟨G',e,C6,rel,OutOk.after (De.trans st) k2⟩
    | .ok (.bk e),k2=>exact fun σ' H' G' C6 st rel=>k2 σ' H' G' C6 (De.trans st) rel
    | .ok (.rt r),k2=>exact fun v H' G' C6 st rel=>k2 v H' G' C6 (De.trans st) rel
def Walk(K:W.Frag)(G:Hp)(J:It)(ds:List D):Prop:=∀G' H' es vs fp,Same G G'->Rel K G' H' es vs fp->∀i:Nat,
 (∀d,ds[i]?=some d->J.go i H'/\∀x H2,J.yld i H' x H2->∃G2,Rep K G2 d x/\Rel K G2 H2 es vs fp/\Step G' H' fp G2 H2 fp)/\(i=ds.length->J.stop i H')
abbrev FI:=PV.Env->Res (List D×PV.Env)
inductive tQI(K:W.Frag)(f:FI)(σ:L2.St)(H:Hp)(R:It->Hp->Prop):Prop
 |mk:∀G env fp ds env',Rel K G H env σ fp->f env=.ok (ds,env')->(∀J H' G' C6,Step G H fp G' H' C6->Rel K G' H' env' σ C6->Walk K G' J ds->R J H')->tQI K f σ H R
def QI(X:Cx)(tg e:Expr)(f:FI):Prop:=PI X tg e (tQI X.K f)
theorem gN{X:Cx}{tg e:Expr}{t t':TI}(h:PI X tg e t)(k:∀σ H R,t' σ H R->t σ H R):PI X tg e t':=fun pr s σ H R I w=>h pr s σ H R I (k σ H R w)
abbrev FG:=D->PV.Env->Res PV.Env
inductive tQG(K:W.Frag)(a:FG)(v:V)(σ:L2.St)(H:Hp)(Q:L2.St->Hp->Prop):Prop
 |mk:∀G env fp d env',Rel K G H env σ fp->Rep K G d v->a d env=.ok env'->(∀σ' G' C6,Step G H fp G' H C6->Rel K G' H env' σ' C6->Q σ' H)->tQG K a v σ H Q
def QG(X:Cx)(tg:Expr)(a:FG):Prop:=PG X tg (tQG X.K a)
def av(i:Nat):FG:=fun d env=>if i<env.length then .ok (env.set i (some (.f,d))) else .bad
theorem uB{X:Cx}{tg:Expr}{t t':TG}(h:PG X tg t)(k:∀v σ H Q,t' v σ H Q->t v σ H Q):PG X tg t':=fun pr s σ H v u Q I r w=>h pr s σ H v u Q I r (k v σ H Q w)
theorem pL{X:Cx}{tg:List Expr}{t t':Js}(h:JS X tg t)(k:∀v σ H Q,t' v σ H Q->t v σ H Q):JS X tg t':=fun pr s σ H v u Q I r w=>h pr s σ H v u Q I r (k v σ H Q w)
theorem aI{i:Nat}{x:Str}(hN:X.N.Nodup)(hi:X.N[i]?=some x)(hx:Loc X.env.scope x)(hf:X.fn x=true\/X.env.scope.names.lookup x=some .local:=by first|exact .inl rfl|exact .inr rfl|assumption):QG X (.Name x pos) (av i):=
 uB (vy (i:=i) hN hi hx hf) fun v σ H Q Dg=>by
  obtain⟨G,env,fp,d,env',rel,r,e,k⟩:=Dg;unfold av at e;split at e
  ·rename_i hl;cases e;obtain⟨fq,C4,De⟩:=(rel.push r).store hl;exact k _ G fq De C4
  ·cases e
abbrev IG:=List D->PV.Env->Res PV.Env
inductive tQGs(K:W.Frag)(a:IG)(vs:List V)(σ:L2.St)(H:Hp)(Q:L2.St->Hp->Prop):Prop
 |mk:∀G env fp ds env',Rel K G H env σ fp->Reps K G ds vs->a ds env=.ok env'->(∀σ' G' C6,Step G H fp G' H C6->Rel K G' H env' σ' C6->Q σ' H)->tQGs K a vs σ H Q
def Mv(X:Cx)(tg:List Expr)(a:IG):Prop:=JS X tg (tQGs X.K a)
def fK:IG:=fun ds env=>match ds with
 |[]=>.ok env
 |_=>.bad
def bf(a:FG)(b:IG):IG:=fun ds env=>match ds with
 |d::ds=>(a d env).bind fun e=>b ds e
 |_=>.bad
theorem lK:Mv X [] fK:=pL vz fun vs σ H Q Dg=>by
 obtain⟨G,env,fp,ds,env',rel,r,e,k⟩:=Dg;cases ds with
 |nil=>
  cases e;rw[Reps]at r;exact⟨r,k σ G fp .refl rel⟩
 |cons d ds=>cases e
theorem eQ{tg:Expr}{Gi:List Expr}{a:FG}{b:IG}(h1:QG X tg a)(h2:Mv X Gi b)(hs:(assignEach (tg::Gi) X.env).map (·.2)=assign tg X.env::(assignEach Gi X.env).map (·.2):=by rfl):Mv X (tg::Gi) (bf a b):=
 pL (sa h1 h2 hs) fun vs σ H Q Dg=>by
  obtain⟨G,env,fp,ds,env',rel,r,e,k⟩:=Dg;cases ds with
  |nil=>cases e
  |cons d ds=>
   rw[Reps]at r;obtain⟨y,ys,ev,r1,r2⟩:=r;obtain⟨C2,e1,e2⟩:=ah e;exact⟨y,ys,ev,G,env,fp,d,C2,rel,r1,e1,fun σ1 G1 Ds Dj C5=>⟨G1,C2,Ds,ds,env',C5,r2.mono Dj.gg,e2,fun σ2 G2 Dw De C4=>k σ2 G2 Dw (Dj.trans De) C4⟩⟩
def lM(n:Nat)(a:IG):FG:=fun d env=>match d with
 | .tup ds=>if ds.length=n then a ds env else .bad
 |_=>.bad
theorem pM{Gi:List Expr}{k n:Nat}{a:IG}(hc:X.calm=true)(h:Mv X Gi a)(hn:(assignEach Gi X.env).length=n:=by rfl)(JT:(assignEach Gi X.env).findIdx? (·.1)=none:=by rfl):QG X (.Tuple Gi k pos) (lM n a):=
 uB (xW hc h hn JT) fun v σ H Q Dg=>by
  obtain⟨G,env,fp,d,env',rel,r,e,k⟩:=Dg;unfold lM at e;split at e
  ·rename_i ds;split at e
   ·rename_i hl;obtain⟨p,xs,ev,sq,rs⟩:=aV r;exact⟨p,xs,ev,aU rel.gh sq,rs.length.trans hl,G,env,fp,ds,env',rel,rs,e,k⟩
   ·cases e
  ·cases e
def cY(a:FG)(g:FS):List D->FS
 |[],env=>.ok (.nx env)
 |d::ds,env=>(a d env).bind fun e=>(g e).bind fun o=>match o with
  | .nx e=>cY a g ds e
  | .ct e=>cY a g ds e
  | .bk e=>.ok (.nx e)
  | .rt r=>.ok (.rt r)
def pN(f:FI)(a:FG)(g:FS):FS:=fun env=>(f env).bind fun p=>cY a g p.1 p.2
theorem gO{tg iter:Expr}{body:List Stmt}{fi:FI}{a:FG}(hp:PassesOwn (model X.prog X.w) X.A X.env X.xe)(hc:X.calm=true)(hi:QI X tg iter fi)(hg:QG X tg a)(hb:Hb (md:=md) X body g)(hs:∀x,foldedSetIterable iter X.env x=pure x:=by intro _;rfl):QS (md:=md) X (.For tg iter body [] pos) (pN fi a g):=
 dm (mq hp hc hi hg hb hs) fun D σ H Dg=>by
  obtain⟨G,env,fp,rel,k⟩:=Dg;unfold pN at k;match q:fi env,k with
  | .ok (ds,C2),k=>
   refine⟨G,env,fp,ds,C2,rel,q,fun J H1 G1 Ds Dj C5 wk=>?_⟩;have k:OutOk X.K G H fp D (cY a g ds C2):=k;refine⟨fun i m σ' H'=>m=ds.length-i/\i<=ds.length/\∃G' env' C6,Same G1 G'/\Rel X.K G' H' env' σ' C6/\OutOk X.K G' H' C6 D (cY a g (ds.drop i) env'),⟨_,rfl,Pn _,G1,C2,Ds,.refl _,C5,OutOk.after Dj k⟩,?_⟩;rintro i m σ2 H2 ⟨rfl,hi,G2,C8,Dw,gg,C4,k2⟩;obtain⟨w1,w2⟩:=wk G2 H2 _ _ _ gg C4 i;by_cases DH:i<ds.length
   ·have hd:ds[i]?=some ds[i]:=Ol DH;obtain⟨go,yl⟩:=w1 _ hd;rw[Ph DH]at k2;refine .inr ⟨go,fun σ' H'=>∃G' env' C6,Same G1 G'/\Rel X.K G' H' env' σ' C6/\OutOk X.K G' H' C6 D (cY a g (ds.drop (i+1)) env'),fun σ' H' z=>⟨ds.length-(i+1),by lia,rfl,DH,z⟩,fun x H3 y=>?_⟩;obtain⟨G3,rx,DG,Dv⟩:=yl x H3 y;unfold cY at k2;match q3:a ds[i] C8,k2 with
    | .ok Dt,k2=>
     refine⟨G3,C8,Dw,ds[i],Dt,DG,rx,q3,fun σ4 G4 J7 DQ DV=>⟨G4,Dt,J7,DV,?_⟩⟩;have k3:OutOk X.K G2 H2 Dw D ((g Dt).bind fun o=>match o with | .nx e=>cY a g (ds.drop (i+1)) e | .ct e=>cY a g (ds.drop (i+1)) e | .bk e=>.ok (.nx e) | .rt r=>.ok (.rt r)):=k2;match q4:g Dt,k3 with
     | .ok (.nx e),k3=>exact fun σ' H' G' C6 st rel=>⟨G',e,C6,gg.trans (Dv.gg.trans (DQ.gg.trans st.gg)),rel,OutOk.after (Dv.trans (DQ.trans st)) k3⟩
     | .ok (.ct e),k3=>exact fun σ' H' G' C6 st rel=>⟨G',e,C6,gg.trans (Dv.gg.trans (DQ.gg.trans st.gg)),rel,OutOk.after (Dv.trans (DQ.trans st)) k3⟩
     | .ok (.bk e),k3=>exact fun σ' H' G' C6 st rel=>k3 σ' H' G' C6 (Dv.trans (DQ.trans st)) rel
     | .ok (.rt r),k3=>exact fun v H' G' C6 st rel=>k3 v H' G' C6 (Dv.trans (DQ.trans st)) rel
   ·have e:i=ds.length:=by lia
    subst e;rw[Qi]at k2;exact .inl ⟨w2 rfl,k2 σ2 H2 G2 Dw .refl C4⟩
def yL(f:FX):FI:=fun env=>(f env).bind fun p=>match p.1.2 with
 | .lst ds=>.ok (ds,p.2)
 |_=>.bad
def fL(f:FX):FI:=fun env=>(f env).bind fun p=>match p.1.2 with
 | .tup ds=>.ok (ds,p.2)
 |_=>.bad
variable{tg l:Expr}
theorem kq{K:W.Frag}{G:Hp}{a:Addr}{xs:List V}{ds:List D}(sq:SqL K G a xs)(rs:Reps K G ds xs):Walk K G (KJ K a) ds:=by
 intro G' H' es vs fp gg rel i;have Em:SqL K H' a xs:=eO rel.gh (eO gg sq);refine⟨fun d hd=>?_,fun e=>⟨xs,Em,by rw[rs.length];lia⟩⟩;obtain⟨x,hx,rx⟩:=rs.get hd;refine⟨⟨xs,x,Em,hx⟩,fun y H2 ⟨e,hy⟩=>?_⟩;subst e;have:=hy xs Em;rw[hx]at this;cases this;exact⟨G',Rep.mono gg rx,rel,.refl⟩
theorem sP{K:W.Frag}{G:Hp}{a:Addr}{xs:List V}{ds:List D}(sq:SqT K G a xs)(rs:Reps K G ds xs):Walk K G (ML K a) ds:=by
 intro G' H' es vs fp gg rel i;have Em:SqT K H' a xs:=aU rel.gh (aU gg sq);refine⟨fun d hd=>?_,fun e=>⟨xs,Em,by rw[rs.length];lia⟩⟩;obtain⟨x,hx,rx⟩:=rs.get hd;refine⟨⟨xs,x,Em,hx⟩,fun y H2 ⟨e,hy⟩=>?_⟩;subst e;have:=hy xs Em;rw[hx]at this;cases this;exact⟨G',Rep.mono gg rx,rel,.refl⟩
theorem wg(h:QE X l f):QI X tg l (yL f):=gN (lz h) fun σ H R Dg=>by
 obtain⟨G,env,fp,ds,env',rel,e,k⟩:=Dg;obtain⟨⟨⟨o,d⟩,C2⟩,e1,e⟩:=ah e;dsimp only at e;split at e
 ·cases e;refine⟨G,env,fp,_,_,rel,e1,fun v H1 G1 Ds Dj C5=>?_⟩;obtain⟨G2,b,rv,C4,De⟩:=C5.freeze;obtain⟨p,xs,ev,sq,rs⟩:=aW rv;exact⟨p,ev,⟨xs,eO C4.gh sq⟩,k _ H1 G2 b (Dj.trans De) C4 (kq sq rs)⟩
 ·cases e
theorem iZ(h:QE X l f):QI X tg l (fL f):=gN (xZ h) fun σ H R Dg=>by
 obtain⟨G,env,fp,ds,env',rel,e,k⟩:=Dg;obtain⟨⟨⟨o,d⟩,C2⟩,e1,e⟩:=ah e;dsimp only at e;split at e
 ·cases e;refine⟨G,env,fp,_,_,rel,e1,fun v H1 G1 Ds Dj C5=>?_⟩;obtain⟨G2,b,rv,C4,De⟩:=C5.freeze;obtain⟨p,xs,ev,sq,rs⟩:=aV rv;exact⟨p,ev,⟨xs,aU C4.gh sq⟩,k _ H1 G2 b (Dj.trans De) C4 (sP sq rs)⟩
 ·cases e
def fM(f:FX):FI:=fun env=>(f env).bind fun p=>match p.1.2 with
 | .str l=>.ok (l.map fun c=>.str [c],p.2)
 |_=>.bad
theorem i5(h:QE X l f):QI X tg l (fM f):=gN (yx h) fun σ H R Dg=>by
 obtain⟨G,env,fp,ds,env',rel,e,k⟩:=Dg;obtain⟨⟨⟨o,d⟩,C2⟩,e1,e⟩:=ah e;dsimp only at e;split at e
 ·rename_i cs;cases e;refine⟨G,env,fp,_,_,rel,e1,fun v H1 G1 Ds Dj C5=>?_⟩;obtain⟨G2,b,rv,C4,De⟩:=C5.freeze;obtain⟨ev,hl⟩:=aR rv;refine⟨cs,ev,k _ H1 G2 b (Dj.trans De) C4 fun G' H' es vs C6 gg DN i=>⟨fun d hd=>?_,fun e=>?_⟩⟩
  ·rw[OG]at hd;cases hc:cs[i]? with
   |none=>rw[hc]at hd;cases hd
   |some c=>
    rw[hc]at hd;cases hd;refine⟨(Om.mp hc).1,fun x H2 ⟨e1,e2⟩=>?_⟩;subst e1;refine⟨G',?_,DN,.refl⟩;rw[e2];show Rep X.K G' (.str [c]) (.str (S [cs.getD i 0]));rw[Od,hc];exact gw (by rw[line_eq];simp)
  ·rw[OI]at e;exact e
 ·cases e
def bB(f:FO):FI:=fun env=>(f env).bind fun p=>(EI p.2 p.1).bind fun d=>match d with
 | .int j=>if -4611686018427387904<=j/\j<4611686018427387904 then .ok ((List.range j.toNat).map fun(k:Nat)=>D.int (k:Int),p.2) else .bad
 |_=>.bad
theorem n0{K:W.Frag}{G:Hp}(lo:Int)(n:Nat):Walk K G (Mm lo n) ((List.range n).map fun(k:Nat)=>D.int (lo+(k:Int))):=by
 intro G' H' es vs fp gg rel i;refine⟨fun d hd=>?_,fun e=>?_⟩
 ·rw[OG]at hd;cases hc:(List.range n)[i]? with
  |none=>rw[hc]at hd;cases hd
  |some c=>
   rw[hc]at hd;cases hd;obtain⟨h1,h2⟩:=Om.mp hc;rw[OE]at h1;rw[Qw]at h2;subst h2;refine⟨h1,fun x H2 ⟨e1,e2⟩=>?_⟩;subst e1;exact⟨G',by rw[e2];exact rep_int _,rel,.refl⟩
 ·rw[OI,OE]at e;exact Rk e.symm
theorem cx{a:Expr}{fa:FO}{p pos:Pos}(hg:Gl X "range")(hm:X.mg "range" = none)(ha:QO X a fa)(hs:starEach [a] X.env=[(false,eval a X.env)]:=by rfl):QI X tg (.Call (.Name "range" p) [a] [] pos) (bB fa):=
 gN (oN hg hm (ae ha ao hs) hs) fun σ H R Dg=>by
  obtain⟨G,env,fp,ds,env',rel,e,k⟩:=Dg;obtain⟨⟨o,C2⟩,e1,e⟩:=ah e;obtain⟨d,e2,e⟩:=ah e;dsimp only at e;split at e
  ·rename_i j;split at e
   ·rename_i hj;cases e;refine⟨G,env,fp,[o],_,rel,by show(fa env).bind _=_;rw[e1];rfl,fun vs H1 G1 Ds Dj C5 EY=>?_⟩;obtain⟨y,ys,ev,k1,k2⟩:=EY;have k2:ys=[]:=k2;subst k2;have hv:=aO (C5.vw k1 e2);subst hv;refine⟨j,ev,by lia,by lia,k _ H1 G1 Ds Dj C5 ?_⟩;have w:=n0 (K:=X.K) (G:=G1) 0 j.toNat
    simpa using w
   ·cases e
  ·cases e
noncomputable def A8(fs:FOs):FI:=fun env=>(fs env).bind fun p=>(oF p.2 p.1).bind fun d=>match d with
 |[.int i,.int j]=>if(-4611686018427387904<=i/\i<4611686018427387904)/\-4611686018427387904<=j/\j<4611686018427387904 then .ok ((List.range (j-i).toNat).map fun(k:Nat)=>D.int (i+(k:Int)),p.2) else .bad
 |_=>.bad
def fN(k:Bool):D->Res (List D)
 | .lst ds=>if k then .ok ds else .bad
 | .tup ds=>if k then .bad else .ok ds
 |_=>.bad
def og(k1 k2:Bool)(fs:FOs):FI:=fun env=>(fs env).bind fun p=>match p.1 with
 |[.val d1,.val d2]=>(fN k1 d1).bind fun a=>(fN k2 d2).bind fun b=>.ok ((a.zip b).map fun z=>D.tup [z.1,z.2],p.2)
 |_=>.bad
theorem jA{K:W.Frag}{G:Hp}{k:Bool}{d:D}{ds:List D}{v:V}(e:fN k d=.ok ds)(r:Rep K G d v):∃p xs,v=.ref p/\(if k then SqL K G p xs else SqT K G p xs)/\Reps K G ds xs:=by
 cases d with
 |lst es=>
  cases k with
  |true=>
   cases e;obtain⟨p,xs,e1,q,rs⟩:=aW r;exact⟨p,xs,e1,q,rs⟩
  |false=>cases e
 |tup es=>
  cases k with
  |true=>cases e
  |false=>
   cases e;obtain⟨p,xs,e1,q,rs⟩:=aV r;exact⟨p,xs,e1,q,rs⟩
 |_=>cases e
theorem gy{K:W.Frag}{G G':Hp}{k:Bool}{p:Addr}{xs:List V}(h:Same G G')(r:if k then SqL K G p xs else SqT K G p xs):if k then SqL K G' p xs else SqT K G' p xs:=by
 cases k with
 |true=>exact eO h r
 |false=>exact aU h r
theorem sQ{K:W.Frag}{G:Hp}{k1 k2:Bool}{p1 p2:Addr}{xs ys:List V}{as bs:List D}(s1:if k1 then SqL K G p1 xs else SqT K G p1 xs)(s2:if k2 then SqL K G p2 ys else SqT K G p2 ys)(r1:Reps K G as xs)(r2:Reps K G bs ys):
  Walk K G (MW K k1 k2 p1 p2) ((as.zip bs).map fun z=>D.tup [z.1,z.2]):=by
 intro G' H' es vs fp gg rel i;have g1:=gy (gg.trans rel.gh) s1;have g2:=gy (gg.trans rel.gh) s2;refine⟨fun d hd=>?_,fun e=>⟨xs,ys,g1,g2,?_⟩⟩
 ·rw[OG]at hd;cases hz:(as.zip bs)[i]? with
  |none=>rw[hz]at hd;cases hd
  |some z=>
   rw[hz]at hd;cases hd;obtain⟨h1,h2⟩:=Ql.mp hz;obtain⟨x,hx,rx⟩:=r1.get h1;obtain⟨y,hy,ry⟩:=r2.get h2;refine⟨⟨xs,ys,x,y,g1,g2,hx,hy⟩,fun v H2 ⟨T,hT,ev,hh⟩=>?_⟩;have e2:=hh xs ys x y g1 g2 hx hy;subst e2;obtain⟨C4,De⟩:=rel.newF (u:=.tup [x,y]) hT;refine⟨_,?_,C4,De⟩;rw[Rep];exact⟨T,[x,y],ev,aw,.cons (Rep.mono (gg.trans De.gg) rx) (.one (Rep.mono (gg.trans De.gg) ry))⟩
 ·rw[OI,Qc]at e;rw[r1.length,r2.length];exact e
theorem mJ(k1 k2:Bool){Gi:List Expr}{kt:Nat}{pt:Pos}{e1 e2:Expr}{fs:FOs}{p pos:Pos}(hg:Gl X "zip")(hm:X.mg "zip" = none)(ha:Hu X [e1,e2] fs)(he:starEach [e1,e2] X.env=(false,eval e1 X.env)::starEach [e2] X.env:=by rfl)(Es:(backTo pos (starEach [e2] X.env)).any (·.1)=false:=by rfl):
  QI X (.Tuple Gi kt pt) (.Call (.Name "zip" p) [e1,e2] [] pos) (og k1 k2 fs):=
 gN (yB k1 k2 hg hm ha he Es) fun σ H R Dg=>by
  obtain⟨G,env,fp,ds,env',rel,e,k⟩:=Dg;obtain⟨⟨o,C2⟩,e1,e⟩:=ah e;dsimp only at e;split at e
  ·rename_i d1 d2;obtain⟨a,ea,e⟩:=ah e;obtain⟨b,eb,e⟩:=ah e;cases e;refine⟨G,env,fp,_,_,rel,e1,fun vs H1 G1 Ds Dj C5 EY=>?_⟩;obtain⟨y,ys,ev,v1,z,zs,Lp,v2,e3⟩:=EY;have e3:zs=[]:=e3;subst e3;obtain⟨p1,M5,M6,q1,r1⟩:=jA ea v1;obtain⟨p2,HF,ep2,q2,r2⟩:=jA eb v2;subst M6;subst ep2;subst Lp;exact⟨p1,p2,M5,HF,ev,gy C5.gh q1,gy C5.gh q2,k _ H1 G1 Ds Dj C5 (sQ q1 q2 r1 r2)⟩
  ·cases e
end
def fBody(np nn:Nat)(g:FS):List D->Res R:=fun ds=>if ds.length=np then(g (ds.map (fun d=>some (O.f,d))++List.replicate nn none)).bind fun o=>match o with
 | .rt r=>.ok r
 | .nx _=>.ok (.f,.non)
 |_=>.bad
 else .bad
theorem fO{K:W.Frag}{G H:Hp}(n:Nat):∀{ds:List D}{vs:List V},Reps K G ds vs->RepE K G H (ds.map (fun d=>some (O.f,d))++List.replicate n none) (vs.map some++List.replicate n none) []
 |[],vs,r=>by
  rw[Reps]at r;subst r;show RepE K G H (List.replicate n none) (List.replicate n none) [];induction n with
  |zero=>exact⟨rfl,rfl⟩
  |succ n ih=>exact⟨none,_,rfl,ih⟩
 |d::ds,vs,r=>by
  rw[Reps]at r;obtain⟨y,ys,e,r1,r2⟩:=r;subst e;exact⟨some y,_,rfl,y,[],[],rfl,rfl,dk.mpr ⟨r1,rfl⟩,fO n r2⟩
theorem g5{P:Program}{w:World}{K:W.Frag}{mg:Str->Option Value}{base:Heap}{x:Str}{st:Stmt}{N ps:List Str}{k:Nat}{g:FS}(Df:Def K mg x st)(sc:FnScope N ps (defScope st))
  (hb:∀(kV doc pm:Value) (an:Option Addr) (Dx ct:Value) (us:List Value),us.length=ps.length->bindArgs (PySem.W.fnOf x x (dw st) (b8 st) (defScope st) .none kV doc pm an Dx ct) ⟨us,[]⟩=pure (ps.zip us))
  (body:∀(f:Addr) (Dx:Value) (A:Around) (outer:List PySem.Env) (s:Shared) (H:Hp) (E:XK),Room k (A.deeper (envOfC x (defScope st) s.heap.objs.size f Dx))->Hb (md:=.plain) (si Ht P w K mg base N x (defScope st) f Dx A outer s H E).nox (b8 st) g):
  Ct P w K mg base x (k+1) (spF K (fBody ps.length (N.length-ps.length) g)):=by
 obtain⟨f,fd,F,m⟩:=Df;refine⟨f,fd,ps,F.ok sc (fun vs H Q E h=>?_) (fun Dx A outer s H vs Q E hr h=>?_),m,F.kp,F.binds hb⟩
 ·obtain⟨G,ds,r,_,rs,e,_⟩:=h;unfold fBody at e;split at e
  ·rename_i hl;rw[rs.length,hl]
  ·cases e
 ·obtain⟨G,ds,r,gh,rs,e,q⟩:=h;unfold fBody at e;split at e
  ·rename_i hl;refine⟨_,body f Dx A outer s H E hr,G,ds.map (fun d=>some (O.f,d))++List.replicate (N.length-ps.length) none,[],⟨?_,QL,(fun _ h=>nomatch h),gh⟩,?_⟩
   ·have:=fO (K:=K) (G:=G) (H:=H) (N.length-ps.length) rs;unfold L2.start;rw[rs.length,hl];exact this
   ·obtain⟨o,eo,e⟩:=ah e;rw[eo];cases o with
    |rt r'=>
     cases e;exact fun v H' G' C6 st rel=>q v H' G' C6 st rel
    |nx env'=>
     cases e;exact fun σ' H' G' C6 st rel=>q .non H' G' [] (st.trans (Step.cut fun _ h=>nomatch h)) (rel.nilF.push lH)
    |bk env'=>cases e
    |ct env'=>cases e
  ·cases e
def ba(ix:List (Option Nat))(env:PV.Env):PV.Env:=ix.map fun j=>j.bind fun j=>match env[j]? with
 |some (some r)=>some (O.f,r.2)
 |_=>none
def gP:FT:=fun env=>.ok (true,env)
def cG(a:FG)(c:FT)(f:FX):List D->PV.Env->Res (List D)
 |[],_=>.ok []
 |d::ds,env=>(a d env).bind fun e=>(c e).bind fun p=>if p.1 then(f p.2).bind fun q=>(cG a c f ds q.2).bind fun rs=>.ok (q.1.2::rs) else cG a c f ds p.2
def cZ(fi:FI)(ix:List (Option Nat))(a:FG)(c:FT)(f:FX):FX:=fun env=>(fi env).bind fun p=>(cG a c f p.1 (ba ix p.2)).bind fun ds=>if ds.length<=sizeLine then .ok ((.l .f,.lst ds),if Dc ds then p.2 else p.2.map frz) else .bad
theorem dA:∀ds,ds.all (aH .f)=Dc ds
 |[]=>rfl
 |d::ds=>by rw[Qr,Dc,dA ds,aH]
theorem cH{K:W.Frag}{G1 H:Hp}{es:PV.Env}{σ:L2.St}(ht:∀(i:Nat) (r:R) (v:V),es[i]?=some (some r)->σ[i]?=some (some v)->Rep K G1 r.2 v)(hv:∀(i:Nat) (r:R),es[i]?=some (some r)->∃v,σ[i]?=some (some v)):
  ∀ix:List (Option Nat),RepE K G1 H (ba ix es) (cV ix σ) []
 |[]=>⟨rfl,rfl⟩
 |none::ix=>⟨none,_,rfl,cH ht hv ix⟩
 |some j::ix=>by
  show RepE K G1 H ((match es[j]? with|some (some r)=>some (O.f,r.2)|_=>none)::ba ix es) ((σ[j]?).bind id::cV ix σ) [];cases e:es[j]? with
  |none=>exact⟨_,_,rfl,cH ht hv ix⟩
  |some r=>
   cases r with
   |none=>exact⟨_,_,rfl,cH ht hv ix⟩
   |some r=>
    obtain⟨v,ev⟩:=hv j r e;refine⟨_,_,rfl,v,[],[],?_,rfl,dk.mpr ⟨ht j r v e ev,rfl⟩,cH ht hv ix⟩;rw[ev];rfl
section
variable{md:Mode}{X:Cx}{scope:Scope}{N:List Str}{tg iter elt:Expr}{ifs:List Expr}{pos:Pos}{fi:FI}{a:FG}{c:FT}{f:FX}
def J8(X:Cx)(ifs:List Expr)(c:FT):Prop:=Jx X ifs (tQT X.K c)
theorem fC:J8 X [] gP:=fun pr s σ H Q I Dg=>by
 obtain⟨G,env,fp,b,env',rel,e,k⟩:=Dg;cases e;exact vQ pr s σ H Q I (k H G fp .refl rel)
theorem gA{t:Expr}(h:QT X t c):J8 X [t] c:=vR h
end
section
variable{X:Cx}
inductive rCatS(K:W.Frag)(x:V)(y:V)(H:Hp)(Q:VK):Prop
 |mk:∀l b xs zs,x=.ref l->y=.ref b->SqL K H l xs->SqL K H b zs->xs.length+zs.length<=sizeLine->(∀p,H p=none->Q (.ref p) (upd H p (.lst (xs++zs))))->rCatS K x y H Q
theorem wj:DK X (binaryOp .Add) (rCatS X.K):=by
 intro pr s σ H x y v u Q I rx ry h;obtain⟨l,b,xs,zs,rfl,rfl,hH,hB,hz,q⟩:=h;cases rx;cases ry;obtain⟨C3,r1,p1,_⟩:=I.list hH;obtain⟨Hh,r2,p2,_⟩:=I.list hB;have l1:=r1.length;have l2:=r2.length;obtain⟨⟨cls,dd,data,sl⟩,ho,hc,n,hd⟩:=id p1.isList;obtain⟨⟨JV,Ip,data2,Iq⟩,Ez,G0,n2,hd2⟩:=id p2.isList;simp only at hc hd G0 hd2;subst hc hd G0 hd2;have e:C3.toArray++Hh.toArray=(C3++Hh).toArray:=by simp
 refine Su ⟨_,ho,rfl⟩ ⟨_,Ez,rfl⟩ noFill_list_add seq_list_add PySem.F.slot_list_add PySem.F.entry_list_add (PySem.F.args_list_add_2 _ _) (list_addW l b C3.toArray Hh.toArray n n2 dd Ip sl Iq (by rw[Of,Of];lia)) ⟨ho,Ez,?_⟩;rw[e];exact⟨.ref _,_,I.lnew (t':=s.toks) (r1.append r2) (by rw[O8];lia),rfl,q _ I.fresh⟩
end
noncomputable def addD:D->D->Res R
 | .int i,.int j=>.ok (.f,.int (i+j))
 | .str a,.str b=>if a.length+b.length<=sizeLine then .ok (.f,.str (a++b)) else .bad
 | .lst a,.lst b=>if a.length+b.length<=sizeLine then .ok (.l .f,.lst (a++b)) else .bad
 | .tup a,.tup b=>if a≠[]/\a.length+b.length<=sizeLine then .ok (.f,.tup (a++b)) else .bad
 |_,_=>.bad
section
variable{X:Cx}
theorem jB{K:W.Frag}{G H:Hp}{fp:List Addr}{es:PV.Env}{vs:L2.St}{ds:List D}{xs:List V}{p:Addr}(rel:Rel K G H es vs fp)(hp:H p=none)(r:Reps K G ds xs):
  ∃G',Rel K G' (upd H p (.tup xs)) (some (.f,.tup ds)::es) (some (.ref p)::vs) fp/\Step G H fp G' (upd H p (.tup xs)) fp:=by
 obtain⟨C4,De⟩:=rel.newF (u:=.tup xs) hp;refine⟨_,C4.push ?_,De⟩;rw[Rep];exact⟨p,xs,rfl,aw,r.mono De.gg⟩
theorem yM:DK X (binaryOp .Add) (rG X.K addD):=by
 rintro pr s σ H x y v u Q I rx ry ⟨G,fp,es,vs,a,b,r,⟨rel,k⟩,va,vb,e⟩;unfold addD at e;split at e
 ·rename_i i j;cases e;cases aO va;cases aO vb;exact x5 pr s σ H _ _ v u Q I rx ry ⟨i,j,rfl,rfl,k _ H G fp .refl (rel.push (rep_int _))⟩
 ·rename_i i j;split at e
  ·rename_i hl;cases e;obtain⟨e1,h1⟩:=gM va;obtain⟨e2,h2⟩:=gM vb;subst e1;subst e2;refine nO pr s σ H _ _ v u Q I rx ry ⟨_,_,rfl,rfl,by rw[kg,kg];exact hl,?_⟩;rw[AZ];exact k _ H G fp .refl (rel.push (gw (by rw[O8];exact hl)))
  ·cases e
 ·rename_i i j;split at e
  ·rename_i hl;cases e;obtain⟨p,xs,e1,h1,r1⟩:=va;obtain⟨p2,HF,e2,h2,r2⟩:=vb;subst e1;subst e2;refine wj pr s σ H _ _ v u Q I rx ry ⟨p,p2,xs,HF,rfl,rfl,h1,h2,by rw[r1.length,r2.length];exact hl,fun q hq=>?_⟩;obtain⟨C4,De⟩:=rel.newL hq (r1.app r2);exact k _ _ G _ De C4
  ·cases e
 ·rename_i i j;split at e
  ·rename_i hl;cases e;obtain⟨p,xs,e1,h1,r1⟩:=d6 va;obtain⟨p2,HF,e2,h2,r2⟩:=d6 vb;subst e1;subst e2;have hx:xs≠[]:=fun z=>hl.1 (OY (by rw[<-r1.length,z];rfl))
   refine vI pr s σ H _ _ v u Q I rx ry ⟨p,p2,xs,HF,rfl,rfl,aU rel.gh h1,aU rel.gh h2,hx,by rw[r1.length,r2.length];exact hl.2,fun z=>?_,fun z q hq=>?_⟩
   ·have:j=[]:=OY (by rw[<-r2.length,z];rfl);subst this;rw[OK]at k;exact k _ H G fp .refl (rel.push va)
   ·obtain⟨G',C4,De⟩:=jB rel hq (r1.app r2);exact k _ _ G' _ De C4
  ·cases e
 ·cases e
def lj:D->D->Res R
 | .int i,.int j=>.ok (.f,.int (i-j))
 |_,_=>.bad
theorem ir:DK X (binaryOp .Sub) (rG X.K lj):=by
 rintro pr s σ H x y v u Q I rx ry ⟨G,fp,es,vs,a,b,r,⟨rel,k⟩,va,vb,e⟩;unfold lj at e;split at e
 ·rename_i i j;cases e;cases aO va;cases aO vb;exact x6 pr s σ H _ _ v u Q I rx ry ⟨i,j,rfl,rfl,k _ H G fp .refl (rel.push (rep_int _))⟩
 ·cases e
def i6(i:Int):Bool:=decide (-(2 ^ 64)<i/\i<2 ^ 64)
def A9:D->D->Res R
 | .int i,.int j=>if i6 i||i6 j then .ok (.f,.int (i*j)) else .bad
 |_,_=>.bad
theorem yN:DK X (binaryOp .Mult) (rG X.K A9):=by
 rintro pr s σ H x y v u Q I rx ry ⟨G,fp,es,vs,a,b,r,⟨rel,k⟩,va,vb,e⟩;unfold A9 at e;split at e
 ·rename_i i j;split at e
  ·rename_i hc;cases e;cases aO va;cases aO vb;have hc:CMul i j:=by
    rw[RE]at hc;exact hc.imp RU RU
   exact x9 pr s σ H _ _ v u Q I rx ry ⟨i,j,rfl,rfl,hc,k _ H G fp .refl (rel.push (rep_int _))⟩
  ·cases e
 ·cases e
def lN:D->D->Res R
 | .int i,.int j=>if 0<j/\j<1073741824 then .ok (.f,.int (i / j)) else .bad
 |_,_=>.bad
theorem pO:DK X (binaryOp .FloorDiv) (rG X.K lN):=by
 rintro pr s σ H x y v u Q I rx ry ⟨G,fp,es,vs,a,b,r,⟨rel,k⟩,va,vb,e⟩;unfold lN at e;split at e
 ·rename_i i j;split at e
  ·rename_i hc;cases e;cases aO va;cases aO vb;exact vA pr s σ H _ _ v u Q I rx ry ⟨i,j,rfl,rfl,hc,k _ H G fp .refl (rel.push (rep_int _))⟩
  ·cases e
 ·cases e
def ll:D->D->Res R
 | .int i,.int j=>if 0<j then .ok (.f,.int (i%j)) else .bad
 |_,_=>.bad
theorem iu:DK X (binaryOp .Mod) (rG X.K ll):=by
 rintro pr s σ H x y v u Q I rx ry ⟨G,fp,es,vs,a,b,r,⟨rel,k⟩,va,vb,e⟩;unfold ll at e;split at e
 ·rename_i i j;split at e
  ·rename_i hc;cases e;cases aO va;cases aO vb;exact yc pr s σ H _ _ v u Q I rx ry ⟨i,j,rfl,rfl,hc,k _ H G fp .refl (rel.push (rep_int _))⟩
  ·cases e
 ·cases e
def pP:D->D->Res R
 | .int i,.int j=>if 0<=j/\j<=1000000/\i.natAbs<2 ^ 64 then .ok (.f,.int (i ^ j.toNat)) else .bad
 |_,_=>.bad
theorem mK:DK X (binaryOp .Pow) (rG X.K pP):=by
 rintro pr s σ H x y v u Q I rx ry ⟨G,fp,es,vs,a,b,r,⟨rel,k⟩,va,vb,e⟩;unfold pP at e;split at e
 ·rename_i i j;split at e
  ·rename_i hc;cases e;cases aO va;cases aO vb;exact yd pr s σ H _ _ v u Q I rx ry ⟨i,j,rfl,rfl,hc,k _ H G fp .refl (rel.push (rep_int _))⟩
  ·cases e
 ·cases e
def IB:D->D->Res R
 | .int i,.int j=>.ok (.f,.bl (decide (i<j)))
 | .str a,.str b=>.ok (.f,.bl (decide (a<b)))
 |_,_=>.bad
theorem Ba:DK X (compareOp .Lt) (rG X.K IB):=by
 rintro pr s σ H x y v u Q I rx ry ⟨G,fp,es,vs,a,b,r,⟨rel,k⟩,va,vb,e⟩;unfold IB at e;split at e
 ·rename_i i j;cases e;cases aO va;cases aO vb;exact AM pr s σ H _ _ v u Q I rx ry ⟨i,j,rfl,rfl,k _ H G fp .refl (rel.push (cv _))⟩
 ·rename_i i j;cases e;obtain⟨e1,h1⟩:=gM va;obtain⟨e2,h2⟩:=gM vb;subst e1;subst e2;refine oQ pr s σ H _ _ v u Q I rx ry ⟨_,_,rfl,rfl,?_⟩;rw[eZ,eZ];exact k _ H G fp .refl (rel.push (cv _))
 ·cases e
def leD:D->D->Res R
 | .int i,.int j=>.ok (.f,.bl (decide (i<=j)))
 | .str a,.str b=>.ok (.f,.bl (!decide (b<a)))
 |_,_=>.bad
def KS:D->D->Res R
 | .int i,.int j=>.ok (.f,.bl (decide (j<i)))
 |_,_=>.bad
theorem yO:DK X (compareOp .Gt) (rG X.K KS):=by
 rintro pr s σ H x y v u Q I rx ry ⟨G,fp,es,vs,a,b,r,⟨rel,k⟩,va,vb,e⟩;unfold KS at e;split at e
 ·rename_i i j;cases e;cases aO va;cases aO vb;exact AN pr s σ H _ _ v u Q I rx ry ⟨i,j,rfl,rfl,k _ H G fp .refl (rel.push (cv _))⟩
 ·cases e
def geD:D->D->Res R
 | .int i,.int j=>.ok (.f,.bl (decide (j<=i)))
 |_,_=>.bad
end
abbrev FDs:=PV.Env->Res (List D×PV.Env)
inductive tDs(K:W.Frag)(f:FDs)(σ:L2.St)(H:Hp)(Q:List V->Hp->Prop):Prop
 |mk:∀G env fp ds env',Rel K G H env σ fp->f env=.ok (ds,env')->(∀vs H' G' C6,Step G H fp G' H' C6->Rel K G' H' env' σ C6->Reps K G' ds vs->Q vs H')->tDs K f σ H Q
def Lq(X:Cx)(es:List Expr)(f:FDs):Prop:=PA X es (tDs X.K f)
def c5:FDs:=fun env=>.ok ([],env)
def cI(f:FX)(g:FDs):FDs:=fun env=>(f env).bind fun p=>(g p.2).bind fun q=>.ok (p.1.2::q.1,q.2)
section
variable{X:Cx}
theorem bV:Lq X [] c5:=mI oT fun σ H Q Dg=>by
 obtain⟨G,env,fp,o,env',rel,e,k⟩:=Dg;cases e;exact k [] H G fp .refl rel .nil
theorem bW{e:Expr}{es:List Expr}{f:FX}{g:FDs}(h:QE X e f)(hs:Lq X es g)(JT:starEach (e::es) X.env=(false,eval e X.env)::starEach es X.env:=by rfl):Lq X (e::es) (cI f g):=
 mI (jk h hs JT) fun σ H Q Dg=>by
  obtain⟨G,env,fp,o,env',rel,e,k⟩:=Dg;obtain⟨⟨r,C2⟩,e1,e⟩:=ah e;obtain⟨⟨ds,C8⟩,e2,e⟩:=ah e;cases e;refine⟨G,env,fp,r,C2,rel,e1,fun v H1 G1 Ds Dj C5=>?_⟩;obtain⟨G2,b,rv,C4,De⟩:=C5.freeze;exact⟨G2,C2,b,ds,C8,C4,e2,fun vs H3 G3 Eu Dv DG rs=>k _ H3 G3 Eu (Dj.trans (De.trans Dv)) DG (.cons (Rep.mono Dv.gg rv) rs)⟩
def yP(fs:FDs):FX:=fun env=>(fs env).bind fun p=>if p.1.length<=1000 then .ok ((.f,.tup p.1),p.2) else .bad
def j0(fs:FDs):FX:=fun env=>(fs env).bind fun p=>if p.1.length<=1000 then .ok ((.l .f,.lst p.1),p.2) else .bad
variable{es:List Expr}{fs:FDs}{pos:Pos}
theorem uC{x1}(h:Lq X es fs):QE X (.Tuple es x1 pos) (yP fs):=a8 (yg h) fun σ H Q Dg=>by
 obtain⟨G,env,fp,r,env',rel,e,k⟩:=Dg;obtain⟨⟨ds,C2⟩,e1,e⟩:=ah e;dsimp only at e;split at e
 ·rename_i hl;cases e;refine⟨G,env,fp,ds,env',rel,e1,fun vs H1 G1 Ds Dj C5 rs=>⟨by rw[rs.length,line_eq];lia,fun p hp=>?_⟩⟩;obtain⟨G2,C4,De⟩:=jB C5 hp rs;exact k _ _ G2 _ (Dj.trans De) C4
 ·cases e
theorem d8(h:Lq X es fs):QE X (.List es pos) (j0 fs):=a8 (yh h) fun σ H Q Dg=>by
 obtain⟨G,env,fp,r,env',rel,e,k⟩:=Dg;obtain⟨⟨ds,C2⟩,e1,e⟩:=ah e;dsimp only at e;split at e
 ·rename_i hl;cases e;refine⟨G,env,fp,ds,env',rel,e1,fun vs H1 G1 Ds Dj C5 rs=>⟨by rw[rs.length,line_eq];lia,fun p hp=>?_⟩⟩;obtain⟨C4,De⟩:=C5.newL hp rs;exact k _ _ G1 _ (Dj.trans De) C4
 ·cases e
noncomputable def DT:D->D->Res R
 | .lst ds,.int i=>match FD ds i with
  |some d=>.ok (.f,d)
  |none=>.bad
 | .tup ds,.int i=>match FD ds i with
  |some d=>.ok (.f,d)
  |none=>.bad
 | .str l,.int i=>match FD l i with
  |some c=>.ok (.f,.str [c])
  |none=>.bad
 |_,_=>.bad
theorem mL{K:W.Frag}{G:Hp}{ds:List D}{xs:List V}{i:Int}{d:D}(r:Reps K G ds xs)(e:FD ds i=some d):∃v,FD xs i=some v/\Rep K G d v:=by
 unfold FD at e ⊢;rw[r.length];cases hn:ixN ds.length i with
 |none=>rw[hn]at e;cases e
 |some j=>
  rw[hn]at e;exact r.get e
theorem Bb:Lc X (rG X.K DT):=by
 rintro value slice pr s σ H x y v u Q I rx ry ⟨G,fp,es,vs,a,b,r,⟨rel,k⟩,va,vb,e⟩ hs;unfold DT at e;split at e
 ·rename_i ds i;split at e
  ·rename_i d hd;cases e;obtain⟨p,xs,ev,sq,rs⟩:=va;subst ev;cases aO vb;obtain⟨w',hw,Hi⟩:=mL rs hd;exact vJ value slice pr s σ H _ _ v u Q I rx ry ⟨p,xs,i,w',rfl,rfl,sq,hw,k _ H G fp .refl (rel.push Hi)⟩ hs
  ·cases e
 ·rename_i ds i;split at e
  ·rename_i d hd;cases e;obtain⟨p,xs,ev,sq,rs⟩:=d6 va;subst ev;cases aO vb;obtain⟨w',hw,Hi⟩:=mL rs hd;exact yk value slice pr s σ H _ _ v u Q I rx ry ⟨p,xs,i,w',rfl,rfl,aU rel.gh sq,hw,k _ H G fp .refl (rel.push Hi)⟩ hs
  ·cases e
 ·rename_i l i;split at e
  ·rename_i c hc;cases e;obtain⟨ev,hl⟩:=gM va;subst ev;cases aO vb;refine ym value slice pr s σ H _ _ v u Q I rx ry ⟨_,i,c,rfl,rfl,by rw[kg];exact hl,by rw[eZ];exact hc,?_⟩ hs;exact k _ H G fp .refl (rel.push (gw (l:=[c]) (by rw[line_eq];simp)))
  ·cases e
 ·cases e
variable{a b:Expr}{fa fb:FO}
theorem dB(ha:QO X a fa)(hb:QO X b fb)(hs:o4 b:=by exact fun _ _=>rfl):QE X (.Subscript a b pos) (aJ DT fa fb):=a8 (AV Bb ha hb hs) fun _ _ _=>pE
abbrev FP:=PV.Env->Res (Option Int×PV.Env)
inductive tQP(K:W.Frag)(f:FP)(σ:L2.St)(H:Hp)(Q:Option Int->Hp->Prop):Prop
 |mk:∀G env fp i env',Rel K G H env σ fp->f env=.ok (i,env')->(∀H' G' C6,Step G H fp G' H' C6->Rel K G' H' env' σ C6->Q i H')->tQP K f σ H Q
def QP(X:Cx)(e:Option Expr)(f:FP):Prop:=PO X e (tQP X.K f)
def oh:FP:=fun env=>.ok (none,env)
def oi(f:FX):FP:=fun env=>(f env).bind fun p=>match p.1.2 with
 | .int i=>.ok (some i,p.2)
 |_=>.bad
theorem uD{X:Cx}{e:Option Expr}{t t':TO}(h:PO X e t)(k:∀σ H Q,t' σ H Q->t σ H Q):PO X e t':=fun pr s σ H Q I w=>h pr s σ H Q I (k σ H Q w)
theorem lO:QP X none oh:=uD vG fun σ H Q Dg=>by
 obtain⟨G,env,fp,i,env',rel,e,k⟩:=Dg;cases e;exact k H G fp .refl rel
theorem lP{e:Expr}{f:FX}(h:QE X e f):QP X (some e) (oi f):=uD (vH h) fun σ H Q Dg=>by
 obtain⟨G,env,fp,i,env',rel,e,k⟩:=Dg;obtain⟨⟨⟨o,d⟩,C2⟩,e1,e⟩:=ah e;dsimp only at e;split at e
 ·rename_i j;cases e;refine⟨G,env,fp,_,_,rel,e1,fun v H1 G1 Ds Dj C5=>?_⟩;have hv:=C5.top;obtain⟨b,C4,De⟩:=C5.drop;exact⟨j,a9 hv,k H1 G1 b (Dj.trans De) C4⟩
 ·cases e
def i7{α:Type}(xs:List α)(lo hi:Option Int):List α:=(xs.drop (HT.sIx xs.length 0 lo)).take (HT.sIx xs.length xs.length hi-HT.sIx xs.length 0 lo)
noncomputable def Lr(k:D)(lo hi:Option Int):Res R:=match k with
 | .lst ds=>.ok (.l .f,.lst (i7 ds lo hi))
 | .tup ds=>if ¬ (HT.sIx ds.length 0 lo=0/\HT.sIx ds.length ds.length hi=ds.length) then .ok (.f,.tup (i7 ds lo hi)) else .bad
 | .str l=>.ok (.f,.str (i7 l lo hi))
 |_=>.bad
def eSl(fa:FO)(lo hi:FP):FX:=fun env=>(fa env).bind fun p=>(lo p.2).bind fun q=>(hi q.2).bind fun t=>(EI t.2 p.1).bind fun d=>(Lr d q.1 t.1).bind fun r=>.ok (r,t.2)
theorem mM{K:W.Frag}{G:Hp}{ds:List D}{xs:List V}{lo hi:Option Int}(r:Reps K G ds xs):Reps K G (i7 ds lo hi) (uq xs lo hi):=by
 unfold i7 uq;rw[r.length];exact(r.drop _).take _
theorem wm{α:Type}(xs:List α)(lo hi:Option Int):(i7 xs lo hi).length<=xs.length:=by
 unfold i7;rw[Pp,QM];lia
inductive rSl(K:W.Frag)(x:V)(lo:Option Int)(hi:Option Int)(H:Hp)(Q:VK):Prop
 |mk:∀G fp es vs d r,Goes K H G fp es vs r Q->Vw K G H d x->Lr d lo hi=.ok r->rSl K x lo hi H Q
theorem yQ:JX X (rSl X.K):=by
 rintro pr s σ H x v vl vu lo hi sl Q I rx hs pl pu ⟨G,fp,es,vs,d,r,⟨rel,k⟩,vd,e⟩;unfold Lr at e;split at e
 ·rename_i ds;cases e;obtain⟨p,xs,ev,sq,rs⟩:=vd;subst ev;refine vK pr s σ H _ v vl vu lo hi sl Q I rx hs pl pu ⟨p,xs,rfl,sq,fun q hq=>?_⟩;obtain⟨C4,De⟩:=rel.newL hq (mM (lo:=lo) (hi:=hi) rs);exact k _ _ G _ De C4
 ·rename_i ds;split at e
  ·rename_i hw;cases e;obtain⟨p,xs,ev,sq,rs⟩:=d6 vd;subst ev;refine yj pr s σ H _ v vl vu lo hi sl Q I rx hs pl pu ⟨p,xs,rfl,aU rel.gh sq,by rw[rs.length];exact hw,fun q hq=>?_⟩;obtain⟨G2,C4,De⟩:=jB rel hq (mM (lo:=lo) (hi:=hi) rs);exact k _ _ G2 _ De C4
  ·cases e
 ·rename_i l;cases e;obtain⟨ev,hl⟩:=gM vd;subst ev;exact yu pr s σ H _ v vl vu lo hi sl Q I rx hs pl pu ⟨l,rfl,hl,k _ H G fp .refl (rel.push (gw (l:=yt l lo hi) (OF (wm l lo hi) hl)))⟩
 ·cases e
def pQ(env:PV.Env)(i:Nat):Bool:=match env[i]? with
 |some (some (_,.lst _))=>true
 |_=>false
theorem sR{K:W.Frag}{G H:Hp}{es:PV.Env}{σ:L2.St}{fp:List Addr}{i:Nat}(rel:Rel K G H es σ fp)(h:pQ es i=true):∃v,σ[i]?=some (some v)/\Mo K "list" v H:=by
 unfold pQ at h;split at h
 ·rename_i o ds hr;obtain⟨v,ev,rv⟩:=rel.view hr;obtain⟨p,xs,e,sq,_⟩:=aW rv;subst e;exact⟨_,ev,.inl ⟨rfl,xs,sq⟩⟩
 ·cases h
def wo(i:Nat)(f:FX):FX:=fun env=>if pQ env i then(f env).bind fun p=>match p.2[i]? with
 |some (some (.l .f,.lst ds))=>if ds.length<sizeLine then .ok ((.f,.non),p.2.set i (some (.l .f,.lst (ds++[p.1.2])))) else .bad
 |_=>.bad
 else .bad
theorem fP{i:Nat}{o e:Expr}{f:FX}{apos DO:Pos}(ho:PE X o (nL i))(he:QE X e f)
  (Fe:attributeBase o "append" X.env (eval o X.env)=eval o X.env:=by rfl)
  (JY:((backTo DO (starEach [e] X.env)).all (fun x=>!x.1)&&(backToKw DO (keywordEach [] X.env)).all (fun x=>x.1.isSome)&&decide ([e].length+([]:List Keyword).length+(if([]:List Keyword).isEmpty then 0 else 1)<30))=true:=by rfl)
  (Ff:(apos.endLine==DO.line)=true:=by rfl) (hs:starEach [e] X.env=(false,eval e X.env)::starEach [] X.env:=by rfl) (GF:(backTo DO (starEach [] X.env)).any (·.1)=false:=by rfl):
  QE X (.Call (.Attribute o "append" apos) [e] [] DO) (wo i f):=by
 refine a8 (AW R6 PySem.F.slot_list_append PySem.F.type_list_append ie ho (bW he bV hs) Fe JY Ff hs GF) fun σ H Q Dl=>?_
 obtain⟨G,env,fp,r,env',rel,e,k⟩:=Dl;unfold wo at e;split at e
 ·rename_i hil;obtain⟨v,ev,ty⟩:=sR rel hil;obtain⟨⟨r1,C2⟩,e1,e⟩:=ah e;dsimp only at e;split at e
  ·rename_i ds Iz;split at e
   ·rename_i hl;cases e;refine⟨v,ev,ty,G,env,fp,[r1.2],C2,rel,by show(f env).bind _=_;rw[e1];rfl,fun vs H1 G1 Ds Dj C5 rs=>?_⟩;rw[Reps]at rs;obtain⟨y,ys,eys,ry,rn⟩:=rs;rw[Reps]at rn;subst rn;obtain⟨p,xs,ep,hp,HG,cg⟩:=C5.chg (ds':=ds++[r1.2]) Iz;rw[ev]at ep;cases ep;obtain⟨fq,C4,De⟩:=cg (xs++[y]) (HG.app (.one ry));exact⟨p,xs,y,rfl,eys,hp,by rw[HG.length];exact hl,k _ _ G1 fq (Dj.trans De) (C4.push lH)⟩
   ·cases e
  ·cases e
 ·cases e
def Bc:List D->Res R
 |[.lst ds]=>.ok (.f,.int ds.length)
 |[.tup ds]=>.ok (.f,.int ds.length)
 |[.str l]=>.ok (.f,.int l.length)
 |_=>.bad
theorem pR{K:W.Frag}{G H:Hp}{d:D}{xs:List V}(h:Mt K G H [d] xs):∃v,xs=[v]/\Vw K G H d v:=by
 obtain⟨y,ys,e,v1,e2⟩:=h;have e2:ys=[]:=e2;subst e2;exact⟨y,e,v1⟩
theorem yR:d5 X (.builtin "len") (rC X.K Bc):=by
 rintro pr s σ H xs us Q I rx ⟨G,fp,es,vs,ds,r,⟨rel,k⟩,vd,e⟩;unfold Bc at e;split at e
 ·rename_i ds;cases e;obtain⟨v,ev,p,ys,ep,sq,rs⟩:=pR vd;subst ev;subst ep;refine gJ pr s σ H _ us Q I rx ⟨p,ys,rfl,.inl sq,?_⟩;rw[rs.length];exact k _ H G fp .refl (rel.push (rep_int _))
 ·rename_i ds;cases e;obtain⟨v,ev,vt⟩:=pR vd;obtain⟨p,ys,ep,sq,rs⟩:=d6 vt;subst ev;subst ep;refine gJ pr s σ H _ us Q I rx ⟨p,ys,rfl,.inr (aU rel.gh sq),?_⟩;rw[rs.length];exact k _ H G fp .refl (rel.push (rep_int _))
 ·rename_i l;cases e;obtain⟨v,ev,vt⟩:=pR vd;obtain⟨ep,hl⟩:=gM vt;subst ev;subst ep;refine kd pr s σ H _ us Q I rx ⟨S l,rfl,by rw[kg];exact hl,?_⟩;rw[kg];exact k _ H G fp .refl (rel.push (rep_int _))
 ·cases e
def pS:List D->Res R
 |[.lst ds]=>.ok (.l .f,.lst ds)
 |[.tup ds]=>.ok (.l .f,.lst ds)
 |_=>.bad
theorem pT:d5 X (.type "list") (rC X.K pS):=by
 rintro pr s σ H xs us Q I rx ⟨G,fp,es,vs,ds,r,⟨rel,k⟩,vd,e⟩;unfold pS at e;split at e
 ·rename_i ds;cases e;obtain⟨v,ev,p,ys,ep,sq,rs⟩:=pR vd;subst ev;subst ep;refine gK pr s σ H _ us Q I rx ⟨p,ys,rfl,.inl sq,fun q hq=>?_⟩;obtain⟨C4,De⟩:=rel.newL hq rs;exact k _ _ G _ De C4
 ·rename_i ds;cases e;obtain⟨v,ev,vt⟩:=pR vd;obtain⟨p,ys,ep,sq,rs⟩:=d6 vt;subst ev;subst ep;refine gK pr s σ H _ us Q I rx ⟨p,ys,rfl,.inr (aU rel.gh sq),fun q hq=>?_⟩;obtain⟨C4,De⟩:=rel.newL hq rs;exact k _ _ G _ De C4
 ·cases e
def gQ:List D->Res R
 |[.lst ds]=>.ok (.f,.tup ds)
 |[.tup ds]=>.ok (.f,.tup ds)
 |_=>.bad
theorem fQ:d5 X (.type "tuple") (rC X.K gQ):=by
 rintro pr s σ H xs us Q I rx ⟨G,fp,es,vs,ds,r,⟨rel,k⟩,vd,e⟩;unfold gQ at e;split at e
 ·rename_i ds;cases e;obtain⟨v,ev,p,ys,ep,sq,rs⟩:=pR vd;subst ev;subst ep;refine fJ pr s σ H _ us Q I rx ⟨p,ys,rfl,.inl ⟨sq,fun q hq=>?_⟩⟩;obtain⟨G2,C4,De⟩:=jB rel hq rs;exact k _ _ G2 _ De C4
 ·rename_i ds;cases e;obtain⟨v,ev,vt⟩:=pR vd;obtain⟨p,ys,ep,sq,rs⟩:=d6 vt;subst ev;subst ep;exact fJ pr s σ H _ us Q I rx ⟨p,ys,rfl,.inr ⟨aU rel.gh sq,k _ H G fp .refl (rel.push vt)⟩⟩
 ·cases e
def sS:List D->Option (List Bool)
 |[]=>some []
 | .bl b::ds=>(sS ds).map (b:: ·)
 |_=>none
def dn:List D->Option (List Int)
 |[]=>some []
 | .int b::ds=>(dn ds).map (b:: ·)
 |_=>none
theorem iw{K:W.Frag}{G:Hp}:∀{ds:List D}{bs:List Int}{xs:List V},dn ds=some bs->Reps K G ds xs->xs=bs.map V.int
 |[],_,_,e,r=>by
  cases e;rw[Reps]at r;exact r
 | .int b::ds,_,_,e,r=>by
  rw[dn,Qf]at e;obtain⟨bs,e1,e2⟩:=e;subst e2;rw[Reps]at r;obtain⟨y,ys,e3,r1,r2⟩:=r;rw[e3,a9 r1,iw e1 r2];rfl
 | .non::_,_,_,e,_ | .bl _::_,_,_,e,_ | .str _::_,_,_,e,_ | .tup _::_,_,_,e,_ | .lst _::_,_,_,e,_ | .dct _ _ _::_,_,_,e,_=>by simp[dn]at e
theorem oj(ns:List Int):dn (ns.map D.int)=some ns:=by
 induction ns with
 |nil=>rfl
 |cons n ns ih=>rw[OH,dn,ih];rfl
theorem yS(ns:List Bool):sS (ns.map D.bl)=some ns:=by
 induction ns with
 |nil=>rfl
 |cons n ns ih=>rw[OH,sS,ih];rfl
def lq:D->Option (List D)
 | .lst ds=>some ds
 | .tup ds=>some ds
 |_=>none
theorem wq{K:W.Frag}{G H:Hp}{d:D}{ds:List D}{v:V}(gh:Same G H)(e:lq d=some ds)(h:Vw K G H d v):∃p xs,v=.ref p/\(SqL K H p xs\/SqT K H p xs)/\Reps K G ds xs:=by
 cases d with
 |lst es=>
  cases e;obtain⟨p,xs,ev,sq,rs⟩:=h;exact⟨p,xs,ev,.inl sq,rs⟩
 |tup es=>
  cases e;obtain⟨p,xs,ev,sq,rs⟩:=aV h;exact⟨p,xs,ev,.inr (aU gh sq),rs⟩
 |_=>cases e
def CT:List D->Res R
 |[d]=>match(lq d).bind sS with
  |some bs=>.ok (.f,.bl (bs.all id))
  |none=>.bad
 |_=>.bad
def wt:List D->Res R
 |[d]=>match(lq d).bind dn with
  |some ns=>.ok (.f,.int ns.sum)
  |none=>.bad
 |_=>.bad
def maxD:List D->Res R
 |[d]=>match(lq d).bind dn with
  |some (n::ns)=>.ok (.f,.int (yy (n::ns)))
  |_=>.bad
 |[.int i,.int j]=>.ok (.f,.int (if i<j then j else i))
 |_=>.bad
theorem pU{K:W.Frag}{G H:Hp}{d:D}{ns:List Int}{v:V}(gh:Same G H)(hb:(lq d).bind dn=some ns)(vt:Vw K G H d v):∃p,v=.ref p/\(SqL K H p (ns.map V.int)\/SqT K H p (ns.map V.int)):=by
 obtain⟨l,hl,hb⟩:=Q7.mp hb;obtain⟨p,ys,ep,sq,rs⟩:=wq gh hl vt;have:=iw hb rs;subst this;exact⟨p,ep,sq⟩
theorem uE(hc:X.calm=true):d5 X (.builtin "sum") (rC X.K wt):=by
 rintro pr s σ H xs us Q I rx ⟨G,fp,es,vs,ds,r,⟨rel,k⟩,vd,e⟩;unfold wt at e;split at e
 ·rename_i d;split at e
  ·rename_i ns hb;cases e;obtain⟨v,ev,vt⟩:=pR vd;obtain⟨p,ep,sq⟩:=pU rel.gh hb vt;subst ev;subst ep;exact o9 hc pr s σ H _ us Q I rx ⟨p,ns,rfl,sq,k _ H G fp .refl (rel.push (rep_int _))⟩
  ·cases e
 ·cases e
end
mutual
noncomputable def C9:D->D->Bool
 | .non,.non=>true
 | .bl a,.bl b=>a==b
 | .bl a,.int j=>(if a then 1 else 0)==j
 | .int i,.bl b=>i==(if b then 1 else 0)
 | .int i,.int j=>i==j
 | .str a,.str b=>a==b
 | .tup a,.tup b=>hW a b
 | .lst a,.lst b=>hW a b
 |_,_=>false
noncomputable def hW:List D->List D->Bool
 |[],[]=>true
 |a::as,b::bs=>C9 a b&&hW as bs
 |_,_=>false
end
mutual
noncomputable def plainD:Nat->D->Bool
 |n+1,.tup ds=>plainDs n ds
 |n+1,.lst ds=>plainDs n ds
 | 0,.tup _=>false
 | 0,.lst _=>false
 |_,.dct _ _ _=>false
 |_,_=>true
noncomputable def plainDs:Nat->List D->Bool
 |_,[]=>true
 |n,d::ds=>plainD n d&&plainDs n ds
end
theorem plainDs_mem:∀{n:Nat}{ds:List D},plainDs n ds=true->∀{i:Nat}{d:D},ds[i]?=some d->plainD n d=true
 |_,[],_,_,_,e=>by simp at e
 |n,a::ds,h,0,d,e=>by
  rw[plainDs,Oz]at h;simp at e;rw[<-e];exact h.1
 |n,a::ds,h,i+1,d,e=>by
  rw[plainDs,Oz]at h;exact plainDs_mem h.2 (i:=i) (by simpa using e)
theorem fR:∀{a b:List D},a.length≠b.length->hW a b=false
 |[],[],h=>absurd rfl h
 |[],_::_,_=>by simp only[hW]
 |_::_,[],_=>by simp only[hW]
 |x::xs,y::ys,h=>by
  rw[hW,fR (fun e=>h (by simp[e])),S1]
theorem dq:∀{a b:List D},a.length=b.length->(List.range a.length).all (fun j=>C9 (a.getD j .non) (b.getD j .non))=hW a b
 |[],[],_=>rfl
 |[],_::_,h=>by simp at h
 |_::_,[],h=>by simp at h
 |x::xs,y::ys,h=>by
  rw[hW,<-dq (a:=xs) (b:=ys) (by simpa using h),OA,Sl,Qr,QA];rfl
section
variable{X:Cx}{pr:List (Addr×Obj)}{σ:L2.St}{H:Hp}{s:Shared}
theorem iy(I:Inv X pr σ H s){p:Addr}{xs ys:List V}(h:SqL X.K H p xs)(h':SqT X.K H p ys):False:=by
 obtain⟨us,_,p1,_⟩:=I.list h;obtain⟨ws,_,p2,_⟩:=I.tuple h';exact SeqAt.ne_of_list_tuple p1.isList (show s.heap.IsTuple p ws.toArray from p2) rfl
mutual
theorem jC(I:Inv X pr σ H s):∀(d e:D) (x:V) (n:Nat),plainD n d=true->Rep X.K H d x->Rep X.K H e x->d=e
 | .non,e,x,n,_,r,q=>by
  cases bM r;cases e with
  |non=>rfl
  |bl b=>cases cw q
  |int i=>cases a9 q
  |str l=>cases(aR q).1
  |tup l=>obtain⟨p,xs,ev,_⟩:=aV q;cases ev
  |lst l=>obtain⟨p,xs,ev,_⟩:=aW q;cases ev
  |dct tk ks vs=>rw[Rep]at q;obtain⟨p,xs,o,ev,_⟩:=q;cases ev
 | .bl b,e,x,n,_,r,q=>by
  cases cw r;cases e with
  |non=>cases bM q
  |bl b=>cases cw q;rfl
  |int i=>cases a9 q
  |str l=>cases(aR q).1
  |tup l=>obtain⟨p,xs,ev,_⟩:=aV q;cases ev
  |lst l=>obtain⟨p,xs,ev,_⟩:=aW q;cases ev
  |dct tk ks vs=>rw[Rep]at q;obtain⟨p,xs,o,ev,_⟩:=q;cases ev
 | .int i,e,x,n,_,r,q=>by
  cases a9 r;cases e with
  |non=>cases bM q
  |bl b=>cases cw q
  |int i=>cases a9 q;rfl
  |str l=>cases(aR q).1
  |tup l=>obtain⟨p,xs,ev,_⟩:=aV q;cases ev
  |lst l=>obtain⟨p,xs,ev,_⟩:=aW q;cases ev
  |dct tk ks vs=>rw[Rep]at q;obtain⟨p,xs,o,ev,_⟩:=q;cases ev
 | .str l,e,x,n,_,r,q=>by
  have hr:=(aR r).1;subst hr;cases e with
  |non=>cases bM q
  |bl b=>cases cw q
  |int i=>cases a9 q
  |str l'=>
   have hq:=(aR q).1;injection hq with hq;rw[vO hq]
  |tup l=>obtain⟨p,xs,ev,_⟩:=aV q;cases ev
  |lst l=>obtain⟨p,xs,ev,_⟩:=aW q;cases ev
  |dct tk ks vs=>rw[Rep]at q;obtain⟨p,xs,o,ev,_⟩:=q;cases ev
 | .tup l,e,x,n,h,r,q=>by
  obtain⟨p,xs,ev,sq,rs⟩:=aV r;subst ev;cases e with
  |non=>cases bM q
  |bl b=>cases cw q
  |int i=>cases a9 q
  |str l=>cases(aR q).1
  |tup l'=>
   obtain⟨p',DS,Ex,Em,Et⟩:=aV q;cases Ex;have:=I.tuple_inj sq Em;subst this;cases n with
   |zero=>simp only[plainD]at h;cases h
   |succ n=>
    simp only[plainD]at h;rw[jD I l l' xs n h rs Et]
  |lst l'=>
   obtain⟨p',DS,Ex,Em,Et⟩:=aW q;cases Ex;exact(iy I Em sq).elim
  |dct tk ks vs=>
   exfalso;rw[Rep]at q;obtain⟨p',DS,o,Ex,rd,dd,_⟩:=q;cases Ex;obtain⟨C3,_,ip,_⟩:=I.tuple sq;obtain⟨ob,ho,hc,_⟩:=ip;have Ls:=rd.ok I.hok;cases tk with
   |true=>
    obtain⟨C1,eo,_⟩:=dd;subst eo;obtain⟨_,_,_,_,o2,_,_,Ez,ex,_⟩:=Ls;rw[ho]at Ez;cases Ez;rw[ex.1]at hc;exact absurd hc (by decide)
   |false=>
    obtain⟨C1,eo,_⟩:=dd;subst eo;obtain⟨_,_,_,_,o2,_,_,Ez,ex,_⟩:=Ls;rw[ho]at Ez;cases Ez;rw[ex.1]at hc;exact absurd hc (by decide)
 | .lst l,e,x,n,h,r,q=>by
  obtain⟨p,xs,ev,sq,rs⟩:=aW r;subst ev;cases e with
  |non=>cases bM q
  |bl b=>cases cw q
  |int i=>cases a9 q
  |str l=>cases(aR q).1
  |tup l'=>
   obtain⟨p',DS,Ex,Em,Et⟩:=aV q;cases Ex;exact(iy I sq Em).elim
  |lst l'=>
   obtain⟨p',DS,Ex,Em,Et⟩:=aW q;cases Ex;have:=I.list_inj sq Em;subst this;cases n with
   |zero=>simp only[plainD]at h;cases h
   |succ n=>
    simp only[plainD]at h;rw[jD I l l' xs n h rs Et]
  |dct tk ks vs=>
   exfalso;rw[Rep]at q;obtain⟨p',DS,o,Ex,rd,dd,_⟩:=q;cases Ex;obtain⟨C3,_,ip,_⟩:=I.list sq;obtain⟨ob,_,ho,hc,_⟩:=ip;have Ls:=rd.ok I.hok;cases tk with
   |true=>
    obtain⟨C1,eo,_⟩:=dd;subst eo;obtain⟨_,_,_,_,o2,_,_,Ez,ex,_⟩:=Ls;rw[ho]at Ez;cases Ez;rw[ex.1]at hc;exact absurd hc (by decide)
   |false=>
    obtain⟨C1,eo,_⟩:=dd;subst eo;obtain⟨_,_,_,_,o2,_,_,Ez,ex,_⟩:=Ls;rw[ho]at Ez;cases Ez;rw[ex.1]at hc;exact absurd hc (by decide)
 | .dct _ _ _,_,_,n,h,_,_=>by cases n <;> (simp only[plainD]at h;cases h)
theorem jD(I:Inv X pr σ H s):∀(ds es:List D) (xs:List V) (n:Nat),plainDs n ds=true->Reps X.K H ds xs->Reps X.K H es xs->ds=es
 |[],es,xs,n,_,r,q=>by
  rw[Reps]at r;subst r;cases es with
  |nil=>rfl
  |cons e es=>
   rw[Reps]at q;obtain⟨y,ys,ev,_⟩:=q;cases ev
 |d::ds,es,xs,n,h,r,q=>by
  rw[Reps]at r;obtain⟨y,ys,ev,r1,r2⟩:=r;subst ev;rw[plainDs,Oz]at h;cases es with
  |nil=>
   rw[Reps]at q;cases q
  |cons e es=>
   rw[Reps]at q;obtain⟨y',ys',ev,q1,q2⟩:=q;cases ev;rw[jC I d e y n h.1 r1 q1,jD I ds es ys n h.2 r2 q2]
end
mutual
theorem hZ:∀(d:D) (n:Nat),plainD n d=true->C9 d d=true
 | .non,_,_=>by simp only[C9]
 | .bl _,_,_=>by simp only[C9,OZ]
 | .int _,_,_=>by simp only[C9,OZ]
 | .str _,_,_=>by simp only[C9,OZ]
 | .tup ds,0,h=>by simp only[plainD]at h;cases h
 | .tup ds,n+1,h=>by simp only[plainD]at h;simp only[C9];exact iz ds n h
 | .lst ds,0,h=>by simp only[plainD]at h;cases h
 | .lst ds,n+1,h=>by simp only[plainD]at h;simp only[C9];exact iz ds n h
 | .dct _ _ _,n,h=>by cases n <;> (simp only[plainD]at h;cases h)
theorem iz:∀(ds:List D) (n:Nat),plainDs n ds=true->hW ds ds=true
 |[],_,_=>by simp only[hW]
 |d::ds,n,h=>by
  rw[plainDs,Oz]at h;rw[hW,hZ d n h.1,iz ds n h.2];rfl
end
open PySem.SeqAt
theorem aX{n:Nat}{tk:Bool}{ks vs:List D}(h:plainD n (.dct tk ks vs)=true):False:=by cases n <;> (simp only[plainD]at h;cases h)
mutual
theorem yT(I:Inv X pr σ H s):∀(d e:D) (x y:V) (v u:Value) (A:Around) (n:Nat),plainD n d=true->plainD n e=true->A.units+n<cLine->Rep X.K H d x->Rep X.K H e y->RelV x v->RelV y u->EqAt A s v u (C9 d e)
 | .non,e,x,y,v,u,A,n,h,h',hu,r,q,rx,ry=>by
  cases bM r;cases rx;cases e with
  |non=>cases bM q;cases ry;simp only[C9];exact .same _
  |bl b=>cases cw q;cases ry;simp only[C9];exact .none_bool _
  |int i=>cases a9 q;obtain⟨t,rfl⟩:=ry;simp only[C9];exact .none_int _ _
  |str l=>cases(aR q).1;obtain⟨t,rfl⟩:=ry;simp only[C9];exact .none_str _ _
  |tup l=>obtain⟨p,xs,rfl,sq,_⟩:=aV q;cases ry;obtain⟨C3,_,ip,_⟩:=I.tuple sq;simp only[C9];exact .none_tuple (show s.heap.IsTuple p C3.toArray from ip) (by lia)
  |lst l=>obtain⟨p,xs,rfl,sq,_⟩:=aW q;cases ry;obtain⟨C3,_,ip,_⟩:=I.list sq;simp only[C9];exact .none_list ip.isList (by lia)
  |dct tk ks vs=>exact(aX h').elim
 | .bl b,e,x,y,v,u,A,n,h,h',hu,r,q,rx,ry=>by
  cases cw r;cases rx;cases e with
  |non=>cases bM q;cases ry;simp only[C9];exact .bool_none _
  |bl b=>cases cw q;cases ry;simp only[C9];exact .bool_bool _ _
  |int i=>cases a9 q;obtain⟨t,rfl⟩:=ry;simp only[C9];exact .bool_int _ _ _
  |str l=>cases(aR q).1;obtain⟨t,rfl⟩:=ry;simp only[C9];exact .bool_str _ _ _
  |tup l=>obtain⟨p,xs,rfl,sq,_⟩:=aV q;cases ry;obtain⟨C3,_,ip,_⟩:=I.tuple sq;simp only[C9];exact .bool_tuple _ (show s.heap.IsTuple p C3.toArray from ip) (by lia)
  |lst l=>obtain⟨p,xs,rfl,sq,_⟩:=aW q;cases ry;obtain⟨C3,_,ip,_⟩:=I.list sq;simp only[C9];exact .bool_list _ ip.isList (by lia)
  |dct tk ks vs=>exact(aX h').elim
 | .int b,e,x,y,v,u,A,n,h,h',hu,r,q,rx,ry=>by
  cases a9 r;obtain⟨t0,rfl⟩:=rx;cases e with
  |non=>cases bM q;cases ry;simp only[C9];exact .int_none _ _
  |bl b=>cases cw q;cases ry;simp only[C9];exact .int_bool _ _ _
  |int i=>cases a9 q;obtain⟨t,rfl⟩:=ry;simp only[C9];exact .int_int _ _ _ _
  |str l=>cases(aR q).1;obtain⟨t,rfl⟩:=ry;simp only[C9];exact .int_str _ _ _ _
  |tup l=>obtain⟨p,xs,rfl,sq,_⟩:=aV q;cases ry;obtain⟨C3,_,ip,_⟩:=I.tuple sq;simp only[C9];exact .int_tuple _ _ (show s.heap.IsTuple p C3.toArray from ip) (by lia)
  |lst l=>obtain⟨p,xs,rfl,sq,_⟩:=aW q;cases ry;obtain⟨C3,_,ip,_⟩:=I.list sq;simp only[C9];exact .int_list _ _ ip.isList (by lia)
  |dct tk ks vs=>exact(aX h').elim
 | .str b,e,x,y,v,u,A,n,h,h',hu,r,q,rx,ry=>by
  have hr:=(aR r).1;subst hr;obtain⟨t0,rfl⟩:=rx;cases e with
  |non=>cases bM q;cases ry;simp only[C9];exact .str_none _ _
  |bl b=>cases cw q;cases ry;simp only[C9];exact .str_bool _ _ _
  |int i=>cases a9 q;obtain⟨t,rfl⟩:=ry;simp only[C9];exact .str_int _ _ _ _
  |str l=>
   have hq:=(aR q).1;subst hq;obtain⟨t,rfl⟩:=ry;have e1:(b==l)=(S b==S l):=by
    rw[O7,OO,OO];exact⟨fun z=>by rw[z],vO⟩
   simp only[C9,e1];exact .str_str _ _ _ _
  |tup l=>obtain⟨p,xs,rfl,sq,_⟩:=aV q;cases ry;obtain⟨C3,_,ip,_⟩:=I.tuple sq;simp only[C9];exact .str_tuple _ _ (show s.heap.IsTuple p C3.toArray from ip) (by lia)
  |lst l=>obtain⟨p,xs,rfl,sq,_⟩:=aW q;cases ry;obtain⟨C3,_,ip,_⟩:=I.list sq;simp only[C9];exact .str_list _ _ ip.isList (by lia)
  |dct tk ks vs=>exact(aX h').elim
 | .tup l,e,x,y,v,u,A,n,h,h',hu,r,q,rx,ry=>by
  have rr:=r;obtain⟨p,xs,ev,sq,rs⟩:=aV r;subst ev;cases rx;obtain⟨C3,vl,ip,_⟩:=I.tuple sq;have ip:s.heap.IsTuple p C3.toArray:=ip;cases e with
  |non=>cases bM q;cases ry;simp only[C9];exact .tuple_none ip (by lia)
  |bl b=>cases cw q;cases ry;simp only[C9];exact .tuple_bool _ ip (by lia)
  |int i=>cases a9 q;obtain⟨t,rfl⟩:=ry;simp only[C9];exact .tuple_int _ _ ip (by lia)
  |str l=>cases(aR q).1;obtain⟨t,rfl⟩:=ry;simp only[C9];exact .tuple_str _ _ ip (by lia)
  |tup l'=>
   obtain⟨p',DS,Ex,Em,Et⟩:=aV q;subst Ex;cases ry;by_cases hp:p=p'
   ·subst hp;have hz:=jC I _ _ _ n h rr q;rw[<-hz,hZ _ n h];exact .same _
   ·obtain⟨its',HI,Ey,_⟩:=I.tuple Em;have Ey:s.heap.IsTuple p' its'.toArray:=Ey;cases n with
    |zero=>simp only[plainD]at h;cases h
    |succ n=>
     simp only[plainD]at h h';have l1:=vl.length;have l2:=HI.length;have l3:=rs.length;have l4:=Et.length;have key:=RcAt.tuples (A:=A) (e:=fun j=>C9 (l.getD j .non) (l'.getD j .non)) ip Ey (by lia) fun j h1 h2=>by
      simp only[Of]at h1 h2;have g1:l[j]?=some (l[j]'(by lia)):=Ol _;have g2:l'[j]?=some (l'[j]'(by lia)):=Ol _;obtain⟨w1,HJ,HK⟩:=rs.get g1;obtain⟨w2,IH,II⟩:=Et.get g2;obtain⟨u1,Gj,HL⟩:=vl.get HJ;obtain⟨u2,GC,IJ⟩:=HI.get IH;have q1:C3.toArray[j]=u1:=by rw[Ol h1]at Gj;simpa using Gj
      have q2:its'.toArray[j]=u2:=by rw[Ol h2]at GC;simpa using GC
      rw[q1,q2,Od,Od,g1,g2];exact ku I l j _ g1 _ w1 w2 u1 u2 A.in1 n (plainDs_mem h g1) (plainDs_mem h' g2) (by show A.units+1+n<cLine;lia) HK II HL IJ
     simp only[C9];have fin:((List.range (min C3.toArray.size its'.toArray.size)).all (fun j=>C9 (l.getD j .non) (l'.getD j .non))&&C3.toArray.size==its'.toArray.size)=hW l l':=by
      simp only[Of];by_cases hl:l.length=l'.length
      ·rw[<-dq hl,show min C3.length its'.length=l.length by lia,show(C3.length==its'.length)=true by rw[OO];lia,Rz]
      ·rw[fR hl,show(C3.length==its'.length)=false by rw[OQ];lia,S1]
     rw[<-fin];exact .of_refs hp key
  |lst l'=>obtain⟨p',DS,Ex,Em,_⟩:=aW q;subst Ex;cases ry;obtain⟨its',_,Ey,_⟩:=I.list Em;simp only[C9];exact .tuple_list ip Ey.isList (by lia)
  |dct tk ks vs=>exact(aX h').elim
 | .lst l,e,x,y,v,u,A,n,h,h',hu,r,q,rx,ry=>by
  have rr:=r;obtain⟨p,xs,ev,sq,rs⟩:=aW r;subst ev;cases rx;obtain⟨C3,vl,ip,_⟩:=I.list sq;have ip:=ip.isList;cases e with
  |non=>cases bM q;cases ry;simp only[C9];exact .list_none ip (by lia)
  |bl b=>cases cw q;cases ry;simp only[C9];exact .list_bool _ ip (by lia)
  |int i=>cases a9 q;obtain⟨t,rfl⟩:=ry;simp only[C9];exact .list_int _ _ ip (by lia)
  |str l=>cases(aR q).1;obtain⟨t,rfl⟩:=ry;simp only[C9];exact .list_str _ _ ip (by lia)
  |lst l'=>
   obtain⟨p',DS,Ex,Em,Et⟩:=aW q;subst Ex;cases ry;by_cases hp:p=p'
   ·subst hp;have hz:=jC I _ _ _ n h rr q;rw[<-hz,hZ _ n h];exact .same _
   ·obtain⟨its',HI,Ey,_⟩:=I.list Em;have Ey:=Ey.isList;cases n with
    |zero=>simp only[plainD]at h;cases h
    |succ n=>
     simp only[plainD]at h h';have l1:=vl.length;have l2:=HI.length;have l3:=rs.length;have l4:=Et.length;simp only[C9];by_cases hl:l.length=l'.length
     ·have key:=RcAt.lists (A:=A) (e:=fun j=>C9 (l.getD j .non) (l'.getD j .non)) ip Ey (by simp only[Of];lia) (by lia) fun j h1 h2=>by
       simp only[Of]at h1 h2;have g1:l[j]?=some (l[j]'(by lia)):=Ol _;have g2:l'[j]?=some (l'[j]'(by lia)):=Ol _;obtain⟨w1,HJ,HK⟩:=rs.get g1;obtain⟨w2,IH,II⟩:=Et.get g2;obtain⟨u1,Gj,HL⟩:=vl.get HJ;obtain⟨u2,GC,IJ⟩:=HI.get IH;have q1:C3.toArray[j]=u1:=by rw[Ol h1]at Gj;simpa using Gj
       have q2:its'.toArray[j]=u2:=by rw[Ol h2]at GC;simpa using GC
       rw[q1,q2,Od,Od,g1,g2];exact ku I l j _ g1 _ w1 w2 u1 u2 A.in1 n (plainDs_mem h g1) (plainDs_mem h' g2) (by show A.units+1+n<cLine;lia) HK II HL IJ
      rw[<-dq hl,show l.length=C3.toArray.size by simp only[Of];lia];exact .of_refs hp key
     ·rw[fR hl];exact .of_refs hp (RcAt.lists_lengths ip Ey (by simp only[Of,U8];lia) (by lia))
  |tup l'=>obtain⟨p',DS,Ex,Em,_⟩:=aV q;subst Ex;cases ry;obtain⟨its',_,Ey,_⟩:=I.tuple Em;simp only[C9];exact .list_tuple ip (show s.heap.IsTuple p' its'.toArray from Ey) (by lia)
  |dct tk ks vs=>exact(aX h').elim
 | .dct _ _ _,_,_,_,_,_,_,n,h,_,_,_,_,_,_=>(aX h).elim
theorem ku(I:Inv X pr σ H s):∀(ds:List D) (j:Nat) (d:D),ds[j]?=some d->∀(e:D) (x y:V) (v u:Value) (A:Around) (n:Nat),plainD n d=true->plainD n e=true->A.units+n<cLine->Rep X.K H d x->Rep X.K H e y->RelV x v->RelV y u->EqAt A s v u (C9 d e)
 |[],_,_,hj=>by simp at hj
 |d'::ds,0,d,hj=>by
  simp at hj;subst hj;exact yT I d'
 |d'::ds,j+1,d,hj=>ku I ds j d (by simpa using hj)
end
end
section
variable{X:Cx}
def FR(a b:D):Res R:=if plainD 40 a&&plainD 40 b then .ok (.f,.bl (C9 a b)) else .bad
def DZ(a b:D):Res R:=if plainD 40 a&&plainD 40 b then .ok (.f,.bl (!C9 a b)) else .bad
open PySem.SeqAt in
theorem yU{pr:List (Addr×Obj)}{σ:L2.St}{H:Hp}{s:Shared}(I:Inv X pr σ H s){d e:D}{x y:V}{v u:Value}{A:Around}(h:plainD 40 d=true)(h':plainD 40 e=true)(hu:A.units+64<cLine)(r:Rep X.K H d x)(q:Rep X.K H e y)(rx:RelV x v)(ry:RelV y u):
  RcAt A s v u (C9 d e)/\RcNeAt A s v u (!C9 d e):=by
 cases d with
 |non=>
  cases bM r;cases rx;cases e with
  |non=>cases bM q;cases ry;simp only[C9];exact⟨.none_none,.none_none⟩
  |bl b=>cases cw q;cases ry;simp only[C9];exact⟨.none_bool _,.none_bool _⟩
  |int i=>cases a9 q;obtain⟨t,rfl⟩:=ry;simp only[C9];exact⟨.none_int _ _,.none_int _ _⟩
  |str l=>cases(aR q).1;obtain⟨t,rfl⟩:=ry;simp only[C9];exact⟨.none_str _ _,.none_str _ _⟩
  |tup l=>obtain⟨p,xs,rfl,sq,_⟩:=aV q;cases ry;obtain⟨C3,_,ip,_⟩:=I.tuple sq;simp only[C9];exact⟨.none_tuple (show s.heap.IsTuple p C3.toArray from ip) (by lia),.none_tuple (show s.heap.IsTuple p C3.toArray from ip) (by lia)⟩
  |lst l=>obtain⟨p,xs,rfl,sq,_⟩:=aW q;cases ry;obtain⟨C3,_,ip,_⟩:=I.list sq;simp only[C9];exact⟨.none_list ip.isList (by lia),.none_list ip.isList (by lia)⟩
  |dct tk ks vs=>exact(aX h').elim
 |bl b=>
  cases cw r;cases rx;cases e with
  |non=>cases bM q;cases ry;simp only[C9];exact⟨.bool_none _,.bool_none _⟩
  |bl b=>cases cw q;cases ry;simp only[C9];exact⟨.bool_bool _ _,.bool_bool _ _⟩
  |int i=>cases a9 q;obtain⟨t,rfl⟩:=ry;simp only[C9];exact⟨.bool_int _ _ _,.bool_int _ _ _⟩
  |str l=>cases(aR q).1;obtain⟨t,rfl⟩:=ry;simp only[C9];exact⟨.bool_str _ _ _,.bool_str _ _ _⟩
  |tup l=>obtain⟨p,xs,rfl,sq,_⟩:=aV q;cases ry;obtain⟨C3,_,ip,_⟩:=I.tuple sq;simp only[C9];exact⟨.bool_tuple _ (show s.heap.IsTuple p C3.toArray from ip) (by lia),.bool_tuple _ (show s.heap.IsTuple p C3.toArray from ip) (by lia)⟩
  |lst l=>obtain⟨p,xs,rfl,sq,_⟩:=aW q;cases ry;obtain⟨C3,_,ip,_⟩:=I.list sq;simp only[C9];exact⟨.bool_list _ ip.isList (by lia),.bool_list _ ip.isList (by lia)⟩
  |dct tk ks vs=>exact(aX h').elim
 |int b=>
  cases a9 r;obtain⟨t0,rfl⟩:=rx;cases e with
  |non=>cases bM q;cases ry;simp only[C9];exact⟨.int_none _ _,.int_none _ _⟩
  |bl b=>cases cw q;cases ry;simp only[C9];exact⟨.int_bool _ _ _,.int_bool _ _ _⟩
  |int i=>cases a9 q;obtain⟨t,rfl⟩:=ry;simp only[C9];exact⟨.int_int _ _ _ _,.int_int _ _ _ _⟩
  |str l=>cases(aR q).1;obtain⟨t,rfl⟩:=ry;simp only[C9];exact⟨.int_str _ _ _ _,.int_str _ _ _ _⟩
  |tup l=>obtain⟨p,xs,rfl,sq,_⟩:=aV q;cases ry;obtain⟨C3,_,ip,_⟩:=I.tuple sq;simp only[C9];exact⟨.int_tuple _ _ (show s.heap.IsTuple p C3.toArray from ip) (by lia),.int_tuple _ _ (show s.heap.IsTuple p C3.toArray from ip) (by lia)⟩
  |lst l=>obtain⟨p,xs,rfl,sq,_⟩:=aW q;cases ry;obtain⟨C3,_,ip,_⟩:=I.list sq;simp only[C9];exact⟨.int_list _ _ ip.isList (by lia),.int_list _ _ ip.isList (by lia)⟩
  |dct tk ks vs=>exact(aX h').elim
 |str b=>
  have hr:=(aR r).1;subst hr;obtain⟨t0,rfl⟩:=rx;cases e with
  |non=>cases bM q;cases ry;simp only[C9];exact⟨.str_none _ _,.str_none _ _⟩
  |bl b=>cases cw q;cases ry;simp only[C9];exact⟨.str_bool _ _ _,.str_bool _ _ _⟩
  |int i=>cases a9 q;obtain⟨t,rfl⟩:=ry;simp only[C9];exact⟨.str_int _ _ _ _,.str_int _ _ _ _⟩
  |str l=>
   have hq:=(aR q).1;subst hq;obtain⟨t,rfl⟩:=ry;have e1:(b==l)=(S b==S l):=by
    rw[O7,OO,OO];exact⟨fun z=>by rw[z],vO⟩
   simp only[C9,e1];exact⟨.str_str _ _ _ _,.str_str _ _ _ _⟩
  |tup l=>obtain⟨p,xs,rfl,sq,_⟩:=aV q;cases ry;obtain⟨C3,_,ip,_⟩:=I.tuple sq;simp only[C9];exact⟨.str_tuple _ _ (show s.heap.IsTuple p C3.toArray from ip) (by lia),.str_tuple _ _ (show s.heap.IsTuple p C3.toArray from ip) (by lia)⟩
  |lst l=>obtain⟨p,xs,rfl,sq,_⟩:=aW q;cases ry;obtain⟨C3,_,ip,_⟩:=I.list sq;simp only[C9];exact⟨.str_list _ _ ip.isList (by lia),.str_list _ _ ip.isList (by lia)⟩
  |dct tk ks vs=>exact(aX h').elim
 |tup l=>
  obtain⟨p,xs,ev,sq,rs⟩:=aV r;subst ev;cases rx;obtain⟨C3,vl,ip,_⟩:=I.tuple sq;have ip:s.heap.IsTuple p C3.toArray:=ip;cases e with
  |non=>cases bM q;cases ry;simp only[C9];exact⟨.tuple_none ip (by lia),.tuple_none ip (by lia)⟩
  |bl b=>cases cw q;cases ry;simp only[C9];exact⟨.tuple_bool _ ip (by lia),.tuple_bool _ ip (by lia)⟩
  |int i=>cases a9 q;obtain⟨t,rfl⟩:=ry;simp only[C9];exact⟨.tuple_int _ _ ip (by lia),.tuple_int _ _ ip (by lia)⟩
  |str l=>cases(aR q).1;obtain⟨t,rfl⟩:=ry;simp only[C9];exact⟨.tuple_str _ _ ip (by lia),.tuple_str _ _ ip (by lia)⟩
  |tup l'=>
   obtain⟨p',DS,Ex,Em,Et⟩:=aV q;subst Ex;cases ry;obtain⟨its',HI,Ey,_⟩:=I.tuple Em;have Ey:s.heap.IsTuple p' its'.toArray:=Ey;simp only[plainD]at h h';have l1:=vl.length;have l2:=HI.length;have l3:=rs.length;have l4:=Et.length;have el:∀j (h1:j<C3.toArray.size) (h2:j<its'.toArray.size),EqAt A.in1 s C3.toArray[j] its'.toArray[j] ((fun j=>C9 (l.getD j .non) (l'.getD j .non)) j):=fun j h1 h2=>by
    simp only[Of]at h1 h2;have g1:l[j]?=some (l[j]'(by lia)):=Ol _;have g2:l'[j]?=some (l'[j]'(by lia)):=Ol _;obtain⟨w1,HJ,HK⟩:=rs.get g1;obtain⟨w2,IH,II⟩:=Et.get g2;obtain⟨u1,Gj,HL⟩:=vl.get HJ;obtain⟨u2,GC,IJ⟩:=HI.get IH;have q1:C3.toArray[j]=u1:=by rw[Ol h1]at Gj;simpa using Gj
    have q2:its'.toArray[j]=u2:=by rw[Ol h2]at GC;simpa using GC
    dsimp only;rw[q1,q2,Od,Od,g1,g2];exact ku I l j _ g1 _ w1 w2 u1 u2 A.in1 39 (plainDs_mem h g1) (plainDs_mem h' g2) (by show A.units+1+39<cLine;lia) HK II HL IJ
   simp only[C9];have fin:((List.range (min C3.toArray.size its'.toArray.size)).all (fun j=>C9 (l.getD j .non) (l'.getD j .non))&&C3.toArray.size==its'.toArray.size)=hW l l':=by
    simp only[Of];by_cases hl:l.length=l'.length
    ·rw[<-dq hl,show min C3.length its'.length=l.length by lia,show(C3.length==its'.length)=true by rw[OO];lia,Rz]
    ·rw[fR hl,show(C3.length==its'.length)=false by rw[OQ];lia,S1]
   rw[<-fin];exact⟨.tuples ip Ey (by lia) el,.tuples ip Ey (by lia) el⟩
  |lst l'=>obtain⟨p',DS,Ex,Em,_⟩:=aW q;subst Ex;cases ry;obtain⟨its',_,Ey,_⟩:=I.list Em;simp only[C9];exact⟨.tuple_list ip Ey.isList (by lia),.tuple_list ip Ey.isList (by lia)⟩
  |dct tk ks vs=>exact(aX h').elim
 |lst l=>
  obtain⟨p,xs,ev,sq,rs⟩:=aW r;subst ev;cases rx;obtain⟨C3,vl,ip,_⟩:=I.list sq;have ip:=ip.isList;cases e with
  |non=>cases bM q;cases ry;simp only[C9];exact⟨.list_none ip (by lia),.list_none ip (by lia)⟩
  |bl b=>cases cw q;cases ry;simp only[C9];exact⟨.list_bool _ ip (by lia),.list_bool _ ip (by lia)⟩
  |int i=>cases a9 q;obtain⟨t,rfl⟩:=ry;simp only[C9];exact⟨.list_int _ _ ip (by lia),.list_int _ _ ip (by lia)⟩
  |str l=>cases(aR q).1;obtain⟨t,rfl⟩:=ry;simp only[C9];exact⟨.list_str _ _ ip (by lia),.list_str _ _ ip (by lia)⟩
  |lst l'=>
   obtain⟨p',DS,Ex,Em,Et⟩:=aW q;subst Ex;cases ry;obtain⟨its',HI,Ey,_⟩:=I.list Em;have Ey:=Ey.isList;simp only[plainD]at h h';have l1:=vl.length;have l2:=HI.length;have l3:=rs.length;have l4:=Et.length;simp only[C9];by_cases hl:l.length=l'.length
   ·have el:∀j (h1:j<C3.toArray.size) (h2:j<its'.toArray.size),EqAt A.in1 s C3.toArray[j] its'.toArray[j] ((fun j=>C9 (l.getD j .non) (l'.getD j .non)) j):=fun j h1 h2=>by
     simp only[Of]at h1 h2;have g1:l[j]?=some (l[j]'(by lia)):=Ol _;have g2:l'[j]?=some (l'[j]'(by lia)):=Ol _;obtain⟨w1,HJ,HK⟩:=rs.get g1;obtain⟨w2,IH,II⟩:=Et.get g2;obtain⟨u1,Gj,HL⟩:=vl.get HJ;obtain⟨u2,GC,IJ⟩:=HI.get IH;have q1:C3.toArray[j]=u1:=by rw[Ol h1]at Gj;simpa using Gj
     have q2:its'.toArray[j]=u2:=by rw[Ol h2]at GC;simpa using GC
     dsimp only;rw[q1,q2,Od,Od,g1,g2];exact ku I l j _ g1 _ w1 w2 u1 u2 A.in1 39 (plainDs_mem h g1) (plainDs_mem h' g2) (by show A.units+1+39<cLine;lia) HK II HL IJ
    rw[<-dq hl,show l.length=C3.toArray.size by simp only[Of];lia];exact⟨.lists ip Ey (by simp only[Of];lia) (by lia) el,.lists ip Ey (by simp only[Of];lia) (by lia) el⟩
   ·rw[fR hl];exact⟨.lists_lengths ip Ey (by simp only[Of,U8];lia) (by lia),.lists_lengths ip Ey (by simp only[Of,U8];lia) (by lia)⟩
  |tup l'=>obtain⟨p',DS,Ex,Em,_⟩:=aV q;subst Ex;cases ry;obtain⟨its',_,Ey,_⟩:=I.tuple Em;simp only[C9];exact⟨.list_tuple ip (show s.heap.IsTuple p' its'.toArray from Ey) (by lia),.list_tuple ip (show s.heap.IsTuple p' its'.toArray from Ey) (by lia)⟩
  |dct tk ks vs=>exact(aX h').elim
 |dct tk ks vs=>exact(aX h).elim
theorem kx(hu:X.A.units+64<cLine):DK X (compareOp .Eq) (rGA X.K FR):=by
 rintro pr s σ H x y v u Q I rx ry ⟨G,fp,es,vs,a,b,r,⟨rel,k⟩,va,vb,e⟩;unfold FR at e;split at e
 ·rename_i hp;cases e;rw[Oz]at hp;exact(yU I hp.1 hp.2 hu va vb rx ry).1 _ _ _ _ ⟨.bl _,H,I,rfl,k _ H G fp .refl (rel.push (cv _))⟩
 ·cases e
theorem g6(hu:X.A.units+64<cLine):DK X (compareOp .NotEq) (rGA X.K DZ):=by
 rintro pr s σ H x y v u Q I rx ry ⟨G,fp,es,vs,a,b,r,⟨rel,k⟩,va,vb,e⟩;unfold DZ at e;split at e
 ·rename_i hp;cases e;rw[Oz]at hp;exact(yU I hp.1 hp.2 hu va vb rx ry).2 _ _ _ _ ⟨.bl _,H,I,rfl,k _ H G fp .refl (rel.push (cv _))⟩
 ·cases e
def rT(a:D)(ds:List D):Bool:=ds.any fun d=>C9 d a
noncomputable def Jz(a b:D):Res R:=match b with
 | .lst ds=>if plainD 40 a&&plainDs 40 ds then .ok (.f,.bl (rT a ds)) else .bad
 | .tup ds=>if plainD 40 a&&plainDs 40 ds then .ok (.f,.bl (rT a ds)) else .bad
 | .str l=>match a with
  | .str [c]=>.ok (.f,.bl (decide (c∈l)))
  |_=>.bad
 |_=>.bad
def yV(a b:D):Res R:=(Jz a b).bind fun r=>match r.2 with
 | .bl k=>.ok (.f,.bl (!k))
 |_=>.bad
open PySem.SeqAt in
theorem mN{pr:List (Addr×Obj)}{σ:L2.St}{H:Hp}{s:Shared}(I:Inv X pr σ H s){a:D}{x:V}{v:Value}{A:Around}(h:plainD 40 a=true)(hu:A.units+64<cLine)(r:Rep X.K H a x)(rx:RelV x v):
  ∀(ds:List D) (xs:List V) (us:List Value),plainDs 40 ds=true->Reps X.K H ds xs->Vals xs us->∃e:Value->Bool,us.any e=rT a ds/\∀u∈us,EqAt A s u v (e u):=by
 classical
 intro ds xs us hp rs vl;refine⟨fun u=>decide (∃(j:Nat) (d:D),ds[j]?=some d/\us[j]?=some u/\C9 d a=true),?_,fun u hu'=>?_⟩
 ·rw[O7,QR];unfold rT;rw[QR];constructor
  ·rintro⟨u,_,hd⟩;obtain⟨j,d,h1,_,h2⟩:=RU hd;exact⟨d,Pr h1,h2⟩
  ·rintro⟨d,hd,h2⟩;obtain⟨j,hj⟩:=SI.mp hd;obtain⟨w1,HJ,HK⟩:=rs.get hj;obtain⟨u1,Gj,HL⟩:=vl.get HJ;exact⟨u1,Pr Gj,O9 ⟨j,d,hj,Gj,h2⟩⟩
 ·obtain⟨j,hj⟩:=SI.mp hu';have l1:=vl.length;have l2:=rs.length;have hjl:=(Om.mp hj).1;have g1:ds[j]?=some (ds[j]'(by lia)):=Ol _;obtain⟨w1,HJ,HK⟩:=rs.get g1;obtain⟨u1,Gj,HL⟩:=vl.get HJ;rw[hj]at Gj;cases Gj;have z:=yT I _ _ w1 x u v A 40 (plainDs_mem hp g1) h (by lia) HK r HL rx;have e:decide (∃(j:Nat) (d:D),ds[j]?=some d/\us[j]?=some u/\C9 d a=true)=C9 (ds[j]'(by lia)) a:=by
   rw[O7,OR];constructor
   ·rintro⟨j2,d2,k1,k2,k3⟩;obtain⟨w2,IH,II⟩:=rs.get k1;obtain⟨u2,GC,IJ⟩:=vl.get IH;rw[k2]at GC;cases GC;have:=HL.inj IJ;subst this;rw[jC I _ _ _ 40 (plainDs_mem hp g1) HK II];exact k3
   ·intro k3;exact⟨j,_,g1,hj,k3⟩
  show EqAt A s u v (decide (∃(j:Nat) (d:D),ds[j]?=some d/\us[j]?=some u/\C9 d a=true));rw[e];exact z
theorem ky(l:List Nat)(c:Nat):(!(Builtin.Str.occurrences (S l) (S [c]) 0 (S l).length 1).isEmpty)=decide (c∈l):=by
 have h:=PySem.StrLaws.found_one (S l) c;rw[eZ]at h;exact h
theorem jE{e:Value->Bool}(us:List Value):us.toArray.any e=us.any e:=by simp
theorem Bd(hu:X.A.units+65<cLine):DK X (compareOp .In) (rGA X.K Jz):=by
 rintro pr s σ H x y v u Q I rx ry ⟨G,fp,es,vs,a,b,r,⟨rel,k⟩,va,vb,e⟩;unfold Jz at e;split at e
 ·rename_i ds;split at e
  ·rename_i hp;cases e;rw[Oz]at hp;obtain⟨p,xs,ev,sq,rs⟩:=aW vb;subst ev;cases ry;obtain⟨C3,vl,ip,_⟩:=I.list sq;obtain⟨ef,e1,e2⟩:=mN (A:=X.A.in1) I hp.1 (by show X.A.units+1+64<cLine;lia) va rx ds xs C3 hp.2 rs vl;refine SeqAt.in_listAt ef ip.isList (fun z hz=>e2 z (by simpa using hz)) ?_;rw[jE,e1];exact⟨.bl _,H,I,rfl,k _ H G fp .refl (rel.push (cv _))⟩
  ·cases e
 ·rename_i ds;split at e
  ·rename_i hp;cases e;rw[Oz]at hp;obtain⟨p,xs,ev,sq,rs⟩:=aV vb;subst ev;cases ry;obtain⟨C3,vl,ip,_⟩:=I.tuple sq;obtain⟨ef,e1,e2⟩:=mN (A:=X.A.in1) I hp.1 (by show X.A.units+1+64<cLine;lia) va rx ds xs C3 hp.2 rs vl;refine SeqAt.in_tupleAt ef (show s.heap.IsTuple p C3.toArray from ip) (fun z hz=>e2 z (by simpa using hz)) ?_;rw[jE,e1];exact⟨.bl _,H,I,rfl,k _ H G fp .refl (rel.push (cv _))⟩
  ·cases e
 ·rename_i l;split at e
  ·rename_i c;cases e;obtain⟨e1,h1⟩:=aR va;obtain⟨e2,h2⟩:=aR vb;subst e1;subst e2;refine oR pr s σ H _ _ v u Q I rx ry ⟨_,_,rfl,rfl,?_⟩;rw[ky];exact k _ H G fp .refl (rel.push (cv _))
  ·cases e
 ·cases e
theorem yW(hu:X.A.units+65<cLine):DK X (compareOp .NotIn) (rGA X.K yV):=by
 rintro pr s σ H x y v u Q I rx ry ⟨G,fp,es,vs,a,b,r,⟨rel,k⟩,va,vb,e⟩;unfold yV at e;obtain⟨r0,e0,e⟩:=ah e;unfold Jz at e0;split at e0
 ·rename_i ds;split at e0
  ·rename_i hp;cases e0;cases e;rw[Oz]at hp;obtain⟨p,xs,ev,sq,rs⟩:=aW vb;subst ev;cases ry;obtain⟨C3,vl,ip,_⟩:=I.list sq;obtain⟨ef,e1,e2⟩:=mN (A:=X.A.in1) I hp.1 (by show X.A.units+1+64<cLine;lia) va rx ds xs C3 hp.2 rs vl;refine SeqAt.notIn_listAt ef ip.isList (fun z hz=>e2 z (by simpa using hz)) ?_;rw[jE,e1];exact⟨.bl _,H,I,rfl,k _ H G fp .refl (rel.push (cv _))⟩
  ·cases e0
 ·rename_i ds;split at e0
  ·rename_i hp;cases e0;cases e;rw[Oz]at hp;obtain⟨p,xs,ev,sq,rs⟩:=aV vb;subst ev;cases ry;obtain⟨C3,vl,ip,_⟩:=I.tuple sq;obtain⟨ef,e1,e2⟩:=mN (A:=X.A.in1) I hp.1 (by show X.A.units+1+64<cLine;lia) va rx ds xs C3 hp.2 rs vl;refine SeqAt.notIn_tupleAt ef (show s.heap.IsTuple p C3.toArray from ip) (fun z hz=>e2 z (by simpa using hz)) ?_;rw[jE,e1];exact⟨.bl _,H,I,rfl,k _ H G fp .refl (rel.push (cv _))⟩
  ·cases e0
 ·rename_i l;split at e0
  ·rename_i c;cases e0;cases e;obtain⟨e1,h1⟩:=aR va;obtain⟨e2,h2⟩:=aR vb;subst e1;subst e2;refine j5 pr s σ H _ _ v u Q I rx ry ⟨_,_,rfl,rfl,?_⟩;rw[ky];exact k _ H G fp .refl (rel.push (cv _))
  ·cases e0
 ·cases e0
def isO(a b:D):Res R:=match b with
 | .bl k=>.ok (.f,.bl (match a with | .bl j=>j==k|_=>false))
 | .non=>.ok (.f,.bl (match a with | .non=>true|_=>false))
 |_=>.bad
def CU(a b:D):Res R:=(isO a b).bind fun r=>match r.2 with
 | .bl k=>.ok (.f,.bl (!k))
 |_=>.bad
end
section
variable{X:Cx}
def CA(f g:FX):FX:=fun env=>(f env).bind fun p=>(g p.2).bind fun q=>match(lq p.1.2).bind dn,q.1.2 with
 |some ns,.int d=>.ok ((.f,.int (NX.maxD ns d)),q.2)
 |_,_=>.bad
def CV:List D->Res R
 |[.bl b]=>.ok (.f,.int (if b then 1 else 0))
 |[.int i]=>.ok (.f,.int i)
 |_=>.bad
def lQ:D->String
 | .non=>"NoneType"
 | .bl _=>"bool"
 | .int _=>"int"
 | .str _=>"str"
 | .tup _=>"tuple"
 | .lst _=>"list"
 | .dct _ _ _=>"dict"
def pV(T:String)(d:D):Bool:=lQ d==T||(lQ d == "bool" && T == "int")
def KU(T:String)(f:FO):FX:=fun env=>(f env).bind fun p=>(nX p.2 p.1).bind fun d=>.ok ((.f,.bl (pV T d)),p.2)
theorem yX(K:W.Frag)(d:D){T:String}(hT:T = "int"\/T = "bool"\/T = "str"\/T = "list"\/T = "tuple"\/T = "dict"):PySem.W.kitOne K (.type (lQ d)) (.type T)=some (pV T d):=by
 rcases hT with rfl|rfl|rfl|rfl|rfl|rfl <;> cases d <;> (unfold PySem.W.kitOne PySem.W.kitCls PySem.W.subIn;kernel_rfl)
theorem sT:d5 X (.builtin "isinstance") (fun xs H Q=>∃d x T,xs=[x,.ty T]/\Rep X.K H d x/\(T = "int"\/T = "bool"\/T = "str"\/T = "list"\/T = "tuple"\/T = "dict")/\Q (.bl (pV T d)) H):=by
 intro pr s σ H xs us Q I r h;obtain⟨d,x,T,rfl,rd,hT,q⟩:=h;obtain⟨u,w',rfl,r1,r2⟩:=yf r;cases(show w'=Value.type T from r2);have e:=yX X.K d hT;have fin:∀tk,EP X pr σ Q (.bool (pV T d)) {s with toks:=tk}:=fun tk=>⟨.bl (pV T d),H,I.tok tk,rfl,q⟩
 cases d with
 |non=>cases bM rd;cases(show u=Value.none from r1);exact Qd PySem.W.kitx_none I.kIn True.intro e (fun z=>nomatch z) fin
 |bl y=>cases cw rd;cases(show u=Value.bool y from r1);exact Qd PySem.W.kitx_bool I.kIn True.intro e (fun z=>nomatch z) fin
 |int i=>cases a9 rd;obtain⟨t,z⟩:=(show ∃t,u=Value.int i t from r1);cases z;exact Qd PySem.W.kitx_int I.kIn True.intro e (fun z=>nomatch z) fin
 |str l=>
  have hr:=(aR rd).1;subst hr;obtain⟨t,z⟩:=(show ∃t,u=Value.str (S l) t from r1)
  cases z;exact Qd PySem.W.kitx_str I.kIn True.intro e (fun z=>nomatch z) fin
 |lst l=>
  obtain⟨p,xs,ev,sq,_⟩:=aW rd;subst ev;cases(show u=Value.ref p from r1);obtain⟨C3,_,ip,_⟩:=I.list sq;obtain⟨o,ho,hc,_⟩:=ip.isList;exact Qd PySem.W.kitx_list I.kIn ⟨o,ho,hc⟩ e (fun z=>nomatch z) fin
 |tup l=>
  obtain⟨p,xs,ev,sq,_⟩:=aV rd;subst ev;cases(show u=Value.ref p from r1);obtain⟨C3,_,ip,_⟩:=I.tuple sq;obtain⟨o,ho,hc,_⟩:=ip;exact Qd PySem.W.kitx_tuple I.kIn ⟨o,ho,hc⟩ e (fun z=>nomatch z) fin
 |dct tk ks vs=>
  rw[Rep]at rd;obtain⟨p,xs,o,ev,hr,dd,_⟩:=rd;subst ev;cases(show u=Value.ref p from r1);have ok:=hr.ok I.hok;cases tk with
  |true=>
   obtain⟨C1,eo,_⟩:=dd;subst eo;obtain⟨_,_,_,_,o2,_,_,Ez,ex,_⟩:=ok;exact Qd PySem.W.kitx_dict I.kIn ⟨o2,Ez,ex.1⟩ e (fun z=>nomatch z) fin
  |false=>
   obtain⟨C1,eo,_⟩:=dd;subst eo;obtain⟨_,_,_,_,o2,_,_,Ez,ex,_⟩:=ok;exact Qd PySem.W.kitx_dict I.kIn ⟨o2,Ez,ex.1⟩ e (fun z=>nomatch z) fin
theorem sU{T:String}{x:Str}{e:Expr}{f:FO}{p q pos:Pos}(hT:T = "int"\/T = "bool"\/T = "str"\/T = "list"\/T = "tuple"\/T = "dict")(he:QO X e f)(hg:Gl X "isinstance")(hm:X.mg "isinstance" = none)(Lu:Gl X x)(JA:X.mg x=none)(Ms:bootBuiltins x=some (.type T))(hn:x≠"__name__":=by decide)(Fd:(x==("__debug__" : Str))=false:=by decide)
  (hs:starEach [e,.Name x q] X.env=(false,eval e X.env)::starEach [.Name x q] X.env:=by rfl) (hs2:starEach [.Name x q] X.env=(false,eval (.Name x q) X.env)::starEach [] X.env:=by rfl) (Es:(backTo pos (starEach [.Name x q] X.env)).any (·.1)=false:=by rfl):
  QE X (.Call (.Name "isinstance" p) [e,.Name x q] [] pos) (KU T f):=
 a8 (mv sT hg hm jm (jk he (jk (vo (v:=.ty T) Lu JA Ms rfl hn Fd) oT hs2) hs) (by decide) (by decide) hs Es) fun σ H Q Dg=>by
  obtain⟨G,env,fp,r,env',rel,e,k⟩:=Dg;obtain⟨⟨o,C2⟩,e1,e⟩:=ah e;obtain⟨d,e2,e⟩:=ah e;cases e;exact⟨G,env,fp,o,_,rel,e1,fun v H1 G1 Ds Dj C5 EY=>⟨d,v,T,rfl,C5.vwA EY e2,hT,k _ H1 G1 Ds Dj (C5.push (cv _))⟩⟩
def D9{α:Type}(f g:PV.Env->Res α):PV.Env->Res α:=fun env=>match f env with
 | .ok a=>.ok a
 |_=>g env
theorem uF{α:Type}{f g:PV.Env->Res α}{env:PV.Env}{a:α}(h:D9 f g env=.ok a):f env=.ok a\/g env=.ok a:=by
 unfold D9 at h;split at h
 ·rename_i b hb;cases h;exact .inl hb
 ·exact .inr h
theorem om{tg e:Expr}{f g:FI}(h:QI X tg e f)(h2:QI X tg e g):QI X tg e (D9 f g):=fun pr s σ H R I Dg=>by
 obtain⟨G,env,fp,ds,env',rel,ee,k⟩:=Dg;rcases uF ee with z|z
 ·exact h pr s σ H R I ⟨G,env,fp,ds,env',rel,z,k⟩
 ·exact h2 pr s σ H R I ⟨G,env,fp,ds,env',rel,z,k⟩
end
section
variable{α:Type}
def ins(lt:α->α->Bool)(x:α):List α->List α
 |[]=>[x]
 |y::ys=>if lt y x then y::ins lt x ys else x::y::ys
def wu(lt:α->α->Bool)(l:List α):List α:=l.foldr (ins lt) []
end
def ltI(a b:Int):Bool:=decide (a<b)
def ltS(a b:List Nat):Bool:=decide (a<b)
def pW:List D->Option (List (List Nat))
 |[]=>some []
 | .str b::ds=>(pW ds).map (b:: ·)
 |_=>none
def i8:D->Option Key
 | .int i=>some (.inl i)
 | .str l=>some (.inr (S l))
 |_=>none
def gB:List D->Option (List Key)
 |[]=>some []
 |d::ds=>(i8 d).bind fun k=>(gB ds).map (k:: ·)
def dC:D->Option (List Key)
 | .tup ds=>gB ds
 |_=>none
def uG:List D->Option (List (List Key))
 |[]=>some []
 |d::ds=>(dC d).bind fun k=>(uG ds).map (k:: ·)
def kT(k:List Key):D:=.tup (k.map kD)
section
variable{K:W.Frag}{G:Hp}
theorem gC{d:D}{k:Key}{v:V}(e:i8 d=some k)(r:Rep K G d v):v=kV k/\d=kD k:=by
 cases d with
 |int i=>
  cases e;exact⟨a9 r,rfl⟩
 |str l=>
  cases e;refine⟨(aR r).1,?_⟩;show D.str l=D.str (S l).cps.toList;rw[eZ]
 |_=>cases e
theorem gR:∀{ds:List D}{ks:List Key}{xs:List V},gB ds=some ks->Reps K G ds xs->xs=ks.map kV/\ds=ks.map kD
 |[],_,_,e,r=>by
  cases e;rw[Reps]at r;exact⟨r,rfl⟩
 |d::ds,_,_,e,r=>by
  rw[gB,Q7]at e;obtain⟨k,e1,e⟩:=e;rw[Qf]at e;obtain⟨ks,e2,e3⟩:=e;subst e3;rw[Reps]at r;obtain⟨y,ys,e4,r1,r2⟩:=r;obtain⟨h1,h2⟩:=gC e1 r1;obtain⟨h3,h4⟩:=gR e2 r2;rw[e4,h1,h2,h3,h4];exact⟨rfl,rfl⟩
theorem dD{d:D}{ks:List Key}{v:V}(e:dC d=some ks)(r:Rep K G d v):∃p,v=.ref p/\G p=some (.tup (ks.map kV))/\d=kT ks:=by
 cases d with
 |tup ds=>
  obtain⟨p,xs,ev,g,rs⟩:=pJ r;obtain⟨h1,h2⟩:=gR e rs;subst h1;exact⟨p,ev,g,by rw[h2];rfl⟩
 |_=>cases e
theorem mO{α:Type}{f:α->D}{g:α->V}:∀{l:List α},(∀a∈l,Rep K G (f a) (g a))->Reps K G (l.map f) (l.map g)
 |[],_=>Reps.nil
 |a::l,h=>.cons (h a Oh) (mO fun b hb=>h b (Og _ hb))
end
def sameKinds(k:List Key)(Mw:List (List Key)):Bool:=!k.isEmpty&&Mw.all fun j=>kinds j==kinds k
noncomputable def Be(ds:List D):Option (List D):=match dn ds with
 |some ns=>some ((wu ltI ns).map D.int)
 |none=>match pW ds with
  |some ls=>some ((wu ltS ls).map D.str)
  |none=>match uG ds with
   |some (k::Mw)=>if sameKinds k Mw then some ((wu my (k::Mw)).map kT) else none
   |_=>none
theorem yY{K:W.Frag}{G:Hp}{k:Key}(h:fitK k):Rep K G (kD k) (kV k):=by
 cases k with
 |inl i=>exact rep_int i
 |inr x=>
  have:=gw (K:=K) (G:=G) (l:=x.cps.toList) h;rw[lB]at this;exact this
section
variable{X:Cx}
def Lv(a b:D):Res R:=match dC a,dC b with
 |some ks,some js=>if kinds ks==kinds js then .ok (.f,.bl (my ks js)) else .bad
 |_,_=>IB a b
def geO(a b:D):Res R:=match dC a,dC b with
 |some ks,some js=>if kinds ks==kinds js then .ok (.f,.bl (!my ks js)) else .bad
 |_,_=>match a,b with
  | .str a,.str b=>.ok (.f,.bl (!decide (a<b)))
  |a,b=>geD a b
theorem yZ(hu:X.A.units<cLine):DK X (compareOp .Lt) (rG X.K Lv):=by
 rintro pr s σ H x y v u Q I rx ry ⟨G,fp,es,vs,a,b,r,⟨rel,k⟩,va,vb,e⟩;unfold Lv at e;split at e
 ·rename_i ks js h1 h2;split at e
  ·rename_i hk;cases e;have ra:Rep X.K G a x:=by cases a <;> first|exact va|cases h1
   have rb:Rep X.K G b y:=by cases b <;> first|exact vb|cases h2
   obtain⟨p,e1,g1,_⟩:=dD h1 ra;obtain⟨p2,e2,g2,_⟩:=dD h2 rb;subst e1;subst e2;exact yF hu pr s σ H _ _ v u Q I rx ry ⟨p,p2,ks,js,rfl,rfl,SqT.of (rel.gh _ _ g1),SqT.of (rel.gh _ _ g2),OO.mp hk,k _ H G fp .refl (rel.push (cv _))⟩
  ·cases e
 ·exact Ba pr s σ H x y v u Q I rx ry ⟨G,fp,es,vs,a,b,r,⟨rel,k⟩,va,vb,e⟩
end
def eNewD(tk:Bool):FX:=fun env=>.ok ((.d,.dct tk [] []),env)
section
variable{md:Mode}{X:Cx}
theorem Rel.newD{K:W.Frag}{G H:Hp}{es:PV.Env}{vs:L2.St}{fp:List Addr}{p:Addr}{u:HO}{tk:Bool}(q:Rel K G H es vs fp)(hp:H p=none)(h:DictO u tk [] []):
  Rel K G (upd H p u) (some (.d,.dct tk [] [])::es) (some (.ref p)::vs) (p::fp)/\Step G H fp G (upd H p u) (p::fp):=by
 have gp:G p=none:=by
  cases e:G p with
  |none=>rfl
  |some o=>rw[q.gh p o e]at hp;cases hp
 have np:p∉fp:=fun z=>by
  obtain⟨u,e⟩:=q.rep.live p z;rw[hp]at e;cases e
 have sh:Same H (upd H p u):=fun b o e=>by rw[ai (aA e hp)];exact e
 refine⟨⟨⟨some (.ref p),vs,rfl,.ref p,[p],fp,rfl,rfl,?_,q.rep.step (.refl _) fun z hz=>ai fun e=>np (e▸hz)⟩,OU.mpr ⟨np,q.nd⟩,fun z hz=>?_,fun b o e=>?_⟩,
  ⟨.refl _,fun b o e _=>sh b o e,fun b hb=>?_,fun b o e=>.inl e,fun b o e=>⟨o,sh b o e⟩⟩⟩
 ·rw[RepO];exact⟨p,[],u,rfl,aw,h,rfl,Reps.nil⟩
 ·rcases Ov.mp hz with rfl|hz
  ·exact gp
  ·exact q.gn z hz
 ·exact sh b o (q.gh b o e)
 ·rcases Ov.mp hb with rfl|hb
  ·exact .inr hp
  ·exact .inl hb
theorem pX{pos:Pos}:QE X (.Dict [] [] pos) (eNewD false):=a8 sJ fun σ H Q Dg p hp=>by
 obtain⟨G,env,fp,r,env',rel,e,k⟩:=Dg;cases e;obtain⟨C4,De⟩:=rel.newD (tk:=false) (u:=.dK []) hp ⟨[],rfl,rfl,rfl,fun _ h=>nomatch h⟩;exact k _ _ G _ De C4
def kz(ks vs:List D)(k v:D):List D×List D:=if ks.any (C9 k) then(ks,(ks.zip vs).map fun p=>if C9 k p.1 then v else p.2) else(ks++[k],vs++[v])
def dE(tk:Bool)(k:D):Bool:=if tk then(dC k).isSome else(i8 k).isSome
noncomputable def y0(i:Nat)(fk fv:FX):FS:=fun env=>(fv env).bind fun p=>(fk p.2).bind fun q=>match p.2[i]?,q.2[i]? with
 |some (some _),some (some (.d,.dct tk ks vs))=>if dE tk q.1.2&&decide (ks.length<sizeLine) then .ok (.nx (q.2.set i (some (.d,.dct tk (kz ks vs q.1.2 p.1.2).1 (kz ks vs q.1.2 p.1.2).2)))) else .bad
 |_,_=>.bad
theorem pY(a b:Key):C9 (kD a) (kD b)=decide (a=b):=by
 cases a with
 |inl i=>
  cases b with
  |inl j=>simp only[kD,C9];rw[O7];simp
  |inr y=>simp only[kD,C9];simp
 |inr x=>
  cases b with
  |inl j=>simp only[kD,C9];simp
  |inr y=>
   simp only[kD,C9];rw[O7];simp only[OO,OR,Sum.inr.injEq];exact⟨fun h=>by rw[<-lB x,<-lB y,h],fun h=>by rw[h]⟩
theorem pZ:∀a b:List Key,hW (a.map kD) (b.map kD)=decide (a=b)
 |[],[]=>by simp[hW]
 |[],_::_=>by simp[hW]
 |_::_,[]=>by simp[hW]
 |a::r,b::t=>by
  rw[OH,OH,hW,pY,pZ r t,O7];simp
theorem uH(a b:List Key):C9 (kT a) (kT b)=decide (a=b):=by
 unfold kT;rw[C9];exact pZ a b
theorem kA{κ:Type}[DecidableEq κ]{K:W.Frag}{G:Hp}(f:κ->D)(hf:∀a b,C9 (f a) (f b)=decide (a=b)){C1:List (κ×V)}{vs:List D}{k:κ}{v:D}{y:V}(r:Reps K G vs (C1.map (·.2)))(ry:Rep K G v y):
  (iP C1 k y).map (fun kv=>f kv.1)=(kz (C1.map fun kv=>f kv.1) vs (f k) v).1/\Reps K G (kz (C1.map fun kv=>f kv.1) vs (f k) v).2 ((iP C1 k y).map (·.2)):=by
 have e:(C1.map fun kv=>f kv.1).any (C9 (f k))=C1.any fun kv=>decide (kv.1=k):=by
  rw[Rl];congr 1
  funext kv
  show C9 (f k) (f kv.1)=_;rw[hf,O7];simp only[OR];exact⟨fun z=>z.symm,fun z=>z.symm⟩
 unfold kz iP;rw[e];split
 ·refine⟨?_,?_⟩
  ·rw[Pd];refine PY fun kv _=>?_
   show f (if kv.1=k then(kv.1,y) else kv).1=f kv.1;split <;> rfl
  ·rename_i hany;clear e hany;induction C1 generalizing vs with
   |nil=>
    have:vs=[]:=OY (by rw[<-r.length];rfl);subst this;exact Reps.nil
   |cons kv C1 ih=>
    cases vs with
    |nil=>have:=r.length;simp at this
    |cons d vs=>
     rw[OH,Reps.cons_iff]at r;rw[OH,Q6,OH,OH,OH];refine .cons ?_ (ih r.2);show Rep K G (if C9 (f k) (f kv.1)=true then v else d) (if kv.1=k then(kv.1,y) else kv).2;rw[hf];by_cases hk:kv.1=k
     ·rw[Oy (by simp[hk]),Oy hk];exact ry
     ·rw[OD (by simp;exact fun z=>hk z.symm),OD hk];exact r.1
 ·refine⟨?_,?_⟩
  ·rw[O6];rfl
  ·rw[O6];exact r.app (.one ry)
theorem Rel.chgD{K:W.Frag}{G H:Hp}{es:PV.Env}{vs:L2.St}{fp:List Addr}{i:Nat}{tk:Bool}{ks ws:List D}(q:Rel K G H es vs fp)(e:es[i]?=some (some (.d,.dct tk ks ws))):∃p xs u,vs[i]?=some (some (.ref p))/\H p=some u/\DictO u tk ks xs/\Reps K G ws xs/\
  ∀u' GA DS Lk,DictO u' tk GA DS->Reps K G Lk DS->∃fq,Rel K G (upd H p u') (es.set i (some (.d,.dct tk GA Lk))) vs fq/\Step G H fp G (upd H p u') fq:=by
 obtain⟨v,fq,ev,g,st,Ge⟩:=q.out e;obtain⟨y,ys,e0,v',a,b,e1,e2,r1,r2⟩:=g.rep;cases e0;cases e1;rw[RepO]at r1;obtain⟨p,xs,u,e3,hp,dd,e4,rs⟩:=r1;subst e3;subst e4;subst e2;have nd:=OU.mp (show(p::b).Nodup from g.nd);refine⟨p,xs,u,ev,hp,dd,rs,fun u' GA DS Lk KQ Et=>?_⟩;have g2:Rel K G (upd H p u') (some (.d,.dct tk GA Lk)::es.set i none) (some (.ref p)::vs) (p::b):=by
  refine⟨⟨some (.ref p),vs,rfl,.ref p,[p],b,rfl,rfl,?_,r2.step (.refl _) fun z hz=>ai fun e=>nd.1 (e▸hz)⟩,g.nd,g.gn,fun z o ez=>?_⟩
  ·rw[RepO];exact⟨p,DS,u',rfl,aw,KQ,rfl,Et⟩
  ·have:z≠p:=fun w=>by
    subst w;rw[g.gn z Oh]at ez;cases ez
   rw[ai this];exact g.gh z o ez
 have Lm:Step G H (p::b) G (upd H p u') (p::b):=by
  refine⟨.refl _,fun z o ez nz=>?_,fun z hz=>.inl hz,fun z o ez=>.inl ez,fun z o ez=>?_⟩
  ·have:z≠p:=fun w=>nz (by rw[w];exact Oh)
   rw[ai this];exact ez
  ·by_cases w:z=p
   ·subst w;exact⟨_,aw⟩
   ·exact⟨o,by rw[ai w];exact ez⟩
 obtain⟨fz,g3,Dv⟩:=g2.back (i:=i) (by rw[O1];exact(Om.mp e).1) ev;rw[P2]at g3;exact⟨fz,g3,st.trans (Lm.trans Dv)⟩
theorem uI{K:W.Frag}{G:Hp}{d:D}{k:Key}{v:V}(e:i8 d=some k)(r:Rep K G d v):fitK k:=by
 cases d with
 |int i=>cases e;trivial
 |str l=>
  cases e;show(S l).cps.toList.length<=sizeLine;rw[eZ];exact(aR r).2
 |_=>cases e
theorem p0{K:W.Frag}{G:Hp}:∀{ds:List D}{ks:List Key}{xs:List V},gB ds=some ks->Reps K G ds xs->∀k∈ks,fitK k
 |[],_,_,e,_=>by
  cases e;exact fun _ h=>nomatch h
 |d::ds,_,_,e,r=>by
  rw[gB,Q7]at e;obtain⟨k,e1,e⟩:=e;rw[Qf]at e;obtain⟨ks,e2,e3⟩:=e;subst e3;rw[Reps]at r;obtain⟨y,ys,e4,r1,r2⟩:=r;intro z hz;rcases Ov.mp hz with rfl|hz
  ·exact uI e1 r1
  ·exact p0 e2 r2 z hz
theorem mP{κ:Type}[DecidableEq κ]{P:κ->Prop}{C1:List (κ×V)}{k:κ}{y:V}(h:∀kv∈C1,P kv.1)(hk:P k):∀kv∈iP C1 k y,P kv.1:=by
 intro kv IK;unfold iP at IK;split at IK
 ·obtain⟨z,hz,e⟩:=SA.mp IK;rw[<-e];split
  ·exact h z hz
  ·exact h z hz
 ·rcases OL.mp IK with IK|IK
  ·exact h kv IK
  ·rw[Pb]at IK;rw[IK];exact hk
theorem uJ{i:Nat}{o ix value:Expr}{fk fv:FX}{pos pos':Pos}(hu:X.A.units+1<cLine)(ho:PE X o (nL i))(hi:QE X ix fk)(hv:QE X value fv)(hs:swapsWith value (some (.Subscript o ix pos')) pos.line X.env=pure false:=by rfl):
  QS (md:=md) X (.Assign [.Subscript o ix pos'] value pos) (y0 i fk fv):=dm (wa hu ho hi hv hs) fun Dd σ H Dg=>by
 obtain⟨G,env,fp,rel,k⟩:=Dg;unfold y0 at k;match q1:fv env,k with
 | .ok (r1,C2),k=>
  have k:OutOk X.K G H fp Dd ((fk C2).bind fun q=>match C2[i]?,q.2[i]? with
   |some (some _),some (some (.d,.dct tk ks vs))=>if dE tk q.1.2&&decide (ks.length<sizeLine) then .ok (.nx (q.2.set i (some (.d,.dct tk (kz ks vs q.1.2 r1.2).1 (kz ks vs q.1.2 r1.2).2)))) else .bad
   |_,_=>.bad):=k
  match q2:fk C2,k with
  | .ok (r2,C8),k=>
   have k:OutOk X.K G H fp Dd (match C2[i]?,C8[i]? with
    |some (some _),some (some (.d,.dct tk ks vs))=>if dE tk r2.2&&decide (ks.length<sizeLine) then .ok (.nx (C8.set i (some (.d,.dct tk (kz ks vs r2.2 r1.2).1 (kz ks vs r2.2 r1.2).2)))) else .bad
    |_,_=>.bad):=k
   split at k
   ·rename_i rr tk ks ws h1 h2;split at k
    ·rename_i hc;rw[Oz,OR]at hc;refine⟨G,env,fp,r1,C2,rel,q1,fun y H1 G1 Ds Dj C5=>?_⟩;obtain⟨G2,b,ry,C4,De⟩:=C5.freeze;obtain⟨v0,KW,_⟩:=C4.view h1;refine⟨v0,KW,G2,C2,b,r2,C8,C4,q2,fun z H3 G3 Eu Dv DG=>?_⟩;obtain⟨G4,b4,rz,DV,DQ⟩:=DG.freeze;obtain⟨p,xs,u,ep,hp,dd,rs,cg⟩:=DV.chgD h2;rw[KW]at ep;cases ep;have Mx:Rep X.K G4 r1.2 y:=Rep.mono (Dv.gg.trans DQ.gg) ry;cases tk with
     |true=>
      obtain⟨C1,eu,ek,ex,HM⟩:=dd;subst eu;subst ex;have hk:=hc.1;unfold dE at hk;rw[Oy rfl,P6]at hk;obtain⟨kk,hk⟩:=hk;obtain⟨pz,ez,gz,dz⟩:=dD hk rz;subst ez;obtain⟨t1,t2⟩:=kA (K:=X.K) (G:=G4) kT uH (k:=kk) rs Mx;have ek:ks=C1.map fun kv=>kT kv.1:=ek
      rw[<-ek,<-dz]at t1 t2;have JB:∀key∈kk,fitK key:=by
       cases hd:r2.2 with
       |tup ds=>
        rw[hd]at hk rz;obtain⟨_,DS,_,_,Et⟩:=pJ rz;exact p0 hk Et
       |_=>rw[hd]at hk;cases hk
      obtain⟨fq,D2,Ei⟩:=cg (.dT (iP C1 kk y)) _ _ _ ⟨iP C1 kk y,rfl,t1.symm,rfl,mP (P:=fun ks=>∀k∈ks,fitK k) HM JB⟩ t2;have hlen:C1.length<sizeLine:=by have:=hc.2;rw[ek,OI]at this;exact this
      exact⟨p,_,rfl,DPut.t hp (DV.gh _ _ gz) hlen,k _ _ G4 fq (Dj.trans (De.trans (Dv.trans (DQ.trans Ei)))) D2⟩
     |false=>
      obtain⟨C1,eu,ek,ex,HM⟩:=dd;subst eu;subst ex;have hk:=hc.1;unfold dE at hk;rw[OD OB,P6]at hk;obtain⟨kk,hk⟩:=hk;obtain⟨ez,dz⟩:=gC hk rz;subst ez;obtain⟨t1,t2⟩:=kA (K:=X.K) (G:=G4) kD pY (k:=kk) rs Mx;rw[<-ek,<-dz]at t1 t2;obtain⟨fq,D2,Ei⟩:=cg (.dK (iP C1 kk y)) _ _ _ ⟨iP C1 kk y,rfl,t1.symm,rfl,mP (P:=fitK) HM (uI hk rz)⟩ t2;have hlen:C1.length<sizeLine:=by have:=hc.2;rw[ek,OI]at this;exact this
      exact⟨p,_,rfl,DPut.k hp hlen,k _ _ G4 fq (Dj.trans (De.trans (Dv.trans (DQ.trans Ei)))) D2⟩
    ·exact k.elim
   ·exact k.elim
end
end PV
namespace NX
open PySem PySem.Spec PyProof.Rows L2
section
variable{prog:Program}{w:World}{A:Around}{E:Value->Shared->Prop}{s:Shared}{d:Addr}{es:Array DictEntry}{ep:Nat}
theorem jF(nm:(d==sysModules)=false):MeetsIn prog w (Builtin.«dict.__len__» ⟨[.ref d],[]⟩) (fun _ R s=>RawD s.heap d es ep/\R (.ok (.ret (.int es.size s.toks))) {s with toks:=s.toks+1}):=
 .of_wp fun A R s Dg=>by
  obtain⟨⟨o,g,_,dat⟩,h⟩:=Dg;show wpAny _ _ (dictSize d >>= fun _=>_) _ _ s;unfold dictSize;refine Oe (Oe (wpAny_dictEntries g dat (Ox ?_)));show wpAny _ _ (Builtin.Dict.pendingCount d >>= fun _=>_) _ _ s;refine Oe (wpAny_pendingCount_other nm (wpAny_ret_mkInt ?_));rw[Nat.add_zero];exact h
theorem wx{Q:Value->Shared->Prop}(nm:(d==sysModules)=false)(x:RawD s.heap d es ep)(hf:(es.size:Int)<2 ^ 63)(h:Q (.int es.size (s.toks+1)) {s with toks:=s.toks+1+1}):wpAny (model prog w) A (call (.builtin "len") [.ref d]) Q E s:=by
 have ty:=sL x;refine Calls.call_function_entry kind_len plain_len entry_len (args_len1 _) ?_;unfold Builtin.«len»;refine Oe (m:=oneArg "len" _) (Ox (Oe (m:=callSpecial? (.ref d) (Str.ofString "__len__")) (Pq (name:=Str.ofString "__len__") ty F.slot_dict_len
  (call_meetsIn F.slot_dict_len ty F.entry_dict_len (F.args_dict_len_1 _) (jF (es:=es) (ep:=ep) nm) ⟨x,?_⟩))))
 show wpAny _ _ _ _ _ {s with toks:=s.toks+1};refine Oe (RZ (Ox (Oe (R4 ?_))));show wpAny _ _ (if((es.size:Nat):Int)<0 then _ else _) _ _ _;rw[OD (Int.not_lt.mpr (Int.natCast_nonneg _))];show wpAny _ _ (if((es.size:Nat):Int)>=2 ^ 63 then _ else _) _ _ _;rw[OD (Int.not_le.mpr hf)];exact Oe (wpAny_mkInt (Ox ⟨_,rfl,h⟩))
end
end NX
namespace PV
open PySem PySem.Spec PyProof.Rows L2 NX
section
variable{X:Cx}
def h8:List D->Res R
 |[.dct _ ks _]=>.ok (.f,.int ks.length)
 |ds=>Bc ds
theorem y1{pr:List (Addr×Obj)}{σ:L2.St}{H:Hp}{s:Shared}(I:Inv X pr σ H s){p:Addr}{o:HO}{tk:Bool}{ks:List D}{xs:List V}(rd:Rd H p o)(dd:DictO o tk ks xs):(p==sysModules)=false/\∃es ep,RawD s.heap p es ep/\es.size=ks.length/\ks.length<=sizeLine:=by
 have ok:=rd.ok I.hok;cases tk with
 |true=>
  obtain⟨C1,eo,ek,_⟩:=dd;subst eo;obtain⟨z,nm,ws,r,o2,es,ep,h1,h2,h3,h4,_⟩:=ok;refine⟨nm,es,ep,⟨o2,h1,h2,h3⟩,?_,by rw[ek,OI];exact z⟩;have:=P0 List.length h4;rw[OI,PN,<-Rv r]at this;rw[ek,OI];exact this
 |false=>
  obtain⟨C1,eo,ek,_⟩:=dd;subst eo;obtain⟨z,nm,ws,r,o2,es,ep,h1,h2,h3,h4,h5,_⟩:=ok;refine⟨nm,es,ep,⟨o2,h1,h2,h3⟩,?_,by rw[ek,OI];exact z⟩;have l1:=h5.length;have l2:C1.length=ws.length:=Rv r;rw[ek,OI];rw[PN]at l1;lia
theorem c7:d5 X (.builtin "len") (rC X.K h8):=by
 rintro pr s σ H xs us Q I rx ⟨G,fp,es,vs,ds,r,⟨rel,k⟩,vd,e⟩;unfold h8 at e;split at e
 ·rename_i tk ks ws;cases e;obtain⟨v,ev,p,ys,o,ep,rd,dd,_⟩:=pR vd;subst ev;subst ep;obtain⟨u,rfl,ru⟩:=j6 rx;cases ru;obtain⟨nm,en,ep,raw,h1,h2⟩:=y1 I rd dd;refine wx nm raw (by rw[h1];rw[QU]at h2;lia) ?_;refine⟨.int ks.length,H,I.tok _,⟨_,by rw[h1]⟩,k _ H G fp .refl (rel.push (rep_int _))⟩
 ·exact yR pr s σ H xs us Q I rx ⟨G,fp,es,vs,_,r,⟨rel,k⟩,vd,e⟩
def CW(g:List Nat->List D->Res R)(fa:FO)(fs:FOs):FX:=fun env=>(fa env).bind fun p=>match EI p.2 p.1 with
 | .ok (.str l)=>(fs p.2).bind fun q=>(oF q.2 q.1).bind fun ds=>(g l ds).bind fun r=>.ok (r,q.2)
 |_=>.bad
end
theorem fnok_of{P:Program}{w:World}{K:W.Frag}{mg:Str->Option Value}{base:Heap}{x:Str}{st:Stmt}{N ps:List Str}{k:Nat}{g:FS}{f:Addr}{fd:FuncData}(F:Fun K x x st f fd)(sc:FnScope N ps (defScope st))
  (body:∀(Dx:Value) (A:Around) (outer:List PySem.Env) (s:Shared) (H:Hp) (E:XK),Room k (A.deeper (envOfC x (defScope st) s.heap.objs.size f Dx))->Hb (md:=.plain) (si Ht P w K mg base N x (defScope st) f Dx A outer s H E).nox (b8 st) g):
  FnOk P w K mg base Ht (k+1) f fd ps (spF K (fBody ps.length (N.length-ps.length) g)):=by
 refine F.ok sc (fun vs H Q E h=>?_) (fun Dx A outer s H vs Q E hr h=>?_)
 ·obtain⟨G,ds,r,_,rs,e,_⟩:=h;unfold fBody at e;split at e
  ·rename_i hl;rw[rs.length,hl]
  ·cases e
 ·obtain⟨G,ds,r,gh,rs,e,q⟩:=h;unfold fBody at e;split at e
  ·rename_i hl;refine⟨_,body Dx A outer s H E hr,G,ds.map (fun d=>some (O.f,d))++List.replicate (N.length-ps.length) none,[],⟨?_,QL,(fun _ h=>nomatch h),gh⟩,?_⟩
   ·have:=fO (K:=K) (G:=G) (H:=H) (N.length-ps.length) rs;unfold L2.start;rw[rs.length,hl];exact this
   ·obtain⟨o,eo,e⟩:=ah e;rw[eo];cases o with
    |rt r'=>
     cases e;exact fun v H' G' C6 st rel=>q v H' G' C6 st rel
    |nx env'=>
     cases e;exact fun σ' H' G' C6 st rel=>q .non H' G' [] (st.trans (Step.cut fun _ h=>nomatch h)) (rel.nilF.push lH)
    |bk env'=>cases e
    |ct env'=>cases e
  ·cases e
def sV(K:W.Frag):Sp:=fun vs H Q _=>∃(a:Addr) (ns:List Int),vs=[.ref a]/\SqL K H a (ns.map V.int)/\ns.length<=63/\∀H',Q (.bl true) H'
theorem y3{K:W.Frag}{F:List D->Res R}(h:∀ns:List Int,ns.length<=63->∃o,F [.lst (ns.map D.int)]=.ok (o,.bl true)):∀vs H Q E,sV K vs H Q E->spF K F vs H Q E:=by
 rintro vs H Q E ⟨a,ns,rfl,sq,hl,q⟩;obtain⟨o,e⟩:=h ns hl;refine⟨H,_,_,.refl _,?_,e,fun v H' G' C6 st rel=>?_⟩
 ·refine .one ?_;rw[Rep];exact⟨a,_,rfl,sq,mO fun n _=>rep_int n⟩
 ·rw[cw rel.top];exact q H'
theorem _root_.L2.Room.u65{k:Nat}{A:Around}(r:Room k A):A.units+65<cLine:=by have:=r.un;lia
def CY(f:FX)(a:FG):FS:=fun env=>(f env).bind fun p=>(a p.1.2 p.2).bind fun e=>.ok (.nx e)
theorem CB{l:PySem.W.OpenLaw}{q:Program}{loose:List Str}{XP:(Str->Option Value)->Heap->Prop}{YP:World->Heap->Prop}{d:DefRec}{K:Params->W.Frag}{k:Nat}{x:Str}(hn:l.most=some 63)(Le:d.params.defaults=[])(hr:Room k PySem.callerA)
  (hY:∀(w:World) (h:Heap),YP w h->(K w.params).In h)
  (F:∀(w:World) (mg:Str->Option Value) (fa:Addr) (h:Heap),(K w.params).In h->h.Ns mainGlobals mg->mg d.name=some (.ref fa)->
   ∃fd:FuncData,(∀(s:Shared) (u:Value),BindsTo s fd ⟨[u],[]⟩ [(x,u)])/\∀base:Heap,(K w.params).In base->base.Ns mainGlobals mg->FnOk l.prog w (K w.params) mg base Ht k fa fd [x] (sV (K w.params))):
  PySem.W.WalkO q loose XP YP l.row.toRowW d [] (fun f vs=>PySem.call f vs):=
 L2.vN (n:=63) (k:=k) (x:=x) (CX:=fun _=>Ht) (sp:=fun w=>sV (K w.params)) hn (by decide) Le hr hY F (fun _ _ a ns hl _ hS=>⟨a,ns,rfl,hS,hl,fun _=>rfl⟩) fun _ _ _ _ _ z=>z
theorem uK:bootBuiltins "sum" = some (.builtin "sum"):=by decide +kernel
theorem y4{K:W.Frag}{h:Heap}{mg:Str->Option Value}{x:Str}{st:Stmt}{f:Addr}{oc:Value}{od an:Option Addr}{Io:Array (Option Value)}{kV doc pm Dx ct:Value}(X:K.In h)(G:h.Ns mainGlobals mg)
  (a:PySem.W.nsIn K mainGlobals x=some (some (.ref f))) (l:K.lookup f=some ⟨oc,od,.func (PySem.W.fnOf x x (dw st) (b8 st) (defScope st) .none kV doc pm an Dx ct),Io⟩)
  (c:PySem.W.codeIn K Dx x=true) (k:PySem.W.keepIn K (.ref f)=true):Def K mg x st:=⟨f,_,uu l c k,PySem.W.mg_of X G a⟩
inductive tQL(K:W.Frag)(f:FI)(σ:L2.St)(H:Hp)(R:It->Hp->Prop):Prop
 |mk:∀G env fp ds env',Rel K G H env σ fp->f env=.ok (ds,env')->(∀J H' G' C6,Step G H fp G' H' C6->Rel K G' H' env' σ C6->(∀G2,Same G' G2->(∀(i:Nat) (r:PV.R) (v:V),env'[i]?=some (some r)->σ[i]?=some (some v)->Rep K G2 r.2 v)->Walk K G2 J ds)->R J H')->tQL K f σ H R
def JC(X:Cx)(tg e:Expr)(f:FI):Prop:=PI X tg e (tQL X.K f)
theorem Walk.mono{K:W.Frag}{G G2:Hp}{J:It}{ds:List D}(w:Walk K G J ds)(gg:Same G G2):Walk K G2 J ds:=fun G' H' es vs fp g rel=>w G' H' es vs fp (gg.trans g) rel
theorem p4{K:W.Frag}{fi:FI}{ix:List (Option Nat)}{a:FG}{c:FT}{f:FX}{σ:L2.St}{H:Hp}{Q:VK}(h:tQ K (cZ fi ix a c f) σ H Q):nU (tQL K fi) ix (tQG K a) (tQT K c) (tQ K f) σ H Q:=by
 obtain⟨G,env,fp,r,env',rel,e,k⟩:=h;obtain⟨⟨ds,C2⟩,e1,e⟩:=ah e;obtain⟨rs,e2,e⟩:=ah e;refine⟨G,env,fp,ds,C2,rel,e1,fun J H1 G1 Ds Dj C5 wk D hD=>?_⟩;dsimp only at e e2;split at e
 ·rename_i hz;have er:r=(.l .f,.lst rs):=by cases e;rfl
  have ee:env'=if Dc rs then C2 else C2.map frz:=by cases e;rfl
  subst er;obtain⟨G2,Hv,IF,E5,hrE,EA⟩:=C5.lend;have wk2:=wk G2 Hv E5;have C4:Rel K G2 H1 (ba ix C2) (cV ix σ) []:=⟨cH E5 (fun i r er=>let⟨v,ev,_⟩:=C5.view er;⟨v,ev⟩) ix,QL,(fun _ h=>nomatch h),IF⟩
  obtain⟨DG,Dv⟩:=C4.newL (ds:=[]) (xs:=[]) hD .nil;refine⟨fun i m σ1 H2=>m=ds.length-i/\i<=ds.length/\∃G' es C6 acc aE,Step G2 H1 [] G' H2 C6/\Rel K G' H2 (some (.l .f,.lst acc)::es) (some (.ref D)::σ1) C6/\cG a c f (ds.drop i) es=.ok aE/\acc++aE=rs,
   ⟨_,rfl,Pn _,G2,ba ix C2,_,[],rs,Dv,DG,e2,rfl⟩,?_⟩
  rintro i m σ1 H2 ⟨rfl,hi,G3,es,Eu,acc,aE,DQ,DV,e4,Ea⟩;obtain⟨w1,w2⟩:=wk2 G3 H2 _ _ _ DQ.gg DV i;by_cases DH:i<ds.length
  ·have hd:ds[i]?=some ds[i]:=Ol DH;obtain⟨go,yl⟩:=w1 _ hd;rw[Ph DH]at e4;unfold cG at e4;obtain⟨JD,h1,e4⟩:=ah e4;obtain⟨⟨b,Gk⟩,h2,e4⟩:=ah e4;dsimp only at e4;refine .inr ⟨go,fun x H3 y=>?_⟩;obtain⟨G4,rx,D2,Ei⟩:=yl x H3 y;obtain⟨fa,fb,Hw,ra,FV,bk⟩:=D2.frame;refine⟨G4,es,fb,ds[i],JD,FV,rx,h1,fun σ2 G5 HN Lw HP=>?_⟩;refine⟨G5,JD,HN,b,Gk,HP,h2,fun H6 G6 JE Lx Gm=>?_⟩;have Gn:=Lw.trans Lx;cases b with
   |false=>
    refine iteF ⟨ds.length-(i+1),by lia,rfl,DH,?_⟩;obtain⟨Ew,Fh⟩:=bk G6 H6 Gk σ2 JE Gn Gm;rw[<-Hw]at Fh;exact⟨G6,Gk,_,acc,aE,DQ.trans (Ei.trans Fh),Ew,e4,Ea⟩
   |true=>
    have e4:((f Gk).bind fun q=>(cG a c f (ds.drop (i+1)) q.2).bind fun rs=>.ok (q.1.2::rs))=.ok aE:=e4;obtain⟨⟨r,HQ⟩,h3,e4⟩:=ah e4;obtain⟨Gp,h4,e4⟩:=ah e4;cases e4;refine xB ⟨G6,Gk,JE,r,HQ,Gm,h3,fun v H7 G7 NN Ly HR=>?_⟩;obtain⟨G8,Lz,rv,HS,LA⟩:=HR.freeze;obtain⟨Ew,Fh⟩:=bk G8 H7 HQ σ2 Lz (Gn.trans (Ly.trans LA)) HS;rw[<-Hw]at Fh;obtain⟨p,xs,ep,hp,HG,cg⟩:=Ew.chg (i:=0) (ds:=acc) (ds':=acc++[r.2]) rfl;have ep:some (some (V.ref D))=some (some (V.ref p)):=ep;cases ep;obtain⟨fq,HU,LB⟩:=cg (xs++[v]) (HG.app (.one rv));refine⟨xs,hp,?_,ds.length-(i+1),by lia,rfl,DH,G8,HQ,fq,acc++[r.2],Gp,DQ.trans (Ei.trans (Fh.trans LB)),HU,h4,?_⟩
    ·rw[HG.length];have:=P0 List.length Ea;rw[O8,OA]at this;lia
    ·rw[<-Ea,OX];rfl
  ·have ei:i=ds.length:=by lia
   subst ei;rw[Qi]at e4;cases e4;rw[OK]at Ea;subst Ea;refine .inl ⟨w2 rfl,?_⟩;obtain⟨fa,HV,LD⟩:=DV.only;obtain⟨k1,k2⟩:=EA H2 G3 fa _ _ (DQ.trans LD) HV;rw[ee]at k;by_cases hc:Dc acc=true
   ·rw[Oy hc]at k;obtain⟨G5,HN,Ei,D2⟩:=k1 (by rw[aH,dA];exact hc);exact k _ H2 G5 HN (Dj.trans Ei) D2
   ·rw[OD hc]at k;obtain⟨G5,HN,Ei,D2⟩:=k2;exact k _ H2 G5 HN (Dj.trans Ei) D2
 ·cases e
section
variable{md:Mode}{X:Cx}{scope:Scope}{N:List Str}{tg iter elt:Expr}{ifs:List Expr}{pos:Pos}{fi:FI}{a:FG}{c:FT}{f:FX}
variable{l e:Expr}{g fj:FI}
theorem cB(h:QI X tg e fi):JC X tg e fi:=gN h fun σ H R ⟨G,env,fp,ds,env',rel,e,k⟩=>⟨G,env,fp,ds,env',rel,e,fun J H' G' C6 st DN wk=>k J H' G' C6 st DN fun _ gg _=>wk.mono gg⟩
theorem e8(h:JC X tg e fi)(h2:JC X tg e fj):JC X tg e (D9 fi fj):=fun pr s σ H R I Dg=>by
 obtain⟨G,env,fp,ds,env',rel,ee,k⟩:=Dg;rcases uF ee with z|z
 ·exact h pr s σ H R I ⟨G,env,fp,ds,env',rel,z,k⟩
 ·exact h2 pr s σ H R I ⟨G,env,fp,ds,env',rel,z,k⟩
def g7(i:Nat):FI:=fun env=>match env[i]? with
 |some (some (_,.lst ds))=>.ok (ds,env)
 |_=>.bad
theorem iA{i:Nat}(h:PE X l (nL i)):JC X tg l (g7 i):=gN (lz h) fun σ H R Dg=>by
 obtain⟨G,env,fp,ds,env',rel,e,k⟩:=Dg;unfold g7 at e;split at e
 ·rename_i o ds hr;cases e;obtain⟨v,ev,rv⟩:=rel.view hr;obtain⟨p,xs,NO,sq,rs⟩:=aW rv;refine⟨v,ev,p,NO,⟨xs,sq⟩,k _ H G fp .refl rel fun G2 gg E5=>?_⟩;obtain⟨p',DS,LG,Em,Et⟩:=aW (E5 i _ v hr ev);rw[NO]at LG;cases LG;exact kq Em Et
 ·cases e
theorem eS(ix:List (Option Nat))(N:List Str)(hc:X.calm=true)(hi:JC X tg iter fi)(hg:∀C s H fp pn,QG (aQ X scope N C s H fp pn) tg a)(ht:∀C s H fp pn,J8 (aQ X scope N C s H fp pn) ifs c)(he:∀C s H fp pn,QE (aQ X scope N C s H fp pn) elt f)
  (hf:cE scope X.env=true:=by rfl) (hk:scope.kind=.function:=by rfl) (Dp:∀y∈scope.names,y.2≠.cell:=by decide +kernel) (DA:∀y∈scope.names,y.2=.local->scope.names.lookup y.1=some .local:=by decide +kernel) (D7:lh X scope N ix=true:=by rfl)
  (hs:∀x,foldedSetIterable iter X.env x=pure x:=by intro _;rfl):QE X (.ListComp elt [⟨tg,iter,ifs,0⟩] scope pos) (cZ fi ix a c f):=
 a8 (lD (g:=tQG X.K a) (tc:=tQT X.K c) (te:=tQ X.K f) ix N hc hi hg ht he hf hk Dp DA D7 hs) fun _ _ _=>p4
theorem h9{i:Nat}{y:Str}{py HE:Pos}(ix:List (Option Nat))(N:List Str)(hN:X.N.Nodup)(MV:X.N[i]?=some y)(hy:Loc X.env.scope y)(hc:X.calm=true)(hi:JC X tg iter fi)(hg:∀C s H fp pn,QG (aQ X scope N C s H fp pn) tg a)(ht:∀C s H fp pn,J8 (aQ X scope N C s H fp pn) ifs c)
  (he:∀C s H fp pn,QE (aQ X scope N C s H fp pn) elt f) (Lj:swapsWith (.ListComp elt [⟨tg,iter,ifs,0⟩] scope pos) (some (.Name y py)) HE.line X.env=pure true:=by rfl)
  (hf:cE scope X.env=true:=by rfl) (hk:scope.kind=.function:=by rfl) (Dp:∀y∈scope.names,y.2≠.cell:=by decide +kernel) (DA:∀y∈scope.names,y.2=.local->scope.names.lookup y.1=some .local:=by decide +kernel) (D7:lh X scope N ix=true:=by rfl)
  (hs:∀x,foldedSetIterable iter X.env x=pure x:=by intro _;rfl) (JR:X.fn y=true\/X.env.scope.names.lookup y=some .local:=by first|exact .inl rfl|exact .inr rfl):
  QS (md:=md) X (.Assign [.Name y py] (.ListComp elt [⟨tg,iter,ifs,0⟩] scope pos) HE) (cy i (cZ fi ix a c f)):=
 dm (vS (i:=i) (g:=tQG X.K a) (tc:=tQT X.K c) (te:=tQ X.K f) ix N hN MV hy hc hi hg ht he Lj hf hk Dp DA D7 hs JR) fun D σ H ⟨G,env,fp,rel,k⟩=>p4 (pK rel k)
end
section
variable{X:Cx}{a:Expr}{pos:Pos}{fa:FO}
def Ap(fa:FO):FX:=fun env=>(fa env).bind fun p=>(EI p.2 p.1).bind fun d=>match d with
 | .int i=>.ok ((.f,.int (-i)),p.2)
 |_=>.bad
theorem uL(ha:QO X a fa):QE X (.UnaryOp .USub a pos) (Ap fa):=a8 (AL ye ha) fun σ H Q Dg=>by
 obtain⟨G,env,fp,r,env',rel,e,k⟩:=Dg;obtain⟨⟨o,e1⟩,h1,e⟩:=ah e;obtain⟨d,h2,e⟩:=ah e;dsimp only at e;split at e
 ·rename_i i;cases e;refine⟨G,env,fp,o,_,rel,h1,fun v H1 G1 Ds Dj C5 EY=>?_⟩;have:=aO (C5.vw EY h2);exact⟨i,this,k _ H1 G1 Ds Dj (C5.push (rep_int _))⟩
 ·cases e
theorem p5{i:Int}(h:i.natAbs<2 ^ 1000):Builtin.Int.intBits i<=2 ^ 20:=by
 unfold Builtin.Int.intBits;split
 ·exact Pn _
 ·rename_i h0;have h1:i.natAbs≠0:=by
   intro e;rw[RL]at e;exact h0 (by rw[e];rfl)
  have:=(Uq h1).mpr h;have e:(2:Nat) ^ 20=1048576:=by decide
  lia
theorem wy:DK X (binaryOp .Mult) (rI (fun i j=>i.natAbs<2 ^ 1000/\j.natAbs<2 ^ 1000) fun i j=>.int (i*j)):=Ju fun _ _ _ _ _ _ _ hc q=>mul_int q (.of_bits (p5 hc.1) (p5 hc.2))
theorem kB{α:Type}:∀(ls:List (Array α)) (acc:Array α),(ls.foldl (·++·) acc).toList=acc.toList++(ls.map Array.toList).flatten
 |[],acc=>by simp
 |a::ls,acc=>by
  rw[Q4,kB ls,Array.toList_append,OH,PX,OX]
theorem Bf(l:List Nat)(n:Nat):(⟨(List.replicate n (S l).cps).foldl (·++·) #[]⟩:Str)=S (List.replicate n l).flatten:=by
 have h:((List.replicate n (S l).cps).foldl (·++·) #[]).toList=(List.replicate n l).flatten:=by
  rw[kB,List.map_replicate];simp only[eZ,Pw]
 show Str.mk _=Str.mk _;rw[<-h]
theorem wz(a b:Int):A9 (.int a) (.int b)=if i6 a||i6 b then .ok (.f,.int (a*b)) else .bad:=rfl
noncomputable def Bh:D->D->Res R
 | .int i,.int j=>if i6 i||i6 j then .ok (.f,.int (i*j)) else if i.natAbs<2 ^ 1000/\j.natAbs<2 ^ 1000 then .ok (.f,.int (i*j)) else .bad
 | .str l,.int k=>if 2<=k/\k<=1000/\1<=l.length/\l.length<=1000 then .ok (.f,.str (List.replicate k.toNat l).flatten) else .bad
 |_,_=>.bad
theorem wA:DK X (binaryOp .Mult) (rG X.K Bh):=by
 rintro pr s σ H x y v u Q I rx ry ⟨G,fp,es,vs,a,b,r,⟨rel,k⟩,va,vb,e⟩;unfold Bh at e;split at e
 ·rename_i i j;split at e
  ·rename_i hc;exact yN pr s σ H x y v u Q I rx ry ⟨G,fp,es,vs,.int i,.int j,r,⟨rel,k⟩,va,vb,by rw[wz,Oy hc];exact e⟩
  ·split at e
   ·rename_i hc;cases e;cases aO va;cases aO vb;exact wy pr s σ H _ _ v u Q I rx ry ⟨i,j,rfl,rfl,hc,k _ H G fp .refl (rel.push (rep_int _))⟩
   ·cases e
 ·rename_i l j;split at e
  ·rename_i hc;cases e;obtain⟨ev,hl⟩:=gM va;subst ev;cases aO vb;obtain⟨t,rfl⟩:=rx;obtain⟨t',rfl⟩:=ry;have hlen:(S l).length=l.length:=kg l;have hz:(List.replicate j.toNat l).flatten.length<=1000000:=by
    rw[fB];exact Rh (by lia:j.toNat<=1000) hc.2.2.2
   have GJ:(List.replicate j.toNat l).flatten.length<=sizeLine:=OF hz (by decide);refine PySem.P.mul_str ?_ ?_ ?_ ?_
   ·rw[O0 (by lia),O0 (by lia)];rfl
   ·intro _ _;rw[hlen];have h1:1000<=(2 ^ 63-1) / j:=(Int.le_ediv_iff_mul_le (by lia)).mpr (by lia);lia
   ·intro _ _;unfold Builtin.Str.tooLong;rw[R5,hlen,Qo,<-fB];lia
   ·rw[OD (by lia),OD (by rw[hlen,RE,OO,OO];lia),Bf];refine⟨?_,?_⟩
    ·rw[kg];exact GJ
    ·exact⟨.str (S (List.replicate j.toNat l).flatten),H,I.tok _,⟨_,rfl⟩,k _ H G fp .refl (rel.push (gw GJ))⟩
  ·cases e
 ·cases e
end
end PV
namespace HT
open PySem PySem.Spec PyProof.Rows L2
variable{prog:Program}{w:World}{A:Around}{E:Value->Shared->Prop}{s:Shared}
theorem fS{t sl:Addr}{items:Array Value}{vl vu:Value}{lo hi:Option Int}{Q:Value->Shared->Prop}(ht:IsTup s.heap t items)(hs:s.heap.IsSliceOf sl vl vu .none)(pl:IsPart vl lo)(pu:IsPart vu hi)
  (hw:sIx items.size 0 lo=0/\sIx items.size items.size hi=items.size) (h:Q (.ref t) s):wpAny (model prog w) A (getItem (.ref t) (.ref sl)) Q E s:=by
 obtain⟨os,JW,Mn,Iz⟩:=id hs;have MP:s.TypeIs (.ref sl) "slice":=⟨os,JW,Mn⟩
 unfold getItem;try with_reducible refine RZ ?_
 first|refine Oe (Ox ?_)|skip
 refine Oe (wpAny_sequenceKey ht.typeIs (by decide) ?_);refine Oe (Pq (name:=Str.ofString "__getitem__") ht.typeIs PR
  (Qt PR ht.typeIs entry_tuple_getitem ?_ (args_tuple_getitem _ _)))
 show wpAny _ _ (Builtin.Tuple.tupleItemsOf (.ref t) >>= _) _ _ s;refine Oe (tupleItemsOf_ ht ?_);refine Oe (Sv MP ?_);rw[Oy (by decide)];refine Oe (dR hs pl pu ?_);have hyes:(((sIx items.size 0 lo:Nat):Int)==0&&(1:Int)==1&&(sIx items.size items.size hi-sIx items.size 0 lo)==items.size)=true:=by
  rw[hw.1,hw.2];simp
 show wpAny _ _ (if(((sIx items.size 0 lo:Nat):Int)==0&&(1:Int)==1&&(sIx items.size items.size hi-sIx items.size 0 lo)==items.size)=true then _ else _) _ _ s;rw[Oy hyes];refine Oe (m:=Builtin.Tuple.tupleIsExact _) ?_;unfold Builtin.Tuple.tupleIsExact;refine Oe (Sv ht.typeIs (Ox ?_));rw[Oy (by decide)];exact Oe (TJ (Ox ⟨_,rfl,Ox h⟩))
end HT
namespace PV
open PySem PySem.Spec PyProof.Rows L2 NX
section
variable{X:Cx}{pos:Pos}{fa:FO}
theorem wB:JX X (fun x lo hi H Q=>∃a xs,x=.ref a/\SqT X.K H a xs/\(HT.sIx xs.length 0 lo=0/\HT.sIx xs.length xs.length hi=xs.length)/\Q x H):=by
 intro pr s σ H x v vl vu lo hi sl Q I rx hs pl pu h;obtain⟨a,xs,rfl,hx,hw,q⟩:=h;cases rx;obtain⟨C3,r,ht,hz⟩:=I.tuple hx;have hlen:C3.toArray.size=xs.length:=by rw[Of];exact r.length.symm
 refine⟨"tuple",_,PyProof.Rows.slot_tuple_getitem.lookup,ht.typeIs,?_⟩;exact HT.fS ht hs pl pu (by rw[hlen];exact hw) ⟨.ref a,H,I,rfl,q⟩
def LH(k:D)(lo hi:Option Int):Res R:=match k with
 | .tup ds=>if HT.sIx ds.length 0 lo=0/\HT.sIx ds.length ds.length hi=ds.length then .ok (.f,.tup ds) else Lr k lo hi
 |_=>Lr k lo hi
def xC(fa:FO)(lo hi:FP):FX:=fun env=>(fa env).bind fun p=>(lo p.2).bind fun q=>(hi q.2).bind fun t=>(EI t.2 p.1).bind fun d=>(LH d q.1 t.1).bind fun r=>.ok (r,t.2)
inductive rSlW(K:W.Frag)(x:V)(lo:Option Int)(hi:Option Int)(H:Hp)(Q:VK):Prop
 |mk:∀G fp es vs d r,Goes K H G fp es vs r Q->Vw K G H d x->LH d lo hi=.ok r->rSlW K x lo hi H Q
theorem y6:JX X (rSlW X.K):=by
 rintro pr s σ H x v vl vu lo hi sl Q I rx hs pl pu ⟨G,fp,es,vs,d,r,⟨rel,k⟩,vd,e⟩;unfold LH at e;split at e
 ·rename_i ds;split at e
  ·rename_i hw;cases e;obtain⟨p,xs,ev,sq,rs⟩:=d6 vd;subst ev;refine wB pr s σ H _ v vl vu lo hi sl Q I rx hs pl pu ⟨p,xs,rfl,aU rel.gh sq,by rw[rs.length];exact hw,?_⟩;exact k _ H G fp .refl (rel.push vd)
  ·exact yQ pr s σ H x v vl vu lo hi sl Q I rx hs pl pu ⟨G,fp,es,vs,_,r,⟨rel,k⟩,vd,e⟩
 ·exact yQ pr s σ H x v vl vu lo hi sl Q I rx hs pl pu ⟨G,fp,es,vs,_,r,⟨rel,k⟩,vd,e⟩
theorem p6{e:Expr}{lo hi:Option Expr}{p2:Pos}{fl fh:FP}(he:QO X e fa)(hl:QP X lo fl)(hh:QP X hi fh):QE X (.Subscript e (.Slice lo hi none p2) pos) (xC fa fl fh):=
 a8 (sm y6 he hl hh) fun σ H Q Dg=>by
  obtain⟨G,env,fp,r,env',rel,e,k⟩:=Dg;obtain⟨⟨o,C2⟩,e1,e⟩:=ah e;obtain⟨⟨i,C8⟩,e2,e⟩:=ah e;obtain⟨⟨j,Dt⟩,e3,e⟩:=ah e;obtain⟨d,e4,e⟩:=ah e;obtain⟨r',e5,e⟩:=ah e;cases e;exact⟨G,env,fp,o,C2,rel,e1,fun v H1 G1 Ds Dj C5 EY=>⟨G1,C2,Ds,i,C8,C5,e2,fun H2 G2 Dw De C4=>⟨G2,C8,Dw,j,Dt,C4,e3,fun H3 G3 Eu Dv DG=>
   ⟨G3,Eu,Dt,σ,d,r,⟨DG,fun v H' G' C6 st DN=>k v H' G' C6 (Dj.trans (De.trans (Dv.trans st))) DN⟩,DG.vw ((EY.mono De.gg).mono Dv.gg) e4,e5⟩⟩⟩⟩
end
end PV
namespace L2
open PySem PySem.Spec PyProof.Rows
section
variable{X:Cx}{tg:Expr}
def p7(i j c:Int):Prop:=(-1048576<=i/\i<=1048576)/\(-1048576<=j/\j<=1048576)/\(c = -1\/1<=c)/\c<=1048576
instance (i j c:Int):Decidable (p7 i j c):=by unfold p7;infer_instance
end
end L2
namespace PV
open PySem PySem.Spec PyProof.Rows L2 NX
section
variable{X:Cx}{tg:Expr}
def CZ:List D->Res R
 |[d]=>match(lq d).bind dn with
  |some (n::ns)=>.ok (.f,.int (A0 (n::ns)))
  |_=>.bad
 |[.int i,.int j]=>.ok (.f,.int (if j<i then j else i))
 |_=>.bad
def xD:List D->Res R
 |[.int i]=>.ok (.f,.int (if i<0 then -i else i))
 |_=>.bad
theorem uM:d5 X (.builtin "abs") (rC X.K xD):=by
 rintro pr s σ H xs us Q I rx ⟨G,fp,es,vs,ds,r,⟨rel,k⟩,vd,e⟩;unfold xD at e;split at e
 ·cases e;obtain⟨v,ev,vt⟩:=pR vd;subst ev;cases aO vt;exact sf pr s σ H _ us Q I rx ⟨_,rfl,k _ H G fp .refl (rel.push (rep_int _))⟩
 ·cases e
noncomputable def Bi(fs:FOs):FI:=fun env=>(fs env).bind fun p=>(oF p.2 p.1).bind fun d=>match d with
 |[.int i,.int j,.int c]=>if p7 i j c then .ok ((List.range (Builtin.Range.rangeSize i j c).toNat).map fun(k:Nat)=>D.int (i+(k:Int)*c),p.2) else .bad
 |_=>.bad
end
end PV
namespace NX
open PySem PySem.Spec PyProof.Rows L2
section
open PySem.SeqAt
open PySem.AutoSeq1 (wpAny_loadPart')
end
end NX
namespace L2
open PySem PySem.Spec PyProof.Rows
section
variable{X:Cx}{o e:Expr}{es:List Expr}{to:TE}{t:TA}{name:Str}{apos DO:Pos}{id:String}{r:V->List V->Hp->VK->Prop}
end
end L2
namespace PV
open PySem PySem.Spec PyProof.Rows L2 NX
section
variable{X:Cx}
noncomputable def C0(g:List D->List D->Res R)(fa:FO)(fs:FOs):FX:=fun env=>(fa env).bind fun p=>(EI p.2 p.1).bind fun a=>match a with
 | .tup _=>(fs p.2).bind fun q=>(EI q.2 p.1).bind fun a2=>match a2 with
  | .tup l=>(oF q.2 q.1).bind fun ds=>(g l ds).bind fun r=>.ok (r,q.2)
  |_=>.bad
 |_=>.bad
def CD(l:List D):List D->Res R
 |[.str c]=>match pW l with
  |some bs=>if c∈bs then .ok (.f,.int (bs.idxOf c:Nat)) else .bad
  |none=>.bad
 |_=>.bad
def rV(a b:D):Res R:=match a,b with
 | .tup [],.tup l=>.ok (.f,.tup l)
 |a,b=>addD a b
theorem fD:DK X (binaryOp .Add) (rG X.K rV):=by
 rintro pr s σ H x y v u Q I rx ry ⟨G,fp,es,vs,a,b,r,⟨rel,k⟩,va,vb,e⟩;unfold rV at e;split at e
 ·rename_i l;cases e;obtain⟨p,xs,e1,h1,r1⟩:=d6 va;obtain⟨p2,HF,e2,h2,r2⟩:=d6 vb;subst e1;subst e2;cases rx;cases ry;have hx:xs=[]:=OY (by rw[r1.length];rfl);subst hx;obtain⟨C3,v1,⟨⟨cls,dd,data,sl⟩,ho,hc,n,hd⟩,_⟩:=I.tuple (aU rel.gh h1);obtain⟨Hh,v2,⟨⟨JV,Ip,data2,Iq⟩,Ez,G0,n2,hd2⟩,_⟩:=I.tuple (aU rel.gh h2);dsimp only at hc hd G0 hd2;subst hc hd G0 hd2;cases v1;exact Su ⟨_,ho,rfl⟩ ⟨_,Ez,rfl⟩ R9 Ti Q9 Q3 (QZ _ _) (tuple_addW0 p p2 _ _ n n2 dd Ip sl Iq rfl) ⟨ho,Ez,⟨.ref p2,H,I,rfl,k _ H G fp .refl (rel.push vb)⟩⟩
 ·exact yM pr s σ H _ _ v u Q I rx ry ⟨G,fp,es,vs,a,b,r,⟨rel,k⟩,va,vb,e⟩
def oq(fs:FOs):FI:=D9 (og true true fs) (D9 (og true false fs) (D9 (og false true fs) (og false false fs)))
theorem p8{Gi:List Expr}{kt:Nat}{pt:Pos}{e1 e2:Expr}{fs:FOs}{p pos:Pos}(hg:Gl X "zip")(hm:X.mg "zip" = none)(ha:Hu X [e1,e2] fs)(he:starEach [e1,e2] X.env=(false,eval e1 X.env)::starEach [e2] X.env:=by rfl)(Es:(backTo pos (starEach [e2] X.env)).any (·.1)=false:=by rfl):
  QI X (.Tuple Gi kt pt) (.Call (.Name "zip" p) [e1,e2] [] pos) (oq fs):=om (mJ true true hg hm ha he Es) (om (mJ true false hg hm ha he Es) (om (mJ false true hg hm ha he Es) (mJ false false hg hm ha he Es)))
end
end PV
namespace NX
open PySem PySem.Spec PyProof.Rows L2
section
open PySem.AutoSeq1 (wpAny_loadPart')
theorem kC(l:Addr)(items:Array Value)(n:Nat)(dd:Option Addr)(sl:Array (Option Value))(x:Int)(u:Tok)(h1:¬ (!Builtin.List.listFitsIndex x)=true)(h2:¬ items.size*x.toNat>(2 ^ 63-1) / 8)(h3:¬ Builtin.List.listTooLong (items.size*x.toNat)=true)(h4:(List.foldl (fun x1 x2=>x1++x2) #[] (List.replicate (if items.isEmpty=true then 0 else x.toNat) items)).size<=sizeLine):
  Meets (Builtin.«list.__mul__» ⟨[.ref l,.int x u],[]⟩)
   (fun _ R s=>s.heap.get? l=some {cls:=.type "list",dict:=dd,data:=.seq items n,slots:=sl}/\R (.ok (.ret (.ref s.heap.objs.size))) {s with heap:=s.heap.push {cls:=.type "list",data:=.seq (List.foldl (fun x1 x2=>x1++x2) #[] (List.replicate (if items.isEmpty=true then 0 else x.toNat) items))}}):=
 .of_wp fun prog w A R s h=>by
  obtain⟨hp,g,d,tk,os⟩:=s;obtain⟨hl,h⟩:=h
  wp_walk using wpAny_loadPart' hl
  rw[OD (by lia)]
  wp_walk
  exact⟨_,rfl,h⟩
theorem kF(a:Int)(t:Tok)(l:Addr)(T:String)(items:Array Value)(n:Nat)(dd:Option Addr)(sl:Array (Option Value)):
  Meets (Builtin.«int.__rmul__» ⟨[.int a t,.ref l],[]⟩)
   (fun _ R s=>s.heap.get? l=some {cls:=.type "list",dict:=dd,data:=.seq items n,slots:=sl}/\R (.ok (.ret .notImplemented)) s):=
 .of_wp fun prog w A R s h=>by
  obtain⟨hp,g,d,tk,os⟩:=s;obtain⟨hl,h⟩:=h
  wp_walk using wpAny_loadPart' hl
  exact⟨_,rfl,h⟩
end
end NX
namespace PV
open PySem PySem.Spec PyProof.Rows L2 NX
section
variable{md:Mode}{X:Cx}
inductive rRepS(K:W.Frag)(x:V)(y:V)(H:Hp)(Q:VK):Prop
 |mk:∀l k xs,x=.ref l->y=.int k->SqL K H l xs->-(2 ^ 62)<=k->k<2 ^ 62->xs.length*k.toNat<=sizeLine->(∀p,H p=none->Q (.ref p) (upd H p (.lst (List.replicate k.toNat xs).flatten)))->rRepS K x y H Q
theorem wC:DK X (binaryOp .Mult) (rRepS X.K):=by
 intro pr s σ H x y v u Q I rx ry h;obtain⟨l,k,xs,rfl,rfl,hH,h1,h2,hz,q⟩:=h;cases rx;obtain⟨t,rfl⟩:=ry;obtain⟨C3,r,p1,_⟩:=I.list hH;have hl:=r.length;obtain⟨⟨cls,dd,data,sl⟩,ho,hc,n,hd⟩:=id p1.isList;simp only at hc hd;subst hc hd;have hlen:C3.toArray.size*k.toNat<=sizeLine:=by rw[Of,<-hl];exact hz
 have hcap:¬ C3.toArray.size*k.toNat>(2 ^ 63-1) / 8:=by
  have:(sizeLine:Nat)<=(2 ^ 63-1) / 8:=by decide
  lia
 have HM:¬ (!Builtin.List.listFitsIndex k)=true:=by
  rw[fitsIndex_both (by lia) (by lia)];exact OB
 have LI:¬ Builtin.List.listTooLong (C3.toArray.size*k.toNat)=true:=by
  rw[su hlen];exact OB
 have GK:List.foldl (fun x1 x2=>x1++x2) #[] (List.replicate (if C3.toArray.isEmpty=true then 0 else k.toNat) C3.toArray)=(List.replicate k.toNat C3).flatten.toArray:=by
  have f0:∀m:Nat,List.foldl (fun x1 x2=>x1++x2) #[] (List.replicate m C3.toArray)=(List.replicate m C3).flatten.toArray:=fun m=>by
   have:=ic C3 m [];rw[Pw]at this;exact this
  rw[f0];cases C3 with
  |nil=>simp
  |cons a r'=>rw[OD (by simp)]
 have hsz:(List.foldl (fun x1 x2=>x1++x2) #[] (List.replicate (if C3.toArray.isEmpty=true then 0 else k.toNat) C3.toArray)).size<=sizeLine:=by
  rw[GK,Of,fB,Qo];rw[Of]at hlen;exact hlen
 refine RP (T:="list") (U:="int") (by decide) ⟨_,ho,rfl⟩ (fun s'=>SR s' k t) noFill_list_mul F.fills_int_mul RH repeat_list F.slot_int_index.lookup
  (Rc RH (SR s k t) F.entry_int_rmul (F.args_int_rmul_2 _ _) (kF k t l "" C3.toArray n dd sl)
   ⟨ho,rfl,⟨_,ho,rfl⟩,Rc F.slot_list_mul ⟨_,ho,rfl⟩ F.entry_list_mul (F.args_list_mul_2 _ _) (kC l C3.toArray n dd sl k t HM hcap LI hsz) ⟨ho,?_⟩⟩)
 rw[GK];exact⟨.ref _,_,I.lnew (t':=s.toks) (r.rep k.toNat) (by rw[fB,Qo];exact hz),rfl,q _ I.fresh⟩
theorem jG{K:W.Frag}{G:Hp}{ds:List D}{xs:List V}(r:Reps K G ds xs):∀n:Nat,Reps K G (List.replicate n ds).flatten (List.replicate n xs).flatten
 | 0=>.nil
 |n+1=>by
  rw[Po,Po,PX,PX];exact r.app (jG r n)
def xE(a b:D):Res R:=match a,b with
 | .lst ds,.int k=>if 0<=k/\k<1000000/\ds.length*k.toNat<=sizeLine then .ok (.l .f,.lst (List.replicate k.toNat ds).flatten) else .bad
 |a,b=>Bh a b
theorem wD:DK X (binaryOp .Mult) (rG X.K xE):=by
 rintro pr s σ H x y v u Q I rx ry ⟨G,fp,es,vs,a,b,r,⟨rel,k⟩,va,vb,e⟩;unfold xE at e;split at e
 ·rename_i ds j;split at e
  ·rename_i hj;cases e;obtain⟨p,xs,e1,h1,r1⟩:=va;subst e1;cases aO vb;refine wC pr s σ H _ _ v u Q I rx ry ⟨p,j,xs,rfl,rfl,h1,by lia,by lia,by rw[r1.length];exact hj.2.2,fun q hq=>?_⟩;obtain⟨C4,De⟩:=rel.newL hq (jG r1 j.toNat);exact k _ _ G _ De C4
  ·cases e
 ·exact wA pr s σ H _ _ v u Q I rx ry ⟨G,fp,es,vs,a,b,r,⟨rel,k⟩,va,vb,e⟩
def Bj(td ty tv:TE):TS:=fun Dd σ H=>tv σ H fun v H1=>td σ H1 fun x H2=>ty σ H2 fun y H3=>yn x y v H3 fun H4=>Dd.nx σ H4
theorem wF{o i value:Expr}{td ty tv:TE}{pos pos':Pos}(ho:PE X o td)(hi:PE X i ty)(hv:PE X value tv)(hs:swapsWith value (some (.Subscript o i pos')) pos.line X.env=pure false):
  PS X (.Assign [.Subscript o i pos'] value pos) (Bj td ty tv):=by
 intro pr s σ H Dd I h;refine wpAny_Assign_Subscript (Dn (hv pr s σ H _ I h) fun r s1 ⟨v,H1,I1,rv,q1⟩=>Dn (ho pr s1 σ H1 _ I1 q1) fun u s2 ⟨x,H2,I2,rx,q2⟩=>Dn (hi pr s2 σ H2 _ I2 q2) fun iv s3 ⟨y,H3,I3,ry,q3⟩=>?_) hs;exact Dn (so pr s3 σ H3 x y v u iv r _ I3 rx ry rv q3) fun _ s4 ⟨H4,I4,q4⟩=>⟨σ,H4,I4,q4⟩
noncomputable def ot(i:Nat)(fk fv:FX):FS:=fun env=>(fv env).bind fun p=>(fk p.2).bind fun q=>match p.2[i]?,q.2[i]? with
 |some (some _),some (some (.l .f,.lst ds))=>(match q.1.2 with
  | .int k=>(match ixN ds.length k with
   |some j=>.ok (.nx (q.2.set i (some (.l .f,.lst (ds.set j p.1.2)))))
   |none=>.bad)
  |_=>.bad)
 |_,_=>.bad
theorem lR{i:Nat}{o ix value:Expr}{fk fv:FX}{pos pos':Pos}(ho:PE X o (nL i))(hi:QE X ix fk)(hv:QE X value fv)(hs:swapsWith value (some (.Subscript o ix pos')) pos.line X.env=pure false:=by rfl):
  QS (md:=md) X (.Assign [.Subscript o ix pos'] value pos) (ot i fk fv):=dm (wF ho hi hv hs) fun Dd σ H Dg=>by
 obtain⟨G,env,fp,rel,k⟩:=Dg;unfold ot at k;match q1:fv env,k with
 | .ok (r1,C2),k=>
  have k:OutOk X.K G H fp Dd ((fk C2).bind fun q=>match C2[i]?,q.2[i]? with
   |some (some _),some (some (.l .f,.lst ds))=>(match q.1.2 with
    | .int k=>(match ixN ds.length k with
     |some j=>.ok (.nx (q.2.set i (some (.l .f,.lst (ds.set j r1.2)))))
     |none=>.bad)
    |_=>.bad)
   |_,_=>.bad):=k
  match q2:fk C2,k with
  | .ok (r2,C8),k=>
   have k:OutOk X.K G H fp Dd (match C2[i]?,C8[i]? with
    |some (some _),some (some (.l .f,.lst ds))=>(match r2.2 with
     | .int k=>(match ixN ds.length k with
      |some j=>.ok (.nx (C8.set i (some (.l .f,.lst (ds.set j r1.2)))))
      |none=>.bad)
     |_=>.bad)
    |_,_=>.bad):=k
   split at k
   ·rename_i rr ds h1 h2;split at k
    ·rename_i kk Jy;split at k
     ·rename_i j hj;refine⟨G,env,fp,r1,C2,rel,q1,fun y H1 G1 Ds Dj C5=>?_⟩;obtain⟨G2,b,ry,C4,De⟩:=C5.freeze;obtain⟨v0,KW,_⟩:=C4.view h1;refine⟨v0,KW,G2,C2,b,r2,C8,C4,q2,fun z H3 G3 Eu Dv DG=>?_⟩;obtain⟨G4,b4,rz,DV,DQ⟩:=DG.freeze;have Mx:Rep X.K G4 r1.2 y:=Rep.mono (Dv.gg.trans DQ.gg) ry;obtain⟨p,xs,ep,hp,rs,cg⟩:=DV.chg (ds':=ds.set j r1.2) h2;rw[KW]at ep;cases ep;rw[Jy]at rz;have hz:=a9 rz;obtain⟨fq,D2,Ei⟩:=cg _ (rs.set j Mx);exact⟨p,xs,kk,j,rfl,hz,hp,by rw[rs.length];exact hj,k _ _ G4 fq (Dj.trans (De.trans (Dv.trans (DQ.trans Ei)))) D2⟩
     ·exact k.elim
    ·exact k.elim
   ·exact k.elim
end
section
variable{X:Cx}
def BN(fk fv:FX):FX:=fun env=>(fk env).bind fun p=>(fv p.2).bind fun q=>if dE false p.1.2 then .ok ((.d,.dct false [p.1.2] [q.1.2]),q.2) else .bad
def getD(ks vs:List D)(k:D):Option D:=((ks.zip vs).find? fun p=>C9 k p.1).map (·.2)
theorem iC{κ:Type}[DecidableEq κ]{K:W.Frag}{G:Hp}(f:κ->D)(hf:∀a b,C9 (f a) (f b)=decide (a=b)){k:κ}:∀{C1:List (κ×V)}{vs:List D},Reps K G vs (C1.map (·.2))->((getD (C1.map fun kv=>f kv.1) vs (f k)).isSome=(km C1 k).isSome)/\∀d,getD (C1.map fun kv=>f kv.1) vs (f k)=some d->∃v,km C1 k=some v/\Rep K G d v
 |[],vs,r=>⟨rfl,fun d h=>nomatch h⟩
 |kv::C1,vs,r=>by
  cases vs with
  |nil=>have:=r.length;simp at this
  |cons d0 vs=>
   rw[OH,Reps.cons_iff]at r;obtain⟨h1,h2⟩:=iC f hf (k:=k) r.2;unfold getD km at h1 h2 ⊢;rw[OH,Q6];have e:C9 (f k) (f kv.1)=decide (kv.1=k):=by
    rw[hf,O7,OR,OR];exact⟨fun z=>z.symm,fun z=>z.symm⟩
   by_cases hk:kv.1=k
   ·rw[Qu (by show C9 (f k) (f kv.1)=true;rw[e];exact O9 hk),Qu (by exact O9 hk)];refine⟨rfl,fun d h=>?_⟩;cases h;exact⟨_,rfl,r.1⟩
   ·rw[Qv (by show ¬ C9 (f k) (f kv.1)=true;rw[e];simpa using hk),Qv (by simpa using hk)];exact⟨h1,h2⟩
theorem lS{K:W.Frag}{G H:Hp}(gh:Same G H){tk:Bool}{ks vs:List D}{xs:List V}{o:HO}{p:Addr}{b:D}{y:V}(rd:Rd H p o)(dd:DictO o tk ks xs)(rs:Reps K G vs xs)(hk:dE tk b=true)(ry:Rep K G b y):
  ∃ov,DGet H p y ov/\(getD ks vs b).isSome=ov.isSome/\∀d,getD ks vs b=some d->∃v,ov=some v/\Rep K G d v:=by
 unfold dE at hk;cases tk with
 |true=>
  rw[Oy rfl,P6]at hk;obtain⟨kk,hk⟩:=hk;obtain⟨pz,ez,gz,dz⟩:=dD hk ry;obtain⟨C1,eo,ek,ex,_⟩:=dd;subst eo ex ez dz;have ek:ks=C1.map fun kv=>kT kv.1:=ek
  obtain⟨h1,h2⟩:=iC (K:=K) (G:=G) kT uH (k:=kk) rs;rw[<-ek]at h1 h2;exact⟨km C1 kk,.inr ⟨C1,kk,pz,rd,rfl,gh _ _ gz,rfl⟩,h1,h2⟩
 |false=>
  rw[OD OB,P6]at hk;obtain⟨kk,hk⟩:=hk;obtain⟨ez,dz⟩:=gC hk ry;obtain⟨C1,eo,ek,ex,_⟩:=dd;subst eo ex ez dz;obtain⟨h1,h2⟩:=iC (K:=K) (G:=G) kD pY (k:=kk) rs;rw[<-ek]at h1 h2;exact⟨km C1 kk,.inl ⟨C1,kk,rd,rfl,rfl⟩,h1,h2⟩
def Ir(a b:D):Res R:=match a with
 | .dct tk ks vs=>if dE tk b then(match getD ks vs b with
  |some d=>.ok (.f,d)
  |none=>.bad) else .bad
 |_=>.bad
theorem p9{a b:Expr}{fa fb:FO}{pos:Pos}(hu:X.A.units+1<cLine)(ha:QO X a fa)(hb:QO X b fb)(hs:NoSl b:=by exact fun _ _=>rfl):QE X (.Subscript a b pos) (aJ Ir fa fb):=
 a8 (v9 hu ha hb hs) fun σ H Q h=>by
  obtain⟨G,env,fp,r,env',rel,e,k⟩:=h;obtain⟨⟨oa,e1⟩,ha,e⟩:=ah e;obtain⟨⟨ob,e2⟩,hb,e⟩:=ah e;obtain⟨da,Lo,e⟩:=ah e;obtain⟨db,Fd,e⟩:=ah e;obtain⟨r',hr,e⟩:=ah e;cases e;refine⟨G,env,fp,oa,e1,rel,ha,fun x H1 G1 Ds Dj C5 EY=>⟨G1,e1,Ds,ob,e2,C5,hb,fun y H2 G2 Dw De C4 J6=>?_⟩⟩;have va:=C4.vw (EY.mono De.gg) Lo;have vb:=C4.vw J6 Fd;unfold Ir at hr;split at hr
  ·rename_i tk ks vs;split at hr
   ·rename_i FY;split at hr
    ·rename_i d hd;cases hr;obtain⟨p,xs,o,ev,rd,dd,rs⟩:=va;subst ev;have vb':Rep X.K G2 db y:=by
      cases db with
      |lst l=>cases tk <;> simp[dE,dC,i8]at FY
      |dct _ _ _=>cases tk <;> simp[dE,dC,i8]at FY
      |_=>exact vb
     obtain⟨ov,g,_,h2⟩:=lS C4.gh rd dd rs FY vb';obtain⟨v,ho,rv⟩:=h2 d hd;subst ho;exact⟨p,v,rfl,g,k _ H2 G2 Dw (Dj.trans De) (C4.push rv)⟩
    ·cases hr
   ·cases hr
  ·cases hr
def NP(a b:D):Res R:=match b with
 | .dct tk ks vs=>if dE tk a then .ok (.f,.bl (getD ks vs a).isSome) else .bad
 |_=>Jz a b
def ou(a b:D):Res R:=match b with
 | .dct tk ks vs=>if dE tk a then .ok (.f,.bl (!(getD ks vs a).isSome)) else .bad
 |_=>yV a b
theorem BO(hu:X.A.units+65<cLine):DK X (compareOp .In) (rGA X.K NP):=by
 rintro pr s σ H x y v u Q I rx ry ⟨G,fp,es,vs,a,b,r,⟨rel,k⟩,va,vb,e⟩;unfold NP at e;split at e
 ·rename_i tk ks ws;split at e
  ·rename_i FY;cases e;obtain⟨p,xs,o,ev,rd,dd,rs⟩:=vb;subst ev;cases ry;obtain⟨ov,g,h1,_⟩:=lS (K:=X.K) (G:=H) (fun _ _ z=>z) rd dd rs FY va;exact Cy (by lia) I g rx fun s' I'=>⟨.bl ov.isSome,H,I',rfl,by rw[<-h1];exact k _ H G fp .refl (rel.push (cv _))⟩
  ·cases e
 ·exact Bd hu pr s σ H x y v u Q I rx ry ⟨G,fp,es,vs,a,b,r,⟨rel,k⟩,va,vb,e⟩
theorem qc(hu:X.A.units+65<cLine):DK X (compareOp .NotIn) (rGA X.K ou):=by
 rintro pr s σ H x y v u Q I rx ry ⟨G,fp,es,vs,a,b,r,⟨rel,k⟩,va,vb,e⟩;unfold ou at e;split at e
 ·rename_i tk ks ws;split at e
  ·rename_i FY;cases e;obtain⟨p,xs,o,ev,rd,dd,rs⟩:=vb;subst ev;cases ry;obtain⟨ov,g,h1,_⟩:=lS (K:=X.K) (G:=H) (fun _ _ z=>z) rd dd rs FY va;exact vY (by lia) I g rx fun s' I'=>⟨.bl (!ov.isSome),H,I',rfl,by rw[<-h1];exact k _ H G fp .refl (rel.push (cv _))⟩
  ·cases e
 ·exact yW hu pr s σ H x y v u Q I rx ry ⟨G,fp,es,vs,a,b,r,⟨rel,k⟩,va,vb,e⟩
end
def isLf:O->Bool
 | .l .f=>true
 | .pin _ (.l .f)=>true
 |_=>false
section
variable{K:W.Frag}{G G' H H':Hp}{es:PV.Env}{vs:L2.St}{fp:List Addr}
theorem uN{ow:O}{ds:List D}{v:V}{a:List Addr}(ho:isLf ow=true)(r:RepO K G H ow (.lst ds) v a):∃p xs,v=.ref p/\H p=some (.lst xs)/\a=[p]/\Reps K G ds xs/\∀(H':Hp) (ds':List D) (DS:List V),H' p=some (.lst DS)->Reps K G ds' DS->RepO K G H' ow (.lst ds') (.ref p) [p]:=by
 unfold isLf at ho;split at ho
 ·obtain⟨p,xs,e,hp,ea,rs⟩:=bz.mp r;exact⟨p,xs,e,hp,ea,rs,fun H' ds' DS h Et=>bz.mpr ⟨p,DS,rfl,h,rfl,Et⟩⟩
 ·rename_i q;rw[RepO]at r;obtain⟨e0,r⟩:=r;obtain⟨p,xs,e,hp,ea,rs⟩:=bz.mp r;rw[e]at e0;cases e0;exact⟨_,xs,e,hp,ea,rs,fun H' ds' DS h Et=>by rw[RepO];exact⟨rfl,bz.mpr ⟨_,DS,rfl,h,rfl,Et⟩⟩⟩
 ·cases ho
theorem Rel.chgO{i:Nat}{ow:O}{ds ds':List D}(ho:isLf ow=true)(q:Rel K G H es vs fp)(e:es[i]?=some (some (ow,.lst ds))):∃p xs,vs[i]?=some (some (.ref p))/\H p=some (.lst xs)/\Reps K G ds xs/\
  ∀DS,Reps K G ds' DS->∃fq,Rel K G (upd H p (.lst DS)) (es.set i (some (ow,.lst ds'))) vs fq/\Step G H fp G (upd H p (.lst DS)) fq:=by
 obtain⟨v,fq,ev,g,st,Ge⟩:=q.out e;obtain⟨y,ys,e0,v',a,b,e1,e2,r1,r2⟩:=g.rep;cases e0;cases e1;obtain⟨p,xs,e3,hp,e4,rs,mk⟩:=uN ho r1;subst e3;subst e4;subst e2;have nd:=OU.mp (show(p::b).Nodup from g.nd);refine⟨p,xs,ev,hp,rs,fun DS Et=>?_⟩;have g2:Rel K G (upd H p (.lst DS)) (some (ow,.lst ds')::es.set i none) (some (.ref p)::vs) (p::b):=by
  refine⟨⟨some (.ref p),vs,rfl,.ref p,[p],b,rfl,rfl,mk _ _ _ aw Et,r2.step (.refl _) fun z hz=>ai fun e=>nd.1 (e▸hz)⟩,g.nd,g.gn,fun z o ez=>?_⟩;have:z≠p:=fun w=>by
   subst w;rw[g.gn z Oh]at ez;cases ez
  rw[ai this];exact g.gh z o ez
 have Lm:Step G H (p::b) G (upd H p (.lst DS)) (p::b):=by
  refine⟨.refl _,fun z o ez nz=>?_,fun z hz=>.inl hz,fun z o ez=>.inl ez,fun z o ez=>?_⟩
  ·have:z≠p:=fun w=>nz (by rw[w];exact Oh)
   rw[ai this];exact ez
  ·by_cases w:z=p
   ·subst w;exact⟨_,aw⟩
   ·exact⟨o,by rw[ai w];exact ez⟩
 obtain⟨fz,g3,Dv⟩:=g2.back (i:=i) (by rw[O1];exact(Om.mp e).1) ev;rw[P2]at g3;exact⟨fz,g3,st.trans (Lm.trans Dv)⟩
theorem RepE.append:∀{es Gb:PV.Env}{vs F9:L2.St}{a b:List Addr},RepE K G H es vs a->RepE K G H Gb F9 b->RepE K G H (es++Gb) (vs++F9) (a++b)
 |[],Gb,vs,F9,a,b,r,q=>by
  rw[r.1,r.2];exact q
 |none::es,Gb,vs,F9,a,b,r,q=>by
  obtain⟨y,ys,e,r⟩:=r;subst e;exact⟨y,ys++F9,rfl,RepE.append r q⟩
 |some x::es,Gb,vs,F9,a,b,r,q=>by
  obtain⟨y,ys,e,v,a1,b1,e1,e2,r1,r2⟩:=r;subst e e2;exact⟨y,ys++F9,rfl,v,a1,b1++b,e1,OX _ _ _,r1,RepE.append r2 q⟩
theorem RepE.clean{G2 G3:Hp}(h:∀p u,isT u=true->G2 p=some u->G3 p=some u):∀{es:PV.Env}{vs:L2.St}{a:List Addr},(∀r,some r∈es->aH r.1 r.2=true)->RepE K G2 H es vs a->RepE K G3 H es vs a
 |[],_,_,_,r=>r
 |none::es,vs,a,hc,r=>by
  obtain⟨y,ys,e,r⟩:=r;exact⟨y,ys,e,RepE.clean h (fun r hr=>hc r (Og _ hr)) r⟩
 |some x::es,vs,a,hc,r=>by
  obtain⟨y,ys,e,v,a1,b1,e1,e2,r1,r2⟩:=r;exact⟨y,ys,e,v,a1,b1,e1,e2,r1.clean h (hc x Oh),RepE.clean h (fun r hr=>hc r (Og _ hr)) r2⟩
theorem Rel.lendM(q:Rel K G H es vs fp)(a:List Addr)(ha:∀z∈a,z∉fp)(M7:∀z∈a,G z=none):∃G1,Same G G1/\Same G1 H/\(∀z∈a,G1 z=none)/\(∀(i:Nat) (r:R) (v:V),es[i]?=some (some r)->vs[i]?=some (some v)->Rep K G1 r.2 v)/\
  ∀(H2 G2:Hp) (Dw:List Addr) (rs:PV.Env) (ws:L2.St),Step G1 H a G2 H2 Dw->Rel K G2 H2 rs ws Dw->(∀r,some r∈rs->aH r.1 r.2=true)->∃G3 Eu,Step G H (a++fp) G3 H2 Eu/\Rel K G3 H2 (rs++es) (ws++vs) Eu:=by
 have hg:Same G (fun p=>if p∈fp then H p else G p):=fun p u e=>by
  show(if p∈fp then H p else G p)=some u;by_cases hp:p∈fp
  ·rw[Oy hp];exact q.gh p u e
  ·rw[OD hp];exact e
 have hh:Same (fun p=>if p∈fp then H p else G p) H:=fun p u e=>by
  have e:(if p∈fp then H p else G p)=some u:=e;by_cases hp:p∈fp
  ·rw[Oy hp]at e;exact e
  ·rw[OD hp]at e;exact q.gh p u e
 have hk:∀p∈fp,∀u,H p=some u->(fun p=>if p∈fp then H p else G p) p=some u:=fun p hp u e=>by
  show(if p∈fp then H p else G p)=some u;rw[Oy hp];exact e
 refine⟨fun p=>if p∈fp then H p else G p,hg,hh,fun z hz=>?_,fun i r v e ev=>q.rep.rep hg hk e ev,fun H2 G2 Dw rs ws st k cl=>?_⟩
 ·show(if z∈fp then H z else G z)=none;rw[OD (ha z hz)];exact M7 z hz
 have kept:∀p∈fp,H2 p=H p:=fun p hp=>by
  obtain⟨u,hu⟩:=q.rep.live p hp;rw[hu];exact st.keep p u hu fun z=>ha p z hp
 have apart:∀p∈Dw,p∉fp:=fun p hp hf=>by
  rcases st.fpn p hp with z|z
  ·exact ha p z hf
  ·obtain⟨u,hu⟩:=q.rep.live p hf;rw[z]at hu;cases hu
 have g3:Same G (fun p=>if p∈fp then none else G2 p):=fun p u e=>by
  show(if p∈fp then none else G2 p)=some u;rw[OD (fun z=>by rw[q.gn p z]at e;cases e)];exact st.gg p u (hg p u e)
 refine⟨fun p=>if p∈fp then none else G2 p,Dw++fp,⟨g3,fun p u e n=>?_,fun p hp=>?_,fun p u e=>?_,st.there⟩,⟨RepE.append (RepE.clean (fun p u t e=>?_) cl k.rep) (q.rep.step g3 kept),?_,fun p hp=>?_,fun p u e=>?_⟩⟩
 ·exact st.keep p u e fun z=>n (Oo _ z)
 ·rcases OL.mp hp with hp|hp
  ·exact(st.fpn p hp).imp_left (Oo _)
  ·exact .inl (Oj _ hp)
 ·have e:(if p∈fp then none else G2 p)=some u:=e;by_cases hp:p∈fp
  ·rw[Oy hp]at e;cases e
  ·rw[OD hp]at e;rcases st.gnew p u e with z|z|z
   ·have z:(if p∈fp then H p else G p)=some u:=z;rw[OD hp]at z;exact .inl z
   ·exact .inr (.inl (Oo _ z))
   ·exact .inr (.inr z)
 ·show(if p∈fp then none else G2 p)=some u;by_cases hp:p∈fp
  ·exfalso;obtain⟨u',hu,hm⟩:=q.rep.mut p hp;have:=st.gg p u' (hk p hp u' hu);rw[e]at this;cases this;cases u with
   |lst _=>cases t
   |dK _=>cases t
   |dT _=>cases t
   |_=>cases hm
  ·rw[OD hp];exact e
 ·rw[ON];exact⟨k.nd,q.nd,fun p hp z hz e=>apart p hp (e▸hz)⟩
 ·show(if p∈fp then none else G2 p)=none;by_cases hf:p∈fp
  ·rw[Oy hf]
  ·rw[OD hf];rcases OL.mp hp with hp|hp
   ·exact k.gn p hp
   ·exact absurd hp hf
 ·have e:(if p∈fp then none else G2 p)=some u:=e;by_cases hp:p∈fp
  ·rw[Oy hp]at e;cases e
  ·rw[OD hp]at e;exact k.gh p u e
end
section
variable{X:Cx}
def ePop(i:Nat):FX:=fun env=>match env[i]? with
 |some (some (ow,.lst ds))=>if isLf ow then(match ds.getLast? with
  |some d=>.ok ((.f,d),env.set i (some (ow,.lst ds.dropLast)))
  |none=>.bad) else .bad
 |_=>.bad
theorem Reps.dropLast{K:W.Frag}{G:Hp}:∀{ds:List D}{xs:List V},Reps K G ds xs->Reps K G ds.dropLast xs.dropLast
 |[],xs,r=>by rw[Reps]at r;subst r;exact .nil
 |[d],xs,r=>by
  rw[Reps]at r;obtain⟨y,ys,e,r1,r2⟩:=r;rw[Reps]at r2;subst e r2;exact .nil
 |d::d2::ds,xs,r=>by
  rw[Reps]at r;obtain⟨y,ys,e,r1,r2⟩:=r;subst e;have h:=Reps.dropLast r2;cases ys with
  |nil=>have:=r2.length;simp at this
  |cons z zs=>
   rw[RA (List.cons_ne_nil _ _),RA (List.cons_ne_nil _ _)];exact .cons r1 h
theorem y7{i:Nat}{o:Expr}{apos DO:Pos}(ho:PE X o (nL i))(Fe:attributeBase o "pop" X.env (eval o X.env)=eval o X.env:=by rfl)(Ff:(apos.endLine==DO.line)=true:=by rfl):
  QE X (.Call (.Attribute o "pop" apos) [] [] DO) (ePop i):=by
 refine a8 (yp R6 PySem.F.slot_list_pop PySem.F.type_list_pop yq ho Fe Ff) fun σ H Q Dl=>?_
 obtain⟨G,env,fp,r,env',rel,e,k⟩:=Dl;unfold ePop at e;split at e
 ·rename_i ow ds Iz;split at e
  ·rename_i hlf;split at e
   ·rename_i d hd;cases e;obtain⟨p,xs,ev,hp,rs,cg⟩:=rel.chgO (ds':=ds.dropLast) hlf Iz;rw[List.getLast?_eq_getElem?]at hd;obtain⟨y,hy,ry⟩:=rs.get hd;obtain⟨fq,C4,De⟩:=cg xs.dropLast rs.dropLast;exact⟨.ref p,ev,.inl ⟨rfl,xs,SqL.of hp⟩,p,xs,y,rfl,rfl,hp,by rw[rs.length];exact hy,k y _ G fq De (C4.push ry)⟩
   ·cases e
  ·cases e
 ·cases e
def g8(i:Nat)(f:FX):FS:=fun env=>(f env).bind fun p=>match p.2[i]? with
 |some (some (.pin q c,d0))=>.ok (.rt (.t [p.1.1,.pin q c],.tup [p.1.2,d0]))
 |_=>.bad
theorem d9{i:Nat}{e:Expr}{f:FX}{pos:Pos}(he:QE X e f):QS (md:=.mut) X (.Return (some e) pos) (g8 i f):=dm (uo he) fun Dd σ H Dg=>by
 obtain⟨G,env,fp,rel,k⟩:=Dg;unfold g8 at k;match q:f env,k with
 | .ok (r,C2),k=>
  have k:OutOk (md:=.mut) X.K G H fp Dd (match C2[i]? with
   |some (some (.pin q c,d0))=>.ok (.rt (.t [r.1,.pin q c],.tup [r.2,d0]))
   |_=>.bad):=k
  split at k
  ·rename_i z c d0 hz;refine⟨G,env,fp,r,C2,rel,q,fun v H1 G1 Ds Dj C5=>?_⟩;obtain⟨y,ys,ey,v',a,b,e1,e2,r1,r2⟩:=C5.rep;cases ey;cases e1;subst e2;obtain⟨v0,a0,b0,KW,ro,_,pm⟩:=r2.take hz;have hv0:v0=.ref z:=by
    have:=ro;rw[RepO]at this;exact this.1
   subst hv0;have sub:∀w∈a++a0,w∈a++b:=fun w hw=>by
    rcases OL.mp hw with hw|hw
    ·exact Oo _ hw
    ·exact Oj _ (pm.mem_iff.mpr (Oo _ hw))
   have nd:=ON.mp C5.nd;have nd2:=ON.mp (pm.nodup_iff.mp nd.2.1);refine k v H1 G1 (a++a0) (Dj.trans (Step.cut sub)) ⟨r.1,r.2,z,c,d0,rfl,⟨⟨some v,[some (.ref z)],rfl,v,a,a0,rfl,rfl,r1,some (.ref z),[],rfl,.ref z,a0,[],rfl,(OK _).symm,ro,rfl,rfl⟩,?_,fun p hp=>C5.gn p (sub p hp),C5.gh⟩⟩;rw[ON];exact⟨nd.1,nd2.1,fun p hp w hw e=>nd.2.2 p hp w (pm.mem_iff.mpr (Oo _ hw)) e⟩
  ·exact k.elim
def eA(np nn:Nat)(c:O)(g:FS)(p:Addr):List D->Res R
 |d0::ds=>if ds.length+1=np then(g (some (.pin p c,d0)::(ds.map (fun d=>some (O.f,d))++List.replicate nn none))).bind fun o=>match o with
  | .rt r=>.ok r
  |_=>.bad
  else .bad
 |[]=>.bad
inductive spM(K:W.Frag)(c:O)(F:Addr->List D->Res R)(vs:List V)(H:Hp)(Q:VK)(zz:XK):Prop
 |mk:∀G p F9 d0 ds r JF,Same G H->vs=.ref p::F9->RepO K G H c d0 (.ref p) JF->JF.Nodup->(∀z∈JF,G z=none)->Reps K G ds F9->F p (d0::ds)=.ok r->(∀v H' G' C6,Step G H JF G' H' C6->BK .mut K G' H' r v C6->Q v H')->spM K c F vs H Q zz
theorem i9{P:Program}{w:World}{K:W.Frag}{mg:Str->Option Value}{base:Heap}{x:Str}{st:Stmt}{N ps:List Str}{k:Nat}{c:O}{g:FS}(Df:Def K mg x st)(sc:FnScope N ps (defScope st))
  (hb:∀(kV doc pm:Value) (an:Option Addr) (Dx ct:Value) (us:List Value),us.length=ps.length->bindArgs (PySem.W.fnOf x x (dw st) (b8 st) (defScope st) .none kV doc pm an Dx ct) ⟨us,[]⟩=pure (ps.zip us))
  (body:∀(f:Addr) (Dx:Value) (A:Around) (outer:List PySem.Env) (s:Shared) (H:Hp) (E:XK),Room k (A.deeper (envOfC x (defScope st) s.heap.objs.size f Dx))->Hb (md:=.mut) (si Ht P w K mg base N x (defScope st) f Dx A outer s H E).nox (b8 st) g):
  Ct P w K mg base x (k+1) (spM K c (eA ps.length (N.length-ps.length) c g)):=by
 obtain⟨f,fd,F,m⟩:=Df;refine⟨f,fd,ps,F.ok sc (fun vs H Q E h=>?_) (fun Dx A outer s H vs Q E hr h=>?_),m,F.kp,F.binds hb⟩
 ·obtain⟨G,p,F9,d0,ds,r,JF,_,ev,_,_,_,rs,e,_⟩:=h;unfold eA at e;split at e
  ·rename_i NQ ds' heq;cases heq;split at e
   ·rename_i hl;rw[ev,OA,rs.length,hl]
   ·cases e
  ·cases e
 ·obtain⟨G,p,F9,d0,ds,r,JF,gh,ev,r0,nd,gn,rs,e,q⟩:=h;unfold eA at e;split at e
  ·rename_i NQ ds' heq;cases heq;split at e
   ·rename_i hl;refine⟨_,body f Dx A outer s H E hr,G,some (.pin p c,d0)::(ds.map (fun d=>some (O.f,d))++List.replicate (N.length-ps.length) none),JF,⟨?_,nd,gn,gh⟩,?_⟩
    ·have:=fO (K:=K) (G:=G) (H:=H) (N.length-ps.length) rs;unfold L2.start;rw[ev,OA,rs.length,hl];exact⟨some (.ref p),_,rfl,.ref p,JF,[],rfl,(OK _).symm,by rw[RepO];exact⟨rfl,r0⟩,this⟩
    ·obtain⟨o,eo,e⟩:=ah e;rw[eo];cases o with
     |rt r'=>
      cases e;exact fun v H' G' C6 st rel=>q v H' G' C6 st rel
     |nx env'=>cases e
     |bk env'=>cases e
     |ct env'=>cases e
   ·cases e
  ·cases e
def kG:O->O->Bool
 | .l .f,.l .f=>true
 | .l .f,.pin _ (.l .f)=>true
 | .d,.d=>true
 | .d,.pin _ .d=>true
 |_,_=>false
theorem y8{K:W.Frag}{G H:Hp}{c ow:O}{d:D}{v:V}{a:List Addr}(h:kG c ow=true)(r:RepO K G H ow d v a):(∃p,v=.ref p)/\RepO K G H c d v a/\∀(G' H':Hp) (d':D) (a':List Addr),RepO K G' H' c d' v a'->RepO K G' H' ow d' v a':=by
 have J9:∀{d:D},RepO K G H (.l .f) d v a->∃p,v=.ref p:=fun{d} r=>by
  cases d with
  |lst ds=>obtain⟨p,_,e,_⟩:=bz.mp r;exact⟨p,e⟩
  |_=>simp only[RepO]at r
 have Ka:∀{d:D},RepO K G H .d d v a->∃p,v=.ref p:=fun{d} r=>by
  cases d with
  |dct tk ks ws=>rw[RepO]at r;obtain⟨p,_,_,e,_⟩:=r;exact⟨p,e⟩
  |_=>simp only[RepO]at r
 unfold kG at h;split at h
 ·exact⟨J9 r,r,fun _ _ _ _ z=>z⟩
 ·rw[RepO]at r;exact⟨⟨_,r.1⟩,r.2,fun _ _ _ _ z=>by rw[RepO];exact⟨r.1,z⟩⟩
 ·exact⟨Ka r,r,fun _ _ _ _ z=>z⟩
 ·rw[RepO]at r;exact⟨⟨_,r.1⟩,r.2,fun _ _ _ _ z=>by rw[RepO];exact⟨r.1,z⟩⟩
 ·cases h
open Classical in
def g9(F:Addr->List D->Res R)(c:O)(d0:D)(ds:List D):Res (R×D):=
 if h:∃x:R×D,∀p,F p (d0::ds)=.ok (.t [x.1.1,.pin p c],.tup [x.1.2,x.2]) then .ok (Classical.choose h) else .bad
theorem eT{F:Addr->List D->Res R}{c:O}{d0:D}{ds:List D}{r:R}{d':D}(h:∀p,F p (d0::ds)=.ok (.t [r.1,.pin p c],.tup [r.2,d'])):g9 F c d0 ds=.ok (r,d'):=by
 have h':∃x:R×D,∀p,F p (d0::ds)=.ok (.t [x.1.1,.pin p c],.tup [x.1.2,x.2]):=⟨(r,d'),h⟩
 unfold g9;rw[Vx h'];have e:=(SJ h' 0).symm.trans (h 0);generalize Classical.choose h'=x at e;obtain⟨⟨o,d⟩,d2⟩:=x;cases e;rfl
theorem sW{F:Addr->List D->Res R}{c:O}{d0:D}{ds:List D}{x:R×D}(h:g9 F c d0 ds=.ok x)(p:Addr):F p (d0::ds)=.ok (.t [x.1.1,.pin p c],.tup [x.1.2,x.2]):=by
 unfold g9 at h;split at h
 ·rename_i h';cases h;exact SJ h' p
 ·cases h
end
section
variable{X:Cx}{x:Str}{p pos:Pos}{e:Expr}{es:List Expr}{fs:FOs}
end
section
variable{K:W.Frag}{G G' H H':Hp}
end
section
variable{X:Cx}{md:Mode}
end
end PV
namespace NX
open PySem PySem.Spec PyProof.Rows L2
theorem Bk{P:Program}{w:World}{k:Key}{u:Value}(h:(mixKind P w).is k u=true):RelV (kV k) u:=by
 rw[nK]at h;cases k with
 |inl i=>
  have h:Value.isInt i u=true:=h;cases u with
  |int j t=>
   have e:(j==i)=true:=h;rw[OO]at e;exact⟨t,by rw[e]⟩
  |_=>cases h
 |inr x=>
  obtain⟨t,e⟩:=Value.isStrOf_shape h;exact⟨t,e⟩
theorem Bl{κ:Type}{C1:List (κ×V)}{vs:List (κ×Value)}(r:KV C1 vs):∀{i:Nat}{k:κ}{v:V},C1[i]?=some (k,v)->∃u,vs[i]?=some (k,u)/\RelV v u:=by
 induction r with
 |nil=>intro i k v e;simp at e
 | @cons p q ps qs hq _ ih=>
  intro i k v e;cases i with
  |zero=>
   simp at e;subst e;obtain⟨qk,qv⟩:=q;obtain⟨e1,e2⟩:=hq;cases e1;exact⟨qv,rfl,e2⟩
  |succ i=>exact ih (by simpa using e)
theorem mQ{X:Cx}{pr:List (Addr×Obj)}{σ:L2.St}{H:Hp}{s:Shared}{a:Addr}{o:Obj}{ep:Nat}{es:Array DictEntry}{C1:List (Key×V)}(I:Inv X pr σ H s)(hd:o.data=.dict es ep)(ha:H a=some (.frz o (.dK C1))):
  s.heap.get? a=some o/\∃vs,KV C1 vs/\s.heap.DictAt (mixKind X.prog X.w) a vs ep:=by
 obtain⟨ho,z,nm,vs,r,o',Gb,JQ,g1,ex,dat,aE⟩:=(show ObjOk X.prog X.w H s.heap a (.frz o (.dK C1)) from I.hok a _ ha)
 have e:=g1.symm.trans ho;cases e;have e2:=dat.symm.trans hd;cases e2;exact⟨ho,vs,r,o,es,ho,ex,hd,aE⟩
theorem sX{X:Cx}{pr:List (Addr×Obj)}{σ:L2.St}{H:Hp}{s:Shared}{a:Addr}{o:Obj}{C1:List (Key×V)}(I:Inv X pr σ H s)(ha:H a=some (.dK C1))(ho:s.heap.get? a=some o):Inv X pr σ (upd H a (.frz o (.dK C1))) s:=by
 have ok:=(show ObjOk X.prog X.w H s.heap a (.dK C1) from I.hok a _ ha)
 have nt:∀c xs,H c=some (.tup xs)->c≠a:=fun c xs e z=>by rw[z,ha]at e;cases e
 have nf:∀c q u,H c=some (.frz q u)->c≠a:=fun c q u e z=>by rw[z,ha]at e;cases e
 have nb:∀c ps,H c=some (.tbl ps)->c≠a:=fun c ps e z=>by rw[z,ha]at e;cases e
 have no:∀c b,H c=some (.own b)->c≠a:=fun c b e z=>by rw[z,ha]at e;cases e
 have S0:Inv X pr σ (upd H a (.frz o (.dK C1))) {s with heap:=s.heap,gens:=s.gens,drawn:=s.drawn,toks:=s.toks}:=by
  refine I.step (ch:=[]) (fun c hc=>nomatch hc) (fun c q _ _ _ e _=>e) (fun c q _ _ _ e _=>⟨q.slots,e⟩) (fun c q _ e n=>?_) (fun c q _ e=>⟨q,e⟩)
   (fun c l e=>by rw[ai (nt c l e)];exact e) (fun c q u e=>by rw[ai (nf c q u e)];exact e) (fun c ps e=>⟨#[],by rw[ai (nb c ps e),e];simp⟩) (fun m hm=>hm) (fun c ob e=>?_) I.bare
  ·have:c≠a:=fun z=>by rw[z,ha]at n;cases n
   rw[ai this];exact n
  ·by_cases ec:c=a
   ·subst ec;rw[aw]at e;cases e;exact⟨ho,ok.stay (fun _ _ _ q=>q) (fun d q=>by rw[ai (no d _ q)];exact q) fun d l q=>by rw[ai (nt d l q)];exact q⟩
   ·rw[ai ec]at e;exact(I.hok c ob e).stay (fun _ _ _ q=>q) (fun d q=>by rw[ai (no d _ q)];exact q) fun d l q=>by rw[ai (nt d l q)];exact q
 exact S0
end NX
namespace PV
open PySem PySem.Spec PyProof.Rows L2 NX
section
variable{X:Cx}
theorem qe:∀{xs:List V}{us:List Value},xs.length=us.length->(∀(i:Nat) (a:V) (b:Value),xs[i]?=some a->us[i]?=some b->RelV a b)->Vals xs us
 |[],[],_,_=>.nil
 |x::xs,u::us,hl,h=>.cons (h 0 x u rfl rfl) (qe (by simpa using hl) fun i a b ha hb=>h (i+1) a b (by simpa using ha) (by simpa using hb))
 |[],_::_,hl,_=>by simp at hl
 |_::_,[],hl,_=>by simp at hl
end
end PV
namespace NX
open PySem PySem.Spec PyProof.Rows L2
section
variable{prog:Program}{w:World}{A:Around}{E:Value->Shared->Prop}{s:Shared}
theorem wG:typeLookup (.type "list_reverseiterator") "__len__" = pure none:=by rw[typeLookup_type,builtinLookup_eq_fast];kernel_rfl
theorem sY:typeLookup (.type "list_reverseiterator") "__length_hint__" = pure (some (.builtin "list_reverseiterator.__length_hint__")):=by rw[typeLookup_type,builtinLookup_eq_fast];kernel_rfl
theorem sZ{r:Addr}{Q:Bool->Shared->Prop}(hT:s.TypeIs (.ref r) "list_reverseiterator")(h:Q false s):wpAny (model prog w) A (Builtin.List.listLengthHint (.ref r)) Q E s:=by
 unfold Builtin.List.listLengthHint;refine Oe (SE hT wG ?_);show wpAny _ _ (specialOf (Value.ref r) (Str.ofString "__length_hint__") >>= _) _ _ _;refine Oe (SE hT sY ?_);generalize hid:("list_reverseiterator.__length_hint__" : String)=id0
 wp_delta
 rw[show splitId id0=some ("list_reverseiterator","__length_hint__") from by subst hid;decide +kernel];subst hid;refine Oe (wpAny_isInstance (T:="list_reverseiterator") (b:=true) hT (by rw[isSubtype_type];kernel_rfl) ?_);refine RI (fun Hc=>absurd Hc (by decide)) (fun _=>?_);refine RI (fun _=>?_) (fun Hc=>absurd (by decide +kernel) Hc);refine RI (fun Hc=>absurd Hc (by decide +kernel)) (fun _=>?_);exact Ox h
end
section
variable{prog:Program}{w:World}{A:Around}{E:Value->Shared->Prop}{s:Shared}
theorem wH{R:Result->Shared->Prop}{I l:Addr}{items:Array Value}(hh:A.handled=none)(HW:l≠I)(S:Addr)(NR:S≠I)(hSl:S≠l)(c0:Nat)(hI:s.heap.IsRevIter I l ((items.size:Int)-1))(hl:s.heap.IsList l items)(hS:s.heap.get? S=some {cls:=.type "list",data:=.seq #[] c0})(hn:items.size<=sizeLine)
  (hR:∀h' tk E6 c',(∀b o,b≠S->b≠I->s.heap.get? b=some o->h'.get? b=some o)->h'.get? S=some {cls:=.type "list",dict:=none,data:=.seq E6 c',slots:=#[]}->ItemsOf (fun i v=>items[items.size-1-i]?=some v) E6 items.size->R (.ok (.ret .none)) {s with heap:=h',toks:=tk}):
  wpAny (model prog w) A.in1 (Builtin.List.listExtendWith (.ref S) (.ref I) .none)
   (fun fin s'=>match fin with | .done f=>R (.ok f) s' | .again c'=>c'.quiet=true/\codeAny (model prog w) A c' R s') (fun e s'=>R (.error e) s') s:=by
 have W:Walks prog w A.in1 I [I,l] [I] items.size (fun i v=>items[items.size-1-i]?=some v) (fun i h=>i<=items.size/\h.IsRevIter I l ((items.size:Int)-1-(i:Int))/\h.IsList l items):=Walks.listRev (A:=A.in1) (show A.in1.handled=none from hh) I l HW items;have st:(fun(i:Nat) (h:Heap)=>i<=items.size/\h.IsRevIter I l ((items.size:Int)-1-(i:Int))/\h.IsList l items) 0 s.heap:=⟨Pn _,by rw[show(items.size:Int)-1-((0:Nat):Int)=(items.size:Int)-1 by lia];exact hI,hl⟩
 have hT:=hI.typeIs;have hSf:S∉[I,l]:=by simp only[Ov,Pg,Rx,not_or];exact⟨NR,hSl⟩
 unfold Builtin.List.listExtendWith;refine Oe (Sv hT ?_);have h1:Builtin.List.listSameRef (.ref S) (.ref I)=false:=by simp[Builtin.List.listSameRef,NR]
 have h2:(Value.type "list_reverseiterator" == Value.type "list")=false:=by decide
 have h3:(Value.type "list_reverseiterator" == Value.type "tuple")=false:=by decide
 simp only[h1,h2,h3,Tn,RK,SQ];refine Oe (wpAny_pyIter_revIter hI ?_);refine Oe (RZ (sZ hT ?_));refine RI (fun Hc=>absurd Hc (by decide)) (fun _=>Ox ⟨plainId_quiet PySem.F.plain_extend_loop _,?_⟩);refine codeAny_extend_loopS W.toS hn S hSf .none items.size 0 _ #[] c0 rfl (Pn _) st hS (ItemsOf.nil _) fun s' E6 c' hm M8 EW=>?_
 rw[Moved.eq_with hm];refine hR s'.heap s'.toks E6 c' (fun b o hb NS e=>hm.heap b o (fun Kb=>?_) e) M8 EW;rcases Ov.mp Kb with e'|Kb
 ·exact hb e'
 ·exact NS (Pb.mp Kb)
theorem tf{Q:Value->Shared->Prop}{I l:Addr}{items:Array Value}(hh:A.handled=none)(HW:l≠I)(hI:s.heap.IsRevIter I l ((items.size:Int)-1))(hl:s.heap.IsList l items)(hn:items.size<=sizeLine)
  (hQ:∀h' tk E6 c',(∀b o,b≠I->s.heap.get? b=some o->h'.get? b=some o)->h'.get? s.heap.objs.size=some {cls:=.type "list",dict:=none,data:=.seq E6 c',slots:=#[]}->ItemsOf (fun i v=>items[items.size-1-i]?=some v) E6 items.size->Q (.ref s.heap.objs.size) {s with heap:=h',toks:=tk}):
  wpAny (model prog w) A (call (.type "list") [.ref I]) Q E s:=by
 refine callType_codes (Q₁:=fun obj s₁=>obj=.ref s.heap.objs.size/\s₁={s with heap:=s.heap.push {cls:=.type "list",data:=.seq #[]}}) PySem.F.called_list (PySem.F.typeCall_list_1 _) PySem.F.entry_list_init
  (code_list_new _ ⟨rfl,rfl⟩) fun obj s₁ h₁=>?_
 obtain⟨rfl,rfl⟩:=h₁;have hS:(s.heap.push {cls:=.type "list",data:=.seq #[]}).get? s.heap.objs.size=some {cls:=.type "list",data:=.seq #[]}:=Ow _ rfl;obtain⟨oI,gI,_⟩:=id hI;obtain⟨ol,gl,_⟩:=id hl;have nI:s.heap.objs.size≠I:=Qy (Ou gI);have nl:s.heap.objs.size≠l:=Qy (Ou gl);refine⟨⟨_,hS,rfl⟩,PySem.F.args_list_init_2 _ _,?_⟩;show wpAny _ A.in1.in1 (do let old <-Builtin.List.listItems (.ref s.heap.objs.size);Builtin.List.listUpdate (.ref s.heap.objs.size) (fun _=>#[]);letGo old.toList.reverse;Builtin.List.listExtendWith (.ref s.heap.objs.size) (.ref I) .none) _ _ _;refine Oe ?_;unfold Builtin.List.listItems;refine Oe (Qa hS rfl (Ox ?_));show wpAny _ _ (updateSeq s.heap.objs.size (fun _=>#[]) >>= fun _=>letGo (#[]:Array Value).toList.reverse >>= fun _=>Builtin.List.listExtendWith (.ref s.heap.objs.size) (.ref I) .none) _ _ _;refine Oe (wpAny_updateSeq hS rfl ?_);have hS2:=Rj (Obj.mapSeq (fun _=>(#[]:Array Value))) hS rfl;have oth:∀b o,b≠s.heap.objs.size->s.heap.get? b=some o->((s.heap.push {cls:=.type "list",data:=.seq #[]}).update s.heap.objs.size (Obj.mapSeq (fun _=>(#[]:Array Value)))).get? b=some o:=
  fun b o hb e=>(Ra _ _ (Qb hb)).trans (Oi _ e)
 refine Oe (R4 ?_);refine wH (A:=A.in1) hh HW _ nI nl _ (hI.at fun o e=>oth I o (Qb nI) e) (hl.at fun o e=>oth l o (Qb nl) e) hS2 hn fun h' tk E6 c' hk M8 EW=>?_
 exact⟨rfl,hQ h' tk E6 c' (fun b o hb e=>hk b o (OC (Ou e)) hb (oth b o (OC (Ou e)) e)) M8 EW⟩
end
section
variable{X:Cx}{e:Expr}{ta:TA}{p p2 pos E7:Pos}
def CF(K:W.Frag)(ta:TA):TE:=fun σ H Q=>ta σ H fun vs H1=>∃a xs,vs=[.ref a]/\SqL K H1 a xs/\∀l,H1 l=none->Q (.ref l) (upd H1 l (.lst xs.reverse))
theorem y9(hc:X.calm=true)(hg:Gl X "list")(hm:X.mg "list" = none)(Lu:Gl X "reversed")(JA:X.mg "reversed" = none)(ha:PA X [e] ta)
  (he:starEach [.Call (.Name "reversed" p2) [e] [] E7] X.env=(false,eval (.Call (.Name "reversed" p2) [e] [] E7) X.env)::starEach [] X.env:=by rfl) (Es:(backTo pos (starEach [] X.env)).any (·.1)=false:=by rfl)
  (M9:starEach [e] X.env=(false,eval e X.env)::starEach [] X.env:=by rfl) (Kc:(backTo E7 (starEach [] X.env)).any (·.1)=false:=by rfl):
  PE X (.Call (.Name "list" p) [.Call (.Name "reversed" p2) [e] [] E7] [] pos) (CF X.K ta):=by
 intro pr s σ H Q I h;refine P5 (gH I hg hm (by decide +kernel:bootBuiltins "list" = some (.type "list")) ?_ (by decide) (by decide));refine Pm ?_ he Es;rw[he];show wpAny _ _ (spliced ((false,eval (.Call (.Name "reversed" p2) [e] [] E7) X.env)::backTo pos (starEach [] X.env))) _ _ s;refine Calls.spliced_cons ?_;refine P5 (gH I Lu JA (by decide +kernel:bootBuiltins "reversed" = some (.type "reversed")) ?_ (by decide) (by decide));refine Pm (Dn (ha E7 pr s σ H _ I h) fun us s1 ⟨vs,H1,I1,r1,a,xs,ev,sq,q⟩=>?_) M9 Kc;subst ev;obtain⟨u,rfl,ra⟩:=j6 r1;cases ra;obtain⟨C3,r',pl,hz⟩:=I1.list sq;have hl:=pl.isList;have hlen:=r'.length;refine call_reversed_list hl ?_;refine Calls.spliced_nil ?_;obtain⟨ol,gl,_⟩:=id hl;refine tf (I1.ok.hd hc) (OC (Ou gl)) ⟨_,Ow _ rfl,rfl,rfl⟩ (hl.at fun o e=>Oi _ e) (by simp only[Of];lia) fun h' tk E6 c' hk hS EW=>?_
 refine⟨.ref _,_,I1.laid (o:=.lst xs.reverse) (t':=tk) (fun b o e=>hk b o (OC (Ou e)) (Oi _ e)) (by rw[Pa];exact QV _) ⟨by rw[QX];exact hz,E6.toList,c',?_,by rw[Array.toArray_toList];exact hS⟩,rfl,q _ (I1.hok.fresh (by rw[Pa];exact QV _))⟩;have hs:C3.toArray.size=xs.length:=by rw[Of];exact hlen.symm
 refine PV.qe (by rw[QX];exact(hs.symm.trans (EW.1.symm.trans (PN (xs:=E6)).symm))) fun i x y hx hy=>?_
 rw[Sy]at hy;have hb:=EW.2 i y hy;have hi:i<xs.length:=by have:=(Om.mp hx).1;rw[QX]at this;exact this
 rw[List.getElem?_reverse hi]at hx;rw[hs,List.getElem?_toArray]at hb;obtain⟨u,hu,ru⟩:=r'.get hx;rw[hb]at hu;cases hu;exact ru
end
end NX
namespace PV
open PySem PySem.Spec PyProof.Rows L2 NX
theorem Reps.rev{K:W.Frag}{G:Hp}:∀{ds:List D}{xs:List V},Reps K G ds xs->Reps K G ds.reverse xs.reverse
 |[],xs,r=>by rw[Reps]at r;rw[r];exact .nil
 |d::ds,xs,r=>by
  rw[Reps]at r;obtain⟨y,ys,e,r1,r2⟩:=r;subst e;rw[List.reverse_cons,List.reverse_cons];exact(Reps.rev r2).app (.one r1)
def Aq:List D->Res R
 |[.lst ds]=>.ok (.l .f,.lst ds.reverse)
 |_=>.bad
section
variable{X:Cx}{e:Expr}{fs:FOs}{p p2 pos E7:Pos}
theorem ti{K:W.Frag}{σ:L2.St}{H:Hp}{Q Q':List V->Hp->Prop}(h:tOs K fs σ H Q)(k:∀vs H,Q vs H->Q' vs H):tOs K fs σ H Q':=by
 obtain⟨G,env,fp,o,env',rel,e,q⟩:=h;exact⟨G,env,fp,o,env',rel,e,fun vs H' G' C6 st DN ok=>k _ _ (q vs H' G' C6 st DN ok)⟩
theorem za(hc:X.calm=true)(hg:Gl X "list")(hm:X.mg "list" = none)(Lu:Gl X "reversed")(JA:X.mg "reversed" = none)(ha:Hu X [e] fs)
  (he:starEach [.Call (.Name "reversed" p2) [e] [] E7] X.env=(false,eval (.Call (.Name "reversed" p2) [e] [] E7) X.env)::starEach [] X.env:=by rfl) (Es:(backTo pos (starEach [] X.env)).any (·.1)=false:=by rfl)
  (M9:starEach [e] X.env=(false,eval e X.env)::starEach [] X.env:=by rfl) (Kc:(backTo E7 (starEach [] X.env)).any (·.1)=false:=by rfl):
  QE X (.Call (.Name "list" p) [.Call (.Name "reversed" p2) [e] [] E7] [] pos) (bA Aq fs):=
 a8 (y9 hc hg hm Lu JA ha he Es M9 Kc) fun σ H Q h=>by
  refine ti (lI h) fun xs H1 Dl=>?_
  obtain⟨G,fp,es,vs,ds,r,⟨rel,k⟩,vd,e⟩:=Dl;unfold Aq at e;split at e
  ·rename_i ds;cases e;obtain⟨v,ev,p,ys,ep,sq,rs⟩:=pR vd;subst ev ep;refine⟨p,ys,rfl,sq,fun q hq=>?_⟩;obtain⟨C4,De⟩:=rel.newL hq rs.rev;exact k _ _ G _ De C4
  ·cases e
end
noncomputable def compLE(a:FG)(c:FT)(f:FX):List D->PV.Env->Res (List D×PV.Env)
 |[],env=>.ok ([],env)
 |d::ds,env=>(a d env).bind fun e=>(c e).bind fun p=>if p.1 then(f p.2).bind fun q=>(compLE a c f ds q.2).bind fun rs=>.ok (q.1.2::rs.1,rs.2) else compLE a c f ds p.2
def Ar(a:FG)(c:FT)(f:FX)(ds:List D)(E:Addr->PV.Env)(k0:Nat)(x:List D×List D):Prop:=∀q,∃C8,compLE a c f ds (E q)=.ok (x.1,C8)/\C8[k0]?=some (some (.pin q (.l .f),.lst x.2))
open Classical in
def lT(a:FG)(c:FT)(f:FX)(ds:List D)(E:Addr->PV.Env)(k0:Nat):Res (List D×List D):=if h:∃x,Ar a c f ds E k0 x then .ok h.choose else .bad
theorem tj{a:FG}{c:FT}{f:FX}{ds:List D}{E:Addr->PV.Env}{k0:Nat}{x:List D×List D}(h:Ar a c f ds E k0 x):lT a c f ds E k0=.ok x:=by
 have ex:∃x,Ar a c f ds E k0 x:=⟨x,h⟩
 unfold lT;rw[Vx ex];obtain⟨e1,h1,h2⟩:=ex.choose_spec 0;obtain⟨e2,h3,h4⟩:=h 0;rw[h1]at h3;have h5:=Res.ok.inj h3;have h6:=P0 Prod.fst h5;have h7:=P0 Prod.snd h5;dsimp only at h6 h7;subst h7;rw[h2]at h4;injection h4 with h4;injection h4 with h4;injection h4 with _ h4;injection h4 with h4;have:ex.choose=x:=Prod.ext h6 h4;rw[this]
theorem tm{a:FG}{c:FT}{f:FX}{ds:List D}{E:Addr->PV.Env}{k0:Nat}{x:List D×List D}(h:lT a c f ds E k0=.ok x):Ar a c f ds E k0 x:=by
 unfold lT at h;split at h
 ·rename_i ex;cases h;exact ex.choose_spec
 ·cases h
noncomputable def mR(fi:FI)(ix:List (Option Nat))(j k0:Nat)(a:FG)(c:FT)(f:FX):FX:=fun env=>(fi env).bind fun p=>match p.2[j]? with
 |some (some (ow,.lst d0))=>if isLf ow then(lT a c f p.1 (fun q=>(ba ix (p.2.set j none)).set k0 (some (.pin q (.l .f),.lst d0))) k0).bind fun x=>if x.1.length<=sizeLine/\Dc x.1=true/\Dc x.2=true then .ok ((.l .f,.lst x.1),p.2.set j (some (ow,.lst x.2))) else .bad else .bad
 |_=>.bad
theorem zb{K:W.Frag}{fi:FI}{ix:List (Option Nat)}{j k0:Nat}{a:FG}{c:FT}{f:FX}{σ:L2.St}{H:Hp}{Q:VK}(hk:ix[k0]?=some (some j))(h:tQ K (mR fi ix j k0 a c f) σ H Q):nU (tQI K fi) ix (tQG K a) (tQT K c) (tQ K f) σ H Q:=by
 obtain⟨G,env,fp,r,env',rel,e,k⟩:=h;obtain⟨⟨ds,C2⟩,e1,e⟩:=ah e;refine⟨G,env,fp,ds,C2,rel,e1,fun J H1 G1 Ds Dj C5 wk D hD=>?_⟩;dsimp only at e;split at e
 ·rename_i ow d0 hj;split at e
  ·rename_i hlf;obtain⟨⟨rs,d'⟩,e2,e⟩:=ah e;dsimp only at e;split at e
   ·rename_i hz;cases e;obtain⟨v0,aa,b,ev,r0,r2,pm⟩:=C5.rep.take hj;obtain⟨q,Na,eq,hq,ea,Nb,mk⟩:=uN hlf r0;subst eq ea;have nd:=ON.mp (pm.nodup_iff.mp C5.nd);have GL:Rel K G1 H1 (C2.set j none) σ b:=⟨r2,nd.2.1,fun w hw=>C5.gn w (pm.mem_iff.mpr (Oj _ hw)),C5.gh⟩
    obtain⟨G2,Hv,IF,LJ,E5,EA⟩:=GL.lendM [q] (fun w hw hb=>nd.2.2 w hw w hb rfl) (fun w hw=>C5.gn w (pm.mem_iff.mpr (Oo _ hw)));have rE:=cH (H:=H1) E5 (fun i r er=>let⟨v,ev,_⟩:=GL.view er;⟨v,ev⟩) ix;have KR:(ba ix (C2.set j none))[k0]?=some none:=by
     unfold ba;rw[OG,hk];show some (match(C2.set j none)[j]? with|some (some r)=>some (O.f,r.2)|_=>none)=_;rw[Pj (Om.mp hj).1]
    have FQ:(cV ix σ)[k0]?=some (some (.ref q)):=by
     unfold cV;rw[OG,hk];show some ((σ[j]?).bind id)=_;rw[ev];rfl
    have rP:RepO K G2 H1 (.pin q (.l .f)) (.lst d0) (.ref q) [q]:=by
     rw[RepO];exact⟨rfl,bz.mpr ⟨q,Na,rfl,hq,rfl,Nb.mono Hv⟩⟩
    obtain⟨LK,LM,Kd⟩:=rE.put (i:=k0) (r:=(.pin q (.l .f),.lst d0)) (v:=.ref q) KR rP;rw[eP FQ]at LM;have C4:Rel K G2 H1 ((ba ix (C2.set j none)).set k0 (some (.pin q (.l .f),.lst d0))) (cV ix σ) LK:=⟨LM,Kd.symm.nodup_iff.mp (OU.mpr ⟨Pg,QL⟩),(fun w hw=>LJ w (by have:=Kd.mem_iff.mp hw;simpa using this)),IF⟩
    have Hx:Step G2 H1 [q] G2 H1 LK:=Step.cut fun w hw=>by have:=Kd.mem_iff.mp hw;simpa using this
    obtain⟨DG,Dv⟩:=C4.newL (ds:=[]) (xs:=[]) hD .nil;obtain⟨HX,eL,eK⟩:=tm e2 q;dsimp only at eL eK;refine⟨fun i m σ1 H2=>m=ds.length-i/\i<=ds.length/\∃G' es C6 acc aE,Step G2 H1 [q] G' H2 C6/\Rel K G' H2 (some (.l .f,.lst acc)::es) (some (.ref D)::σ1) C6/\compLE a c f (ds.drop i) es=.ok (aE,HX)/\acc++aE=rs,
     ⟨_,rfl,Pn _,G2,_,_,[],rs,Hx.trans Dv,DG,eL,rfl⟩,?_⟩
    rintro i m σ1 H2 ⟨rfl,hi,G3,es,Eu,acc,aE,DQ,DV,e4,Ea⟩;obtain⟨w1,w2⟩:=wk G3 H2 _ _ _ (Hv.trans DQ.gg) DV i;by_cases DH:i<ds.length
    ·have hd:ds[i]?=some ds[i]:=Ol DH;obtain⟨go,yl⟩:=w1 _ hd;rw[Ph DH]at e4;unfold compLE at e4;obtain⟨JD,h1,e4⟩:=ah e4;obtain⟨⟨b',Gk⟩,h2,e4⟩:=ah e4;dsimp only at e4;refine .inr ⟨go,fun x H3 y=>?_⟩;obtain⟨G4,rx,D2,Ei⟩:=yl x H3 y;obtain⟨fa,fb,Hw,ra,FV,bk⟩:=D2.frame;refine⟨G4,es,fb,ds[i],JD,FV,rx,h1,fun σ2 G5 HN Lw HP=>?_⟩;refine⟨G5,JD,HN,b',Gk,HP,h2,fun H6 G6 JE Lx Gm=>?_⟩;have Gn:=Lw.trans Lx;cases b' with
     |false=>
      refine iteF ⟨ds.length-(i+1),by lia,rfl,DH,?_⟩;obtain⟨Ew,Fh⟩:=bk G6 H6 Gk σ2 JE Gn Gm;rw[<-Hw]at Fh;exact⟨G6,Gk,_,acc,aE,DQ.trans (Ei.trans Fh),Ew,e4,Ea⟩
     |true=>
      have e4:((f Gk).bind fun q=>(compLE a c f (ds.drop (i+1)) q.2).bind fun rs=>.ok (q.1.2::rs.1,rs.2))=.ok (aE,HX):=e4;obtain⟨⟨r,HQ⟩,h3,e4⟩:=ah e4;obtain⟨⟨Gp,LN⟩,h4,e4⟩:=ah e4;cases e4;refine xB ⟨G6,Gk,JE,r,HQ,Gm,h3,fun v H7 G7 NN Ly HR=>?_⟩;obtain⟨G8,Lz,rv,HS,LA⟩:=HR.freeze;obtain⟨Ew,Fh⟩:=bk G8 H7 HQ σ2 Lz (Gn.trans (Ly.trans LA)) HS;rw[<-Hw]at Fh;obtain⟨p,xs,ep,hp,HG,cg⟩:=Ew.chg (i:=0) (ds:=acc) (ds':=acc++[r.2]) rfl;have ep:some (some (V.ref D))=some (some (V.ref p)):=ep;cases ep;obtain⟨fq,HU,LB⟩:=cg (xs++[v]) (HG.app (.one rv));refine⟨xs,hp,?_,ds.length-(i+1),by lia,rfl,DH,G8,HQ,fq,acc++[r.2],Gp,DQ.trans (Ei.trans (Fh.trans LB)),HU,h4,?_⟩
      ·rw[HG.length];have:=P0 List.length Ea;rw[O8,OA]at this;have:=hz.1;lia
      ·rw[<-Ea,OX];rfl
    ·have ei:i=ds.length:=by lia
     subst ei;rw[Qi]at e4;cases e4;rw[OK]at Ea;subst Ea;refine .inl ⟨w2 rfl,?_⟩;obtain⟨fa,fb,Hw,ra,FV,bk⟩:=DV.frame;obtain⟨v1,fq1,Ke,HV,LD,_⟩:=FV.out eK;obtain⟨fx,HY,stx⟩:=HV.only;have Lp:v1=.ref q:=by
      obtain⟨y,ys,ey,v2,a2,b2,Kf,LO,Gq,LP⟩:=HY.rep;cases ey;cases Kf;have Gq:RepO K G3 H2 (.pin q (.l .f)) (.lst d') v1 a2:=Gq;rw[RepO]at Gq;exact Gq.1
     subst Lp;obtain⟨Ew,Fh⟩:=bk G3 H2 _ _ fx (LD.trans stx) HY;rw[<-Hw]at Fh;obtain⟨G5,HN,Ei,D2⟩:=EA H2 G3 _ _ _ (DQ.trans Fh) Ew (fun w hw=>by
      rcases Ov.mp hw with hw|hw
      ·cases hw;rw[aH,dA];exact hz.2.1
      ·rw[Pb]at hw;cases hw;rw[aH,aH,dA];exact hz.2.2)
     obtain⟨a1,b1,ef,ro,DB,comb⟩:=Rel.frame D2;have HZ:Rel K G5 H2 (some (ow,.lst d')::C2.set j none) (some (.ref q)::σ) b1:=by
      obtain⟨y2,ys2,Nc,v2,a2,b2,Kf,LO,Gq,LP⟩:=DB.rep;cases Nc;cases Kf;have Gq:RepO K G5 H2 (.pin q (.l .f)) (.lst d') (.ref q) a2:=Gq;rw[RepO]at Gq;obtain⟨q',zs,eq',Kg,ea',rz⟩:=bz.mp Gq.2;cases eq';subst ea';have r3:RepO K G1 H1 ow (.lst d0) (.ref q) [q]:=r0;refine⟨⟨_,_,rfl,_,[q],b2,rfl,LO,?_,LP⟩,DB.nd,DB.gn,DB.gh⟩;show RepO K G5 H2 ow (.lst d') (.ref q) [q];unfold isLf at hlf;split at hlf
      ·exact bz.mpr ⟨q,zs,rfl,Kg,rfl,rz⟩
      ·rw[RepO]at r3 ⊢;exact⟨r3.1,bz.mpr ⟨q,zs,rfl,Kg,rfl,rz⟩⟩
      ·cases hlf
     obtain⟨fq,GN,LQ⟩:=HZ.back (i:=j) (by rw[O1];exact(Om.mp hj).1) ev;rw[P2]at GN;obtain⟨Hm,JG⟩:=comb G5 H2 _ _ fq LQ GN;rw[<-ef]at JG;exact k _ H2 G5 _ (Dj.trans ((Ei.perm (fun w=>pm.mem_iff.symm) (fun w hw=>hw)).trans JG)) Hm
   ·cases e
  ·cases e
 ·cases e
end PV
namespace NX
open PySem PySem.Spec PyProof.Rows L2
section
open PySem.AutoSeq1 (wpAny_loadPart')
theorem hJ:fillsNumberSlot (.type "tuple") "mul" = pure false:=
 PySem.fillsNumberSlot_seq (id:="tuple.__mul__") (r:=some (.builtin "tuple.__rmul__")) F.slot_tuple_mul.lookup (by decide +kernel) F.slot_tuple_rmul.lookup (by decide +kernel)
theorem kH:seqRepeat? (.type "tuple")=pure (some (.builtin "tuple.__mul__")):=by
 unfold seqRepeat?;rw[PySem.seqSlot_of (T:="tuple") (name:="__mul__") (id:="tuple.__mul__") F.slot_tuple_mul.lookup (by decide +kernel),PySem.seqSlot_of (T:="tuple") (name:="__rmul__") (id:="tuple.__rmul__") F.slot_tuple_rmul.lookup (by decide +kernel)];rfl
theorem kI(a:Int)(t:Tok)(l:Addr)(items:Array Value)(n:Nat)(dd:Option Addr)(sl:Array (Option Value)):
  Meets (Builtin.«int.__rmul__» ⟨[.int a t,.ref l],[]⟩)
   (fun _ R s=>s.heap.get? l=some {cls:=.type "tuple",dict:=dd,data:=.seq items n,slots:=sl}/\R (.ok (.ret .notImplemented)) s):=
 .of_wp fun prog w A R s h=>by
  obtain⟨hp,g,d,tk,os⟩:=s;obtain⟨hl,h⟩:=h
  wp_walk using wpAny_loadPart' hl
  exact⟨_,rfl,h⟩
theorem qf(l:Addr)(items:Array Value)(n:Nat)(dd:Option Addr)(sl:Array (Option Value))(x:Int)(u:Tok)(HW:items.isEmpty=false)(h0:x=0):
  Meets (Builtin.«tuple.__mul__» ⟨[.ref l,.int x u],[]⟩)
   (fun _ R s=>s.heap.get? l=some {cls:=.type "tuple",dict:=dd,data:=.seq items n,slots:=sl}/\R (.ok (.ret (.ref s.heap.objs.size))) {s with heap:=s.heap.push {cls:=.type "tuple",data:=.seq #[]}}):=
 .of_wp fun prog w A R s h=>by
  obtain⟨hp,g,d,tk,os⟩:=s;obtain⟨hl,h⟩:=h;subst h0
  wp_walk using wpAny_loadPart' hl
  exact⟨_,rfl,h⟩
theorem qg(l:Addr)(items:Array Value)(n:Nat)(dd:Option Addr)(sl:Array (Option Value))(u:Tok):
  Meets (Builtin.«tuple.__mul__» ⟨[.ref l,.int 1 u],[]⟩)
   (fun _ R s=>s.heap.get? l=some {cls:=.type "tuple",dict:=dd,data:=.seq items n,slots:=sl}/\R (.ok (.ret (.ref l))) s):=
 .of_wp fun prog w A R s h=>by
  obtain⟨hp,g,d,tk,os⟩:=s;obtain⟨hl,h⟩:=h
  wp_walk using wpAny_loadPart' hl
  exact⟨_,rfl,h⟩
theorem qh(l:Addr)(items:Array Value)(n:Nat)(dd:Option Addr)(sl:Array (Option Value))(x:Int)(u:Tok)(HW:items.isEmpty=false)(h2:(x==1)=false)(h3:¬ x<=0)(h4:x<2 ^ 63)(h5:¬ (items.size:Int)*x>(2 ^ 63-1) / 8)(h6:((List.replicate x.toNat items).foldl (fun a b=>a++b) #[]).size<=sizeLine)(h7:(items.size:Int)*x<=10000):
  Meets (Builtin.«tuple.__mul__» ⟨[.ref l,.int x u],[]⟩)
   (fun _ R s=>s.heap.get? l=some {cls:=.type "tuple",dict:=dd,data:=.seq items n,slots:=sl}/\R (.ok (.ret (.ref s.heap.objs.size))) {s with heap:=s.heap.push {cls:=.type "tuple",data:=.seq ((List.replicate x.toNat items).foldl (fun a b=>a++b) #[])}}):=
 .of_wp fun prog w A R s h=>by
  obtain⟨hp,g,d,tk,os⟩:=s;obtain⟨hl,h⟩:=h
  wp_walk using wpAny_loadPart' hl
  rw[OD (by rw[RE,OR,OR];lia)]
  wp_walk using wpAny_loadPart' hl
  rw[OD h5]
  wp_walk
  rw[OD (by unfold Builtin.Tuple.tupleTooMany;rw[OR,QU];lia)]
  wp_walk
  exact⟨_,rfl,h⟩
end
end NX
namespace PV
open PySem PySem.Spec PyProof.Rows L2 NX
section
variable{X:Cx}
inductive rRepU(K:W.Frag)(x:V)(y:V)(H:Hp)(Q:VK):Prop
 |mk:∀l k xs,x=.ref l->y=.int k->SqT K H l xs->xs≠[]->0<=k->k<1000->xs.length<=10->((k=1->Q (.ref l) H))->((k≠1->∀p,H p=none->Q (.ref p) (upd H p (.tup (List.replicate k.toNat xs).flatten))))->rRepU K x y H Q
theorem wI:DK X (binaryOp .Mult) (rRepU X.K):=by
 intro pr s σ H x y v u Q I rx ry h;obtain⟨l,k,xs,rfl,rfl,hH,HW,h1,h2,hz,q1,q2⟩:=h;cases rx;obtain⟨t,rfl⟩:=ry;obtain⟨C3,r,p1,_⟩:=I.tuple hH;have hl:=r.length;obtain⟨⟨cls,dd,data,sl⟩,ho,hc,n,hd⟩:=id p1;simp only at hc hd;subst hc hd;have LR:C3.toArray.isEmpty=false:=by
  cases C3 with
  |nil=>exact absurd (OY hl) HW
  |cons a r'=>rfl
 refine RP (T:="tuple") (U:="int") (by decide) ⟨_,ho,rfl⟩ (fun s'=>SR s' k t) hJ F.fills_int_mul RH kH F.slot_int_index.lookup
  (Rc RH (SR s k t) F.entry_int_rmul (F.args_int_rmul_2 _ _) (kI k t l C3.toArray n dd sl) ⟨ho,rfl,⟨_,ho,rfl⟩,?_⟩)
 by_cases k0:k=0
 ·subst k0;refine Rc Sb ⟨_,ho,rfl⟩ RV (RM _ _) (qf l C3.toArray n dd sl 0 t LR rfl) ⟨ho,?_⟩;exact⟨.ref _,_,I.laid (o:=.tup []) (t':=s.toks) (fun b o e=>Oi _ e) (Oq _) ⟨Pn _,[],.nil,IsTupN.new _ _⟩,rfl,q2 (by decide) _ (I.hok.fresh (Oq _))⟩
 ·by_cases k1:k=1
  ·subst k1;refine Rc Sb ⟨_,ho,rfl⟩ RV (RM _ _) (qg l C3.toArray n dd sl t) ⟨ho,?_⟩;exact⟨.ref l,H,I,rfl,q1 rfl⟩
  ·have GK:List.foldl (fun x1 x2=>x1++x2) #[] (List.replicate k.toNat C3.toArray)=(List.replicate k.toNat C3).flatten.toArray:=by
    have:=ic C3 k.toNat []
    rw[Pw]at this;exact this
   have hb:(C3.length:Int)*k<=10*1000:=Int.mul_le_mul (by lia) (by lia) h1 (by decide);have hlen:(List.replicate k.toNat C3).flatten.length<=10000:=by
    rw[fB];have:((k.toNat*C3.length:Nat):Int)<=10000:=by
     rw[Int.natCast_mul,Int.toNat_of_nonneg h1,Pu];lia
    lia
   refine Rc Sb ⟨_,ho,rfl⟩ RV (RM _ _) (qh l C3.toArray n dd sl k t LR (by simpa using k1) (by lia) (by lia) (by rw[Of];lia) (by rw[GK,Of,QU];lia) (by rw[Of];lia)) ⟨ho,?_⟩;rw[GK];exact⟨.ref _,_,I.laid (o:=.tup (List.replicate k.toNat xs).flatten) (t':=s.toks) (fun b o e=>Oi _ e) (Oq _) ⟨by rw[fB,hl,<-fB,QU];lia,_,r.rep k.toNat,IsTupN.new _ _⟩,rfl,q2 k1 _ (I.hok.fresh (Oq _))⟩
def tq(a b:D):Res R:=match a,b with
 | .tup ds,.int k=>if ds≠[]/\ds.length<=10/\0<=k/\k<1000 then .ok (.f,.tup (List.replicate k.toNat ds).flatten) else .bad
 |_,_=>.bad
theorem qi:DK X (binaryOp .Mult) (rG X.K tq):=by
 rintro pr s σ H x y v u Q I rx ry ⟨G,fp,es,vs,a,b,r,⟨rel,k⟩,va,vb,e⟩;unfold tq at e;split at e
 ·rename_i ds j;split at e
  ·rename_i hj;cases e;obtain⟨p,xs,e1,h1,r1⟩:=d6 va;subst e1;cases aO vb;refine wI pr s σ H _ _ v u Q I rx ry ⟨p,j,xs,rfl,rfl,aU rel.gh h1,?_,hj.2.2.1,hj.2.2.2,by rw[r1.length];exact hj.2.1,fun e=>?_,fun e q hq=>?_⟩
   ·intro z;have:=r1.length;rw[z]at this;exact hj.1 (OY this.symm)
   ·subst e;refine k _ H G fp .refl (rel.push ?_);have e3:(List.replicate (1:Int).toNat ds).flatten=ds:=by simp
    rw[e3];exact va
   ·obtain⟨C4,De⟩:=rel.newF (u:=.tup (List.replicate j.toNat xs).flatten) hq;refine k _ _ _ fp De (C4.push ?_);rw[Rep];exact⟨q,_,rfl,aw,Reps.mono De.gg (jG r1 j.toNat)⟩
  ·cases e
 ·cases e
end
section
variable{md:Mode}{X:Cx}{scope:Scope}{N:List Str}{tg iter elt:Expr}{ifs:List Expr}{pos:Pos}{fi:FI}{a:FG}{c:FT}{f:FX}{j k0:Nat}
theorem tu(ix:List (Option Nat))(N:List Str)(hc:X.calm=true)(hi:QI X tg iter fi)(hg:∀C s H fp pn,QG (aQ X scope N C s H fp pn) tg a)(ht:∀C s H fp pn,J8 (aQ X scope N C s H fp pn) ifs c)(he:∀C s H fp pn,QE (aQ X scope N C s H fp pn) elt f)
  (Nd:ix[k0]?=some (some j):=by rfl)
  (hf:cE scope X.env=true:=by rfl) (hk:scope.kind=.function:=by rfl) (Dp:∀y∈scope.names,y.2≠.cell:=by decide +kernel) (DA:∀y∈scope.names,y.2=.local->scope.names.lookup y.1=some .local:=by decide +kernel) (D7:lh X scope N ix=true:=by rfl)
  (hs:∀x,foldedSetIterable iter X.env x=pure x:=by intro _;rfl):QE X (.ListComp elt [⟨tg,iter,ifs,0⟩] scope pos) (mR fi ix j k0 a c f):=
 a8 (lD (g:=tQG X.K a) (tc:=tQT X.K c) (te:=tQ X.K f) ix N hc hi hg ht he hf hk Dp DA D7 hs) fun _ _ _=>zb Nd
end
section
variable{X:Cx}{x:Str}{p pos:Pos}{e:Expr}{es:List Expr}{f0:FX}{fs:FOs}
end
section
variable{X:Cx}
end
end PV
namespace NX
open PySem PySem.Spec PyProof.Rows L2
section
variable{prog:Program}{w:World}{A:Around}{R:Result->Shared->Prop}{it:Addr}{fp wr:List Addr}{n:Nat}{Pv:Nat->Value->Prop}{Sx:Nat->Heap->Prop}{kw:List (Str×Value)}
end
section
variable{X:Cx}{e k:Expr}{te tk:TE}{p pos K8:Pos}
end
end NX
namespace PV
open PySem PySem.Spec PyProof.Rows L2 NX
section
variable{X:Cx}
end
section
variable{X:Cx}
end
section
variable{K:W.Frag}{G G' H H':Hp}{es:PV.Env}{vs:L2.St}{fp:List Addr}
theorem Rel.lendM2(q:Rel K G H es vs fp)(a:List Addr)(ha:∀z∈a,z∉fp)(M7:∀z∈a,G z=none):∃G1,Same G G1/\Same G1 H/\(∀z∈a,G1 z=none)/\(∀(i:Nat) (r:R) (v:V),es[i]?=some (some r)->vs[i]?=some (some v)->Rep K G1 r.2 v)/\
  ∀(H2 G2:Hp) (Dw:List Addr) (rs:PV.Env) (ws:L2.St),Step G1 H a G2 H2 Dw->Rel K G2 H2 rs ws Dw->((∀r,some r∈rs->aH r.1 r.2=true)->∃G3 Eu,Step G H (a++fp) G3 H2 Eu/\Rel K G3 H2 (rs++es) (ws++vs) Eu)/\∃G3 Eu,Step G H (a++fp) G3 H2 Eu/\Rel K G3 H2 (rs++es.map PV.frz) (ws++vs) Eu:=by
 have hg:Same G (fun p=>if p∈fp then H p else G p):=fun p u e=>by
  show(if p∈fp then H p else G p)=some u;by_cases hp:p∈fp
  ·rw[Oy hp];exact q.gh p u e
  ·rw[OD hp];exact e
 have hh:Same (fun p=>if p∈fp then H p else G p) H:=fun p u e=>by
  have e:(if p∈fp then H p else G p)=some u:=e;by_cases hp:p∈fp
  ·rw[Oy hp]at e;exact e
  ·rw[OD hp]at e;exact q.gh p u e
 have hk:∀p∈fp,∀u,H p=some u->(fun p=>if p∈fp then H p else G p) p=some u:=fun p hp u e=>by
  show(if p∈fp then H p else G p)=some u;rw[Oy hp];exact e
 refine⟨fun p=>if p∈fp then H p else G p,hg,hh,fun z hz=>?_,fun i r v e ev=>q.rep.rep hg hk e ev,fun H2 G2 Dw rs ws st k=>⟨fun cl=>?_,?_⟩⟩
 ·show(if z∈fp then H z else G z)=none;rw[OD (ha z hz)];exact M7 z hz
 ·have kept:∀p∈fp,H2 p=H p:=fun p hp=>by
   obtain⟨u,hu⟩:=q.rep.live p hp;rw[hu];exact st.keep p u hu fun z=>ha p z hp
  have apart:∀p∈Dw,p∉fp:=fun p hp hf=>by
   rcases st.fpn p hp with z|z
   ·exact ha p z hf
   ·obtain⟨u,hu⟩:=q.rep.live p hf;rw[z]at hu;cases hu
  have g3:Same G (fun p=>if p∈fp then none else G2 p):=fun p u e=>by
   show(if p∈fp then none else G2 p)=some u;rw[OD (fun z=>by rw[q.gn p z]at e;cases e)];exact st.gg p u (hg p u e)
  refine⟨fun p=>if p∈fp then none else G2 p,Dw++fp,⟨g3,fun p u e n=>?_,fun p hp=>?_,fun p u e=>?_,st.there⟩,⟨RepE.append (RepE.clean (fun p u t e=>?_) cl k.rep) (q.rep.step g3 kept),?_,fun p hp=>?_,fun p u e=>?_⟩⟩
  ·exact st.keep p u e fun z=>n (Oo _ z)
  ·rcases OL.mp hp with hp|hp
   ·exact(st.fpn p hp).imp_left (Oo _)
   ·exact .inl (Oj _ hp)
  ·have e:(if p∈fp then none else G2 p)=some u:=e;by_cases hp:p∈fp
   ·rw[Oy hp]at e;cases e
   ·rw[OD hp]at e;rcases st.gnew p u e with z|z|z
    ·have z:(if p∈fp then H p else G p)=some u:=z;rw[OD hp]at z;exact .inl z
    ·exact .inr (.inl (Oo _ z))
    ·exact .inr (.inr z)
  ·show(if p∈fp then none else G2 p)=some u;by_cases hp:p∈fp
   ·exfalso;obtain⟨u',hu,hm⟩:=q.rep.mut p hp;have:=st.gg p u' (hk p hp u' hu);rw[e]at this;cases this;cases u with
    |lst _=>cases t
    |dK _=>cases t
    |dT _=>cases t
    |_=>cases hm
   ·rw[OD hp];exact e
  ·rw[ON];exact⟨k.nd,q.nd,fun p hp z hz e=>apart p hp (e▸hz)⟩
  ·show(if p∈fp then none else G2 p)=none;by_cases hf:p∈fp
   ·rw[Oy hf]
   ·rw[OD hf];rcases OL.mp hp with hp|hp
    ·exact k.gn p hp
    ·exact absurd hp hf
  ·have e:(if p∈fp then none else G2 p)=some u:=e;by_cases hp:p∈fp
   ·rw[Oy hp]at e;cases e
   ·rw[OD hp]at e;exact k.gh p u e
 ·have NT:=hg.trans st.gg;have rf:RepE K G2 H2 (es.map PV.frz) vs []:=q.rep.frz NT fun p hp u e=>st.gg p u (hk p hp u e)
  have ra:=RepE.append k.rep rf;rw[OK]at ra;refine⟨G2,Dw,⟨NT,fun p u e n=>st.keep p u e fun z=>n (Oo _ z),fun p hp=>(st.fpn p hp).imp_left (Oo _),fun p u e=>?_,st.there⟩,⟨ra,k.nd,k.gn,k.gh⟩⟩;rcases st.gnew p u e with z|z|z
  ·have z:(if p∈fp then H p else G p)=some u:=z;by_cases hp:p∈fp
   ·exact .inr (.inl (Oj _ hp))
   ·rw[OD hp]at z;exact .inl z
  ·exact .inr (.inl (Oo _ z))
  ·exact .inr (.inr z)
end
noncomputable def eFunW(c:O)(F:Addr->List D->Res R)(i:Nat)(fs:FOs):FX:=fun env=>(fs env).bind fun p=>match p.1 with
 | .var j::os=>if j=i then(match p.2[i]? with
  |some (some (ow,d0))=>if kG c ow then(iQ (p.2.set i none) os).bind fun ds=>(g9 F c d0 ds).bind fun x=>if aH x.1.1 x.1.2&&aH c x.2 then .ok (x.1,(p.2.set i none).set i (some (ow,x.2))) else .ok (x.1,((p.2.set i none).map frz).set i (some (ow,x.2))) else .bad
  |_=>.bad) else .bad
 |_=>.bad
section
variable{X:Cx}{x:Str}{p pos:Pos}{e:Expr}{es:List Expr}{f0:FX}{fs:FOs}
theorem cJ{F:Addr->List D->Res R}{c:O}{i k:Nat}(C:Ct X.prog X.w X.K X.mg X.base x k (spM X.K c F))(hr:Room k X.A)(hg:Gl X x)(ha:Hu X (e::es) fs)(Fd:(x==("__debug__" : Str))=false:=by decide)
  (he:starEach (e::es) X.env=(false,eval e X.env)::starEach es X.env:=by rfl) (Es:(backTo pos (starEach es X.env)).any (·.1)=false:=by rfl):QE X (.Call (.Name x p) (e::es) [] pos) (eFunW c F i fs):=
 a8 (yv C hr hg ha Fd he Es) fun σ H Q Dg=>by
  obtain⟨G,env,fp,r,env',rel,e,k⟩:=Dg;obtain⟨⟨os,e1⟩,ha,e⟩:=ah e;dsimp only at e;split at e
  ·rename_i j NC;split at e
   ·rename_i hj;subst hj;split at e
    ·rename_i ow d0 hi;split at e
     ·rename_i how;obtain⟨ds,hd,e⟩:=ah e;obtain⟨z,hz,e⟩:=ah e;refine⟨G,env,fp,_,e1,rel,ha,fun vs H1 G1 Ds Dj C5 EY=>?_⟩;show spM X.K c F (vs++[]) H1 Q _;rw[OK];obtain⟨y,ys,ey,k1,k2⟩:=EY;obtain⟨v0,a,b,ev,r0,r2,pm⟩:=C5.rep.take hi;have k1:σ[j]?=some (some y):=k1;rw[k1]at ev;cases ev;obtain⟨⟨q,hq⟩,rc,back⟩:=y8 how r0;subst hq;have nd:=ON.mp (pm.nodup_iff.mp C5.nd);have GL:Rel X.K G1 H1 (e1.set j none) σ b:=⟨r2,nd.2.1,fun w hw=>C5.gn w (pm.mem_iff.mpr (Oj _ hw)),C5.gh⟩
      obtain⟨G2,Hv,IF,LJ,E5,EA⟩:=GL.lendM2 a (fun w hw hb=>nd.2.2 w hw w hb rfl) (fun w hw=>C5.gn w (pm.mem_iff.mpr (Oo _ hw)));refine⟨G2,q,ys,d0,ds,_,a,IF,ey,rc.step Hv (fun _ _=>rfl),nd.1,LJ,il Hv E5 k2 hd,sW hz q,fun v H' G' C6 st rt=>?_⟩;obtain⟨o',d',p',c',NQ,er,rl⟩:=rt;cases er;have fin:∀(ee:PV.Env),ee.length=e1.length->(∃G3 Eu,Step G1 H1 (a++b) G3 H' Eu/\Rel X.K G3 H' (some z.1::some (.pin q c,z.2)::ee) (some v::some (.ref q)::σ) Eu)->(z.1,ee.set j (some (ow,z.2)))=(r,env')->Q v H':=by
       rintro ee hel ⟨G3,Eu,Dv,DG⟩ eee;cases eee;obtain⟨a1,b1,ef,ro,DB,comb⟩:=Rel.frame DG;have HZ:Rel X.K G3 H' (some (ow,z.2)::ee) (some (.ref q)::σ) b1:=by
        obtain⟨y2,ys2,Nc,v2,a2,b2,Kf,LO,Gq,LP⟩:=DB.rep;cases Nc;cases Kf;rw[RepO]at Gq;exact⟨⟨_,_,rfl,_,a2,b2,rfl,LO,back _ _ _ _ Gq.2,LP⟩,DB.nd,DB.gn,DB.gh⟩
       obtain⟨fq,GN,LQ⟩:=HZ.back (i:=j) (by rw[hel];exact(Om.mp hi).1) k1;obtain⟨Hm,JG⟩:=comb G3 H' _ _ fq LQ GN;rw[<-ef]at JG;exact k v H' G3 _ (Dj.trans ((Dv.perm (fun w=>pm.mem_iff.symm) (fun w hw=>hw)).trans JG)) Hm
      obtain⟨b1,b2⟩:=EA H' G' C6 _ _ st rl;split at e
      ·rename_i FN;rw[Oz]at FN;have e:=Res.ok.inj e;refine fin (e1.set j none) (by rw[O1]) (b1 fun w hw=>?_) e;rcases Ov.mp hw with hw|hw
       ·cases hw;exact FN.1
       ·rw[Pb]at hw;cases hw;simp only[aH];exact FN.2
      ·have e:=Res.ok.inj e;exact fin ((e1.set j none).map frz) (by rw[OI,O1]) b2 e
     ·cases e
    ·cases e
   ·cases e
  ·cases e
end
section
variable{X:Cx}{pos:Pos}{fa:FO}
end
section
variable{X:Cx}
end
section
variable{X:Cx}{scope:Scope}{N:List Str}{tg iter elt:Expr}{ifs:List Expr}{pos:Pos}{fi:FI}{a:FG}{c:FT}{f:FX}
theorem qj(ix:List (Option Nat))(N:List Str)(hc:X.calm=true)(hi:JC X tg iter fi)(hg:∀C s H fp pn,QG (bj X scope N C s H fp pn) tg a)(ht:∀C s H fp pn,J8 (bj X scope N C s H fp pn) ifs c)(he:∀C s H fp pn,QE (bj X scope N C s H fp pn) elt f)
  (hf:cE scope X.env=true:=by rfl) (hk:scope.kind=.function:=by rfl) (Dp:∀y∈scope.names,y.2=.cell->scope.names.lookup y.1=some .cell:=by decide +kernel) (DA:∀y∈scope.names,y.2=.local->scope.names.lookup y.1=some .local:=by decide +kernel) (D7:lh X scope N ix=true:=by rfl)
  (hs:∀x,foldedSetIterable iter X.env x=pure x:=by intro _;rfl):QE X (.ListComp elt [⟨tg,iter,ifs,0⟩] scope pos) (cZ fi ix a c f):=
 a8 (sO (g:=tQG X.K a) (tc:=tQT X.K c) (te:=tQ X.K f) ix N hc hi hg ht he hf hk Dp DA D7 hs) fun _ _ _=>p4
end
end PV
namespace L2
open PySem PySem.Spec PyProof.Rows NX
section
variable{X:Cx}{tg:Expr}
end
end L2
namespace PV
open PySem PySem.Spec PyProof.Rows L2 NX
section
variable{X:Cx}{tg:Expr}
end
abbrev FB:=PV.Env->Bool
section
variable{X:Cx}{st:Stmt}{M4:List Stmt}{g:FS}{x:FB}{Ww:Hp->Prop}{c:FT}{pos np DO:Pos}{e:Expr}{es:List Expr}{fs:FOs}{C:Addr}{y:Str}
end
abbrev FXE:=PV.Env->Option PV.Env
section
variable{md:Mode}{X:Cx}{x:Str}{p pos:Pos}{e a b:Expr}{es:List Expr}{C:Addr}{F:List D->Bool}{fs:FOs}{k:Nat}{xe:FXE}{aE:List Stmt}
end
section
variable{X:Cx}{x:Str}{p pos:Pos}{e:Expr}{es:List Expr}{fs:FOs}
end
section
variable{X:Cx}{x:Str}{p pos:Pos}{e:Expr}{es:List Expr}{f0:FX}{fs:FOs}
end
end PV
namespace NX
open PySem PySem.Spec PyProof.Rows L2
noncomputable def KY(o:Obj)(n:Nat)(a:Addr):It:=
 ⟨fun i H=>∃C1 k v,H a=some (.frz o (.dK C1))/\C1.length=n/\C1[i]?=some (k,v),
  fun i H x H'=>H'=H/\∀C1 k v,H a=some (.frz o (.dK C1))->C1[i]?=some (k,v)->x=kV k,
  fun i H=>∃C1,H a=some (.frz o (.dK C1))/\C1.length=n/\C1.length<=i⟩
theorem ql{P:Program}{w:World}{K:W.Frag}{tg:Expr}(o:Obj)(es:Array DictEntry)(ep n:Nat)(a it:Addr)(hd:o.data=.dict es ep):
  Turn P w K tg (KY o n a) [it] it (fun i h=>h.IsKeyIter it a i n ep) where
 mem:=by simp
 obj:=fun i h st b hb=>by
  have e:b=it:=by simpa using hb
  subst e;obtain⟨o,e,c,d⟩:=st;exact⟨o,e,fun v z=>by rw[d]at z;cases z⟩
 keep:=fun i h h' st k=>by
  obtain⟨o,e,c,d⟩:=st;exact⟨o,k it (by simp) o e,c,d⟩
 item:=by
  intro X hP hw hK hc i pr s σ H E I hf st hg;subst hP hw hK;obtain⟨C1,k,v,ha,hn,hx⟩:=hg;obtain⟨ho,vs,r,hm⟩:=mQ I hd ha;have hl:vs.length=n:=by rw[<-hn];exact r.length.symm
  subst hl;obtain⟨u,hu,ru⟩:=Bl r hx;obtain⟨f0,f1,f2,f3,f4,f5⟩:=hf it (by simp);refine wpAny_pyNext_dict_item st hm hu fun key h' FY Ge sb=>?_
  have I1:Inv X pr σ H {s with heap:=h'}:=I.turned (t':=s.toks) (fun b o hb e=>(sb.2 b hb).trans e) f0 f1 f3 f4 f5;obtain⟨o',e,c,d⟩:=id Ge;exact⟨key,rfl,oK (s:={s with heap:=h'}) e c d (by decide) ⟨kV k,H,I1,Bk FY,⟨rfl,fun kvs' k' v' h1 h2=>by
   rw[ha]at h1;cases h1;rw[hx]at h2;cases h2;rfl⟩,Ge,fun b hb=>(hf b hb).1⟩⟩
 done:=by
  intro X hP hw hK hc i pr s σ H E I hf st hg;subst hP hw hK;obtain⟨C1,ha,hn,hi⟩:=hg;obtain⟨ho,vs,r,hm⟩:=mQ I hd ha;have hl:vs.length=n:=by rw[<-hn];exact r.length.symm
  subst hl;obtain⟨f0,f1,f2,f3,f4,f5⟩:=hf it (by simp);exact wpAny_pyNext_dict_end (I.ok.hd hc) st hm (Rm (by lia)) fun h' eb=>⟨rfl,I.turned (t':=s.toks) (fun b o hb e=>eb b o hb e) f0 f1 f3 f4 f5⟩
 self:=fun _ _ _ _ _ st h=>wpAny_pyIter_keyiter st h
def CG(td:TE):TI:=fun σ H R=>td σ H fun v H1=>∃a o C1,v=.ref a/\H1 a=some (.frz o (.dK C1))/\R (KY o C1.length a) H1
theorem qm{X:Cx}{l tg:Expr}{td:TE}(hl:PE X l td):PI X tg l (CG td):=by
 intro pr s σ H R I h;refine Dn (hl pr s σ H _ I h) fun v s1 Dl=>?_
 obtain⟨x,H1,I1,r1,a,o,C1,ex,ha,q⟩:=Dl;subst ex;cases r1;obtain⟨ho,z,nm,vs,r,o',Gb,JQ,g1,ex,dat,aE⟩:=(show ObjOk X.prog X.w H1 s1.heap a (.frz o (.dK C1)) from I1.hok a _ ha)
 have e:=g1.symm.trans ho;cases e;have H0:s1.heap.DictAt (mixKind X.prog X.w) a vs JQ:=⟨_,Gb,g1,ex,dat,aE⟩
 refine wpAny_pyIter_dict nm H0 ?_;refine⟨s1.heap.objs.size,[s1.heap.objs.size],_,KY _ C1.length a,H1,rfl,I1.kept (t':=s1.toks) fun b o e=>Oi _ e,ql _ Gb JQ C1.length a _ dat,⟨_,Ow _ rfl,rfl,?_⟩,fun b hb=>?_,q⟩
 ·rw[r.length];rfl
 ·have e:b=s1.heap.objs.size:=by simpa using hb
  subst e;exact I1.fpOk (Oq _) (I1.hok.fresh (Oq _))
theorem eU{X:Cx}{pr:List (Addr×Obj)}{σ:L2.St}{H:Hp}{s:Shared}{a:Addr}{o:Obj}{C1:List (Key×V)}(I:Inv X pr σ H s)(ha:H a=some (.frz o (.dK C1)))(h0:∀q u,X.H₀ a≠some (.frz q u)):Inv X pr σ (upd H a (.dK C1)) s:=by
 have ok:=(show ObjOk X.prog X.w H s.heap a (.frz o (.dK C1)) from I.hok a _ ha)
 have nn:∀c,H c=none->c≠a:=fun c e z=>by rw[z,ha]at e;cases e
 have nt:∀c xs,H c=some (.tup xs)->c≠a:=fun c xs e z=>by rw[z,ha]at e;cases e
 have nb:∀c ps,H c=some (.tbl ps)->c≠a:=fun c ps e z=>by rw[z,ha]at e;cases e
 have no:∀c b,H c=some (.own b)->c≠a:=fun c b e z=>by rw[z,ha]at e;cases e
 have nf:∀c,H c=none->upd H a (.dK C1) c=none:=fun c e=>by rw[ai (nn c e)];exact e
 refine⟨I.ok,I.os,I.bare,⟨I.base.keep,I.base.slot,fun b q e n x=>nf b (I.base.free b q e n x),I.base.there,fun b xs e=>?_,fun b q u e=>?_,fun b ps e=>?_⟩,I.loc,I.cell,nf _ I.free,fun x c e=>nf _ (I.freeC x c e),fun p hp=>?_,fun c ob e=>?_,I.len⟩
 ·have h:=I.base.tups b xs e;rw[ai (nt b xs h)];exact h
 ·have:b≠a:=fun z=>h0 q u (z▸e)
  rw[ai this];exact I.base.frzs b q u e
 ·obtain⟨m,h⟩:=I.base.tbls b ps e;exact⟨m,by rw[ai (nb b _ h)];exact h⟩
 ·obtain⟨h1,h2,h3⟩:=I.pin p hp;exact⟨h1,nf _ h2,h3⟩
 ·by_cases ec:c=a
  ·subst ec;rw[aw]at e;cases e;exact(show ObjOk X.prog X.w H s.heap c (.dK C1) from ok.2).stay (fun _ _ _ q=>q) (fun d q=>by rw[ai (no d _ q)];exact q) fun d l q=>by rw[ai (nt d l q)];exact q
  ·rw[ai ec]at e;exact(I.hok c ob e).stay (fun _ _ _ q=>q) (fun d q=>by rw[ai (no d _ q)];exact q) fun d l q=>by rw[ai (nt d l q)];exact q
noncomputable def IL(a:Addr)(o:Obj)(C1:List (Key×V))(D:Ends):Ends:=
 ⟨fun σ H=>H a=some (.frz o (.dK C1))/\D.nx σ (upd H a (.dK C1)),fun v H=>H a=some (.frz o (.dK C1))/\D.rt v (upd H a (.dK C1)),fun σ H=>H a=some (.frz o (.dK C1))/\D.bk σ (upd H a (.dK C1)),fun σ H=>H a=some (.frz o (.dK C1))/\D.ct σ (upd H a (.dK C1))⟩
def Bm(t:TS):TS:=fun D σ H=>∃a C1,H a=some (.dK C1)/\∀o,t (IL a o C1 D) σ (upd H a (.frz o (.dK C1)))
theorem qo{X:Cx}{st:Stmt}{t:TS}(h:PS X st t):PS X st (Bm t):=by
 rintro pr s σ H D I ⟨a,C1,ha,k⟩;obtain⟨z,nm,vs,r,o,es,ep,g1,aE⟩:=(show ObjOk X.prog X.w H s.heap a (.dK C1) from I.hok a _ ha)
 have h0:∀q u,X.H₀ a≠some (.frz q u):=fun q u e=>by
  have:=I.base.frzs a q u e;rw[ha]at this;cases this
 refine Dn (h pr s σ _ _ (sX I ha g1) (k o)) fun f s' sp=>?_
 cases f with
 |next=>obtain⟨σ',H',I',e,q⟩:=sp;exact⟨σ',_,eU I' e h0,q⟩
 |brk=>obtain⟨σ',H',I',e,q⟩:=sp;exact⟨σ',_,eU I' e h0,q⟩
 |cont=>obtain⟨σ',H',I',e,q⟩:=sp;exact⟨σ',_,eU I' e h0,q⟩
 |ret u=>obtain⟨v,σ',H',I',rv,e,q⟩:=sp;exact⟨v,σ',_,eU I' e h0,rv,q⟩
end NX
namespace PV
open PySem PySem.Spec PyProof.Rows L2 NX
section
variable{K:W.Frag}{G H:Hp}{es:PV.Env}{vs:L2.St}{fp:List Addr}
end
noncomputable def sPutP(i:Nat)(fk fv:FX):FS:=fun env=>(fv env).bind fun p=>(fk p.2).bind fun q=>match p.2[i]?,q.2[i]? with
 |some (some _),some (some (.pin pp .d,.dct tk ks vs))=>if dE tk q.1.2&&decide (ks.length<sizeLine) then .ok (.nx (q.2.set i (some (.pin pp .d,.dct tk (kz ks vs q.1.2 p.1.2).1 (kz ks vs q.1.2 p.1.2).2)))) else .bad
 |_,_=>.bad
section
variable{md:Mode}{X:Cx}
end
def cleanE(i:Nat)(env:PV.Env):Bool:=(env.set i none).all fun r=>match r with
 |some r=>aH r.1 r.2
 |none=>true
def jH(i:Nat)(p:Addr)(env:PV.Env):Bool:=match env[i]? with
 |some (some (.pin q .f,_))=>decide (q=p)
 |_=>false
noncomputable def qp(i:Nat)(p:Addr)(d:D):Out->Res Out
 | .nx env=>if jH i p env&&cleanE i env then .ok (.nx (env.set i (some (.pin p .d,d)))) else .bad
 | .rt (.t [o,.pin q .f],.tup [r,_])=>if decide (q=p)&&aH o r then .ok (.rt (.t [o,.pin p .d],.tup [r,d])) else .bad
 |_=>.bad
def kJ(i:Nat)(a:FG)(g:FS):FS:=fun env=>match env[i]? with
 |some (some (.pin p .d,.dct false ks vs))=>(cY a g ks (env.set i (some (.pin p .f,.dct false ks vs)))).bind (qp i p (.dct false ks vs))
 |_=>.bad
def off(G:Hp)(p:Addr):Hp:=fun z=>if z=p then none else G z
theorem kK{K:W.Frag}{G H G' H':Hp}{fp Ds C6:List Addr}{p:Addr}{C1:List (Key×V)}{o:Obj}{es:PV.Env}{σ:L2.St}{i:Nat}{d':D}{vs:List D}(gp:G p=none)(pf:p∈fp)(f1:∀z∈Ds,z∈fp)
  (st:Step (upd G p (.frz o (.dK C1))) (upd H p (.frz o (.dK C1))) Ds G' H' C6) (rel:Rel K G' H' es σ C6) (hi:es[i]?=some (some (.pin p .f,d'))) (cl:cleanE i es=true) (hf:∀kv∈C1,fitK kv.1) (rs:Reps K G vs (C1.map (·.2))):
  H' p=some (.frz o (.dK C1))/\∃G2 fz,Step G H fp G2 (upd H' p (.dK C1)) fz/\Rel K G2 (upd H' p (.dK C1)) (es.set i (some (.pin p .d,.dct false (C1.map fun kv=>kD kv.1) vs))) σ fz:=by
 have Kh:G' p=some (.frz o (.dK C1)):=st.gg p _ aw;refine⟨rel.gh p _ Kh,?_⟩;obtain⟨v,fq,ev,g,Dj,_⟩:=rel.out hi;have De:=st.trans Dj;obtain⟨y,ys,e0,v',a,b,e1,e2,r1,r2⟩:=g.rep;cases e0;cases e1;rw[RepO]at r1;obtain⟨ep,r1⟩:=r1;obtain⟨_,ea⟩:=dk.mp r1;subst ea;subst ep;have e2:fq=b:=e2;subst e2;have np:∀z∈fq,z≠p:=fun z hz e=>by
  have:=g.gn z hz;rw[e,Kh]at this;cases this
 have Ki:(off G' p) p=none:=Oy rfl;have Ia:∀z,z≠p->(off G' p) z=G' z:=fun z h=>OD h
 have gg:Same G (off G' p):=fun z u e=>by
  have hz:z≠p:=fun h=>by rw[h,gp]at e;cases e
  rw[Ia z hz];exact st.gg z u (by rw[ai hz];exact e)
 have rc:RepE K (off G' p) H' (es.set i none) σ fq:=by
  refine RepE.clean (fun z u t e=>?_) (fun r hr=>?_) r2
  ·have hz:z≠p:=fun h=>by rw[h,Kh]at e;cases e;cases t
   rw[Ia z hz];exact e
  ·have:=OS.mp cl _ hr;exact this
 have C4:Rel K (off G' p) (upd H' p (.dK C1)) (some (.pin p .d,.dct false (C1.map fun kv=>kD kv.1) vs)::es.set i none) (some (.ref p)::σ) (p::fq):=by
  refine⟨⟨some (.ref p),σ,rfl,.ref p,[p],fq,rfl,rfl,?_,rc.step (.refl _) fun z hz=>ai (np z hz)⟩,OU.mpr ⟨fun h=>np p h rfl,g.nd⟩,fun z hz=>?_,fun z u e=>?_⟩
  ·rw[RepO];refine⟨rfl,?_⟩;rw[RepO];exact⟨p,C1.map (·.2),.dK C1,rfl,aw,⟨C1,rfl,rfl,rfl,hf⟩,rfl,Reps.mono gg rs⟩
  ·rcases Ov.mp hz with h|h
   ·rw[h];exact Ki
   ·rw[Ia z (np z h)];exact g.gn z h
  ·by_cases hz:z=p
   ·rw[hz,Ki]at e;cases e
   ·rw[Ia z hz]at e;rw[ai hz];exact rel.gh z u e
 have Nf:Step G H fp (off G' p) (upd H' p (.dK C1)) (p::fq):=by
  refine⟨gg,fun z u e n=>?_,fun z hz=>?_,fun z u e=>?_,fun z u e=>?_⟩
  ·have hz:z≠p:=fun h=>n (h▸pf)
   rw[ai hz];exact De.keep z u (by rw[ai hz];exact e) fun h=>n (f1 z h)
  ·rcases Ov.mp hz with h|h
   ·exact .inl (h▸pf)
   ·rcases De.fpn z h with h2|h2
    ·exact .inl (f1 z h2)
    ·rw[ai (np z h)]at h2;exact .inr h2
  ·by_cases hz:z=p
   ·rw[hz,Ki]at e;cases e
   ·rw[Ia z hz]at e;rcases De.gnew z u e with h|h|h|⟨t,h⟩
    ·rw[ai hz]at h;exact .inl h
    ·exact .inr (.inl (f1 z h))
    ·rw[ai hz]at h;exact .inr (.inr (.inl h))
    ·rw[ai hz]at h;exact .inr (.inr (.inr ⟨t,h⟩))
  ·by_cases hz:z=p
   ·exact⟨_,by rw[hz,aw]⟩
   ·obtain⟨u',h⟩:=De.there z u (by rw[ai hz];exact e);exact⟨u',by rw[ai hz];exact h⟩
 obtain⟨fz,g3,Dv⟩:=C4.back (i:=i) (by rw[O1];exact(Om.mp hi).1) ev;rw[P2]at g3;exact⟨_,fz,Nf.trans Dv,g3⟩
theorem tw{K:W.Frag}{G H:Hp}{fp f1 b0:List Addr}{p:Addr}{C1:List (Key×V)}{o:Obj}{i:Nat}{vs:List D}{D0:Ends}{r:Res Out}(gp:G p=none)(Hx:Step G H fp G H (p::b0))(JH:∀z∈f1,z∈p::b0)(hf:∀kv∈C1,fitK kv.1)(rs:Reps K G vs (C1.map (·.2)))
  (k:OutOk (md:=.mut) K G H fp D0 (r.bind (qp i p (.dct false (C1.map fun kv=>kD kv.1) vs)))):OutOk (md:=.mut) K (upd G p (.frz o (.dK C1))) (upd H p (.frz o (.dK C1))) f1 (IL p o C1 D0) r:=by
 cases r with
 |bad=>exact k
 |exc c=>exact k
 |ok out=>
  have k:OutOk (md:=.mut) K G H fp D0 (qp i p (.dct false (C1.map fun kv=>kD kv.1) vs) out):=k;unfold qp at k;split at k
  ·rename_i e';split at k
   ·rename_i FN;rw[Oz]at FN;obtain⟨h1,h2⟩:=FN;unfold jH at h1;split at h1
    ·rename_i q' d' Kg;rw[OR]at h1;subst h1;intro σ' H' G' C6 st rl;obtain⟨z,G2,fz,De,LS⟩:=kK (G:=G) (H:=H) (fp:=q'::b0) gp Oh JH st rl Kg h2 hf rs;exact⟨z,k σ' _ G2 fz (Hx.trans De) LS⟩
    ·cases h1
   ·exact k.elim
  ·rename_i o' q' r d0 _;split at k
   ·rename_i FN;rw[Oz,OR]at FN;obtain⟨h1,h2⟩:=FN;subst h1;rintro v H' G' C6 st ⟨o2,d2,p2,c2,d02,er,rl⟩;cases er;obtain⟨z,G2,fz,De,LS⟩:=kK (G:=G) (H:=H) (fp:=q'::b0) (i:=1) gp Oh JH st rl rfl (by show(List.all [some (o',r),none] _)=true;simp only[Qr,SM,h2,Pe]) hf rs;exact⟨z,k v _ G2 fz (Hx.trans De) ⟨_,_,_,_,_,rfl,LS⟩⟩
   ·exact k.elim
  ·exact k.elim
theorem kM{K:W.Frag}{G:Hp}{a:Addr}{o:Obj}{C1:List (Key×V)}(h:G a=some (.frz o (.dK C1)))(hf:∀kv∈C1,fitK kv.1):Walk K G (KY o C1.length a) (C1.map fun kv=>kD kv.1):=by
 intro G' H' es vs fp gg rel i;have h':H' a=some (.frz o (.dK C1)):=rel.gh _ _ (gg _ _ h);refine⟨fun d hd=>?_,fun e=>⟨C1,h',rfl,by rw[OI]at e;lia⟩⟩;rw[OG]at hd;cases hk:C1[i]? with
 |none=>rw[hk]at hd;cases hd
 |some kv=>
  rw[hk]at hd;cases hd;refine⟨⟨C1,kv.1,kv.2,h',rfl,hk⟩,fun y H2 ⟨e,hy⟩=>?_⟩;subst e;have:=hy C1 kv.1 kv.2 h' hk;subst this;exact⟨G',yY (hf _ (Pr hk)),rel,.refl⟩
section
variable{X:Cx}
theorem lU{i:Nat}{tg iter:Expr}{body:List Stmt}{a:FG}{g:FS}{pos:Pos}(hp:PassesOwn (model X.prog X.w) X.A X.env X.xe)(hc:X.calm=true)(hn:PE X iter (nL i))(hg:QG X tg a)(hb:Hb (md:=.mut) X body g)(hs:∀x,foldedSetIterable iter X.env x=pure x:=by intro _;rfl):
  QS (md:=.mut) X (.For tg iter body [] pos) (kJ i a g):=
 dm (qo (mq hp hc (qm hn) hg hb hs)) fun D0 σ H Dg=>by
  obtain⟨G,env,fp,rel,k⟩:=Dg;unfold kJ at k;split at k
  ·rename_i p ks vs hi;obtain⟨v,fq,ev,g1,Hx,_⟩:=rel.out hi;obtain⟨y,ys,e0,v',a0,b0,e1,e2,r1,r2⟩:=g1.rep;cases e0;cases e1;rw[RepO]at r1;obtain⟨ep,r1⟩:=r1;subst ep;rw[RepO]at r1;obtain⟨p',xs,o0,Ke,hH,dd,ea,rs⟩:=r1;cases Ke;subst ea;subst e2;obtain⟨C1,eo,ek,ex,hf⟩:=(show ∃C1:List (Key×V),o0=.dK C1/\ks=C1.map (fun kv=>kD kv.1)/\xs=C1.map (·.2)/\∀kv∈C1,fitK kv.1 from dd)
   subst eo ex ek;have nd:=OU.mp (show(p::b0).Nodup from g1.nd);have gp:G p=none:=g1.gn p Oh;have LU:∀z∈b0,z≠p:=fun z hz e=>nd.1 (e▸hz)
   refine⟨p,C1,hH,fun o=>?_⟩;have LX:Same G (upd G p (.frz o (.dK C1))):=fun z u e=>by rw[ai (aA e gp)];exact e
   have Kj:Rel X.K (upd G p (.frz o (.dK C1))) (upd H p (.frz o (.dK C1))) (some (.pin p .f,.dct false (C1.map fun kv=>kD kv.1) vs)::env.set i none) (some (.ref p)::σ) b0:=by
    refine⟨⟨_,_,rfl,.ref p,[],b0,rfl,rfl,?_,r2.step LX fun z hz=>ai (LU z hz)⟩,nd.2,fun z hz=>?_,fun z u e=>?_⟩
    ·rw[RepO];refine⟨rfl,dk.mpr ⟨?_,rfl⟩⟩;rw[Rep];exact⟨p,C1.map (·.2),.dK C1,rfl,.inr ⟨o,aw⟩,⟨C1,rfl,rfl,rfl,hf⟩,Reps.mono LX rs⟩
    ·rw[ai (LU z hz)];exact g1.gn z (Og _ hz)
    ·by_cases hz:z=p
     ·subst hz;rw[aw]at e ⊢;exact e
     ·rw[ai hz]at e ⊢;exact g1.gh z u e
   obtain⟨f1,C5,Dj⟩:=Kj.back (i:=i) (by rw[O1];exact(Om.mp hi).1) ev;rw[P2]at C5;have JH:∀z∈f1,z∈p::b0:=fun z hz=>by
    rcases Dj.fpn z hz with h|h
    ·exact Og _ h
    ·exfalso;obtain⟨u,hu⟩:=C5.rep.live z hz;rw[h]at hu;cases hu
   refine⟨.ref p,ev,p,o,C1,rfl,aw,?_⟩;have k1:=tw (o:=o) (G:=G) (H:=H) (fp:=fp) gp Hx JH hf rs k;have wk:Walk X.K (upd G p (.frz o (.dK C1))) (KY o C1.length p) (C1.map fun kv=>kD kv.1):=kM aw hf;generalize (C1.map fun kv=>kD kv.1)=ds at k1 wk C5;refine⟨fun j m σ' H'=>m=ds.length-j/\j<=ds.length/\∃G' env' C6,Same (upd G p (.frz o (.dK C1))) G'/\Rel X.K G' H' env' σ' C6/\OutOk (md:=.mut) X.K G' H' C6 (IL p o C1 D0) (cY a g (ds.drop j) env'),⟨_,rfl,Pn _,_,_,f1,.refl _,C5,k1⟩,?_⟩;rintro j m σ2 H2 ⟨rfl,hj,G2,C8,Dw,gg,C4,k2⟩;obtain⟨w1,w2⟩:=wk G2 H2 _ _ _ gg C4 j;by_cases DH:j<ds.length
   ·have hd:ds[j]?=some ds[j]:=Ol DH;obtain⟨go,yl⟩:=w1 _ hd;rw[Ph DH]at k2;refine .inr ⟨go,fun σ' H'=>∃G' env' C6,Same (upd G p (.frz o (.dK C1))) G'/\Rel X.K G' H' env' σ' C6/\OutOk (md:=.mut) X.K G' H' C6 (IL p o C1 D0) (cY a g (ds.drop (j+1)) env'),fun σ' H' z=>⟨ds.length-(j+1),by lia,rfl,DH,z⟩,fun x H3 y=>?_⟩;obtain⟨G3,rx,DG,Dv⟩:=yl x H3 y;unfold cY at k2;match q3:a ds[j] C8,k2 with
    | .ok Dt,k2=>
     refine⟨G3,C8,Dw,ds[j],Dt,DG,rx,q3,fun σ4 G4 J7 DQ DV=>⟨G4,Dt,J7,DV,?_⟩⟩;have k3:OutOk (md:=.mut) X.K G2 H2 Dw (IL p o C1 D0) ((g Dt).bind fun o=>match o with | .nx e=>cY a g (ds.drop (j+1)) e | .ct e=>cY a g (ds.drop (j+1)) e | .bk e=>.ok (.nx e) | .rt r=>.ok (.rt r)):=k2;match q4:g Dt,k3 with
     | .ok (.nx e),k3=>exact fun σ' H' G' C6 st rel=>⟨G',e,C6,gg.trans (Dv.gg.trans (DQ.gg.trans st.gg)),rel,OutOk.after (Dv.trans (DQ.trans st)) k3⟩
     | .ok (.ct e),k3=>exact fun σ' H' G' C6 st rel=>⟨G',e,C6,gg.trans (Dv.gg.trans (DQ.gg.trans st.gg)),rel,OutOk.after (Dv.trans (DQ.trans st)) k3⟩
     | .ok (.bk e),k3=>exact fun σ' H' G' C6 st rel=>k3 σ' H' G' C6 (Dv.trans (DQ.trans st)) rel
     | .ok (.rt r),k3=>exact fun v H' G' C6 st rel=>k3 v H' G' C6 (Dv.trans (DQ.trans st)) rel
   ·have e:j=ds.length:=by lia
    subst e;rw[Qi]at k2;exact .inl ⟨w2 rfl,k2 σ2 H2 G2 Dw .refl C4⟩
  ·exact k.elim
end
end PV
namespace NX
open PySem PySem.Spec PyProof.Rows L2
section
variable{X:Cx}
end
end NX
namespace PV
open PySem PySem.Spec PyProof.Rows L2 NX
section
variable{X:Cx}
end
inductive Ext:Hp->Hp->Prop
 |refl {H:Hp}:Ext H H
 |new {H H1:Hp}{p:Addr}{xs:List V}:Ext H H1->H1 p=none->Ext H (upd H1 p (.tup xs))
theorem Ext.trans{H H1 H2:Hp}(a:Ext H H1)(b:Ext H1 H2):Ext H H2:=by
 induction b with
 |refl=>exact a
 |new _ hp ih=>exact .new ih hp
theorem Ext.rel{K:W.Frag}{G H H':Hp}{env:PV.Env}{σ:L2.St}{fp:List Addr}(e:Ext H H')(r:Rel K G H env σ fp):∃G',Rel K G' H' env σ fp/\Step G H fp G' H' fp:=by
 induction e with
 |refl=>exact⟨G,r,.refl⟩
 |new _ hp ih=>
  obtain⟨G1,r1,s1⟩:=ih;obtain⟨r2,s2⟩:=r1.newF hp;exact⟨_,r2,s1.trans s2⟩
inductive BExp where
 |con (b:Bool)|var (j:Nat)|not (x:BExp)|and (x y:BExp)
section
variable{X:Cx}{a:Addr}{o:Obj}{i:Nat}{e b:Expr}{aE:List Expr}{x y:BExp}{pos p q:Pos}{n:Str}
variable{C:Addr}{vs:Array Value}
end
section
variable{md:Mode}{X:Cx}{x:Str}{pos:Pos}{C:Addr}{xe:FXE}
end
end PV
namespace PV
open PySem PySem.Spec L2 NX
section
variable{X:Cx}
def qq(ds:List D):List D:=ds.zipIdx.map fun z=>D.tup [.int (z.2:Int),z.1]
def mS(k:Bool)(fs:FOs):FI:=fun env=>(fs env).bind fun p=>match p.1 with
 |[.val d]=>(fN k d).bind fun a=>.ok (qq a,p.2)
 |_=>.bad
theorem qr{K:W.Frag}{G:Hp}{k:Bool}{p1:Addr}{xs:List V}{as:List D}(s1:if k then SqL K G p1 xs else SqT K G p1 xs)(r1:Reps K G as xs):Walk K G (M1 K k p1) (qq as):=by
 intro G' H' es vs fp gg rel i;have g1:=gy (gg.trans rel.gh) s1;refine⟨fun d hd=>?_,fun e=>⟨xs,g1,?_⟩⟩
 ·unfold qq at hd;rw[OG,List.getElem?_zipIdx]at hd;cases hz:as[i]? with
  |none=>rw[hz]at hd;cases hd
  |some z=>
   rw[hz]at hd;have hd:D.tup [.int ((0+i:Nat):Int),z]=d:=OP hd;rw[Qp]at hd;subst hd;obtain⟨x,hx,rx⟩:=r1.get hz;refine⟨⟨xs,x,g1,hx⟩,fun v H2 ⟨T,hT,ev,hh⟩=>?_⟩;have e2:=hh xs x g1 hx;subst e2;obtain⟨C4,De⟩:=rel.newF (u:=.tup [.int (i:Int),x]) hT;refine⟨_,?_,C4,De⟩;rw[Rep];exact⟨T,[.int (i:Int),x],ev,aw,.cons (by rw[Rep]) (.one (Rep.mono (gg.trans De.gg) rx))⟩
 ·unfold qq at e;rw[OI,Tr]at e;rw[r1.length];exact e
theorem qu(k:Bool){Gi:List Expr}{kt:Nat}{pt:Pos}{e1:Expr}{fs:FOs}{p pos:Pos}(hg:Gl X "enumerate")(hm:X.mg "enumerate" = none)(ha:Hu X [e1] fs)(he:starEach [e1] X.env=[(false,eval e1 X.env)]:=by rfl):
  QI X (.Tuple Gi kt pt) (.Call (.Name "enumerate" p) [e1] [] pos) (mS k fs):=
 gN (wc k hg hm ha he) fun σ H R Dg=>by
  obtain⟨G,env,fp,ds,env',rel,e,kk⟩:=Dg;obtain⟨⟨o,C2⟩,e1,e⟩:=ah e;dsimp only at e;split at e
  ·rename_i d1;obtain⟨a,ea,e⟩:=ah e;cases e;refine⟨G,env,fp,_,_,rel,e1,fun vs H1 G1 Ds Dj C5 EY=>?_⟩;obtain⟨y,ys,ev,v1,e3⟩:=EY;have e3:ys=[]:=e3;subst e3;obtain⟨p1,M5,M6,q1,r1⟩:=jA ea v1;subst M6;exact⟨p1,M5,ev,gy C5.gh q1,kk _ H1 G1 Ds Dj C5 (qr q1 r1)⟩
  ·cases e
def ja(fs:FOs):FI:=D9 (mS true fs) (mS false fs)
theorem tF{Gi:List Expr}{kt:Nat}{pt:Pos}{e1:Expr}{fs:FOs}{p pos:Pos}(hg:Gl X "enumerate")(hm:X.mg "enumerate" = none)(ha:Hu X [e1] fs)(he:starEach [e1] X.env=[(false,eval e1 X.env)]:=by rfl):
  QI X (.Tuple Gi kt pt) (.Call (.Name "enumerate" p) [e1] [] pos) (ja fs):=om (qu true hg hm ha he) (qu false hg hm ha he)
end
end PV
namespace PV
open PySem PySem.Spec PyProof.Rows L2 NX
section
variable{K:W.Frag}{G H:Hp}
theorem AllO.length{P:D->V->List Addr->Prop}:∀{ds:List D}{xs:List V}{fp:List Addr},AllO P ds xs fp->xs.length=ds.length
 |[],xs,fp,r=>by
  rw[r.1];rfl
 |d'::ds,xs,fp,r=>by
  obtain⟨y,ys,a1,b1,e1,e2,p,r⟩:=r;subst e1;rw[OA,OA,r.length]
end
section
variable{md:Mode}{X:Cx}{scope:Scope}{N:List Str}{tg iter elt:Expr}{ifs:List Expr}{pos:Pos}{fi:FI}{a:FG}{c:FT}{f:FX}
end
section
variable{X:Cx}{x:Str}{p pos JU:Pos}{e1 e2 e3:Expr}{fo:FO}{fb:FX}
end
section
variable{X:Cx}{x:Str}{p pos p1 p2 q1 q2:Pos}{o o':Expr}{j1 j2:_}
end
section
variable{K:W.Frag}{G H:Hp}
end
section
variable{X:Cx}{a b:Expr}{fa fb:FX}{pos:Pos}
end
section
variable{K:W.Frag}{G H:Hp}
end
section
variable{X:Cx}
end
section
variable{X:Cx}
end
section
variable{K:W.Frag}{G H:Hp}
end
section
variable{X:Cx}{a b:Expr}{fa fb:FX}{pos:Pos}
end
section
variable{md:Mode}{X:Cx}{pos JU:Pos}
end
section
variable{X:Cx}{C:Addr}{pos:Pos}{aE a b:List Stmt}{ct:Expr}
end
section
variable{X:Cx}{x y:Str}{p pos pos' DO:Pos}{e:Expr}{es:List Expr}{C:Addr}{F:List D->Bool}{fs:FOs}{k:Nat}{aE:List Stmt}{Ww:Hp->Prop}
end
section
variable{X:Cx}{a:Addr}{i j jc:Nat}{x1 x2:BExp}{e1 e2 vc:Expr}{n nc:Str}{pos pos1 E7 pos' pos'' bp p:Pos}
end
section
variable{md:Mode}{X:Cx}{x:Str}{pos:Pos}{C:Addr}{xe:FXE}
end
section
variable{X:Cx}
end
section
variable{K:W.Frag}{G H:Hp}
end
section
variable{X:Cx}{pos:Pos}
end
section
variable{X:Cx}
def CH:D->D->Res R
 | .int i,.int j=>if j≠0/\j.natAbs<2 ^ 1000 then .ok (.f,.int (i.fdiv j)) else .bad
 |_,_=>.bad
def zc:D->D->Res R
 | .int i,.int j=>if j≠0 then .ok (.f,.int (i.fmod j)) else .bad
 |_,_=>.bad
theorem wJ:DK X (binaryOp .Mod) (rG X.K zc):=by
 rintro pr s σ H x y v u Q I rx ry ⟨G,fp,es,vs,a,b,r,⟨rel,k⟩,va,vb,e⟩;unfold zc at e;split at e
 ·rename_i i j;split at e
  ·rename_i hc;cases e;cases aO va;cases aO vb;exact vB pr s σ H _ _ v u Q I rx ry ⟨i,j,rfl,rfl,hc,k _ H G fp .refl (rel.push (rep_int _))⟩
  ·cases e
 ·cases e
end
section
variable{md:Mode}{X:Cx}{scope:Scope}{N:List Str}{tg iter elt:Expr}{ifs:List Expr}{pos:Pos}{fi:FI}{a:FG}{c:FT}{f:FX}
variable{l e:Expr}{g fj:FI}
end
open Classical in
def uO(f:Addr->Res Out):Res Out:=if h:∃r,∀p,f p=r then h.choose else .bad
theorem qw{f:Addr->Res Out}{r:Res Out}(h:∀p,f p=r):uO f=r:=by
 have ex:∃r,∀p,f p=r:=⟨r,h⟩
 unfold uO;rw[Vx ex];exact(ex.choose_spec 0).symm.trans (h 0)
theorem qx(f:Addr->Res Out):uO f=.bad\/∀p,uO f=f p:=by
 by_cases ex:∃r,∀p,f p=r
 ·right;intro p;unfold uO;rw[Vx ex];exact(ex.choose_spec p).symm
 ·left;unfold uO;rw[dif_neg ex]
mutual
noncomputable def noD:D->Bool
 | .tup ds=>qy ds
 | .lst ds=>qy ds
 | .dct _ _ _=>false
 |_=>true
noncomputable def qy:List D->Bool
 |[]=>true
 |d::ds=>noD d&&qy ds
end
def noFD:HO->Bool
 | .frz _ (.dK _)=>false
 |_=>true
def okO(o:O)(d:D):Bool:=match o,d with
 | .f,d=>noD d
 | .l .f,.lst ds=>qy ds
 | .d,.dct _ _ vs=>qy vs
 |_,_=>false
def kN(i:Nat)(env:PV.Env):Bool:=(env.set i none).all fun r=>match r with
 |some r=>okO r.1 r.2
 |none=>true
section
variable{K:W.Frag}{H G2 G3:Hp}
theorem Rd.noFD{a:Addr}{u:HO}(h:∀p u,PV.noFD u=true->G2 p=some u->G3 p=some u)(hu:∀o,PV.noFD (.frz o u)=true)(GC:PV.noFD u=true)(r:Rd G2 a u):Rd G3 a u:=by
 rcases r with r|⟨o,r⟩
 ·exact .inl (h _ _ GC r)
 ·exact .inr ⟨o,h _ _ (hu o) r⟩
mutual
theorem Rep.noD(h:∀p u,PV.noFD u=true->G2 p=some u->G3 p=some u):∀{d:D}{v:V},PV.noD d=true->Rep K G2 d v->Rep K G3 d v
 | .non,_,_,r=>by simpa only[Rep] using r
 | .bl _,_,_,r=>by simpa only[Rep] using r
 | .int _,_,_,r=>by simpa only[Rep] using r
 | .str _,_,_,r=>by simpa only[Rep] using r
 | .tup ds,_,e,r=>by
  simp only[Rep]at r ⊢;rw[PV.noD]at e;obtain⟨p,xs,ev,hp,rs⟩:=r;exact⟨p,xs,ev,h _ _ rfl hp,Reps.noD h e rs⟩
 | .lst ds,_,e,r=>by
  simp only[Rep]at r ⊢;rw[PV.noD]at e;obtain⟨p,xs,ev,hp,rs⟩:=r;refine⟨p,xs,ev,?_,Reps.noD h e rs⟩;rcases hp with hp|hp
  ·exact .inl (Rd.noFD h (fun _=>rfl) rfl hp)
  ·exact .inr hp
 | .dct _ _ _,_,e,_=>by
  rw[PV.noD]at e;cases e
theorem Reps.noD(h:∀p u,PV.noFD u=true->G2 p=some u->G3 p=some u):∀{ds:List D}{xs:List V},PV.qy ds=true->Reps K G2 ds xs->Reps K G3 ds xs
 |[],_,_,r=>by simpa only[Reps] using r
 |d::ds,_,e,r=>by
  simp only[Reps]at r ⊢;rw[PV.qy,Oz]at e;obtain⟨y,ys,ev,r1,r2⟩:=r;exact⟨y,ys,ev,Rep.noD h e.1 r1,Reps.noD h e.2 r2⟩
end
theorem RepO.okO(h:∀p u,PV.noFD u=true->G2 p=some u->G3 p=some u){o:O}{d:D}{v:V}{a:List Addr}(e:PV.okO o d=true)(r:RepO K G2 H o d v a):RepO K G3 H o d v a:=by
 unfold PV.okO at e;split at e
 ·obtain⟨r1,r2⟩:=dk.mp r;exact dk.mpr ⟨Rep.noD h e r1,r2⟩
 ·obtain⟨p,xs,ev,hp,ea,rs⟩:=bz.mp r;exact bz.mpr ⟨p,xs,ev,hp,ea,Reps.noD h e rs⟩
 ·rw[RepO]at r ⊢;obtain⟨p,xs,o,ev,hp,dd,ea,rs⟩:=r;exact⟨p,xs,o,ev,hp,dd,ea,Reps.noD h e rs⟩
 ·cases e
theorem RepE.okO(h:∀p u,PV.noFD u=true->G2 p=some u->G3 p=some u):∀{es:PV.Env}{vs:L2.St}{a:List Addr},(∀r,some r∈es->PV.okO r.1 r.2=true)->RepE K G2 H es vs a->RepE K G3 H es vs a
 |[],_,_,_,r=>r
 |none::es,vs,a,hc,r=>by
  obtain⟨y,ys,e,r⟩:=r;exact⟨y,ys,e,RepE.okO h (fun r hr=>hc r (Og _ hr)) r⟩
 |some x::es,vs,a,hc,r=>by
  obtain⟨y,ys,e,v,a1,b1,e1,e2,r1,r2⟩:=r;exact⟨y,ys,e,v,a1,b1,e1,e2,r1.okO h (hc x Oh),RepE.okO h (fun r hr=>hc r (Og _ hr)) r2⟩
end
theorem loan_backO{K:W.Frag}{G H G' H':Hp}{fp Ds C6:List Addr}{p:Addr}{C1:List (Key×V)}{o:Obj}{es:PV.Env}{σ:L2.St}{i:Nat}{d':D}{vs:List D}(gp:G p=none)(pf:p∈fp)(f1:∀z∈Ds,z∈fp)
  (st:Step (upd G p (.frz o (.dK C1))) (upd H p (.frz o (.dK C1))) Ds G' H' C6) (rel:Rel K G' H' es σ C6) (hi:es[i]?=some (some (.pin p .f,d'))) (cl:kN i es=true) (hf:∀kv∈C1,fitK kv.1) (rs:Reps K G vs (C1.map (·.2))):
  H' p=some (.frz o (.dK C1))/\∃G2 fz,Step G H fp G2 (upd H' p (.dK C1)) fz/\Rel K G2 (upd H' p (.dK C1)) (es.set i (some (.pin p .d,.dct false (C1.map fun kv=>kD kv.1) vs))) σ fz:=by
 have Kh:G' p=some (.frz o (.dK C1)):=st.gg p _ aw;refine⟨rel.gh p _ Kh,?_⟩;obtain⟨v,fq,ev,g,Dj,_⟩:=rel.out hi;have De:=st.trans Dj;obtain⟨y,ys,e0,v',a,b,e1,e2,r1,r2⟩:=g.rep;cases e0;cases e1;rw[RepO]at r1;obtain⟨ep,r1⟩:=r1;obtain⟨_,ea⟩:=dk.mp r1;subst ea;subst ep;have e2:fq=b:=e2;subst e2;have np:∀z∈fq,z≠p:=fun z hz e=>by
  have:=g.gn z hz;rw[e,Kh]at this;cases this
 have Ki:(off G' p) p=none:=Oy rfl;have Ia:∀z,z≠p->(off G' p) z=G' z:=fun z h=>OD h
 have gg:Same G (off G' p):=fun z u e=>by
  have hz:z≠p:=fun h=>by rw[h,gp]at e;cases e
  rw[Ia z hz];exact st.gg z u (by rw[ai hz];exact e)
 have rc:RepE K (off G' p) H' (es.set i none) σ fq:=by
  refine RepE.okO (fun z u t e=>?_) (fun r hr=>?_) r2
  ·have hz:z≠p:=fun h=>by rw[h,Kh]at e;cases e;cases t
   rw[Ia z hz];exact e
  ·have:=OS.mp cl _ hr;exact this
 have C4:Rel K (off G' p) (upd H' p (.dK C1)) (some (.pin p .d,.dct false (C1.map fun kv=>kD kv.1) vs)::es.set i none) (some (.ref p)::σ) (p::fq):=by
  refine⟨⟨some (.ref p),σ,rfl,.ref p,[p],fq,rfl,rfl,?_,rc.step (.refl _) fun z hz=>ai (np z hz)⟩,OU.mpr ⟨fun h=>np p h rfl,g.nd⟩,fun z hz=>?_,fun z u e=>?_⟩
  ·rw[RepO];refine⟨rfl,?_⟩;rw[RepO];exact⟨p,C1.map (·.2),.dK C1,rfl,aw,⟨C1,rfl,rfl,rfl,hf⟩,rfl,Reps.mono gg rs⟩
  ·rcases Ov.mp hz with h|h
   ·rw[h];exact Ki
   ·rw[Ia z (np z h)];exact g.gn z h
  ·by_cases hz:z=p
   ·rw[hz,Ki]at e;cases e
   ·rw[Ia z hz]at e;rw[ai hz];exact rel.gh z u e
 have Nf:Step G H fp (off G' p) (upd H' p (.dK C1)) (p::fq):=by
  refine⟨gg,fun z u e n=>?_,fun z hz=>?_,fun z u e=>?_,fun z u e=>?_⟩
  ·have hz:z≠p:=fun h=>n (h▸pf)
   rw[ai hz];exact De.keep z u (by rw[ai hz];exact e) fun h=>n (f1 z h)
  ·rcases Ov.mp hz with h|h
   ·exact .inl (h▸pf)
   ·rcases De.fpn z h with h2|h2
    ·exact .inl (f1 z h2)
    ·rw[ai (np z h)]at h2;exact .inr h2
  ·by_cases hz:z=p
   ·rw[hz,Ki]at e;cases e
   ·rw[Ia z hz]at e;rcases De.gnew z u e with h|h|h|⟨t,h⟩
    ·rw[ai hz]at h;exact .inl h
    ·exact .inr (.inl (f1 z h))
    ·rw[ai hz]at h;exact .inr (.inr (.inl h))
    ·rw[ai hz]at h;exact .inr (.inr (.inr ⟨t,h⟩))
  ·by_cases hz:z=p
   ·exact⟨_,by rw[hz,aw]⟩
   ·obtain⟨u',h⟩:=De.there z u (by rw[ai hz];exact e);exact⟨u',by rw[ai hz];exact h⟩
 obtain⟨fz,g3,Dv⟩:=C4.back (i:=i) (by rw[O1];exact(Om.mp hi).1) ev;rw[P2]at g3;exact⟨_,fz,Nf.trans Dv,g3⟩
def qz(i:Nat)(p:Addr)(d:D):Out->Res Out
 | .nx env=>if jH i p env&&kN i env then .ok (.nx (env.set i (some (.d,d)))) else .bad
 |_=>.bad
def qA(i:Nat)(a:FG)(g:FS):FS:=fun env=>match env[i]? with
 |some (some (.d,.dct false ks vs))=>uO fun p=>(cY a g ks (env.set i (some (.pin p .f,.dct false ks vs)))).bind (qz i p (.dct false ks vs))
 |_=>.bad
section
variable{K:W.Frag}{G H:Hp}
theorem RepE.unpin:∀{es:PV.Env}{vs:List (Option V)}{fp:List Addr}{i:Nat}{p:Addr}{c:O}{d:D},RepE K G H es vs fp->es[i]?=some (some (.pin p c,d))->RepE K G H (es.set i (some (c,d))) vs fp
 |[],_,_,_,_,_,_,_,e=>by simp at e
 |none::es,vs,fp,i,p,c,d,q,e=>by
  cases i with
  |zero=>simp at e
  |succ i=>
   obtain⟨y,ys,ev,q⟩:=q;exact⟨y,ys,ev,RepE.unpin q (by simpa using e)⟩
 |some r::es,vs,fp,i,p,c,d,q,e=>by
  obtain⟨y,ys,ev,v,a,b,e1,e2,r1,r2⟩:=q;cases i with
  |zero=>
   have e:r=(.pin p c,d):=by simpa using e
   subst e;have r1:RepO K G H (.pin p c) d v a:=r1;rw[RepO]at r1;exact⟨y,ys,ev,v,a,b,e1,e2,r1.2,r2⟩
  |succ i=>exact⟨y,ys,ev,v,a,b,e1,e2,r1,RepE.unpin r2 (by simpa using e)⟩
theorem Rel.unpin{es:PV.Env}{vs:List (Option V)}{fp:List Addr}{i:Nat}{p:Addr}{c:O}{d:D}(q:Rel K G H es vs fp)(e:es[i]?=some (some (.pin p c,d))):Rel K G H (es.set i (some (c,d))) vs fp:=⟨q.rep.unpin e,q.nd,q.gn,q.gh⟩
end
theorem loan_outO{md:Mode}{K:W.Frag}{G H:Hp}{fp f1 b0:List Addr}{p:Addr}{C1:List (Key×V)}{o:Obj}{i:Nat}{vs:List D}{D0:Ends}{r:Res Out}(gp:G p=none)(Hx:Step G H fp G H (p::b0))(JH:∀z∈f1,z∈p::b0)(hf:∀kv∈C1,fitK kv.1)(rs:Reps K G vs (C1.map (·.2)))
  (k:OutOk (md:=md) K G H fp D0 (r.bind (qz i p (.dct false (C1.map fun kv=>kD kv.1) vs)))):OutOk (md:=md) K (upd G p (.frz o (.dK C1))) (upd H p (.frz o (.dK C1))) f1 (IL p o C1 D0) r:=by
 cases r with
 |bad=>exact k
 |exc c=>exact k
 |ok out=>
  have k:OutOk (md:=md) K G H fp D0 (qz i p (.dct false (C1.map fun kv=>kD kv.1) vs) out):=k;unfold qz at k;split at k
  ·rename_i e';split at k
   ·rename_i FN;rw[Oz]at FN;obtain⟨h1,h2⟩:=FN;unfold jH at h1;split at h1
    ·rename_i q' d' Kg;rw[OR]at h1;subst h1;intro σ' H' G' C6 st rl;obtain⟨z,G2,fz,De,LS⟩:=loan_backO (G:=G) (H:=H) (fp:=q'::b0) gp Oh JH st rl Kg h2 hf rs;have DH:=(Om.mp Kg).1;have NU:=LS.unpin (i:=i) (c:=.d) (by rw[Pj DH]);rw[P2]at NU;exact⟨z,k σ' _ G2 fz (Hx.trans De) NU⟩
    ·cases h1
   ·exact k.elim
  ·exact k.elim
section
variable{X:Cx}{md:Mode}
theorem wK{i:Nat}{tg iter:Expr}{body:List Stmt}{a:FG}{g:FS}{pos:Pos}(hp:PassesOwn (model X.prog X.w) X.A X.env X.xe)(hc:X.calm=true)(hn:PE X iter (nL i))(hg:QG X tg a)(hb:Hb (md:=md) X body g)(hs:∀x,foldedSetIterable iter X.env x=pure x:=by intro _;rfl):
  QS (md:=md) X (.For tg iter body [] pos) (qA i a g):=
 dm (qo (mq hp hc (qm hn) hg hb hs)) fun D0 σ H Dg=>by
  obtain⟨G,env,fp,rel,k⟩:=Dg;unfold qA at k;split at k
  ·rename_i ks vs hi;obtain⟨v,fq,ev,g1,Hx,_⟩:=rel.out hi;obtain⟨y,ys,e0,v',a0,b0,e1,e2,r1,r2⟩:=g1.rep;cases e0;cases e1;rw[RepO]at r1;obtain⟨p,xs,o0,Ke,hH,dd,ea,rs⟩:=r1;subst Ke;subst ea;subst e2;rcases qx (fun p=>(cY a g ks (env.set i (some (.pin p .f,.dct false ks vs)))).bind (qz i p (.dct false ks vs))) with eb|eb
   ·rw[eb]at k;exact k.elim
   rw[eb p]at k;clear eb;obtain⟨C1,eo,ek,ex,hf⟩:=(show ∃C1:List (Key×V),o0=.dK C1/\ks=C1.map (fun kv=>kD kv.1)/\xs=C1.map (·.2)/\∀kv∈C1,fitK kv.1 from dd)
   subst eo ex ek;have nd:=OU.mp (show(p::b0).Nodup from g1.nd);have gp:G p=none:=g1.gn p Oh;have LU:∀z∈b0,z≠p:=fun z hz e=>nd.1 (e▸hz)
   refine⟨p,C1,hH,fun o=>?_⟩;have LX:Same G (upd G p (.frz o (.dK C1))):=fun z u e=>by rw[ai (aA e gp)];exact e
   have Kj:Rel X.K (upd G p (.frz o (.dK C1))) (upd H p (.frz o (.dK C1))) (some (.pin p .f,.dct false (C1.map fun kv=>kD kv.1) vs)::env.set i none) (some (.ref p)::σ) b0:=by
    refine⟨⟨_,_,rfl,.ref p,[],b0,rfl,rfl,?_,r2.step LX fun z hz=>ai (LU z hz)⟩,nd.2,fun z hz=>?_,fun z u e=>?_⟩
    ·rw[RepO];refine⟨rfl,dk.mpr ⟨?_,rfl⟩⟩;rw[Rep];exact⟨p,C1.map (·.2),.dK C1,rfl,.inr ⟨o,aw⟩,⟨C1,rfl,rfl,rfl,hf⟩,Reps.mono LX rs⟩
    ·rw[ai (LU z hz)];exact g1.gn z (Og _ hz)
    ·by_cases hz:z=p
     ·subst hz;rw[aw]at e ⊢;exact e
     ·rw[ai hz]at e ⊢;exact g1.gh z u e
   obtain⟨f1,C5,Dj⟩:=Kj.back (i:=i) (by rw[O1];exact(Om.mp hi).1) ev;rw[P2]at C5;have JH:∀z∈f1,z∈p::b0:=fun z hz=>by
    rcases Dj.fpn z hz with h|h
    ·exact Og _ h
    ·exfalso;obtain⟨u,hu⟩:=C5.rep.live z hz;rw[h]at hu;cases hu
   refine⟨.ref p,ev,p,o,C1,rfl,aw,?_⟩;have k1:=loan_outO (o:=o) (G:=G) (H:=H) (fp:=fp) gp Hx JH hf rs k;have wk:Walk X.K (upd G p (.frz o (.dK C1))) (KY o C1.length p) (C1.map fun kv=>kD kv.1):=kM aw hf;generalize (C1.map fun kv=>kD kv.1)=ds at k1 wk C5;refine⟨fun j m σ' H'=>m=ds.length-j/\j<=ds.length/\∃G' env' C6,Same (upd G p (.frz o (.dK C1))) G'/\Rel X.K G' H' env' σ' C6/\OutOk (md:=md) X.K G' H' C6 (IL p o C1 D0) (cY a g (ds.drop j) env'),⟨_,rfl,Pn _,_,_,f1,.refl _,C5,k1⟩,?_⟩;rintro j m σ2 H2 ⟨rfl,hj,G2,C8,Dw,gg,C4,k2⟩;obtain⟨w1,w2⟩:=wk G2 H2 _ _ _ gg C4 j;by_cases DH:j<ds.length
   ·have hd:ds[j]?=some ds[j]:=Ol DH;obtain⟨go,yl⟩:=w1 _ hd;rw[Ph DH]at k2;refine .inr ⟨go,fun σ' H'=>∃G' env' C6,Same (upd G p (.frz o (.dK C1))) G'/\Rel X.K G' H' env' σ' C6/\OutOk (md:=md) X.K G' H' C6 (IL p o C1 D0) (cY a g (ds.drop (j+1)) env'),fun σ' H' z=>⟨ds.length-(j+1),by lia,rfl,DH,z⟩,fun x H3 y=>?_⟩;obtain⟨G3,rx,DG,Dv⟩:=yl x H3 y;unfold cY at k2;match q3:a ds[j] C8,k2 with
    | .ok Dt,k2=>
     refine⟨G3,C8,Dw,ds[j],Dt,DG,rx,q3,fun σ4 G4 J7 DQ DV=>⟨G4,Dt,J7,DV,?_⟩⟩;have k3:OutOk (md:=md) X.K G2 H2 Dw (IL p o C1 D0) ((g Dt).bind fun o=>match o with | .nx e=>cY a g (ds.drop (j+1)) e | .ct e=>cY a g (ds.drop (j+1)) e | .bk e=>.ok (.nx e) | .rt r=>.ok (.rt r)):=k2;match q4:g Dt,k3 with
     | .ok (.nx e),k3=>exact fun σ' H' G' C6 st rel=>⟨G',e,C6,gg.trans (Dv.gg.trans (DQ.gg.trans st.gg)),rel,OutOk.after (Dv.trans (DQ.trans st)) k3⟩
     | .ok (.ct e),k3=>exact fun σ' H' G' C6 st rel=>⟨G',e,C6,gg.trans (Dv.gg.trans (DQ.gg.trans st.gg)),rel,OutOk.after (Dv.trans (DQ.trans st)) k3⟩
     | .ok (.bk e),k3=>exact fun σ' H' G' C6 st rel=>k3 σ' H' G' C6 (Dv.trans (DQ.trans st)) rel
     | .ok (.rt r),k3=>exact fun v H' G' C6 st rel=>k3 v H' G' C6 (Dv.trans (DQ.trans st)) rel
   ·have e:j=ds.length:=by lia
    subst e;rw[Qi]at k2;exact .inl ⟨w2 rfl,k2 σ2 H2 G2 Dw .refl C4⟩
  ·exact k.elim
end
theorem bt_abs:bootBuiltins "abs" = some (.builtin "abs"):=by decide +kernel
def As(a:FG)(c:FT)(f:FX)(ds:List D)(E:Addr->PV.Env)(k0:Nat)(d0:D)(x:List D):Prop:=∀q,∃C8,compLE a c f ds (E q)=.ok (x,C8)/\C8[k0]?=some (some (.pin q .d,d0))
open Classical in
def lV(a:FG)(c:FT)(f:FX)(ds:List D)(E:Addr->PV.Env)(k0:Nat)(d0:D):Res (List D):=if h:∃x,As a c f ds E k0 d0 x then .ok h.choose else .bad
theorem tG{a:FG}{c:FT}{f:FX}{ds:List D}{E:Addr->PV.Env}{k0:Nat}{d0:D}{x:List D}(h:As a c f ds E k0 d0 x):lV a c f ds E k0 d0=.ok x:=by
 have ex:∃x,As a c f ds E k0 d0 x:=⟨x,h⟩
 unfold lV;rw[Vx ex];obtain⟨e1,h1,_⟩:=ex.choose_spec 0;obtain⟨e2,h3,_⟩:=h 0;rw[h1]at h3;exact P0 Res.ok (P0 Prod.fst (Res.ok.inj h3))
theorem tH{a:FG}{c:FT}{f:FX}{ds:List D}{E:Addr->PV.Env}{k0:Nat}{d0:D}{x:List D}(h:lV a c f ds E k0 d0=.ok x):As a c f ds E k0 d0 x:=by
 unfold lV at h;split at h
 ·rename_i ex;cases h;exact ex.choose_spec
 ·cases h
noncomputable def jb(fi:FI)(ix:List (Option Nat))(j k0:Nat)(a:FG)(c:FT)(f:FX):FX:=fun env=>(fi env).bind fun p=>match p.2[j]? with
 |some (some (.d,.dct false ks vs))=>(lV a c f p.1 (fun q=>(ba ix (p.2.set j none)).set k0 (some (.pin q .d,.dct false ks vs))) k0 (.dct false ks vs)).bind fun x=>if x.length<=sizeLine/\Dc x=true/\Dc vs=true then .ok ((.l .f,.lst x),p.2) else .bad
 |_=>.bad
theorem zd{K:W.Frag}{fi:FI}{ix:List (Option Nat)}{j k0:Nat}{a:FG}{c:FT}{f:FX}{σ:L2.St}{H:Hp}{Q:VK}(hk:ix[k0]?=some (some j))(h:tQ K (jb fi ix j k0 a c f) σ H Q):nU (tQI K fi) ix (tQG K a) (tQT K c) (tQ K f) σ H Q:=by
 obtain⟨G,env,fp,r,env',rel,e,k⟩:=h;obtain⟨⟨ds,C2⟩,e1,e⟩:=ah e;refine⟨G,env,fp,ds,C2,rel,e1,fun J H1 G1 Ds Dj C5 wk D hD=>?_⟩;dsimp only at e;split at e
 ·rename_i ks vs hj
  ·obtain⟨rs,e2,e⟩:=ah e;split at e
   ·rename_i hz;injection e with e;injection e with e5 e6;subst e5;subst e6;obtain⟨v0,aa,b,ev,r0,r2,pm⟩:=C5.rep.take hj;have r0:RepO K G1 H1 .d (.dct false ks vs) v0 aa:=r0;have r00:=r0;rw[RepO]at r0;obtain⟨q,Na,o0,eq,hq,dd0,ea,Nb⟩:=r0;subst eq ea;have nd:=ON.mp (pm.nodup_iff.mp C5.nd);have GL:Rel K G1 H1 (C2.set j none) σ b:=⟨r2,nd.2.1,fun w hw=>C5.gn w (pm.mem_iff.mpr (Oj _ hw)),C5.gh⟩
    obtain⟨G2,Hv,IF,LJ,E5,EA⟩:=GL.lendM [q] (fun w hw hb=>nd.2.2 w hw w hb rfl) (fun w hw=>C5.gn w (pm.mem_iff.mpr (Oo _ hw)));have rE:=cH (H:=H1) E5 (fun i r er=>let⟨v,ev,_⟩:=GL.view er;⟨v,ev⟩) ix;have KR:(ba ix (C2.set j none))[k0]?=some none:=by
     unfold ba;rw[OG,hk];show some (match(C2.set j none)[j]? with|some (some r)=>some (O.f,r.2)|_=>none)=_;rw[Pj (Om.mp hj).1]
    have FQ:(cV ix σ)[k0]?=some (some (.ref q)):=by
     unfold cV;rw[OG,hk];show some ((σ[j]?).bind id)=_;rw[ev];rfl
    have rP:RepO K G2 H1 (.pin q .d) (.dct false ks vs) (.ref q) [q]:=by
     rw[RepO];refine⟨rfl,?_⟩;rw[RepO];exact⟨q,Na,o0,rfl,hq,dd0,rfl,Nb.mono Hv⟩
    obtain⟨LK,LM,Kd⟩:=rE.put (i:=k0) (r:=(.pin q .d,.dct false ks vs)) (v:=.ref q) KR rP;rw[eP FQ]at LM;have C4:Rel K G2 H1 ((ba ix (C2.set j none)).set k0 (some (.pin q .d,.dct false ks vs))) (cV ix σ) LK:=⟨LM,Kd.symm.nodup_iff.mp (OU.mpr ⟨Pg,QL⟩),(fun w hw=>LJ w (by have:=Kd.mem_iff.mp hw;simpa using this)),IF⟩
    have Hx:Step G2 H1 [q] G2 H1 LK:=Step.cut fun w hw=>by have:=Kd.mem_iff.mp hw;simpa using this
    obtain⟨DG,Dv⟩:=C4.newL (ds:=[]) (xs:=[]) hD .nil;obtain⟨HX,eL,eK⟩:=tH e2 q;dsimp only at eL eK;refine⟨fun i m σ1 H2=>m=ds.length-i/\i<=ds.length/\∃G' es C6 acc aE,Step G2 H1 [q] G' H2 C6/\Rel K G' H2 (some (.l .f,.lst acc)::es) (some (.ref D)::σ1) C6/\compLE a c f (ds.drop i) es=.ok (aE,HX)/\acc++aE=rs,
     ⟨_,rfl,Pn _,G2,_,_,[],rs,Hx.trans Dv,DG,eL,rfl⟩,?_⟩
    rintro i m σ1 H2 ⟨rfl,hi,G3,es,Eu,acc,aE,DQ,DV,e4,Ea⟩;obtain⟨w1,w2⟩:=wk G3 H2 _ _ _ (Hv.trans DQ.gg) DV i;by_cases DH:i<ds.length
    ·have hd:ds[i]?=some ds[i]:=Ol DH;obtain⟨go,yl⟩:=w1 _ hd;rw[Ph DH]at e4;unfold compLE at e4;obtain⟨JD,h1,e4⟩:=ah e4;obtain⟨⟨b',Gk⟩,h2,e4⟩:=ah e4;dsimp only at e4;refine .inr ⟨go,fun x H3 y=>?_⟩;obtain⟨G4,rx,D2,Ei⟩:=yl x H3 y;obtain⟨fa,fb,Hw,ra,FV,bk⟩:=D2.frame;refine⟨G4,es,fb,ds[i],JD,FV,rx,h1,fun σ2 G5 HN Lw HP=>?_⟩;refine⟨G5,JD,HN,b',Gk,HP,h2,fun H6 G6 JE Lx Gm=>?_⟩;have Gn:=Lw.trans Lx;cases b' with
     |false=>
      refine iteF ⟨ds.length-(i+1),by lia,rfl,DH,?_⟩;obtain⟨Ew,Fh⟩:=bk G6 H6 Gk σ2 JE Gn Gm;rw[<-Hw]at Fh;exact⟨G6,Gk,_,acc,aE,DQ.trans (Ei.trans Fh),Ew,e4,Ea⟩
     |true=>
      have e4:((f Gk).bind fun q=>(compLE a c f (ds.drop (i+1)) q.2).bind fun rs=>.ok (q.1.2::rs.1,rs.2))=.ok (aE,HX):=e4;obtain⟨⟨r,HQ⟩,h3,e4⟩:=ah e4;obtain⟨⟨Gp,LN⟩,h4,e4⟩:=ah e4;cases e4;refine xB ⟨G6,Gk,JE,r,HQ,Gm,h3,fun v H7 G7 NN Ly HR=>?_⟩;obtain⟨G8,Lz,rv,HS,LA⟩:=HR.freeze;obtain⟨Ew,Fh⟩:=bk G8 H7 HQ σ2 Lz (Gn.trans (Ly.trans LA)) HS;rw[<-Hw]at Fh;obtain⟨p,xs,ep,hp,HG,cg⟩:=Ew.chg (i:=0) (ds:=acc) (ds':=acc++[r.2]) rfl;have ep:some (some (V.ref D))=some (some (V.ref p)):=ep;cases ep;obtain⟨fq,HU,LB⟩:=cg (xs++[v]) (HG.app (.one rv));refine⟨xs,hp,?_,ds.length-(i+1),by lia,rfl,DH,G8,HQ,fq,acc++[r.2],Gp,DQ.trans (Ei.trans (Fh.trans LB)),HU,h4,?_⟩
      ·rw[HG.length];have:=P0 List.length Ea;rw[O8,OA]at this;have:=hz.1;lia
      ·rw[<-Ea,OX];rfl
    ·have ei:i=ds.length:=by lia
     subst ei;rw[Qi]at e4;cases e4;rw[OK]at Ea;subst Ea;refine .inl ⟨w2 rfl,?_⟩;obtain⟨fa,fb,Hw,ra,FV,bk⟩:=DV.frame;obtain⟨v1,fq1,Ke,HV,LD,_⟩:=FV.out eK;obtain⟨fx,HY,stx⟩:=HV.only;have Lp:v1=.ref q:=by
      obtain⟨y,ys,ey,v2,a2,b2,Kf,LO,Gq,LP⟩:=HY.rep;cases ey;cases Kf;have Gq:RepO K G3 H2 (.pin q .d) (.dct false ks vs) v1 a2:=Gq;rw[RepO]at Gq;exact Gq.1
     subst Lp;obtain⟨Ew,Fh⟩:=bk G3 H2 _ _ fx (LD.trans stx) HY;rw[<-Hw]at Fh;obtain⟨G5,HN,Ei,D2⟩:=EA H2 G3 _ _ _ (DQ.trans Fh) Ew (fun w hw=>by
      rcases Ov.mp hw with hw|hw
      ·cases hw;rw[aH,dA];exact hz.2.1
      ·rw[Pb]at hw;cases hw;rw[aH,aH];exact hz.2.2)
     obtain⟨a1,b1,ef,ro,DB,comb⟩:=Rel.frame D2;have HZ:Rel K G5 H2 (some (.d,.dct false ks vs)::C2.set j none) (some (.ref q)::σ) b1:=DB.unpin (i:=0) rfl;obtain⟨fq,GN,LQ⟩:=HZ.back (i:=j) (by rw[O1];exact(Om.mp hj).1) ev;rw[P2]at GN;obtain⟨Hm,JG⟩:=comb G5 H2 _ _ fq LQ GN;rw[<-ef]at JG;rw[eP hj]at Hm;exact k _ H2 G5 _ (Dj.trans ((Ei.perm (fun w=>pm.mem_iff.symm) (fun w hw=>hw)).trans JG)) Hm
   ·cases e
 ·cases e
section
variable{md:Mode}{X:Cx}{scope:Scope}{N:List Str}{tg iter elt:Expr}{ifs:List Expr}{pos:Pos}{fi:FI}{a:FG}{c:FT}{f:FX}{j k0:Nat}
theorem tJ(ix:List (Option Nat))(N:List Str)(hc:X.calm=true)(hi:QI X tg iter fi)(hg:∀C s H fp pn,QG (aQ X scope N C s H fp pn) tg a)(ht:∀C s H fp pn,J8 (aQ X scope N C s H fp pn) ifs c)(he:∀C s H fp pn,QE (aQ X scope N C s H fp pn) elt f)
  (Nd:ix[k0]?=some (some j):=by rfl)
  (hf:cE scope X.env=true:=by rfl) (hk:scope.kind=.function:=by rfl) (Dp:∀y∈scope.names,y.2≠.cell:=by decide +kernel) (DA:∀y∈scope.names,y.2=.local->scope.names.lookup y.1=some .local:=by decide +kernel) (D7:lh X scope N ix=true:=by rfl)
  (hs:∀x,foldedSetIterable iter X.env x=pure x:=by intro _;rfl):QE X (.ListComp elt [⟨tg,iter,ifs,0⟩] scope pos) (jb fi ix j k0 a c f):=
 a8 (lD (g:=tQG X.K a) (tc:=tQT X.K c) (te:=tQ X.K f) ix N hc hi hg ht he hf hk Dp DA D7 hs) fun _ _ _=>zd Nd
end
end PV
namespace NX
open PySem PySem.Spec PyProof.Rows L2
section
open PySem.AutoSeq1 (wpAny_loadPart')
end
end NX
namespace PV
open PySem PySem.Spec PyProof.Rows L2 NX
section
variable{X:Cx}
end
section
variable{X:Cx}
theorem mT{i:Int}(h:i.natAbs.log2<900000):Builtin.Int.intBits i<=2 ^ 20:=by
 unfold Builtin.Int.intBits;have e:(2:Nat) ^ 20=1048576:=by decide
 split
 ·exact Pn _
 ·lia
theorem wL:DK X (binaryOp .Mult) (rI (fun i j=>i.natAbs.log2<900000/\j.natAbs.log2<900000) fun i j=>.int (i*j)):=Ju fun _ _ _ _ _ _ _ hc q=>mul_int q (.of_bits (mT hc.1) (mT hc.2))
def gr(a b:D):Res R:=match a,b with
 | .int i,.int j=>if i.natAbs.log2<900000/\j.natAbs.log2<900000 then .ok (.f,.int (i*j)) else .bad
 |a,b=>xE a b
theorem cz:DK X (binaryOp .Mult) (rG X.K gr):=by
 rintro pr s σ H x y v u Q I rx ry ⟨G,fp,es,vs,a,b,r,⟨rel,k⟩,va,vb,e⟩;unfold gr at e;split at e
 ·rename_i i j;split at e
  ·rename_i hc;cases e;cases aO va;cases aO vb;exact wL pr s σ H _ _ v u Q I rx ry ⟨i,j,rfl,rfl,hc,k _ H G fp .refl (rel.push (rep_int _))⟩
  ·cases e
 ·exact wD pr s σ H x y v u Q I rx ry ⟨G,fp,es,vs,_,_,r,⟨rel,k⟩,va,vb,e⟩
theorem tL:DK X (binaryOp .FloorDiv) (rI (fun _ j=>j≠0/\j.natAbs.log2<9000) fun i j=>.int (i.fdiv j)):=Ju fun _ _ _ _ _ _ _ hc q=>floordiv_int hc.1 q (.inl (PyProof.noPylong_of_log2 hc.2))
def jI:D->D->Res R
 | .int i,.int j=>if j≠0/\j.natAbs.log2<9000 then .ok (.f,.int (i.fdiv j)) else .bad
 |_,_=>.bad
theorem jJ:DK X (binaryOp .FloorDiv) (rG X.K jI):=by
 rintro pr s σ H x y v u Q I rx ry ⟨G,fp,es,vs,a,b,r,⟨rel,k⟩,va,vb,e⟩;unfold jI at e;split at e
 ·rename_i i j;split at e
  ·rename_i hc;cases e;cases aO va;cases aO vb;exact tL pr s σ H _ _ v u Q I rx ry ⟨i,j,rfl,rfl,hc,k _ H G fp .refl (rel.push (rep_int _))⟩
  ·cases e
 ·cases e
end
open Classical in
def Hy(i:Nat)(p:Addr)(ds:List D)(env:PV.Env):Bool:=decide (env[i]?=some (some (.pin p (.l .f),.lst ds)))
open Classical in
theorem lW{i:Nat}{p:Addr}{ds:List D}{env:PV.Env}:Hy i p ds env=true<->env[i]?=some (some (.pin p (.l .f),.lst ds)):=by
 unfold Hy;exact decide_eq_true_iff
noncomputable def lr(a:FG)(g:FS)(i:Nat)(p:Addr)(ds:List D):List D->FS
 |[],env=>.ok (.nx env)
 |d::l,env=>(a d env).bind fun e1=>(g e1).bind fun o=>match o with
  | .nx e=>if Hy i p ds e then lr a g i p ds l e else .bad
  | .ct e=>if Hy i p ds e then lr a g i p ds l e else .bad
  |_=>.bad
def wM(i:Nat)(ds:List D):Out->Res Out
 | .nx env=>.ok (.nx (env.set i (some (.l .f,.lst ds))))
 |_=>.bad
def qB(i:Nat)(a:FG)(g:FS):FS:=fun env=>match env[i]? with
 |some (some (.l .f,.lst ds))=>uO fun p=>(lr a g i p ds ds (env.set i (some (.pin p (.l .f),.lst ds)))).bind (wM i ds)
 |_=>.bad
section
variable{K:W.Frag}{G H:Hp}
theorem RepE.pin:∀{es:PV.Env}{vs:List (Option V)}{fp:List Addr}{i:Nat}{p:Addr}{c:O}{d:D},RepE K G H es vs fp->es[i]?=some (some (c,d))->vs[i]?=some (some (.ref p))->RepE K G H (es.set i (some (.pin p c,d))) vs fp
 |[],_,_,_,_,_,_,_,e,_=>by simp at e
 |none::es,vs,fp,i,p,c,d,q,e,w=>by
  cases i with
  |zero=>simp at e
  |succ i=>
   obtain⟨y,ys,ev,q⟩:=q;subst ev;exact⟨y,ys,rfl,RepE.pin q (by simpa using e) (by simpa using w)⟩
 |some r::es,vs,fp,i,p,c,d,q,e,w=>by
  obtain⟨y,ys,ev,v,a,b,e1,e2,r1,r2⟩:=q;subst ev;cases i with
  |zero=>
   have e:r=(c,d):=by simpa using e
   subst e;have w:y=some (.ref p):=by simpa using w
   rw[e1]at w;cases w;refine⟨y,ys,rfl,_,a,b,e1,e2,?_,r2⟩;show RepO K G H (.pin p c) d _ a;rw[RepO];exact⟨rfl,r1⟩
  |succ i=>exact⟨y,ys,rfl,v,a,b,e1,e2,r1,RepE.pin r2 (by simpa using e) (by simpa using w)⟩
theorem Rel.pin{es:PV.Env}{vs:List (Option V)}{fp:List Addr}{i:Nat}{p:Addr}{c:O}{d:D}(q:Rel K G H es vs fp)(e:es[i]?=some (some (c,d)))(w:vs[i]?=some (some (.ref p))):Rel K G H (es.set i (some (.pin p c,d))) vs fp:=⟨q.rep.pin e w,q.nd,q.gn,q.gh⟩
theorem Rel.lp{es:PV.Env}{vs:List (Option V)}{fp:List Addr}{i:Nat}{p:Addr}{ds:List D}(q:Rel K G H es vs fp)(e:es[i]?=some (some (.pin p (.l .f),.lst ds))):∃xs,H p=some (.lst xs)/\Reps K G ds xs:=by
 obtain⟨v,fq,ev,g,_,_⟩:=q.out e;obtain⟨y,ys,e0,v',a,b,e1,e2,r1,r2⟩:=g.rep;cases e0;cases e1;have r1:RepO K G H (.pin p (.l .f)) (.lst ds) v a:=r1;rw[RepO]at r1;obtain⟨ep,r1⟩:=r1;obtain⟨p',xs,Ex,hp,_,rs⟩:=bz.mp r1;rw[ep]at Ex;cases Ex;exact⟨xs,hp,rs⟩
end
section
variable{X:Cx}{md:Mode}
theorem wN{i:Nat}{tg iter:Expr}{body:List Stmt}{a:FG}{g:FS}{pos:Pos}(hp:PassesOwn (model X.prog X.w) X.A X.env X.xe)(hc:X.calm=true)(hn:PE X iter (nL i))(hg:QG X tg a)(hb:Hb (md:=md) X body g)(hs:∀x,foldedSetIterable iter X.env x=pure x:=by intro _;rfl):
  QS (md:=md) X (.For tg iter body [] pos) (qB i a g):=
 dm (mq hp hc (lz hn) hg hb hs) fun D0 σ H Dg=>by
  obtain⟨G,env,fp,rel,k⟩:=Dg;unfold qB at k;split at k
  ·rename_i ds hi;obtain⟨v,fq,ev,g1,_,_⟩:=rel.out hi;obtain⟨y,ys,e0,v',a0,b0,e1,e2,r1,r2⟩:=g1.rep;cases e0;cases e1;obtain⟨p,xs,Ke,hH,ea,rs⟩:=bz.mp r1;subst Ke;rcases qx (fun p=>(lr a g i p ds ds (env.set i (some (.pin p (.l .f),.lst ds)))).bind (wM i ds)) with eb|eb
   ·rw[eb]at k;exact k.elim
   rw[eb p]at k;clear eb;have hlt0:=(Om.mp hi).1;have sq:SqL X.K H p xs:=.inl (.inl hH);refine⟨.ref p,ev,p,rfl,⟨xs,sq⟩,?_⟩;refine⟨fun j m σ' H'=>m=ds.length-j/\j<=ds.length/\∃G' env' C6,Rel X.K G' H' env' σ' C6/\env'[i]?=some (some (.pin p (.l .f),.lst ds))/\OutOk (md:=md) X.K G' H' C6 D0 ((lr a g i p ds (ds.drop j) env').bind (wM i ds)),⟨_,rfl,Pn _,G,_,fp,rel.pin hi ev,Pj hlt0,k⟩,?_⟩;rintro j m σ2 H2 ⟨rfl,hj,G2,C8,Dw,C4,My,k2⟩;obtain⟨HF,IC,NV⟩:=C4.lp My;have Ng:SqL X.K H2 p HF:=.inl (.inl IC);by_cases DH:j<ds.length
   ·have hd:ds[j]?=some ds[j]:=Ol DH;obtain⟨x0,Iu,rx0⟩:=NV.get hd;rw[Ph DH]at k2;refine .inr ⟨⟨HF,x0,Ng,Iu⟩,fun σ' H'=>∃G' env' C6,Rel X.K G' H' env' σ' C6/\env'[i]?=some (some (.pin p (.l .f),.lst ds))/\OutOk (md:=md) X.K G' H' C6 D0 ((lr a g i p ds (ds.drop (j+1)) env').bind (wM i ds)),fun σ' H' z=>⟨ds.length-(j+1),by lia,rfl,DH,z⟩,fun x H3 ⟨eh,hy⟩=>?_⟩;subst eh;have NW:=hy HF Ng;rw[Iu]at NW;cases NW;unfold lr at k2;match q3:a ds[j] C8,k2 with
    | .ok Dt,k2=>
     refine⟨G2,C8,Dw,ds[j],Dt,C4,rx0,q3,fun σ4 G4 J7 DQ DV=>⟨G4,Dt,J7,DV,?_⟩⟩;have k3:OutOk (md:=md) X.K G2 H3 Dw D0 (((g Dt).bind fun o=>match o with | .nx e=>if Hy i p ds e then lr a g i p ds (ds.drop (j+1)) e else .bad | .ct e=>if Hy i p ds e then lr a g i p ds (ds.drop (j+1)) e else .bad|_=>.bad).bind (wM i ds)):=k2;match q4:g Dt,k3 with
     | .ok (.nx e),k3=>
      have k3:OutOk (md:=md) X.K G2 H3 Dw D0 ((if Hy i p ds e then lr a g i p ds (ds.drop (j+1)) e else .bad).bind (wM i ds)):=k3;by_cases hok:Hy i p ds e=true
      ·rw[Oy hok]at k3;exact fun σ' H' G' C6 st rel=>⟨G',e,C6,rel,lW.mp hok,OutOk.after (DQ.trans st) k3⟩
      ·rw[OD hok]at k3;exact k3.elim
     | .ok (.ct e),k3=>
      have k3:OutOk (md:=md) X.K G2 H3 Dw D0 ((if Hy i p ds e then lr a g i p ds (ds.drop (j+1)) e else .bad).bind (wM i ds)):=k3;by_cases hok:Hy i p ds e=true
      ·rw[Oy hok]at k3;exact fun σ' H' G' C6 st rel=>⟨G',e,C6,rel,lW.mp hok,OutOk.after (DQ.trans st) k3⟩
      ·rw[OD hok]at k3;exact k3.elim
     | .ok (.bk e),k3=>exact k3.elim
     | .ok (.rt r),k3=>exact k3.elim
   ·have e:j=ds.length:=by lia
    subst e;rw[Qi]at k2;refine .inl ⟨⟨HF,Ng,by rw[NV.length];lia⟩,?_⟩;have k2:OutOk (md:=md) X.K G2 H2 Dw D0 (.ok (.nx (C8.set i (some (.l .f,.lst ds))))):=k2;exact k2 σ2 H2 G2 Dw .refl (C4.unpin My)
  ·exact k.elim
theorem wO{i:Nat}{a:FG}{g:FS}{env env':PV.Env}{ds:List D}(hi:env[i]?=some (some (.l .f,.lst ds)))(h:∀p,∃e,lr a g i p ds ds (env.set i (some (.pin p (.l .f),.lst ds)))=.ok (.nx e)/\e.set i (some (.l .f,.lst ds))=env'):qB i a g env=.ok (.nx env'):=by
 unfold qB;rw[hi];refine qw fun p=>?_
 obtain⟨e,h1,h2⟩:=h p;rw[h1];show Res.ok (Out.nx (e.set i (some (.l .f,.lst ds))))=_;rw[h2]
theorem qC{a:FG}{g:FS}{i:Nat}{p:Addr}{ds l:List D}{d:D}{env e1 e:PV.Env}(h1:a d env=.ok e1)(h2:g e1=.ok (.nx e))(h3:e[i]?=some (some (.pin p (.l .f),.lst ds))):lr a g i p ds (d::l) env=lr a g i p ds l e:=by
 have hok:Hy i p ds e=true:=lW.mpr h3;show(a d env).bind _=_;rw[h1];show(g e1).bind _=_;rw[h2];show(if Hy i p ds e then lr a g i p ds l e else .bad)=_;rw[Oy hok]
end
end PV
namespace LW
open PySem L2 NX PV
abbrev ze(f:FX):FI:=D9 (yL f) (D9 (fL f) (fM f))
noncomputable def mU:FS:=(iq (bA gQ (ag (aq (cZ (bB (ak 2)) [none,some 0,some 1] (av 0) gP (bA wt (ag (aq (cZ (oq (ag (aq (aD 1)) (ag (aq (aD 2)) ax))) [none,none,some 0] (lM 2 (bf (av 0) (bf (av 1) fK))) gP (aJ gr (aq (aJ DT (ak 0) (ak 2))) (ak 1)))) ax)))) ax)))
def dF:List D->Res R:=fBody 3 0 mU
def aF:FS:=(sSeq (cy 2 (aJ zc (ak 0) (ak 1)))
  (sSeq (cy 0 (aD 1))
  (cy 1 (aD 2))))
def cW:FS:=(bT (DF (aN DZ (ak 1) (aq (aT (.int 0)))))
  aF 100000)
def cK:FS:=(iq (bA xD (ag (ak 0) ax)))
def dU:FS:=(sSeq cW
  cK)
def aM:List D->Res R:=fBody 2 1 dU
def dG:FS:=(cy 1 (g0 aM (ag (ak 1) (ag (ak 2) ax))))
def jd:FS:=(pN (ze (aD 0)) (av 2)
  dG)
def iE:FS:=(sSeq (Ga (DF (aN FR (ak 1) (aq (aT (.int 0)))))
  (iq (jx 0))
  d7)
  (iq (bA gQ (ag (aq (cZ (D9 (g7 0) (D9 (fL (aD 0)) (fM (aD 0)))) [none,some 1] (av 0) gP (aJ jI (ak 0) (ak 1)))) ax))))
def mV:FS:=(sSeq (cy 1 (aT (.int 0)))
  (sSeq jd
  iE))
def bP:List D->Res R:=fBody 1 2 mV
noncomputable def kO:FS:=(sSeq (Ga (DF (aN FR (aq (aJ DT (ak 0) (ak 1))) (aq (aT (.int 0)))))
  (iq (jx 0))
  d7)
  (iq (g0 dF (ag (aq (j0 (cI (aD 0) (cI (aD 2) c5)))) (ag (aq (j0 (cI (aJ DT (ak 2) (ak 1)) (cI (Ap (aq (aJ DT (ak 0) (ak 1)))) c5)))) (ag (aq (bA h8 (ag (ak 0) ax))) ax))))))
def bX:List D->Res R:=fBody 3 0 kO
def bQ:FS:=(y0 3 (aD 4) (g0 bP (ag (aq (g0 bX (ag (aq (aJ Ir (ak 0) (ak 4))) (ag (ak 1) (ag (ak 2) ax))))) ax)))
def cM:FS:=(kJ 0 (av 4)
  bQ)
def dW:FS:=(sSeq (y0 3 (aD 1) (aD 2))
  (g8 0 (jx 3)))
def fT:FS:=(sSeq (cy 3 (eNewD false))
  (sSeq cM
  dW))
def aY:Addr->List D->Res R:=eA 3 2 (.d) fT
def bY:FS:=(cy 3 (g0 bX (ag (ak 3) (ag (ak 4) (ag (aq (aJ Ir (ak 1) (ak 4))) ax)))))
def c8:FS:=(qA 1 (av 4)
  bY)
noncomputable def bc:FS:=(sSeq (cy 5 (cZ (ja (ag (aq (aD 3)) ax)) [none,none] (lM 2 (bf (av 0) (bf (av 1) fK))) (DF (aN DZ (ak 1) (aq (aT (.int 0))))) (aD 0)))
  (Ga (DF (aJ KS (aq (bA h8 (ag (ak 5) ax))) (aq (aT (.int 0)))))
  (cy 1 (eFunW (.d) aY 1 (ag (ak 1) (ag (aq (aJ DT (ak 5) (aq (aT (.int 0))))) (ag (aq (g0 bP (ag (ak 3) ax))) ax)))))
  d7))
def bC:FS:=(sSeq (cy 3 (aD 2))
  (sSeq c8
  bc))
def e9:FS:=(pN (ze (aD 0)) (av 2)
  bC)
def eC:FS:=(iq (jx 1))
def gS:FS:=(sSeq (cy 1 (eNewD false))
  (sSeq e9
  eC))
def bD:List D->Res R:=fBody 1 5 gS
def cN:FS:=(ot 6 (aD 4) (aJ gr (aq (Ap (aq (aJ DT (aq (aJ Ir (ak 0) (ak 4))) (ak 1))))) (aq (aJ jI (ak 3) (aq (aJ DT (aq (aJ Ir (ak 0) (ak 4))) (ak 4)))))))
def c9:FS:=(kJ 0 (av 4)
  cN)
def eD:FS:=(g8 0 (g0 bP (ag (aq (bA gQ (ag (ak 6) ax))) ax)))
def cO:FS:=(sSeq (cy 5 (aJ DT (aq (aJ Ir (ak 0) (ak 4))) (ak 4)))
  (cy 3 (aJ jI (aq (bA xD (ag (aq (aJ gr (ak 3) (ak 5))) ax))) (aq (g0 aM (ag (ak 3) (ag (ak 5) ax)))))))
def de:FS:=(kJ 0 (av 4)
  cO)
def eE:FS:=(sSeq (cy 6 (aJ gr (aq (j0 (cI (aT (.int 0)) c5))) (ak 2)))
  (sSeq (ot 6 (aD 1) (aD 3))
  (sSeq c9
  eD)))
def gT:FS:=(sSeq (cy 3 (aT (.int 1)))
  (sSeq de
  eE))
def aG:Addr->List D->Res R:=eA 3 4 (.d) gT
def mW:FS:=(sSeq (cy 2 (g0 bD (ag (ak 0) ax)))
  (iq (jb (bB (ak 1)) [none,some 2,some 1] 2 1 (av 0) (DF (aN ou (ak 0) (ak 1))) (eFunW (.d) aG 1 (ag (ak 1) (ag (ak 0) (ag (ak 2) ax)))))))
def dH:List D->Res R:=fBody 2 1 mW
def cb:FS:=(sSeq (cy 3 (aJ ll (aq (aJ rV (aq (aJ rV (aq (aJ gr (ak 3) (ak 3))) (aq (aJ gr (aq (aT (.int 48271))) (ak 3))))) (aq (bA h8 (ag (ak 2) ax))))) (aq (aT (.int 2147483647)))))
  (lJ (wo 2 (aD 3))))
def dX:FS:=(bT (DF (aJ Lv (aq (bA h8 (ag (ak 2) ax))) (ak 1)))
  cb 100000)
def dt:FS:=(iq (bA Aq (ag (ak 2) ax)))
noncomputable def fg:FS:=(sSeq (cy 2 (cZ (ze (xC (ak 0) oh (oi (aD 1)))) [none] (av 0) gP (aJ ll (ak 0) (aq (aJ pP (aq (aT (.int 10))) (aq (aT (.int 59))))))))
  (sSeq (cy 3 (aJ rV (aq (aT (.int 48271))) (aq (aJ ll (aq (bA wt (ag (ak 2) ax))) (aq (aT (.int 2147483647)))))))
  (sSeq dX
  dt)))
def br:List D->Res R:=fBody 2 2 fg
def iF:FS:=(sSeq (Ga (DF (aN FR (ak 0) (aq (j0 c5))))
  (g8 0 (aT (.int 0)))
  d7)
  (g8 0 (aJ ll (aq (ePop 0)) (ak 1))))
def aB:Addr->List D->Res R:=eA 2 0 (.l .f) iF
noncomputable def fU:FS:=(sSeq (cy 1 (eFunW (.l .f) aB 0 (ag (ak 0) (ag (aq (aJ pP (aq (aT (.int 10))) (aq (aT (.int 59))))) ax))))
  (sSeq (Ga (DF (aN FR (aq (aJ ll (ak 1) (aq (aT (.int 4))))) (aq (aT (.int 3)))))
  (g8 0 (aJ lj (aq (aJ ll (aq (aJ lN (ak 1) (aq (aT (.int 4))))) (aq (aJ rV (aq (aJ gr (aq (aT (.int 2))) (aq (aJ pP (aq (aT (.int 10))) (aq (aT (.int 30))))))) (aq (aT (.int 1))))))) (aq (aJ pP (aq (aT (.int 10))) (aq (aT (.int 30)))))))
  d7)
  (g8 0 (aJ lj (aq (aJ ll (aq (aJ lN (ak 1) (aq (aT (.int 4))))) (aq (aT (.int 7))))) (aq (aT (.int 3)))))))
def aZ:Addr->List D->Res R:=eA 1 1 (.l .f) fU
def je:FS:=(g8 0 (bA gQ (ag (aq (mR (bB (ak 1)) [none,some 0] 0 1 (av 0) gP (eFunW (.l .f) aZ 1 (ag (ak 1) ax)))) ax)))
def bG:Addr->List D->Res R:=eA 2 0 (.l .f) je
def cf:FS:=(cy 2 (aJ rV (ak 2) (aq (aJ gr (aq (aJ DT (ak 0) (ak 3))) (aq (aJ DT (ak 1) (ak 3)))))))
def dY:FS:=(pN (bB (aq (bA h8 (ag (ak 0) ax)))) (av 3)
  cf)
def du:FS:=(iq (jx 2))
def fm:FS:=(sSeq (cy 2 (aT (.int 0)))
  (sSeq dY
  du))
def bt:List D->Res R:=fBody 2 2 fm
def dI:FS:=(ot 3 (aD 6) (aJ rV (aq (aJ DT (ak 3) (ak 6))) (aq (aJ gr (aq (aJ DT (ak 4) (ak 6))) (ak 5)))))
def eF:FS:=(pN (bB (ak 2)) (av 6)
  dI)
def fV:FS:=eF
def gU:FS:=(pN (oq (ag (aq (aD 0)) (ag (aq (aD 1)) ax))) (lM 2 (bf (av 4) (bf (av 5) fK)))
  fV)
def fW:FS:=(iq (bA gQ (ag (ak 3) ax)))
def jg:FS:=(sSeq (cy 3 (aJ gr (aq (j0 (cI (aT (.int 0)) c5))) (ak 2)))
  (sSeq gU
  fW))
def bU:List D->Res R:=fBody 3 4 jg
def gW:FS:=(iq (Ao (KU "int" (ak 0)) (A7 (KU "bool" (ak 0)))))
def bg:List D->Res R:=fBody 1 0 gW
noncomputable def fX:FS:=(sSeq (Ga (Mu (yH (DF (KU "tuple" (ak 0)))) (DF (aN DZ (aq (bA h8 (ag (ak 0) ax))) (ak 1))))
  (iq (aT (.bl false)))
  d7)
  (iq (aN ou (aq (aT (.bl false))) (aq (cZ (D9 (g7 0) (D9 (fL (aD 0)) (fM (aD 0)))) [none] (av 0) gP (g0 bg (ag (ak 0) ax)))))))
def bH:List D->Res R:=fBody 2 0 fX
noncomputable def bN:FS:=(sSeq (cy 7 (cZ (bB (aq (bA h8 (ag (ak 6) ax)))) [none,some 6,some 3,some 4] (av 0) gP (aJ lj (aq (aJ gr (aq (aJ DT (ak 1) (ak 0))) (aq (aJ DT (ak 2) (ak 3))))) (aq (aJ gr (aq (aJ DT (ak 2) (ak 0))) (aq (aJ DT (ak 1) (ak 3))))))))
  (Ga (DF (aN DZ (aq (cZ (D9 (g7 7) (D9 (fL (aD 7)) (fM (aD 7)))) [none] (av 0) (DF (aN DZ (ak 0) (aq (aT (.int 0))))) (aD 0))) (aq (j0 c5))))
  (lJ (wo 5 (aD 7)))
  d7))
def fY:FS:=(pN (ze (xC (ak 1) (oi (aT (.int 1))) oh)) (av 6)
  bN)
def ft:FS:=(sSeq (cy 1 (aD 5))
  (cy 2 (aJ rV (ak 2) (aq (aT (.int 1))))))
noncomputable def cp:FS:=(sSeq (cy 3 (aJ DT (ak 1) (aq (aT (.int 0)))))
  (sSeq (cy 4 (aJ DT (aq (cZ (bB (aq (bA h8 (ag (ak 3) ax)))) [none,some 3] (av 0) (DF (aN DZ (aq (aJ DT (ak 1) (ak 0))) (aq (aT (.int 0))))) (aD 0))) (aq (aT (.int 0)))))
  (sSeq (cy 5 (j0 c5))
  (sSeq fY
  ft))))
def fZ:FS:=(bT (DF (aN DZ (ak 1) (aq (j0 c5))))
  cp 100000)
def fu:FS:=(iq (jx 2))
noncomputable def iG:FS:=(sSeq (cy 1 (cZ (D9 (g7 0) (D9 (fL (aD 0)) (fM (aD 0)))) [none] (av 0) (DF (aN DZ (aq (cZ (D9 (g7 0) (D9 (fL (aD 0)) (fM (aD 0)))) [none] (av 0) (DF (aN DZ (ak 0) (aq (aT (.int 0))))) (aD 0))) (aq (j0 c5)))) (aD 0)))
  (sSeq (cy 2 (aT (.int 0)))
  (sSeq fZ
  fu)))
def bR:List D->Res R:=fBody 1 7 iG
noncomputable def bO:FS:=(sSeq (cy 4 (eFunW (.l .f) bG 0 (ag (ak 0) (ag (ak 1) ax))))
  (sSeq (cy 5 (eFunW (.l .f) aB 0 (ag (ak 0) (ag (aq (aT (.int 6))) ax))))
  (sSeq (Ga (An (DF (aN FR (ak 5) (aq (aT (.int 0))))) (DF (aJ KS (ak 3) (aq (aT (.int 1))))))
  (cy 4 (g0 bU (ag (aq (xC (ak 2) (oi (aJ lj (ak 3) (aq (aT (.int 2))))) oh)) (ag (aq (j0 (cI (aJ lj (aq (eFunW (.l .f) aB 0 (ag (ak 0) (ag (aq (aT (.int 5))) ax)))) (aq (aT (.int 2)))) (cI (aJ lj (aq (eFunW (.l .f) aB 0 (ag (ak 0) (ag (aq (aT (.int 5))) ax)))) (aq (aT (.int 2)))) c5)))) (ag (ak 1) ax)))))
  d7)
  (sSeq (Ga (DF (aN FR (ak 5) (aq (aT (.int 1)))))
  (cy 4 (aJ tq (aq (yP (cI (aT (.int 0)) c5))) (ak 1)))
  d7)
  (lJ (wo 2 (aD 4)))))))
def f6:FS:=(pN (bB (aq (eFunW (.l .f) aB 0 (ag (ak 0) (ag (aq (aT (.int 8))) ax))))) (av 3)
  bO)
def fw:FS:=(g8 0 (aD 2))
def iH:FS:=(sSeq (cy 2 (j0 c5))
  (sSeq f6
  fw))
def cj:Addr->List D->Res R:=eA 2 4 (.l .f) iH
def f7:FS:=(Ga (DF (aN DZ (aq (g0 bt (ag (ak 7) (ag (ak 6) ax)))) (aq (aT (.int 0)))))
  (iq (aT (.bl false)))
  d7)
def qD:FS:=(pN (ze (aD 3)) (av 7)
  f7)
def jK:FS:=(sSeq (Ga (yH (DF (g0 bH (ag (ak 6) (ag (ak 2) ax)))))
  (iq (aT (.bl false)))
  d7)
  qD)
def qE:FS:=(qB 5 (av 6)
  jK)
noncomputable def mX:FS:=(sSeq (Ga (DF (aN DZ (aq (g0 bR (ag (ak 5) ax))) (aq (bA h8 (ag (ak 5) ax)))))
  (iq (aT (.bl false)))
  d7)
  (sSeq (cy 8 (bA pS (ag (ak 5) ax)))
  (sSeq (lJ (wo 5 (aJ tq (aq (yP (cI (aT (.int 1)) c5))) (ak 2))))
  (iq (Ao (aN FR (aq (g0 dH (ag (ak 4) (ag (ak 2) ax)))) (ak 8)) (aN FR (ak 4) (ak 3)))))))
noncomputable def zf:FS:=(sSeq (cy 1 (g0 br (ag (ak 0) (ag (aq (aT (.int 80))) ax))))
  (sSeq (cy 2 (eFunW (.l .f) aB 1 (ag (ak 1) (ag (aq (aT (.int 7))) ax))))
  (sSeq (cy 3 (eFunW (.l .f) cj 1 (ag (ak 1) (ag (ak 2) ax))))
  (sSeq (cy 4 (bA pS (ag (ak 3) ax)))
  (sSeq (cy 5 (g0 dH (ag (ak 4) (ag (ak 2) ax))))
  (sSeq (Ga (Mu (yH (DF (KU "list" (ak 5)))) (DF (aN DZ (aq (bA h8 (ag (ak 5) ax))) (aq (aJ lj (ak 2) (aq (g0 bR (ag (ak 3) ax))))))))
  (iq (aT (.bl false)))
  d7)
  (sSeq qE
  mX)))))))
def m_law:List D->Res R:=fBody 1 8 zf
end LW
namespace LW
open PySem PySem.Spec PyProof.Rows L2 NX PV
theorem zg{α:Type}{Q:List α->Prop}(h:∀a,Q [a]):∀us,us.length=1->Q us
 |[a],_=>h a
theorem uP{α:Type}{Q:List α->Prop}(h:∀a b,Q [a,b]):∀us,us.length=2->Q us
 |[a,b],_=>h a b
theorem zh{α:Type}{Q:List α->Prop}(h:∀a b c,Q [a,b,c]):∀us,us.length=3->Q us
 |[a,b,c],_=>h a b c
theorem kP{X:Cx}{tg e:Expr}{f:FX}(h:QE X e f):QI X tg e (D9 (yL f) (D9 (fL f) (fM f))):=om (wg h) (om (iZ h) (i5 h))
def top(i:Nat):Stmt:=PySem.Challenge.pw_netfinder_k41_kernels.main.body.getD i (.Pass ⟨0,0,0,0⟩)
section
variable{P:Program}{w:World}{K:W.Frag}{mg:Str->Option Value}{base:Heap}
abbrev jL:Stmt:=top 1
theorem qF:FnScope ["rows","numbers","width"] ["rows","numbers","width"] (defScope jL):=fs
theorem qG(Df:Def K mg "summed" jL)(Dm:mg "range" = none)(FE:mg "sum" = none)(Du:mg "tuple" = none)(FF:mg "zip" = none):Ct P w K mg base "summed" 1 (spF K dF):=
 g5 Df qF (fun _ _ _ _ _ _=>zh fun _ _ _=>rfl) fun f Dx A outer s H E hr=>
  (ar (bS (cF fQ (by rfl) Du eN (ae (af (qj [none,some 0,some 1] ["at","rows","numbers"] rfl (cB (cx (by rfl) Dm (ab (pv 2)))) (fun _ _ _ _ _=>(aI (i:=0) (show List.Nodup (["at","rows","numbers"]:List Str) from by decide +kernel) rfl (lo rfl))) (fun _ _ _ _ _=>fC) (fun _ _ _ _ _=>(bu (uE rfl) (by rfl) FE uK (ae (af (eS [none,none,some 0] ["row","number","at"] rfl (cB (p8 (by rfl) FF (ae (af (az (pv 1))) (ae (af (az (pv 2))) ao)))) (fun _ _ _ _ _=>(have h:=(show List.Nodup (["row","number","at"]:List Str) from by decide +kernel);(pM rfl (eQ (aI (i:=0) h rfl (lo rfl)) (eQ (aI (i:=1) h rfl (lo rfl)) lK))))) (fun _ _ _ _ _=>fC) (fun _ _ _ _ _=>(aS cz (af (dB (ab (pv 0)) (ab (pv 2)))) (ab (pv 1)))))) ao))))) ao))))
abbrev cA:Stmt:=top 2
theorem bI:FnScope ["one","other","rest"] ["one","other"] (defScope cA):=fs
theorem gD(Df:Def K mg "common_divisor" cA)(FH:mg "abs" = none):Ct P w K mg base "common_divisor" 1 (spF K aM):=
 g5 Df bI (fun _ _ _ _ _ _=>uP fun _ _=>rfl) fun f Dx A outer s H E hr=>
  (aj (jz 100000 OV (bo (g6 hr.units) (ab (pv 1)) (af ay) (bx _))
  (aj (aK (i:=2) bI.nd rfl (lo rfl) (aS wJ (ab (pv 0)) (ab (pv 1))))
  (aj (aK (i:=0) bI.nd rfl (lo rfl) (az (pv 1)))
  (ar (aK (i:=1) bI.nd rfl (lo rfl) (az (pv 2)))))))
  (ar (bS (bu uM (by rfl) FH bt_abs (ae (ab (pv 0)) ao)))))
abbrev jM:Stmt:=top 3
theorem f9:FnScope ["row","divisor","number"] ["row"] (defScope jM):=fs
theorem qH(Df:Def K mg "lowest" jM)(DI:Ct P w K mg base "common_divisor" 1 (spF K aM))(Du:mg "tuple" = none):Ct P w K mg base "lowest" 2 (spF K bP):=
 g5 Df f9 (fun _ _ _ _ _ _=>zg fun _=>rfl) fun f Dx A outer s H E hr=>
  (aj (aK (i:=1) f9.nd rfl (lo rfl) ay)
  (aj (gO OV rfl (kP (az (pv 0))) (aI (i:=2) f9.nd rfl (lo rfl))
  (ar (aK (i:=1) f9.nd rfl (lo rfl) (b7 DI hr.m (by rfl) (ae (ab (pv 1)) (ae (ab (pv 2)) ao))))))
  (aj (gx (bo (kx hr.units) (ab (pv 1)) (af ay) (bx _))
  (ar (bS (gv (pv 0))))
  b9)
  (ar (bS (cF fQ (by rfl) Du eN (ae (af (eS [none,some 1] ["number","divisor"] rfl (e8 (iA (pv 0)) (e8 (cB (iZ (az (pv 0)))) (cB (i5 (az (pv 0)))))) (fun _ _ _ _ _=>(aI (i:=0) (show List.Nodup (["number","divisor"]:List Str) from by decide +kernel) rfl (lo rfl))) (fun _ _ _ _ _=>fC) (fun _ _ _ _ _=>(aS jJ (ab (pv 0)) (ab (pv 1)))))) ao)))))))
abbrev iI:Stmt:=top 5
theorem ox:FnScope ["row","column","by"] ["row","column","by"] (defScope iI):=fs
theorem oy(Df:Def K mg "cleared" iI)(Ib:Ct P w K mg base "summed" 1 (spF K dF))(DE:mg "len" = none):Ct P w K mg base "cleared" 2 (spF K bX):=
 g5 Df ox (fun _ _ _ _ _ _=>zh fun _ _ _=>rfl) fun f Dx A outer s H E hr=>
  (aj (gx (bo (kx hr.units) (af (dB (ab (pv 0)) (ab (pv 1)))) (af ay) (bx _))
  (ar (bS (gv (pv 0))))
  b9)
  (ar (bS (b7 Ib hr.m (by rfl) (ae (af (d8 (bW (az (pv 0)) (bW (az (pv 2)) bV)))) (ae (af (d8 (bW (dB (ab (pv 2)) (ab (pv 1))) (bW (uL (af (dB (ab (pv 0)) (ab (pv 1))))) bV)))) (ae (af (bu c7 (by rfl) DE bt_len (ae (ab (pv 0)) ao))) ao)))))))
abbrev dJ:Stmt:=top 6
theorem df:FnScope ["leaders","column","leader","joined","other"] ["leaders","column","leader"] (defScope dJ):=fs
theorem iR(Df:Def K mg "with_leader" dJ)(EJ:Ct P w K mg base "cleared" 2 (spF K bX))(Eb:Ct P w K mg base "lowest" 2 (spF K bP)):Ct P w K mg base "with_leader" 3 (spM K (.d) aY):=
 i9 Df df (fun _ _ _ _ _ _=>zh fun _ _ _=>rfl) fun f Dx A outer s H E hr=>
  (aj (aK (i:=3) df.nd rfl (lo rfl) pX)
  (aj (lU OV rfl (pv 0) (aI (i:=4) df.nd rfl (lo rfl))
  (ar (uJ (hu_of hr) (pv 3) (az (pv 4)) (b7 Eb hr.m (by rfl) (ae (af (b7 EJ hr.m (by rfl) (ae (af (p9 (hu_of hr) (ab (pv 0)) (ab (pv 4)))) (ae (ab (pv 1)) (ae (ab (pv 2)) ao))))) ao)))))
  (aj (uJ (hu_of hr) (pv 3) (az (pv 1)) (az (pv 2)))
  (ar (d9 (i:=0) (gv (pv 3)))))))
abbrev eG:Stmt:=top 7
theorem a7:FnScope ["rows","leaders","row","rest","column","filled"] ["rows"] (defScope eG):=fs
theorem jN(Df:Def K mg "leaders_of" eG)(EJ:Ct P w K mg base "cleared" 2 (spF K bX))(Eb:Ct P w K mg base "lowest" 2 (spF K bP))(Fv:Ct P w K mg base "with_leader" 3 (spM K (.d) aY))(DU:mg "enumerate" = none)(DE:mg "len" = none):Ct P w K mg base "leaders_of" 4 (spF K bD):=
 g5 Df a7 (fun _ _ _ _ _ _=>zg fun _=>rfl) fun f Dx A outer s H E hr=>
  (aj (aK (i:=1) a7.nd rfl (lo rfl) pX)
  (aj (gO OV rfl (kP (az (pv 0))) (aI (i:=2) a7.nd rfl (lo rfl))
  (aj (aK (i:=3) a7.nd rfl (lo rfl) (az (pv 2)))
  (aj (wK OV rfl (pv 1) (aI (i:=4) a7.nd rfl (lo rfl))
  (ar (aK (i:=3) a7.nd rfl (lo rfl) (b7 EJ hr.m (by rfl) (ae (ab (pv 3)) (ae (ab (pv 4)) (ae (af (p9 (hu_of hr) (ab (pv 1)) (ab (pv 4)))) ao)))))))
  (aj (h9 (i:=5) [none,none] ["column","number"] a7.nd rfl (lo rfl) rfl (cB (tF (by rfl) DU (ae (af (az (pv 3))) ao))) (fun _ _ _ _ _=>(have h:=(show List.Nodup (["column","number"]:List Str) from by decide +kernel);(pM rfl (eQ (aI (i:=0) h rfl (lo rfl)) (eQ (aI (i:=1) h rfl (lo rfl)) lK))))) (fun _ _ _ _ _=>(gA (bo (g6 hr.units) (ab (pv 1)) (af ay) (bx _)))) (fun _ _ _ _ _=>(az (pv 0))))
  (ar (gx (pH yO (af (bu c7 (by rfl) DE bt_len (ae (ab (pv 5)) ao))) (af ay) (bx _))
  (ar (aK (i:=1) a7.nd rfl (lo rfl) (cJ (i:=1) Fv hr.m (by rfl) (ae (ab (pv 1)) (ae (af (dB (ab (pv 5)) (af ay))) (ae (af (b7 Eb hr.m (by rfl) (ae (ab (pv 3)) ao))) ao))))))
  b9))))))
  (ar (bS (gv (pv 1))))))
abbrev eI:Stmt:=top 8
theorem bq:FnScope ["leaders","column","width","scale","at","leading","told"] ["leaders","column","width"] (defScope eI):=fs
theorem jO(Df:Def K mg "kernel_row" eI)(DI:Ct P w K mg base "common_divisor" 1 (spF K aM))(Eb:Ct P w K mg base "lowest" 2 (spF K bP))(FH:mg "abs" = none)(Du:mg "tuple" = none):Ct P w K mg base "kernel_row" 3 (spM K (.d) aG):=
 i9 Df bq (fun _ _ _ _ _ _=>zh fun _ _ _=>rfl) fun f Dx A outer s H E hr=>
  (aj (aK (i:=3) bq.nd rfl (lo rfl) ay)
  (aj (lU OV rfl (pv 0) (aI (i:=4) bq.nd rfl (lo rfl))
  (aj (aK (i:=5) bq.nd rfl (lo rfl) (dB (af (p9 (hu_of hr) (ab (pv 0)) (ab (pv 4)))) (ab (pv 4))))
  (ar (aK (i:=3) bq.nd rfl (lo rfl) (aS jJ (af (bu uM (by rfl) FH bt_abs (ae (af (aS cz (ab (pv 3)) (ab (pv 5)))) ao))) (af (b7 DI hr.m (by rfl) (ae (ab (pv 3)) (ae (ab (pv 5)) ao)))))))))
  (aj (aK (i:=6) bq.nd rfl (lo rfl) (aS cz (af (d8 (bW ay bV))) (ab (pv 2))))
  (aj (lR (pv 6) (az (pv 1)) (az (pv 3)))
  (aj (lU OV rfl (pv 0) (aI (i:=4) bq.nd rfl (lo rfl))
  (ar (lR (pv 6) (az (pv 4)) (aS cz (af (uL (af (dB (af (p9 (hu_of hr) (ab (pv 0)) (ab (pv 4)))) (ab (pv 1)))))) (af (aS jJ (ab (pv 3)) (af (dB (af (p9 (hu_of hr) (ab (pv 0)) (ab (pv 4)))) (ab (pv 4))))))))))
  (ar (d9 (i:=0) (b7 Eb hr.m (by rfl) (ae (af (cF fQ (by rfl) Du eN (ae (ab (pv 6)) ao))) ao)))))))))
abbrev jP:Stmt:=top 9
theorem kQ:FnScope ["rows","width","leaders"] ["rows","width"] (defScope jP):=fs
theorem qI(Df:Def K mg "kernel" jP)(FZ:Ct P w K mg base "kernel_row" 3 (spM K (.d) aG))(F0:Ct P w K mg base "leaders_of" 4 (spF K bD))(Dm:mg "range" = none):Ct P w K mg base "kernel" 5 (spF K dH):=
 g5 Df kQ (fun _ _ _ _ _ _=>uP fun _ _=>rfl) fun f Dx A outer s H E hr=>
  (aj (aK (i:=2) kQ.nd rfl (lo rfl) (b7 F0 hr.m (by rfl) (ae (ab (pv 0)) ao)))
  (ar (bS (tJ (j:=2) (k0:=1) [none,some 2,some 1] ["column","leaders","width"] rfl (cx (by rfl) Dm (ab (pv 1))) (fun _ _ _ _ _=>(aI (i:=0) (show List.Nodup (["column","leaders","width"]:List Str) from by decide +kernel) rfl (lo rfl))) (fun _ _ _ _ _=>(gA (bo (qc hr.u65) (ab (pv 0)) (ab (pv 1)) (by with_unfolding_all rfl)))) (fun _ _ _ _ _=>(cJ (i:=1) FZ hr.m (by rfl) (ae (ab (pv 1)) (ae (ab (pv 0)) (ae (ab (pv 2)) ao)))))))))
abbrev dg:Stmt:=top 11
theorem bZ:FnScope ["_law_script","_law_most","_law_deck","_law_last"] ["_law_script","_law_most"] (defScope dg):=fs
theorem iJ(Df:Def K mg "_law_numbers" dg)(DE:mg "len" = none)(Ec:mg "list" = none)(D3:mg "reversed" = none)(FE:mg "sum" = none):Ct P w K mg base "_law_numbers" 1 (spF K br):=
 g5 Df bZ (fun _ _ _ _ _ _=>uP fun _ _=>rfl) fun f Dx A outer s H E hr=>
  (aj (h9 (i:=2) [none] ["_law_cell"] bZ.nd rfl (lo rfl) rfl (cB (kP (p6 (ab (pv 0)) lO (lP (az (pv 1)))))) (fun _ _ _ _ _=>(aI (i:=0) (show List.Nodup (["_law_cell"]:List Str) from by decide +kernel) rfl (lo rfl))) (fun _ _ _ _ _=>fC) (fun _ _ _ _ _=>(aS iu (ab (pv 0)) (af (aS mK (af ay) (af ay))))))
  (aj (aK (i:=3) bZ.nd rfl (lo rfl) (aS fD (af ay) (af (aS iu (af (bu (uE rfl) (by rfl) FE uK (ae (ab (pv 2)) ao))) (af ay)))))
  (aj (jz 100000 OV (pH (yZ hr.units0) (af (bu c7 (by rfl) DE bt_len (ae (ab (pv 2)) ao))) (ab (pv 1)) (bx _))
  (aj (aK (i:=3) bZ.nd rfl (lo rfl) (aS iu (af (aS fD (af (aS fD (af (aS cz (ab (pv 3)) (ab (pv 3)))) (af (aS cz (af ay) (ab (pv 3)))))) (af (bu c7 (by rfl) DE bt_len (ae (ab (pv 2)) ao))))) (af ay)))
  (ar (jy (fP (pv 2) (az (pv 3)))))))
  (ar (bS (za rfl (by rfl) Ec (by rfl) D3 (ae (ab (pv 2)) ao)))))))
abbrev fE:Stmt:=top 12
theorem kR:FnScope ["_law_deck","_law_most"] ["_law_deck","_law_most"] (defScope fE):=fs
theorem kS(Df:Def K mg "_law_draw" fE):Ct P w K mg base "_law_draw" 1 (spM K (.l .f) aB):=
 i9 Df kR (fun _ _ _ _ _ _=>uP fun _ _=>rfl) fun f Dx A outer s H E hr=>
  (aj (gx (bo (kx hr.units) (ab (pv 0)) (af (d8 bV)) (bx _))
  (ar (d9 (i:=0) ay))
  b9)
  (ar (d9 (i:=0) (aS iu (af (y7 (pv 0))) (ab (pv 1))))))
abbrev dM:Stmt:=top 13
theorem fA:FnScope ["_law_deck","_law_number_here"] ["_law_deck"] (defScope dM):=fs
theorem iS(Df:Def K mg "_law_number" dM)(Dr:Ct P w K mg base "_law_draw" 1 (spM K (.l .f) aB)):Ct P w K mg base "_law_number" 2 (spM K (.l .f) aZ):=
 i9 Df fA (fun _ _ _ _ _ _=>zg fun _=>rfl) fun f Dx A outer s H E hr=>
  (aj (aK (i:=1) fA.nd rfl (lo rfl) (cJ (i:=0) Dr hr.m (by rfl) (ae (ab (pv 0)) (ae (af (aS mK (af ay) (af ay))) ao))))
  (aj (gx (bo (kx hr.units) (af (aS iu (ab (pv 1)) (af ay))) (af ay) (bx _))
  (ar (d9 (i:=0) (aS ir (af (aS iu (af (aS pO (ab (pv 1)) (af ay))) (af (aS fD (af (aS cz (af ay) (af (aS mK (af ay) (af ay))))) (af ay))))) (af (aS mK (af ay) (af ay))))))
  b9)
  (ar (d9 (i:=0) (aS ir (af (aS iu (af (aS pO (ab (pv 1)) (af ay))) (af ay))) (af ay))))))
abbrev gE:Stmt:=top 14
theorem lX:FnScope ["_law_deck","_law_width"] ["_law_deck","_law_width"] (defScope gE):=fs
theorem lY(Df:Def K mg "_law_row" gE)(Fw:Ct P w K mg base "_law_number" 2 (spM K (.l .f) aZ))(Dm:mg "range" = none)(Du:mg "tuple" = none):Ct P w K mg base "_law_row" 3 (spM K (.l .f) bG):=
 i9 Df lX (fun _ _ _ _ _ _=>uP fun _ _=>rfl) fun f Dx A outer s H E hr=>
  (ar (d9 (i:=0) (cF fQ (by rfl) Du eN (ae (af (tu (j:=0) (k0:=1) [none,some 0] ["_law_k","_law_deck"] rfl (cx (by rfl) Dm (ab (pv 1))) (fun _ _ _ _ _=>(aI (i:=0) (show List.Nodup (["_law_k","_law_deck"]:List Str) from by decide +kernel) rfl (lo rfl))) (fun _ _ _ _ _=>fC) (fun _ _ _ _ _=>(cJ (i:=1) Fw hr.m (by rfl) (ae (ab (pv 1)) ao))))) ao))))
abbrev dh:Stmt:=top 15
theorem b5:FnScope ["_law_one","_law_other","_law_total","_law_k"] ["_law_one","_law_other"] (defScope dh):=fs
theorem iK(Df:Def K mg "_law_product" dh)(DE:mg "len" = none)(Dm:mg "range" = none):Ct P w K mg base "_law_product" 1 (spF K bt):=
 g5 Df b5 (fun _ _ _ _ _ _=>uP fun _ _=>rfl) fun f Dx A outer s H E hr=>
  (aj (aK (i:=2) b5.nd rfl (lo rfl) ay)
  (aj (gO OV rfl (cx (by rfl) Dm (af (bu c7 (by rfl) DE bt_len (ae (ab (pv 0)) ao)))) (aI (i:=3) b5.nd rfl (lo rfl))
  (ar (aK (i:=2) b5.nd rfl (lo rfl) (aS fD (ab (pv 2)) (af (aS cz (af (dB (ab (pv 0)) (ab (pv 3)))) (af (dB (ab (pv 1)) (ab (pv 3))))))))))
  (ar (bS (gv (pv 2))))))
abbrev gF:Stmt:=top 16
theorem cP:FnScope ["_law_rows_here","_law_numbers_here","_law_width","_law_due","_law_row_here","_law_number_here","_law_k"] ["_law_rows_here","_law_numbers_here","_law_width"] (defScope gF):=fs
theorem lZ(Df:Def K mg "_law_sum" gF)(Dm:mg "range" = none)(Du:mg "tuple" = none)(FF:mg "zip" = none):Ct P w K mg base "_law_sum" 1 (spF K bU):=
 g5 Df cP (fun _ _ _ _ _ _=>zh fun _ _ _=>rfl) fun f Dx A outer s H E hr=>
  (aj (aK (i:=3) cP.nd rfl (lo rfl) (aS cz (af (d8 (bW ay bV))) (ab (pv 2))))
  (aj (gO OV rfl (p8 (by rfl) FF (ae (af (az (pv 0))) (ae (af (az (pv 1))) ao))) (pM rfl (eQ (aI (i:=4) cP.nd rfl (lo rfl)) (eQ (aI (i:=5) cP.nd rfl (lo rfl)) lK)))
  (ar (gO OV rfl (cx (by rfl) Dm (ab (pv 2))) (aI (i:=6) cP.nd rfl (lo rfl))
  (ar (lR (pv 3) (az (pv 6)) (aS fD (af (dB (ab (pv 3)) (ab (pv 6)))) (af (aS cz (af (dB (ab (pv 4)) (ab (pv 6)))) (ab (pv 5))))))))))
  (ar (bS (cF fQ (by rfl) Du eN (ae (ab (pv 3)) ao))))))
abbrev eJ:Stmt:=top 17
theorem jQ:FnScope ["_law_found"] ["_law_found"] (defScope eJ):=fs
theorem jR(Df:Def K mg "_law_whole" eJ)(F1:mg "bool" = none)(Hd:mg "int" = none)(Di:mg "isinstance" = none):Ct P w K mg base "_law_whole" 1 (spF K bg):=
 g5 Df jQ (fun _ _ _ _ _ _=>zg fun _=>rfl) fun f Dx A outer s H E hr=>
  (ar (bS (uA (sU (T:="int") (by decide) (ab (pv 0)) (by rfl) Di (by rfl) Hd yw) (uz (yK (sU (T:="bool") (by decide) (ab (pv 0)) (by rfl) Di (by rfl) F1 vP))))))
abbrev dN:Stmt:=top 18
theorem iT:FnScope ["_law_told","_law_width"] ["_law_told","_law_width"] (defScope dN):=fs
theorem iU(Df:Def K mg "_law_is_row" dN)(F2:Ct P w K mg base "_law_whole" 1 (spF K bg))(Di:mg "isinstance" = none)(DE:mg "len" = none)(Du:mg "tuple" = none):Ct P w K mg base "_law_is_row" 2 (spF K bH):=
 g5 Df iT (fun _ _ _ _ _ _=>uP fun _ _=>rfl) fun f Dx A outer s H E hr=>
  (aj (gx (QW.qt (yJ (pI (pG (sU (T:="tuple") (by decide) (ab (pv 0)) (by rfl) Di (by rfl) Du eN))) (uy (bo (g6 hr.units) (af (bu c7 (by rfl) DE bt_len (ae (ab (pv 0)) ao))) (ab (pv 1)) (bx _)))))
  (ar (bS nZ))
  b9)
  (ar (bS (lG (qc hr.u65) (af nZ) (af (eS [none] ["_law_number_here"] rfl (e8 (iA (pv 0)) (e8 (cB (iZ (az (pv 0)))) (cB (i5 (az (pv 0)))))) (fun _ _ _ _ _=>(aI (i:=0) (show List.Nodup (["_law_number_here"]:List Str) from by decide +kernel) rfl (lo rfl))) (fun _ _ _ _ _=>fC) (fun _ _ _ _ _=>(b7 F2 hr.m (by rfl) (ae (ab (pv 0)) ao))))) (by with_unfolding_all rfl)))))
abbrev fF:Stmt:=top 20
theorem aP:FnScope ["_law_rows_here","_law_left","_law_rank_here","_law_top","_law_place","_law_further","_law_row_here","_law_lower"] ["_law_rows_here"] (defScope fF):=fs
theorem kU(Df:Def K mg "_law_rank" fF)(DE:mg "len" = none)(Dm:mg "range" = none):Ct P w K mg base "_law_rank" 1 (spF K bR):=
 g5 Df aP (fun _ _ _ _ _ _=>zg fun _=>rfl) fun f Dx A outer s H E hr=>
  (aj (h9 (i:=1) [none] ["_law_row_here"] aP.nd rfl (lo rfl) rfl (e8 (iA (pv 0)) (e8 (cB (iZ (az (pv 0)))) (cB (i5 (az (pv 0)))))) (fun _ _ _ _ _=>(aI (i:=0) (show List.Nodup (["_law_row_here"]:List Str) from by decide +kernel) rfl (lo rfl))) (fun _ _ _ _ _=>(gA (bo (g6 hr.units) (af (eS [none] ["_law_number_here"] rfl (e8 (iA (pv 0)) (e8 (cB (iZ (az (pv 0)))) (cB (i5 (az (pv 0)))))) (fun _ _ _ _ _=>(aI (i:=0) (show List.Nodup (["_law_number_here"]:List Str) from by decide +kernel) rfl (lo rfl))) (fun _ _ _ _ _=>(gA (bo (g6 hr.units) (ab (pv 0)) (af ay) (bx _)))) (fun _ _ _ _ _=>(az (pv 0))))) (af (d8 bV)) (bx _)))) (fun _ _ _ _ _=>(az (pv 0))))
  (aj (aK (i:=2) aP.nd rfl (lo rfl) ay)
  (aj (jz 100000 OV (bo (g6 hr.units) (ab (pv 1)) (af (d8 bV)) (bx _))
  (aj (aK (i:=3) aP.nd rfl (lo rfl) (dB (ab (pv 1)) (af ay)))
  (aj (aK (i:=4) aP.nd rfl (lo rfl) (dB (af (eS [none,some 3] ["_law_k","_law_top"] rfl (cB (cx (by rfl) Dm (af (bu c7 (by rfl) DE bt_len (ae (ab (pv 3)) ao))))) (fun _ _ _ _ _=>(aI (i:=0) (show List.Nodup (["_law_k","_law_top"]:List Str) from by decide +kernel) rfl (lo rfl))) (fun _ _ _ _ _=>(gA (bo (g6 hr.units) (af (dB (ab (pv 1)) (ab (pv 0)))) (af ay) (bx _)))) (fun _ _ _ _ _=>(az (pv 0))))) (af ay)))
  (aj (aK (i:=5) aP.nd rfl (lo rfl) (d8 bV))
  (aj (gO OV rfl (kP (p6 (ab (pv 1)) (lP ay) lO)) (aI (i:=6) aP.nd rfl (lo rfl))
  (aj (h9 (i:=7) [none,some 6,some 3,some 4] ["_law_k","_law_row_here","_law_top","_law_place"] aP.nd rfl (lo rfl) rfl (cB (cx (by rfl) Dm (af (bu c7 (by rfl) DE bt_len (ae (ab (pv 6)) ao))))) (fun _ _ _ _ _=>(aI (i:=0) (show List.Nodup (["_law_k","_law_row_here","_law_top","_law_place"]:List Str) from by decide +kernel) rfl (lo rfl))) (fun _ _ _ _ _=>fC) (fun _ _ _ _ _=>(aS ir (af (aS cz (af (dB (ab (pv 1)) (ab (pv 0)))) (af (dB (ab (pv 2)) (ab (pv 3)))))) (af (aS cz (af (dB (ab (pv 2)) (ab (pv 0)))) (af (dB (ab (pv 1)) (ab (pv 3)))))))))
  (ar (gx (bo (g6 hr.units) (af (eS [none] ["_law_number_here"] rfl (e8 (iA (pv 7)) (e8 (cB (iZ (az (pv 7)))) (cB (i5 (az (pv 7)))))) (fun _ _ _ _ _=>(aI (i:=0) (show List.Nodup (["_law_number_here"]:List Str) from by decide +kernel) rfl (lo rfl))) (fun _ _ _ _ _=>(gA (bo (g6 hr.units) (ab (pv 0)) (af ay) (bx _)))) (fun _ _ _ _ _=>(az (pv 0))))) (af (d8 bV)) (bx _))
  (ar (jy (fP (pv 5) (az (pv 7)))))
  b9))))
  (aj (aK (i:=1) aP.nd rfl (lo rfl) (az (pv 5)))
  (ar (aK (i:=2) aP.nd rfl (lo rfl) (aS fD (ab (pv 2)) (af ay))))))))))
  (ar (bS (gv (pv 2)))))))
abbrev fG:Stmt:=top 21
theorem bE:FnScope ["_law_deck","_law_width","_law_rows_here","_law_k","_law_row_here","_law_way"] ["_law_deck","_law_width"] (defScope fG):=fs
theorem kW(Df:Def K mg "_law_rows" fG)(Dr:Ct P w K mg base "_law_draw" 1 (spM K (.l .f) aB))(GO:Ct P w K mg base "_law_row" 3 (spM K (.l .f) bG))(GP:Ct P w K mg base "_law_sum" 1 (spF K bU))(Dm:mg "range" = none):Ct P w K mg base "_law_rows" 4 (spM K (.l .f) cj):=
 i9 Df bE (fun _ _ _ _ _ _=>uP fun _ _=>rfl) fun f Dx A outer s H E hr=>
  (aj (aK (i:=2) bE.nd rfl (lo rfl) (d8 bV))
  (aj (gO OV rfl (cx (by rfl) Dm (af (cJ (i:=0) Dr hr.m (by rfl) (ae (ab (pv 0)) (ae (af ay) ao))))) (aI (i:=3) bE.nd rfl (lo rfl))
  (aj (aK (i:=4) bE.nd rfl (lo rfl) (cJ (i:=0) GO hr.m (by rfl) (ae (ab (pv 0)) (ae (ab (pv 1)) ao))))
  (aj (aK (i:=5) bE.nd rfl (lo rfl) (cJ (i:=0) Dr hr.m (by rfl) (ae (ab (pv 0)) (ae (af ay) ao))))
  (aj (gx (QW.qt (yI (bo (kx hr.units) (ab (pv 5)) (af ay) (bx _)) (we (pH yO (ab (pv 3)) (af ay) (bx _)))))
  (ar (aK (i:=4) bE.nd rfl (lo rfl) (b7 GP hr.m (by rfl) (ae (af (p6 (ab (pv 2)) (lP (aS ir (ab (pv 3)) (af ay))) lO)) (ae (af (d8 (bW (aS ir (af (cJ (i:=0) Dr hr.m (by rfl) (ae (ab (pv 0)) (ae (af ay) ao)))) (af ay)) (bW (aS ir (af (cJ (i:=0) Dr hr.m (by rfl) (ae (ab (pv 0)) (ae (af ay) ao)))) (af ay)) bV)))) (ae (ab (pv 1)) ao))))))
  b9)
  (aj (gx (bo (kx hr.units) (ab (pv 5)) (af ay) (bx _))
  (ar (aK (i:=4) bE.nd rfl (lo rfl) (aS qi (af (uC (bW ay bV))) (ab (pv 1)))))
  b9)
  (ar (jy (fP (pv 2) (az (pv 4))))))))))
  (ar (d9 (i:=0) (az (pv 2))))))
abbrev jS:Stmt:=top 22
theorem gc:FnScope ["_law_script","_law_deck","_law_width","_law_rows_here","_law_handed","_law_told","_law_other","_law_row_here","_law_kept"] ["_law_script"] (defScope jS):=fs
theorem zi{f:Addr}{fd:FuncData}(F:Fun K "law" "law" jS f fd)(Dr:Ct P w K mg base "_law_draw" 1 (spM K (.l .f) aB))(Fx:Ct P w K mg base "_law_is_row" 2 (spF K bH))(Fi:Ct P w K mg base "_law_numbers" 1 (spF K br))(Fj:Ct P w K mg base "_law_product" 1 (spF K bt))(EM:Ct P w K mg base "_law_rank" 1 (spF K bR))(Gr:Ct P w K mg base "_law_rows" 4 (spM K (.l .f) cj))(Gs:Ct P w K mg base "kernel" 5 (spF K dH))(Di:mg "isinstance" = none)(DE:mg "len" = none)(Ec:mg "list" = none):FnOk P w K mg base Ht 6 f fd ["_law_script"] (spF K m_law):=
 fnok_of F gc fun Dx A outer s H E hr=>
  (aj (aK (i:=1) gc.nd rfl (lo rfl) (b7 Fi hr.m (by rfl) (ae (ab (pv 0)) (ae (af ay) ao))))
  (aj (aK (i:=2) gc.nd rfl (lo rfl) (cJ (i:=1) Dr hr.m (by rfl) (ae (ab (pv 1)) (ae (af ay) ao))))
  (aj (aK (i:=3) gc.nd rfl (lo rfl) (cJ (i:=1) Gr hr.m (by rfl) (ae (ab (pv 1)) (ae (ab (pv 2)) ao))))
  (aj (aK (i:=4) gc.nd rfl (lo rfl) (cF pT (by rfl) Ec lC (ae (ab (pv 3)) ao)))
  (aj (aK (i:=5) gc.nd rfl (lo rfl) (b7 Gs hr.m (by rfl) (ae (ab (pv 4)) (ae (ab (pv 2)) ao))))
  (aj (gx (QW.qt (yJ (pI (pG (sU (T:="list") (by decide) (ab (pv 5)) (by rfl) Di (by rfl) Ec lC))) (uy (bo (g6 hr.units) (af (bu c7 (by rfl) DE bt_len (ae (ab (pv 5)) ao))) (af (aS ir (ab (pv 2)) (af (b7 EM hr.m (by rfl) (ae (ab (pv 3)) ao))))) (bx _)))))
  (ar (bS nZ))
  b9)
  (aj (wN OV rfl (pv 5) (aI (i:=6) gc.nd rfl (lo rfl))
  (aj (gx (pI (pG (b7 Fx hr.m (by rfl) (ae (ab (pv 6)) (ae (ab (pv 2)) ao)))))
  (ar (bS nZ))
  b9)
  (ar (gO OV rfl (kP (az (pv 3))) (aI (i:=7) gc.nd rfl (lo rfl))
  (ar (gx (bo (g6 hr.units) (af (b7 Fj hr.m (by rfl) (ae (ab (pv 7)) (ae (ab (pv 6)) ao)))) (af ay) (bx _))
  (ar (bS nZ))
  b9))))))
  (aj (gx (bo (g6 hr.units) (af (b7 EM hr.m (by rfl) (ae (ab (pv 5)) ao))) (af (bu c7 (by rfl) DE bt_len (ae (ab (pv 5)) ao))) (bx _))
  (ar (bS nZ))
  b9)
  (aj (aK (i:=8) gc.nd rfl (lo rfl) (cF pT (by rfl) Ec lC (ae (ab (pv 5)) ao)))
  (aj (jy (fP (pv 5) (aS qi (af (uC (bW ay bV))) (ab (pv 2)))))
  (ar (bS (uA (lG (kx hr.units) (af (b7 Gs hr.m (by rfl) (ae (ab (pv 4)) (ae (ab (pv 2)) ao)))) (ab (pv 8)) (bx _)) (uz (lG (kx hr.units) (ab (pv 4)) (ab (pv 3)) (bx _))))))))))))))))
end
end LW
namespace PV
open PySem L2 NX
class Cont (α β:Type) where
 run:α->Res β
def Res.bnd{α β:Type}[f:Cont α β](x:Res α):Res β:=x.bind f.run
theorem DW{α β:Type}(a:α)(f:α->Res β):Res.bnd (Res.ok a) (f:=⟨f⟩)=f a:=id rfl
section
variable(env:PV.Env)(i n:Nat)(d:D)(f g:FX)(c c':FT)(fo Mz fo'':FO)(fs:FOs)(fd:FDs)(s t:FS)(op op':D->D->Res R)(F:List D->Res R)(a:FG)(as:IG)(fi fj:FI)(fp C6:FP)(T:String)
theorem Kk:aT d env=.ok ((.f,d),env):=id rfl
theorem He:aD i env=match env[i]? with|some (some r)=>.ok ((.f,r.2),env.set i (some (fz r.1,r.2)))|_=>.bad:=id rfl
theorem LY:fz .f=.f:=id rfl
theorem LZ(c:O):fz (.l c)=.f:=id rfl
theorem IM(p:Addr):rS (.pin p .f)=true:=id rfl
theorem Ic(p:Addr):rS (.pin p .d)=true:=id rfl
theorem IP:jx i env=match env[i]? with|some (some r)=>.ok (r,env.set i none)|_=>.bad:=id rfl
theorem Kl:aq f env=Res.bnd (f env) (f:=⟨fun p=>.ok (.val p.1.2,p.2)⟩):=id rfl
theorem Km:ak i env=match env[i]? with|some (some _)=>.ok (.var i,env)|_=>.bad:=id rfl
theorem IQ:ax env=.ok ([],env):=id rfl
theorem Ie:ag fo fs env=Res.bnd (fo env) (f:=⟨fun p=>Res.bnd (fs p.2) (f:=⟨fun q=>.ok (p.1::q.1,q.2)⟩)⟩):=id rfl
theorem IS:c5 env=.ok ([],env):=id rfl
theorem Ig:cI f fd env=Res.bnd (f env) (f:=⟨fun p=>Res.bnd (fd p.2) (f:=⟨fun q=>.ok (p.1.2::q.1,q.2)⟩)⟩):=id rfl
theorem Kn:EI env (.val d)=.ok d:=id rfl
theorem Ko:EI env (.var i)=match env[i]? with|some (some r)=>if rS r.1 then .ok r.2 else .bad|_=>.bad:=id rfl
theorem Dy:nX env (.val d)=.ok d:=id rfl
theorem Dz:nX env (.var i)=match env[i]? with|some (some r)=>.ok r.2|_=>.bad:=id rfl
theorem IT:oF env []=.ok []:=id rfl
theorem IU(o:Opd)(os:List Opd):oF env (o::os)=Res.bnd (EI env o) (f:=⟨fun d=>Res.bnd (oF env os) (f:=⟨fun ds=>.ok (d::ds)⟩)⟩):=id rfl
theorem Ih:iQ env []=.ok []:=id rfl
theorem Ii(o:Opd)(os:List Opd):iQ env (o::os)=Res.bnd (nX env o) (f:=⟨fun d=>Res.bnd (iQ env os) (f:=⟨fun ds=>.ok (d::ds)⟩)⟩):=id rfl
theorem IV:rS .f=true:=id rfl
theorem IW:rS (.l .f)=true:=id rfl
theorem Kp:aJ op fo Mz env=Res.bnd (fo env) (f:=⟨fun p=>Res.bnd (Mz p.2) (f:=⟨fun q=>Res.bnd (EI q.2 p.1) (f:=⟨fun a=>Res.bnd (EI q.2 q.1) (f:=⟨fun b=>Res.bnd (op a b) (f:=⟨fun r=>.ok (r,q.2)⟩)⟩)⟩)⟩)⟩):=id rfl
theorem IX:aN op fo Mz env=Res.bnd (fo env) (f:=⟨fun p=>Res.bnd (Mz p.2) (f:=⟨fun q=>Res.bnd (nX q.2 p.1) (f:=⟨fun a=>Res.bnd (nX q.2 q.1) (f:=⟨fun b=>Res.bnd (op a b) (f:=⟨fun r=>.ok (r,q.2)⟩)⟩)⟩)⟩)⟩):=id rfl
theorem L0:DF f env=Res.bnd (f env) (f:=⟨fun p=>match p.1.2 with | .bl k=>.ok (k,p.2)|_=>.bad⟩):=id rfl
theorem Kq:An c c' env=Res.bnd (c env) (f:=⟨fun p=>if p.1 then c' p.2 else .ok (false,p.2)⟩):=id rfl
theorem L1:Mu c c' env=Res.bnd (c env) (f:=⟨fun p=>if p.1 then .ok (true,p.2) else c' p.2⟩):=id rfl
theorem Kr:yH c env=Res.bnd (c env) (f:=⟨fun p=>.ok (!p.1,p.2)⟩):=id rfl
theorem Ks:Ao f g env=Res.bnd (f env) (f:=⟨fun p=>match p.1.2 with | .bl true=>g p.2 | .bl false=>.ok ((.f,.bl false),p.2)|_=>.bad⟩):=id rfl
theorem Kt:A7 f env=Res.bnd (f env) (f:=⟨fun p=>match p.1.2 with | .bl k=>.ok ((.f,.bl (!k)),p.2)|_=>.bad⟩):=id rfl
theorem IY:bA F fs env=Res.bnd (fs env) (f:=⟨fun p=>Res.bnd (oF p.2 p.1) (f:=⟨fun ds=>Res.bnd (F ds) (f:=⟨fun r=>.ok (r,p.2)⟩)⟩)⟩):=id rfl
theorem Ku:g0 F fs env=Res.bnd (fs env) (f:=⟨fun p=>Res.bnd (iQ p.2 p.1) (f:=⟨fun ds=>Res.bnd (F ds) (f:=⟨fun r=>.ok (r,if aH r.1 r.2 then p.2 else p.2.map frz)⟩)⟩)⟩):=id rfl
theorem Kv:yP fd env=Res.bnd (fd env) (f:=⟨fun p=>if p.1.length<=1000 then .ok ((.f,.tup p.1),p.2) else .bad⟩):=id rfl
theorem Kw:j0 fd env=Res.bnd (fd env) (f:=⟨fun p=>if p.1.length<=1000 then .ok ((.l .f,.lst p.1),p.2) else .bad⟩):=id rfl
theorem IZ:oh env=.ok (none,env):=id rfl
theorem I0:oi f env=Res.bnd (f env) (f:=⟨fun p=>match p.1.2 with | .int i=>.ok (some i,p.2)|_=>.bad⟩):=id rfl
theorem Kx:wo i f env=if pQ env i then(Res.bnd (f env) (f:=⟨fun(p:R×PV.Env)=>match p.2[i]? with
 |some (some (.l .f,.lst ds))=>if ds.length<sizeLine then .ok ((.f,.non),p.2.set i (some (.l .f,.lst (ds++[p.1.2])))) else .bad
 |_=>.bad⟩)) else .bad:=id rfl
theorem Ja:pQ env i=match env[i]? with|some (some (_,.lst _))=>true|_=>false:=id rfl
theorem L3:KU T fo env=Res.bnd (fo env) (f:=⟨fun p=>Res.bnd (nX p.2 p.1) (f:=⟨fun d=>.ok ((.f,.bl (pV T d)),p.2)⟩)⟩):=id rfl
theorem Jb(tk:Bool):eNewD tk env=.ok ((.d,.dct tk [] []),env):=id rfl
theorem Jc(ix:List (Option Nat)):cZ fi ix a c f env=Res.bnd (fi env) (f:=⟨fun p=>Res.bnd (cG a c f p.1 (ba ix p.2)) (f:=⟨fun ds=>if ds.length<=sizeLine then .ok ((.l .f,.lst ds),if Dc ds then p.2 else p.2.map frz) else .bad⟩)⟩):=id rfl
theorem GQ:ba [] env=[]:=id rfl
theorem GR(ix:List (Option Nat)):ba (none::ix) env=none::ba ix env:=id rfl
theorem GS(ix:List (Option Nat)):ba (some i::ix) env=(match env[i]? with|some (some r)=>some (O.f,r.2)|_=>none)::ba ix env:=id rfl
theorem zj:gP env=.ok (true,env):=id rfl
theorem mY(ds:List D):cG a c f (d::ds) env=Res.bnd (a d env) (f:=⟨fun e=>Res.bnd (c e) (f:=⟨fun p=>if p.1 then(Res.bnd (f p.2) (f:=⟨fun q=>Res.bnd (cG a c f ds q.2) (f:=⟨fun rs=>.ok (q.1.2::rs)⟩)⟩)) else cG a c f ds p.2⟩)⟩):=id rfl
theorem zk:yL f env=Res.bnd (f env) (f:=⟨fun p=>match p.1.2 with | .lst ds=>.ok (ds,p.2)|_=>.bad⟩):=id rfl
theorem qJ:fL f env=Res.bnd (f env) (f:=⟨fun p=>match p.1.2 with | .tup ds=>.ok (ds,p.2)|_=>.bad⟩):=id rfl
theorem qK:fM f env=Res.bnd (f env) (f:=⟨fun p=>match p.1.2 with | .str l=>.ok (l.map fun c=>.str [c],p.2)|_=>.bad⟩):=id rfl
theorem l5:D9 fi fj env=match fi env with | .ok a=>.ok a|_=>fj env:=by
 unfold D9;cases fi env <;> rfl
theorem Ky:D9 (yL f) (D9 (fL f) (fM f)) env=Res.bnd (f env) (f:=⟨fun p=>match p.1.2 with
 | .lst ds=>.ok (ds,p.2)
 | .tup ds=>.ok (ds,p.2)
 | .str l=>.ok (l.map fun c=>.str [c],p.2)
 |_=>.bad⟩):=by
 rw[l5,l5,zk,qJ,qK];cases f env with
 |ok p=>
  obtain⟨⟨o,d⟩,e⟩:=p;cases d <;> rfl
 |exc c=>rfl
 |bad=>rfl
theorem Jd:D9 (g7 i) (D9 (fL (aD i)) (fM (aD i))) env=match env[i]? with
 |some (some (_,.lst ds))=>.ok (ds,env)
 |some (some (o,.tup ds))=>.ok (ds,env.set i (some (fz o,.tup ds)))
 |some (some (o,.str l))=>.ok (l.map fun c=>.str [c],env.set i (some (fz o,.str l)))
 |_=>.bad:=by
 rw[l5,l5,qJ,qK,He];unfold g7;cases env[i]? with
 |none=>rfl
 |some r=>
  cases r with
  |none=>rfl
  |some r=>
   obtain⟨o,d⟩:=r;cases d <;> rfl
theorem FJ:bB fo env=Res.bnd (fo env) (f:=⟨fun p=>Res.bnd (EI p.2 p.1) (f:=⟨fun d=>match d with
 | .int j=>if -4611686018427387904<=j/\j<4611686018427387904 then .ok ((List.range j.toNat).map fun(k:Nat)=>D.int (k:Int),p.2) else .bad
 |_=>.bad⟩)⟩):=id rfl
theorem jT(k1 k2:Bool):og k1 k2 fs env=Res.bnd (fs env) (f:=⟨fun p=>match p.1 with
 |[.val d1,.val d2]=>Res.bnd (fN k1 d1) (f:=⟨fun a=>Res.bnd (fN k2 d2) (f:=⟨fun b=>.ok ((a.zip b).map fun z=>D.tup [z.1,z.2],p.2)⟩)⟩)
 |_=>.bad⟩):=id rfl
theorem Ej:av i d env=if i<env.length then .ok (env.set i (some (.f,d))) else .bad:=id rfl
theorem Je:fK [] env=.ok env:=id rfl
theorem Ed(ds:List D):bf a as (d::ds) env=Res.bnd (a d env) (f:=⟨fun e=>as ds e⟩):=id rfl
theorem GU(ds:List D):lM n as (.tup ds) env=if ds.length=n then as ds env else .bad:=id rfl
theorem F3:sSeq s t env=Res.bnd (s env) (f:=⟨fun o=>match o with | .nx e=>t e|o=>.ok o⟩):=id rfl
theorem Jf:d7 env=.ok (.nx env):=id rfl
theorem Kz:cy i f env=Res.bnd (f env) (f:=⟨fun p=>if i<p.2.length then .ok (.nx (p.2.set i (some p.1))) else .bad⟩):=id rfl
theorem Jg:lJ f env=Res.bnd (f env) (f:=⟨fun p=>.ok (.nx p.2)⟩):=id rfl
theorem KA:iq f env=Res.bnd (f env) (f:=⟨fun p=>.ok (.rt p.1)⟩):=id rfl
theorem L4:Ga c s t env=Res.bnd (c env) (f:=⟨fun p=>if p.1 then s p.2 else t p.2⟩):=id rfl
theorem F4:pN fi a s env=Res.bnd (fi env) (f:=⟨fun p=>cY a s p.1 p.2⟩):=id rfl
theorem fH(ds:List D):cY a s (d::ds) env=Res.bnd (a d env) (f:=⟨fun e=>Res.bnd (s e) (f:=⟨fun o=>match o with
 | .nx e=>cY a s ds e
 | .ct e=>cY a s ds e
 | .bk e=>.ok (.nx e)
 | .rt r=>.ok (.rt r)⟩)⟩):=id rfl
theorem eW:bT c s (n+1) env=Res.bnd (c env) (f:=⟨fun p=>if p.1 then(Res.bnd (s p.2) (f:=⟨fun o=>match o with
  | .nx e=>bT c s n e
  | .ct e=>bT c s n e
  | .bk e=>.ok (.nx e)
  | .rt r=>.ok (.rt r)⟩)) else .ok (.nx p.2)⟩):=id rfl
theorem ck(ds:List D)(nn:Nat)(h:ds.length=n):fBody n nn s ds=Res.bnd (s (ds.map (fun d=>some (O.f,d))++List.replicate nn none)) (f:=⟨fun o=>match o with
 | .rt r=>.ok r
 | .nx _=>.ok (.f,.non)
 |_=>.bad⟩):=by
 unfold fBody;rw[Oy h];all_goals cases s (ds.map (fun d=>some (O.f,d))++List.replicate nn none) with
 |ok o=>cases o <;> rfl
 |exc c=>rfl
 |bad=>rfl
end
theorem line_le{n:Nat}(h:n<=16777216):n<=sizeLine:=by rw[line_eq];exact h
section
variable(a b:Int)(x y:List Nat)(p q:Bool)(ds es:List D)
theorem Bn:FR (.int a) (.int b)=.ok (.f,.bl (a==b)):=by simp only[FR,plainD,C9,Pe,Qg]
theorem Bo:DZ (.int a) (.int b)=.ok (.f,.bl (!(a==b))):=by simp only[DZ,plainD,C9,Pe,Qg]
theorem zm:lj (.int a) (.int b)=.ok (.f,.int (a-b)):=id rfl
theorem wQ:lN (.int a) (.int b)=if 0<b/\b<1073741824 then .ok (.f,.int (a / b)) else .bad:=id rfl
theorem zo:ll (.int a) (.int b)=if 0<b then .ok (.f,.int (a%b)) else .bad:=id rfl
theorem zp:pP (.int a) (.int b)=if 0<=b/\b<=1000000/\a.natAbs<2 ^ 64 then .ok (.f,.int (a ^ b.toNat)) else .bad:=id rfl
theorem Bp:Lv (.int a) (.int b)=.ok (.f,.bl (decide (a<b))):=id rfl
theorem Bq:KS (.int a) (.int b)=.ok (.f,.bl (decide (b<a))):=id rfl
theorem zq:h8 [.lst ds]=.ok (.f,.int ds.length):=id rfl
theorem zr:h8 [.tup ds]=.ok (.f,.int ds.length):=id rfl
theorem wR:pS [.lst ds]=.ok (.l .f,.lst ds):=id rfl
theorem tM:gQ [.lst ds]=.ok (.f,.tup ds):=id rfl
theorem zt:DT (.lst ds) (.int a)=match FD ds a with|some d=>.ok (.f,d)|none=>.bad:=id rfl
theorem wU:DT (.tup ds) (.int a)=match FD ds a with|some d=>.ok (.f,d)|none=>.bad:=id rfl
end
theorem C7(l:List Int):Dc (l.map D.int)=true:=by
 rw[bF,QA,OS];intro b _;rfl
theorem flat_strs(l:List (List Nat)):Dc (l.map D.str)=true:=by
 rw[bF,QA,OS];intro b _;rfl
theorem cQ(d:D):aH .f d=d4 d:=by rw[aH]
theorem cq(ds:List D):aH (.l .f) (.lst ds)=Dc ds:=by rw[aH,dA]
theorem cu(i:Int):d4 (.int i)=true:=by rw[d4];all_goals simp
theorem F5(i:Bool):d4 (.bl i)=true:=by rw[d4];all_goals simp
theorem jU(ds:List D):d4 (.tup ds)=Dc ds:=by rw[d4]
theorem cm(n:Nat)(l:List Int):plainDs n (l.map D.int)=true:=by
 induction l with
 |nil=>rfl
 |cons a l ih=>rw[OH,plainDs,ih,plainD];all_goals simp
theorem xF(n:Nat)(l:List (List Nat)):plainDs n (l.map D.str)=true:=by
 induction l with
 |nil=>rfl
 |cons a l ih=>rw[OH,plainDs,ih,plainD];all_goals simp
theorem kX:∀a b:List Int,hW (a.map D.int) (b.map D.int)=(a==b)
 |[],[]=>by simp[hW]
 |[],_::_=>by simp[hW]
 |_::_,[]=>by simp[hW]
 |a::r,b::t=>by
  rw[OH,OH,hW,C9,kX r t,O7];simp
theorem tN(a:Int)(l:List Int):rT (.int a) (l.map D.int)=decide (a∈l):=by
 unfold rT;rw[Rl,O7,QR,OR];constructor
 ·rintro⟨x,hx,e⟩;have e:C9 (.int x) (.int a)=true:=e;rw[C9,OO]at e;rw[<-e];exact hx
 ·intro h;refine⟨a,h,?_⟩;show C9 (.int a) (.int a)=true;rw[C9,OZ]
theorem Au(a:List Nat)(l:List (List Nat)):rT (.str a) (l.map D.str)=decide (a∈l):=by
 unfold rT;rw[Rl,O7,QR,OR];constructor
 ·rintro⟨x,hx,e⟩;have e:C9 (.str x) (.str a)=true:=e;rw[C9,OO]at e;rw[<-e];exact hx
 ·intro h;refine⟨a,h,?_⟩;show C9 (.str a) (.str a)=true;rw[C9,OZ]
theorem BP(a:Int)(l:List Int):Jz (.int a) (.lst (l.map D.int))=.ok (.f,.bl (decide (a∈l))):=by
 unfold Jz;dsimp only;rw[cm,tN,plainD];all_goals simp
theorem ia{α:Type}{a:FG}{c:FT}{f:FX}{e:α->D}{p:α->Bool}{r:α->D}(I:PV.Env->Prop)(l:List α)
  (h:∀x∈l,∀env,I env->∃C2,a (e x) env=.ok C2/\∃C8,c C2=.ok (p x,C8)/\if p x then ∃o Dt,f C8=.ok ((o,r x),Dt)/\I Dt else I C8):∀env,I env->cG a c f (l.map e) env=.ok ((l.filter p).map r):=by
 induction l with
 |nil=>intro env _;rfl
 |cons x l ih=>
  intro env hI;obtain⟨C2,h1,C8,h2,h3⟩:=h x Oh env hI;have ih:=ih fun y hy=>h y (Og _ hy)
  rw[OH,mY,h1,DW,h2,DW];cases hp:p x with
  |true=>
   rw[hp]at h3;obtain⟨o,Dt,h4,h5⟩:=h3;rw[Oy rfl,h4,DW,ih Dt h5,DW,P9 hp];rfl
  |false=>
   rw[hp]at h3;rw[OD OB,ih C8 h3,Qs (by rw[hp];exact OB)]
theorem eX{α:Type}{a:FG}{f:FX}{e:α->D}{r:α->D}(I:PV.Env->Prop)(l:List α)
  (h:∀x∈l,∀env,I env->∃C2,a (e x) env=.ok C2/\∃o Dt,f C2=.ok ((o,r x),Dt)/\I Dt):∀env,I env->cG a gP f (l.map e) env=.ok (l.map r):=by
 induction l with
 |nil=>intro env _;rfl
 |cons x l ih=>
  intro env hI;obtain⟨C2,h1,o,Dt,h4,h5⟩:=h x Oh env hI;have ih:=ih fun y hy=>h y (Og _ hy)
  rw[OH,mY,h1,DW,zj,DW,Oy rfl,h4,DW,ih Dt h5];rfl
theorem wV{a:FG}{g:FS}(P:Nat->PV.Env->Prop)(ds:List D)(h:∀i d env,ds[i]?=some d->P i env->∃C2,a d env=.ok C2/\∃C8,(g C2=.ok (.nx C8)\/g C2=.ok (.ct C8))/\P (i+1) C8):
  ∀env,P 0 env->∃env',cY a g ds env=.ok (.nx env')/\P ds.length env':=by
 have key:∀(l:List D) (k:Nat) (env:PV.Env),(∀i d,l[i]?=some d->ds[k+i]?=some d)->P k env->∃env',cY a g l env=.ok (.nx env')/\P (k+l.length) env':=by
  intro l;induction l with
  |nil=>exact fun k env _ hp=>⟨env,rfl,hp⟩
  |cons d l ih=>
   intro k env hd hp;obtain⟨C2,h1,C8,h2,h3⟩:=h k d env (hd 0 d rfl) hp;obtain⟨env',h4,h5⟩:=ih (k+1) C8 (fun i d e=>by have:=hd (i+1) d (by simpa using e);rw[show k+1+i=k+(i+1) by lia];exact this) h3;refine⟨env',?_,by rw[OA,show k+(l.length+1)=k+1+l.length by lia];exact h5⟩;rw[fH,h1,DW];rcases h2 with h2|h2
   ·rw[h2,DW];exact h4
   ·rw[h2,DW];exact h4
 intro env hp;obtain⟨env',h1,h2⟩:=key ds 0 env (fun i d e=>by rw[Qp];exact e) hp;exact⟨env',h1,by rw[Qp]at h2;exact h2⟩
section
variable(env:PV.Env)(fo:FO)(fp C6:FP)(a b:Int)(ds:List D)(x:List Nat)
theorem KC:xC fo fp C6 env=Res.bnd (fo env) (f:=⟨fun p=>Res.bnd (fp p.2) (f:=⟨fun q=>Res.bnd (C6 q.2) (f:=⟨fun t=>Res.bnd (EI t.2 p.1) (f:=⟨fun d=>Res.bnd (LH d q.1 t.1) (f:=⟨fun r=>.ok (r,t.2)⟩)⟩)⟩)⟩)⟩):=id rfl
theorem KD:Ap fo env=Res.bnd (fo env) (f:=⟨fun p=>Res.bnd (EI p.2 p.1) (f:=⟨fun d=>match d with
 | .int i=>.ok ((.f,.int (-i)),p.2)
 |_=>.bad⟩)⟩):=id rfl
theorem zu(lo hi:Option Int):LH (.lst ds) lo hi=.ok (.l .f,.lst (i7 ds lo hi)):=id rfl
theorem zv(lo hi:Option Int)(h:HT.sIx ds.length 0 lo=0/\HT.sIx ds.length ds.length hi=ds.length):i7 ds lo hi=ds:=by
 unfold i7;rw[h.1,h.2,SX,Nat.sub_zero,Pk (Oq _)]
end
section
variable(env:PV.Env)(fo:FO)(fs:FOs)(f g:FX)(a b c:Int)(ds es:List D)(x y:List Nat)
theorem BQ(d:D):(∃l,fN true d=.ok l/\fN false d=.bad/\lq d=some l)\/(∃l,fN true d=.bad/\fN false d=.ok l/\lq d=some l)\/(fN true d=.bad/\fN false d=.bad/\lq d=none):=by
 cases d with
 |lst l=>exact .inl ⟨l,rfl,rfl,rfl⟩
 |tup l=>exact .inr (.inl ⟨l,rfl,rfl,rfl⟩)
 |_=>exact .inr (.inr ⟨rfl,rfl,rfl⟩)
def tP(k1 k2:Bool)(e:PV.Env)(d1 d2:D):Res (List D×PV.Env):=(fN k1 d1).bind fun a=>(fN k2 d2).bind fun b=>.ok ((a.zip b).map fun z=>D.tup [z.1,z.2],e)
def Br(e:PV.Env)(d1 d2:D):Res (List D×PV.Env):=match lq d1,lq d2 with|some a,some b=>.ok ((a.zip b).map fun z=>D.tup [z.1,z.2],e)|_,_=>.bad
def JI(a b:Res (List D×PV.Env)):Res (List D×PV.Env):=match a with | .ok a=>.ok a|_=>b
def rW(g:D->D->Res (List D×PV.Env))(os:List Opd):Res (List D×PV.Env):=match os with|[.val d1,.val d2]=>g d1 d2|_=>.bad
theorem l6(g h:D->D->Res (List D×PV.Env))(os:List Opd):JI (rW g os) (rW h os)=rW (fun a b=>JI (g a b) (h a b)) os:=by
 unfold rW;split <;> rfl
theorem wW(e:PV.Env)(a b:D):JI (tP true true e a b) (JI (tP true false e a b) (JI (tP false true e a b) (tP false false e a b)))=Br e a b:=by
 unfold tP Br;rcases BQ a with⟨l,h1,h2,h3⟩|⟨l,h1,h2,h3⟩|⟨h1,h2,h3⟩ <;> rcases BQ b with⟨m,i1,i2,i3⟩|⟨m,i1,i2,i3⟩|⟨i1,i2,i3⟩ <;> rw[h1,h2,h3,i1,i2,i3] <;> rfl
theorem Jh:oq fs env=Res.bnd (fs env) (f:=⟨fun p=>match p.1 with
 |[.val d1,.val d2]=>(match lq d1,lq d2 with|some a,some b=>.ok ((a.zip b).map fun z=>D.tup [z.1,z.2],p.2)|_,_=>.bad)
 |_=>.bad⟩):=by
 unfold oq;rw[l5,l5,l5,jT,jT,jT,jT];cases fs env with
 |ok p=>
  show JI (rW (tP true true p.2) p.1) (JI (rW (tP true false p.2) p.1) (JI (rW (tP false true p.2) p.1) (rW (tP false false p.2) p.1)))=rW (Br p.2) p.1;rw[l6,l6,l6];exact P0 (fun g=>rW g p.1) (funext fun a=>funext fun b=>wW p.2 a b)
 |_=>rfl
theorem Ji:lq (.lst ds)=some ds:=id rfl
theorem Jj(i:Nat):ot i f g env=Res.bnd (g env) (f:=⟨fun(p:R×PV.Env)=>Res.bnd (f p.2) (f:=⟨fun(q:R×PV.Env)=>match p.2[i]?,q.2[i]? with
 |some (some _),some (some (.l .f,.lst ds))=>(match q.1.2 with
  | .int k=>(match ixN ds.length k with
   |some j=>.ok (.nx (q.2.set i (some (.l .f,.lst (ds.set j p.1.2)))))
   |none=>.bad)
  |_=>.bad)
 |_,_=>.bad⟩)⟩):=id rfl
theorem qL:xE (.lst ds) (.int b)=if 0<=b/\b<1000000/\ds.length*b.toNat<=sizeLine then .ok (.l .f,.lst (List.replicate b.toNat ds).flatten) else .bad:=id rfl
theorem zw:dE false (.str x)=true:=id rfl
theorem wX:rV (.int a) (.int b)=.ok (.f,.int (a+b)):=id rfl
end
section
variable(env:PV.Env)(f g:FX)(ds ks:List D)(i:Nat)
end
section
variable(env:PV.Env)(f:FX)(fs:FOs)(ds:List D)(i:Nat)
theorem zx:ePop i env=match env[i]? with
 |some (some (ow,.lst ds))=>if isLf ow then(match ds.getLast? with
  |some d=>.ok ((.f,d),env.set i (some (ow,.lst ds.dropLast)))
  |none=>.bad) else .bad
 |_=>.bad:=id rfl
theorem wY(p:Addr):isLf (.pin p (.l .f))=true:=id rfl
theorem gd:kG (.l .f) (.l .f)=true:=id rfl
theorem gf(p:Addr):kG (.l .f) (.pin p (.l .f))=true:=id rfl
theorem bL:g8 i f env=Res.bnd (f env) (f:=⟨fun(p:R×PV.Env)=>match p.2[i]? with
 |some (some (.pin q c,d))=>.ok (.rt (.t [p.1.1,.pin q c],.tup [p.1.2,d]))
 |_=>.bad⟩):=by
 first
  |exact id rfl
  |(unfold g8;rfl)
theorem tR(fi:FI)(ix:List (Option Nat))(j k0:Nat)(a:FG)(c:FT):mR fi ix j k0 a c f env=Res.bnd (fi env) (f:=⟨fun(p:List D×PV.Env)=>match p.2[j]? with
 |some (some (ow,.lst d0))=>if isLf ow then Res.bnd (lT a c f p.1 (fun q=>(ba ix (p.2.set j none)).set k0 (some (.pin q (.l .f),.lst d0))) k0) (f:=⟨fun x=>if x.1.length<=sizeLine/\Dc x.1=true/\Dc x.2=true then .ok ((.l .f,.lst x.1),p.2.set j (some (ow,.lst x.2))) else .bad⟩) else .bad
 |_=>.bad⟩):=id rfl
theorem Bs:Aq [.lst ds]=.ok (.l .f,.lst ds.reverse):=id rfl
theorem uQ(k:Int):tq (.tup ds) (.int k)=if ds≠[]/\ds.length<=10/\0<=k/\k<1000 then .ok (.f,.tup (List.replicate k.toNat ds).flatten) else .bad:=id rfl
theorem eY(np nn:Nat)(c:O)(g:FS)(p:Addr)(d0:D)(h:ds.length+1=np):eA np nn c g p (d0::ds)=Res.bnd (g (some (.pin p c,d0)::(ds.map (fun d=>some (O.f,d))++List.replicate nn none))) (f:=⟨fun o=>match o with
  | .rt r=>.ok r
  |_=>.bad⟩):=by
 unfold eA;dsimp only;rw[Oy h];rfl
theorem jh{α:Type}{a:FG}{f:FX}{e:α->D}(I:Nat->PV.Env->List D->Prop):∀(l:List α) (n:Nat) (env:PV.Env) (acc:List D),I n env acc->
  (∀k x env acc,l[k]?=some x->I (n+k) env acc->∃C2,a (e x) env=.ok C2/\∃o r Dt,f C2=.ok ((o,r),Dt)/\I (n+k+1) Dt (acc++[r]))->∃rs C8,compLE a gP f (l.map e) env=.ok (rs,C8)/\I (n+l.length) C8 (acc++rs)
 |[],n,env,acc,h,_=>⟨[],env,rfl,by rw[OK];exact h⟩
 |x::l,n,env,acc,h,hs=>by
  obtain⟨C2,h1,o,r,Dt,h2,h3⟩:=hs 0 x env acc rfl h;obtain⟨rs,C8,h4,h5⟩:=jh I l (n+1) Dt (acc++[r]) h3 fun k y env acc hk hI=>by
   have:=hs (k+1) y env acc (by simpa using hk) (by rw[show n+(k+1)=n+1+k by lia];exact hI);rw[show n+(k+1)+1=n+1+k+1 by lia]at this;exact this
  refine⟨r::rs,C8,?_,?_⟩
  ·rw[OH];show((a (e x) env).bind fun e=>(gP e).bind fun p=>if p.1 then(f p.2).bind fun q=>(compLE a gP f (l.map _) q.2).bind fun rs=>.ok (q.1.2::rs.1,rs.2) else compLE a gP f (l.map _) p.2)=_;rw[h1];show((f C2).bind fun q=>(compLE a gP f (l.map _) q.2).bind fun rs=>.ok (q.1.2::rs.1,rs.2))=_;rw[h2];show((compLE a gP f (l.map _) Dt).bind fun rs=>.ok (r::rs.1,rs.2))=_;rw[h4];rfl
  ·rw[OA,show n+(l.length+1)=n+1+l.length by lia];rw[OX]at h5;exact h5
end
noncomputable def pv:=(Zz @DW (Zz @Kk (Zz @He (Zz @IP (Zz @Kl (Zz @Km (Zz @IQ (Zz @Ie (Zz @IS (Zz @Ig (Zz @Kn (Zz @Ko (Zz @Dy (Zz @Dz (Zz @IT (Zz @IU (Zz @Ih (Zz @Ii (Zz @IV (Zz @IW (Zz @Kp (Zz @IX (Zz @L0 (Zz @Kq (Zz @L1 (Zz @Kr (Zz @Ks (Zz @Kt (Zz @IY (Zz @Ku (Zz @Kv (Zz @Kw (Zz @KC (Zz @KD (Zz @IZ (Zz @I0 (Zz @Kx (Zz @Ja (Zz @L3 (Zz @Jb (Zz @Jc (Zz @GQ (Zz @GR (Zz @GS (Zz @Ky (Zz @Jd (Zz @FJ (Zz @Ej (Zz @Je (Zz @Ed (Zz @GU (Zz @F3 (Zz @Jf (Zz @Kz (Zz @Jg (Zz @KA (Zz @L4 (Zz @F4 (Zz @List.getElem?_cons_zero.{0} (Zz @List.getElem?_cons_succ.{0} (Zz @List.set_cons_zero.{0} (Zz @List.set_cons_succ.{0} (Zz @List.length_cons.{0} (Zz @List.length_nil.{0} (Zz @List.map_cons.{0,0} (Zz @List.map_nil.{0,0} (Zz @List.replicate_succ.{0} (Zz @List.replicate_zero.{0} (Zz @List.cons_append.{0} (Zz @List.nil_append.{0} (Zz @Nat.zero_add (Zz @Jh (Zz @Ji (Zz @Jj (Zz @LY (Zz @LZ (Zz @IM @Ic)))))))))))))))))))))))))))))))))))))))))))))))))))))))))))))))))))))))))))))
noncomputable def op:=(Zz @Bn (Zz @Bo (Zz @zm (Zz @Bp (Zz @Bq (Zz @zq (Zz @zr (Zz @wR (Zz @tM (Zz @zt (Zz @wU (Zz @zu (Zz @cQ (Zz @cq (Zz @cu (Zz @F5 (Zz @C7 (Zz @wX @zw))))))))))))))))))
theorem dV(n:Nat)(w:PV.Env):(∃d,EI w (.var n)=.ok d)\/EI w (.var n)=.bad:=by
 unfold EI;dsimp only;split
 ·split
  ·exact .inl ⟨_,rfl⟩
  ·exact .inr rfl
 ·exact .inr rfl
section
variable(w:PV.Env)(op:D->D->Res R)(F:List D->Res R)(f g h:FX)(n n' n'':Nat)(x y:D)
end
section
variable(a b c d e g h i j k l m:Option R)(z:PV.Env)(r:R)(o:O)(x:D){ρ:Type}
end
end PV
namespace LW
open PySem L2 NX PV
theorem for_list{α:Type}{a:FG}{g:FS}{e:α->D}(l:List α)(P:Nat->PV.Env->Prop)
  (h:∀k x env,l[k]?=some x->P k env->∃C2,a (e x) env=.ok C2/\∃C8,g C2=.ok (.nx C8)/\P (k+1) C8):∀env,P 0 env->∃env',cY a g (l.map e) env=.ok (.nx env')/\P l.length env':=by
 intro env h0;have:=wV (a:=a) (g:=g) P (l.map e) (fun i d env hi hp=>by
  rw[OG,Qf]at hi;obtain⟨x,hx,rfl⟩:=hi;obtain⟨C2,h1,C8,h2,h3⟩:=h i x env hx hp;exact⟨C2,h1,C8,.inl h2,h3⟩) env h0
 rwa [OI]at this
theorem qM{a:FG}{g:FS}{e:Nat->D}(n:Nat)(P:Nat->PV.Env->Prop)
  (h:∀k env,k<n->P k env->∃C2,a (e k) env=.ok C2/\∃C8,g C2=.ok (.nx C8)/\P (k+1) C8):∀env,P 0 env->∃env',cY a g ((List.range n).map e) env=.ok (.nx env')/\P n env':=by
 intro env h0;have:=for_list (a:=a) (g:=g) (e:=e) (List.range n) P (fun k x env hk hp=>by
  obtain⟨h1,h2⟩:=Om.mp hk;rw[OE]at h1;rw[Qw]at h2;subst h2;exact h k env h1 hp) env h0
 rwa [OE]at this
abbrev LNN:=List (List Nat)
theorem bK{α β:Type}{l:List α}(f:α->β):(l.map f).length=l.length:=OI f
theorem l7:(false=true)=False:=RK
theorem wZ{α:Type}{l:List α}{i:Nat}{a:α}(h:l[i]?=some a):∃h:i<l.length,l[i]=a:=Om.mp h
theorem kY{α:Type}{l:List α}{i:Nat}(h:i<l.length):l[i]?=some l[i]:=Ol h
theorem iL{α β:Type}{f:α->β}{a:α}{l:List α}:(a::l).map f=f a::l.map f:=OH
theorem uR{α:Type}{a b:α}(h:a∈[b]):a=b:=Pb.mp h
theorem rX{α β:Type}{f:α->β}{l:List α}{b:β}(h:b∈l.map f):∃a,a∈l/\f a=b:=SA.mp h
theorem zy{α:Type}{a:α}{s t:List α}(h:a∈s++t):a∈s\/a∈t:=OL.mp h
theorem zH{α:Type}{s t:List α}:(s++t).length=s.length+t.length:=O8
theorem au{s t:FS}{env env':PV.Env}(h:s env=.ok (.nx env')):sSeq s t env=t env':=by rw[F3,h,DW]
theorem qN{ds:List D}(h:ds.length<=16777216):ds.length<=sizeLine:=line_le h
theorem kZ{l:List Int}{k:Nat}(h:k<l.length):FD (l.map D.int) (k:Int)=some (.int (l.getD k 0)):=gu (by rw[OG,Od,kY h];rfl)
theorem l8(x y:D)(t1 t2:Option R)(aE:PV.Env):lM 2 (bf (av 0) (bf (av 1) fK)) (.tup [x,y]) (t1::t2::aE)=.ok (some (.f,x)::some (.f,y)::aE):=by
 rw[GU,Oy (by simp),Ed,Ej,Oy (by simp),DW,Ed,Ej,Oy (by simp),DW];rfl
theorem oz(x b:Int)(h:0<b):0<=x%b/\x%b<b:=⟨Qe _ (by lia),Qx _ h⟩
theorem BR(n:Nat)(h:n<=200):pP (.int 10) (.int (n:Int))=.ok (.f,.int (10 ^ n)):=by
 rw[zp,Oy (by lia),OW]
theorem w4(x b:Int)(h:0<b):ll (.int x) (.int b)=.ok (.f,.int (x%b)):=by rw[zo,Oy h]
theorem Bt(x b:Int)(h:0<b)(h2:b<1073741824):lN (.int x) (.int b)=.ok (.f,.int (x / b)):=by rw[wQ,Oy ⟨h,h2⟩]
theorem tS{α:Type}(l:List α)(k:Nat):i7 l none (some (k:Int))=l.take k:=by
 unfold i7;rw[HT.mw,HT.oX,SX,Nat.sub_zero];by_cases h:k<=l.length
 ·rw[Nat.min_eq_left h]
 ·rw[Nat.min_eq_right (by lia),Pk (Oq _),Pk (by lia)]
theorem mZ{α:Type}(l:List α)(k:Nat):i7 l (some (k:Int)) none=l.drop k:=by
 unfold i7;rw[HT.mw,HT.oX];by_cases h:k<=l.length
 ·rw[Nat.min_eq_left h,Pk (by rw[QM];exact Oq _)]
 ·rw[Nat.min_eq_right (by lia),Sm (Oq _),Sm (by lia),List.take_nil]
theorem zI(j:Int)(h0:0<=j)(h:j<=1000)(fo:FO)(env env':PV.Env)(o:Opd)(e1:fo env=.ok (o,env'))(e2:EI env' o=.ok (.int j)):bB fo env=.ok ((List.range j.toNat).map fun(k:Nat)=>D.int (k:Int),env'):=by
 rw[FJ,e1,DW];dsimp only;rw[e2,DW];dsimp only;rw[Oy (by lia)]
theorem qO(d:D)(h:plainD 40 d=true):FR d d=.ok (.f,.bl true):=by
 unfold FR;rw[h,hZ d 40 h];rfl
theorem l9(n k:Nat)(h:k<n):ixN n (k:Int)=some k:=by
 unfold ixN;rw[Oy (by lia),Oy (by lia)];rfl
theorem uS(l:List Int):wt [.lst (l.map D.int)]=.ok (.f,.int l.sum):=by
 unfold wt;dsimp only;have:(lq (D.lst (l.map D.int))).bind dn=some l:=oj l;rw[this]
theorem isT(ds:List D):pV "tuple" (.tup ds)=true:=rfl
theorem k4{c:FT}{g:FS}(P:Nat->PV.Env->Prop)(fin:PV.Env->Prop)(h:∀k env,P k env->(∃C2,c env=.ok (false,C2)/\fin C2)\/(∃C2,c env=.ok (true,C2)/\∃C8 k',g C2=.ok (.nx C8)/\k'<k/\P k' C8)):
  ∀n k env,k<n->P k env->∃env',bT c g n env=.ok (.nx env')/\fin env'
 | 0,k,env,hk,_=>absurd hk (OJ _)
 |n+1,k,env,hk,hp=>by
  rcases h k env hp with⟨C2,h1,h2⟩|⟨C2,h1,C8,k',h2,h3,h4⟩
  ·exact⟨C2,by rw[eW,h1,DW];rfl,h2⟩
  ·obtain⟨env',e,hf⟩:=k4 P fin h n k' C8 (by lia) h4;refine⟨env',?_,hf⟩;rw[eW,h1,DW];dsimp only;rw[Oy rfl,h2,DW];exact e
theorem qP{α β:Type}(f:α->β)(l:List α)(lo hi:Option Int):i7 (l.map f) lo hi=(i7 l lo hi).map f:=by
 unfold i7;rw[bK,<-List.map_drop,<-List.map_take]
theorem oA{α:Type}{l:List α}(h:l.length<=100000):l.length<sizeLine:=Ot (Pf _) (line_le (by lia))
section
variable(env:PV.Env)(f:FX)(fs:FOs)(fo:FO)
theorem cR(i:Nat)(c:O)(F:Addr->List D->Res R):eFunW c F i fs env=Res.bnd (fs env) (f:=⟨fun p=>match p.1 with
 | .var j::os=>if j=i then(match p.2[i]? with
  |some (some (ow,d0))=>if kG c ow then Res.bnd (iQ (p.2.set i none) os) (f:=⟨fun ds=>Res.bnd (g9 F c d0 ds) (f:=⟨fun x=>if aH x.1.1 x.1.2&&aH c x.2 then .ok (x.1,(p.2.set i none).set i (some (ow,x.2))) else .ok (x.1,((p.2.set i none).map frz).set i (some (ow,x.2)))⟩)⟩) else .bad
  |_=>.bad) else .bad
 |_=>.bad⟩):=id rfl
theorem CI(r:R):frz (some r)=some (.f,r.2):=id rfl
theorem CJ:frz none=none:=id rfl
end
theorem pop0(o:O)(h:isLf o=true)(ys:List Int)(x:Int)(env:PV.Env):ePop 0 (some (o,.lst ((ys++[x]).map D.int))::env)=.ok ((.f,.int x),some (o,.lst (ys.map D.int))::env):=by
 rw[zx];simp only[List.getElem?_cons_zero,O6,iL,Pt,SS,SU,h,Qg,List.set_cons_zero]
theorem CK(p:Addr)(ys:List Int)(x:Int)(env:PV.Env):ePop 0 (some (.pin p (.l .f),.lst ((ys++[x]).map D.int))::env)=.ok ((.f,.int x),some (.pin p (.l .f),.lst (ys.map D.int))::env):=pop0 _ rfl ys x env
theorem qQ{α:Type}{a:FG}{g:FS}{e:α->D}(l:List α)(P:Nat->(Addr->PV.Env)->Prop)
  (h:∀k x E,l[k]?=some x->P k E->∃E1:Addr->PV.Env,(∀p,a (e x) (E p)=.ok (E1 p))/\∃E2:Addr->PV.Env,(∀p,g (E1 p)=.ok (.nx (E2 p)))/\P (k+1) E2):∀E,P 0 E->∃E',(∀p,cY a g (l.map e) (E p)=.ok (.nx (E' p)))/\P l.length E':=by
 have key:∀(l':List α) (k:Nat) (E:Addr->PV.Env),(∀i x,l'[i]?=some x->l[k+i]?=some x)->P k E->∃E',(∀p,cY a g (l'.map e) (E p)=.ok (.nx (E' p)))/\P (k+l'.length) E':=by
  intro l';induction l' with
  |nil=>exact fun k E _ hp=>⟨E,fun p=>rfl,hp⟩
  |cons d l' ih=>
   intro k E hd hp;obtain⟨E1,h1,E2,h2,h3⟩:=h k d E (hd 0 d rfl) hp;obtain⟨E',h4,h5⟩:=ih (k+1) E2 (fun i x e=>by have:=hd (i+1) x (by simpa using e);rw[show k+1+i=k+(i+1) by lia];exact this) h3;refine⟨E',fun p=>?_,by rw[OA,show k+(l'.length+1)=k+1+l'.length by lia];exact h5⟩;rw[iL,fH,h1,DW,h2,DW];exact h4 p
 intro E hp;have:=key l 0 E (fun i x e=>by rw[Qp];exact e) hp
 rwa [Qp]at this
theorem tU{a:FG}{g:FS}{e:Nat->D}(n:Nat)(P:Nat->(Addr->PV.Env)->Prop)
  (h:∀k E,k<n->P k E->∃E1:Addr->PV.Env,(∀p,a (e k) (E p)=.ok (E1 p))/\∃E2:Addr->PV.Env,(∀p,g (E1 p)=.ok (.nx (E2 p)))/\P (k+1) E2):∀E,P 0 E->∃E',(∀p,cY a g ((List.range n).map e) (E p)=.ok (.nx (E' p)))/\P n E':=by
 intro E h0;have:=qQ (a:=a) (g:=g) (e:=e) (List.range n) P (fun k x E hk hp=>by
  obtain⟨h1,h2⟩:=wZ hk;rw[OE]at h1;rw[Qw]at h2;subst h2;exact h k E h1 hp) E h0
 rwa [OE]at this
theorem gX{α:Type}(n k:Nat)(g:Nat->α)(v:α):((List.range n).map g).set k v=(List.range n).map fun i=>if i=k then v else g i:=by
 apply List.ext_getElem
 ·rw[O1,bK,bK]
 ·intro i h1 h2;rw[List.getElem_set,Rq,Rq,Qw];by_cases h:i=k
  ·rw[Oy h.symm,Oy h]
  ·rw[OD (Qb h),OD h]
theorem tV(l:List Int)(k:Nat)(h:k<l.length):(l.take (k+1)).sum=(l.take k).sum+l[k]:=by
 rw[PM h,S9,List.sum_cons,TZ,PL]
theorem m5(a b:List Int):FR (.lst (a.map D.int)) (.lst (b.map D.int))=.ok (.f,.bl (a==b)):=by
 unfold FR;rw[plainD,plainD,cm,cm,C9,kX];rfl
theorem zJ{x:Int}{n:Nat}(hx:x.natAbs<2 ^ n)(hn:n<=900000):x.natAbs.log2<900000:=by
 rcases Ts x.natAbs with e|e
 ·rw[e];decide
 ·have:=(Uq (Qy e)).mpr hx;lia
theorem tW{x y:Int}{n m:Nat}(hx:x.natAbs<2 ^ n)(hy:y.natAbs<2 ^ m)(hn:n<=900000)(hm:m<=900000):gr (.int x) (.int y)=.ok (.f,.int (x*y)):=by
 unfold gr;dsimp only;rw[Oy ⟨zJ hx hn,zJ hy hm⟩]
theorem NY:(2:Nat) ^ 32=4294967296:=by decide +kernel
theorem BS{x y:Int}(hx:x.natAbs<4294967296)(hy:y.natAbs<4294967296):gr (.int x) (.int y)=.ok (.f,.int (x*y)):=tW (n:=32) (m:=32) (by rw[NY];exact hx) (by rw[NY];exact hy) (by decide) (by decide)
theorem zL:pP (.int 10) (.int 59)=.ok (.f,.int (10 ^ 59)):=BR 59 (by decide)
theorem Bu:pP (.int 10) (.int 30)=.ok (.f,.int (10 ^ 30)):=BR 30 (by decide)
theorem NZ:(0:Int)<10 ^ 59:=by decide +kernel
theorem qR(ns:List Int)(h:ns.length<=63):∃d:List Int,d.length=80/\br [.lst (ns.map D.int),.int 80]=.ok (.l .f,.lst (d.map D.int)):=by
 have ct:i7 (ns.map D.int) none (some (80:Int))=(ns.take 80).map D.int:=by
  rw[qP];exact P0 (List.map D.int) (tS ns 80)
 have hc:cG (av 0) gP (aJ ll (ak 0) (aq (aJ pP (aq (aT (.int 10))) (aq (aT (.int 59)))))) ((ns.take 80).map D.int) [none]=.ok (((ns.take 80).map fun x=>x%10 ^ 59).map D.int):=by
  rw[Pd];refine eX (fun env=>∃t,env=[t]) _ ?_ _ ⟨_,rfl⟩;rintro x _ env ⟨t,rfl⟩;refine⟨[some (.f,.int x)],by simp only[pv,↓reduceIte,Nat.reduceAdd,Nat.reduceLT,Nat.reduceLeDiff,Nat.reduceEqDiff],?_⟩;simp only[pv,↓reduceIte,Nat.reduceAdd,Nat.reduceLT,Nat.reduceLeDiff,Nat.reduceEqDiff,op,zL,w4 _ _ NZ];exact⟨_,_,rfl,_,rfl⟩
 have hl:((ns.take 80).map fun x=>x%10 ^ 59).length<=80:=by
  rw[bK,Pp];lia
 generalize (ns.take 80).map (fun x=>x%10 ^ 59)=d0 at hc hl;unfold br fg;rw[ck (h:=by rfl)];have fl:(d0.map D.int).length<=sizeLine:=line_le (by rw[bK];lia);rw[au (env':=[some (.f,.lst (ns.map D.int)),some (.f,.int 80),some (.l .f,.lst (d0.map D.int)),none]) (by simp only[pv,↓reduceIte,Nat.reduceAdd,Nat.reduceLT,Nat.reduceLeDiff,Nat.reduceEqDiff,op,ct,hc,C7,fl])];have mB:=w4 d0.sum 2147483647 (by decide);rw[au (env':=[some (.f,.lst (ns.map D.int)),some (.f,.int 80),some (.l .f,.lst (d0.map D.int)),some (.f,.int (48271+d0.sum%2147483647))]) (by simp only[pv,↓reduceIte,Nat.reduceAdd,Nat.reduceLT,Nat.reduceLeDiff,Nat.reduceEqDiff,op,uS,mB])];have b0:=oz d0.sum 2147483647 (by decide);have hb:0<=48271+d0.sum%2147483647/\48271+d0.sum%2147483647<4294967296:=by lia
 clear b0 mB;generalize 48271+d0.sum%2147483647=l0 at hb;obtain⟨env',hw,d,l,hd,rfl⟩:=k4 (c:=DF (aJ Lv (aq (bA h8 (ag (ak 2) ax))) (ak 1))) (g:=cb) (fun k env=>∃(d:List Int) (l:Int),d.length+k=80/\0<=l/\l<4294967296/\env=[some (.f,.lst (ns.map D.int)),some (.f,.int 80),some (.l .f,.lst (d.map D.int)),some (.f,.int l)])
  (fun env=>∃(d:List Int) (l:Int),d.length=80/\env=[some (.f,.lst (ns.map D.int)),some (.f,.int 80),some (.l .f,.lst (d.map D.int)),some (.f,.int l)]) (by
   rintro k env ⟨d,l,hk,h0,h1,rfl⟩;by_cases DH:d.length<80
   ·refine .inr ⟨[some (.f,.lst (ns.map D.int)),some (.f,.int 80),some (.l .f,.lst (d.map D.int)),some (.f,.int l)],?_,[some (.f,.lst (ns.map D.int)),some (.f,.int 80),some (.l .f,.lst ((d++[(l*l+48271*l+(d.length:Int))%2147483647]).map D.int)),some (.f,.int ((l*l+48271*l+(d.length:Int))%2147483647))],k-1,?_,by lia,_,_,?_,(oz _ _ (by decide)).1,?_,rfl⟩
    ·have:decide ((d.length:Int)<80)=true:=O9 (by lia);simp only[pv,↓reduceIte,Nat.reduceAdd,Nat.reduceLT,Nat.reduceLeDiff,Nat.reduceEqDiff,op,bK,this]
    ·have e1:=BS (x:=l) (y:=l) (by lia) (by lia);have e2:=BS (x:=48271) (y:=l) (by decide) (by lia);have e3:∀x,ll (.int x) (.int 2147483647)=.ok (.f,.int (x%2147483647)):=fun x=>w4 x _ (by decide)
     have e4:(d.map D.int).length<sizeLine:=oA (by rw[bK];lia);rw[O6];unfold cb;rw[au (env':=[some (.f,.lst (ns.map D.int)),some (.f,.int 80),some (.l .f,.lst (d.map D.int)),some (.f,.int ((l*l+48271*l+(d.length:Int))%2147483647))]) (by simp only[pv,↓reduceIte,Nat.reduceAdd,Nat.reduceLT,Nat.reduceLeDiff,Nat.reduceEqDiff,op,bK,e1,e2,e3])];simp only[pv,↓reduceIte,Nat.reduceAdd,Nat.reduceLT,Nat.reduceLeDiff,Nat.reduceEqDiff,e4]
    ·rw[zH,OA,P1];lia
    ·have:=(oz (l*l+48271*l+(d.length:Int)) 2147483647 (by decide)).2;lia
   ·refine .inl ⟨[some (.f,.lst (ns.map D.int)),some (.f,.int 80),some (.l .f,.lst (d.map D.int)),some (.f,.int l)],?_,d,l,by lia,rfl⟩;have:decide ((d.length:Int)<80)=false:=O0 (by lia);simp only[pv,↓reduceIte,Nat.reduceAdd,Nat.reduceLT,Nat.reduceLeDiff,Nat.reduceEqDiff,op,bK,this]) 100000 (80-d0.length) [some (.f,.lst (ns.map D.int)),some (.f,.int 80),some (.l .f,.lst (d0.map D.int)),some (.f,.int l0)] (by lia) ⟨d0,l0,by lia,hb.1,hb.2,rfl⟩
 refine⟨d.reverse,by rw[QX,hd],?_⟩;unfold dX dt;rw[au hw];simp only[pv,↓reduceIte,Nat.reduceAdd,Nat.reduceLT,Nat.reduceLeDiff,Nat.reduceEqDiff,Bs,List.map_reverse]
def dr(d:List Int)(m:Int):Int:=match d.getLast? with
 |some x=>x%m
 |none=>0
theorem zM(p:Addr)(d:List Int)(m:Int)(hm:0<m):aB p [.lst (d.map D.int),.int m]=.ok (.t [.f,.pin p (.l .f)],.tup [.int (dr d m),.lst (d.dropLast.map D.int)]):=by
 unfold aB iF;rw[eY (h:=by rfl)];rcases List.eq_nil_or_concat d with rfl|⟨ys,x,rfl⟩
 ·have e:=m5 [] [];rw[Pt]at e;simp only[pv,seval,bL,Pt,e,OZ];rfl
 ·have e:=m5 (ys++[x]) [];have ne:((ys++[x])==([]:List Int))=false:=by cases ys <;> rfl
  rw[ne,Pt]at e;rw[List.concat_eq_append];generalize hl:D.lst ((ys++[x]).map D.int)=L at e;simp only[pv,seval,e,l7];rw[<-hl];simp only[pv,seval,bL,CK,w4 _ _ hm];unfold dr;rw[SS,SU]
theorem ji(d:List Int)(m:Int)(hm:0<m):g9 aB (.l .f) (.lst (d.map D.int)) [.int m]=.ok ((.f,.int (dr d m)),.lst (d.dropLast.map D.int)):=eT (r:=(.f,.int (dr d m))) fun p=>zM p d m hm
def nu(d:List Int):Int:=if dr d (10 ^ 59)%4==3 then dr d (10 ^ 59) / 4%(2*10 ^ 30+1)-10 ^ 30 else dr d (10 ^ 59) / 4%7-3
theorem CL(d:List Int):(nu d).natAbs<=10 ^ 30:=by
 unfold nu;generalize dr d (10 ^ 59) / 4=y;split
 ·have h:=oz y (2*10 ^ 30+1) (by decide +kernel);generalize y%(2*10 ^ 30+1)=z at h;obtain⟨h1,h2⟩:=h;lia
 ·have h:=oz y 7 (by decide);lia
theorem tX(p:Addr)(d:List Int):aZ p [.lst (d.map D.int)]=.ok (.t [.f,.pin p (.l .f)],.tup [.int (nu d),.lst (d.dropLast.map D.int)]):=by
 unfold aZ fU;rw[eY (h:=by rfl)];have m4:∀x,ll (.int x) (.int 4)=.ok (.f,.int (x%4)):=fun x=>w4 x 4 (by decide)
 have m7:∀x,ll (.int x) (.int 7)=.ok (.f,.int (x%7)):=fun x=>w4 x 7 (by decide)
 have m30:∀x,ll (.int x) (.int (2*10 ^ 30+1))=.ok (.f,.int (x%(2*10 ^ 30+1))):=fun x=>w4 x _ (by decide +kernel)
 have f4:∀x,lN (.int x) (.int 4)=.ok (.f,.int (x / 4)):=fun x=>Bt x 4 (by decide) (by decide)
 have u2:gr (.int 2) (.int (10 ^ 30))=.ok (.f,.int (2*10 ^ 30)):=tW (n:=2) (m:=200) (by decide) (by decide +kernel) (by decide) (by decide);rw[Pt,Pw];rw[au (env':=[some (.pin p (.l .f),.lst (d.dropLast.map D.int)),some (.f,.int (dr d (10 ^ 59)))]) (by simp only[pv,↓reduceIte,Nat.reduceAdd,Nat.reduceLT,Nat.reduceLeDiff,Nat.reduceEqDiff,op,zL,ji d _ NZ,cR,gf,gd,bL,Dy,Dz,cQ,cq,cu,C7,Pe,Qk,Qg])];unfold nu;generalize dr d (10 ^ 59)=z;cases h:z%4==3 with
 |true=>
  simp only[pv,↓reduceIte,Nat.reduceAdd,Nat.reduceLT,Nat.reduceLeDiff,Nat.reduceEqDiff,op,m4,m30,f4,u2,Bu,h,bL]
 |false=>
  simp only[pv,↓reduceIte,Nat.reduceAdd,Nat.reduceLT,Nat.reduceLeDiff,Nat.reduceEqDiff,op,m4,m7,f4,h,bL,l7]
theorem tY(d:List Int):g9 aZ (.l .f) (.lst (d.map D.int)) []=.ok ((.f,.int (nu d)),.lst (d.dropLast.map D.int)):=eT (r:=(.f,.int (nu d))) fun p=>tX p d
def it(nx:List Int->List Int):Nat->List Int->List Int
 | 0,d=>d
 |n+1,d=>nx (it nx n d)
theorem tZ{f:FX}{v:List Int->D}{nx:List Int->List Int}(aE:PV.Env)(q:Addr)(hf:∀(d:List Int) (k:Int),∃o,f (some (.f,.int k)::some (.pin q (.l .f),.lst (d.map D.int))::aE)=.ok ((o,v d),some (.f,.int k)::some (.pin q (.l .f),.lst ((nx d).map D.int))::aE))(n:Nat)(d:List Int)(t:Option R):
  ∃t',compLE (av 0) gP f ((List.range n).map fun(k:Nat)=>D.int (k:Int)) (t::some (.pin q (.l .f),.lst (d.map D.int))::aE)=.ok ((List.range n).map (fun i=>v (it nx i d)),t'::some (.pin q (.l .f),.lst ((it nx n d).map D.int))::aE):=by
 obtain⟨rs,C8,h1,t',h2,h3⟩:=jh (a:=av 0) (f:=f) (e:=fun(k:Nat)=>D.int (k:Int)) (fun n env acc=>∃t',env=t'::some (.pin q (.l .f),.lst ((it nx n d).map D.int))::aE/\acc=(List.range n).map (fun i=>v (it nx i d))) (List.range n) 0 (t::some (.pin q (.l .f),.lst (d.map D.int))::aE) [] ⟨t,rfl,rfl⟩ (by
  rintro k x env acc hk ⟨t',rfl,rfl⟩;rw[Qp];obtain⟨o,e⟩:=hf (it nx k d) (x:Int);exact⟨some (.f,.int (x:Int))::some (.pin q (.l .f),.lst ((it nx k d).map D.int))::aE,by rw[Ej,Oy (by rw[OA];exact Q1 _)];rfl,o,_,_,e,_,rfl,by rw[RD,O6];rfl⟩)
 rw[Qp,OE]at h2;rw[Qp,OE,Pw]at h3;subst h2 h3;exact⟨t',h1⟩
theorem t8{f:FX}{v:List Int->D}{nx:List Int->List Int}(aE:PV.Env)(hf:∀(q:Addr) (d:List Int) (k:Int),∃o,f (some (.f,.int k)::some (.pin q (.l .f),.lst (d.map D.int))::aE)=.ok ((o,v d),some (.f,.int k)::some (.pin q (.l .f),.lst ((nx d).map D.int))::aE))(n:Nat)(d:List Int)(t:Option R):
  lT (av 0) gP f ((List.range n).map fun(k:Nat)=>D.int (k:Int)) (fun q=>t::some (.pin q (.l .f),.lst (d.map D.int))::aE) 1=.ok ((List.range n).map (fun i=>v (it nx i d)),(it nx n d).map D.int):=by
 refine tj fun q=>?_
 obtain⟨t',h⟩:=tZ aE q (hf q) n d t;exact⟨_,h,rfl⟩
def Hf(w:Nat)(d:List Int):List Int:=(List.range w).map fun i=>nu (it List.dropLast i d)
theorem qS(w:Nat)(d:List Int):(Hf w d).length=w:=by unfold Hf;rw[bK,OE]
theorem Bv(w:Nat)(d:List Int):∀x∈Hf w d,x.natAbs<=10 ^ 30:=by
 intro x hx;unfold Hf at hx;obtain⟨i,_,rfl⟩:=rX hx;exact CL _
theorem Bw(p:Addr)(d:List Int)(w:Nat)(hw:w<=1000):bG p [.lst (d.map D.int),.int (w:Int)]=.ok (.t [.f,.pin p (.l .f)],.tup [.tup ((Hf w d).map D.int),.lst ((it List.dropLast w d).map D.int)]):=by
 have hc:=t8 (f:=eFunW (.l .f) aZ 1 (ag (ak 1) ax)) (v:=fun d=>.int (nu d)) (nx:=List.dropLast) [] (fun q d k=>⟨.f,by simp only[pv,seval,tY,cR,gf,gd,bL,Dy,Dz,cQ,cq,cu,C7,Pe,Qk,Qg]⟩) w d none;have e1:(List.range w).map (fun i=>D.int (nu (it List.dropLast i d)))=(Hf w d).map D.int:=by
  unfold Hf;rw[Pd];rfl
 rw[e1]at hc;have hl:((Hf w d).map D.int).length<=sizeLine:=line_le (by rw[bK,qS];lia);have hr:-4611686018427387904<=(w:Int)/\(w:Int)<4611686018427387904:=by lia
 unfold bG je;rw[eY (h:=by rfl)];simp only[iL,Pt,List.replicate_zero,OK,QN,Pw];simp only[pv,seval,op,tR,hr,OW,wY,hc,hl,C7,bL,and_self]
theorem Bx(d:List Int)(w:Nat)(hw:w<=1000):g9 bG (.l .f) (.lst (d.map D.int)) [.int (w:Int)]=.ok ((.f,.tup ((Hf w d).map D.int)),.lst ((it List.dropLast w d).map D.int)):=eT (r:=(.f,.tup ((Hf w d).map D.int))) fun p=>Bw p d w hw
theorem dO{α:Type}(l:List α)(k:Nat)(d:α)(h:k<l.length):l.getD k d=l[k]:=by rw[Od,kY h];rfl
theorem m6(a b:List Int)(k:Nat)(ha:k<a.length)(hb:k<b.length):(((a.zip b).map fun z=>z.1*z.2).take (k+1)).sum=(((a.zip b).map fun z=>z.1*z.2).take k).sum+a.getD k 0*b.getD k 0:=by
 have h:k<((a.zip b).map fun z=>z.1*z.2).length:=by
  rw[bK,Qc];lia
 rw[tV _ k h,Rq,List.getElem_zip,dO _ _ _ ha,dO _ _ _ hb]
theorem w5(rows:List (List Int))(uZ:List Int)(j k:Nat)(ha:j<rows.length)(hb:j<uZ.length):(((rows.zip uZ).take (j+1)).map fun z=>z.1.getD k 0*z.2).sum=(((rows.zip uZ).take j).map fun z=>z.1.getD k 0*z.2).sum+(rows[j].getD k 0)*uZ[j]:=by
 have h:j<(rows.zip uZ).length:=by
  rw[Qc];lia
 rw[PM h,O6,S9,iL,Pt,List.sum_cons,TZ,PL,List.getElem_zip]
theorem dP{l:List Int}{k:Nat}(h:k<l.length):l.getD k 0∈l:=by
 rw[dO _ _ _ h];exact List.getElem_mem h
abbrev Bg(n:Nat)(a:List Int):Prop:=∀x∈a,x.natAbs<2 ^ n
def eR(r:List Int):D:=.tup (r.map D.int)
def dot(a b:List Int):Int:=((a.zip b).map fun z=>z.1*z.2).sum
theorem oB{n m:Nat}(hn:n<=900000)(hm:m<=900000)(a b:List Int)(ha:Bg n a)(hb:Bg m b)(hl:a.length<=1000)(Hc:a.length=b.length):bt [eR a,eR b]=.ok (.f,.int (dot a b)):=by
 have hz:((a.zip b).map fun z=>z.1*z.2).take a.length=(a.zip b).map fun z=>z.1*z.2:=by
  rw[Pk];rw[bK,Qc];lia
 obtain⟨env',hf,t,rfl⟩:=qM (a:=av 3) (g:=cf) (e:=fun k=>D.int (k:Int)) a.length (fun k env=>∃t,env=[some (.f,eR a),some (.f,eR b),some (.f,.int (((a.zip b).map fun z=>z.1*z.2).take k).sum),t]) (by
  rintro k env hk ⟨t,rfl⟩;have FQ:k<b.length:=Hc▸hk;refine⟨[some (.f,eR a),some (.f,eR b),some (.f,.int (((a.zip b).map fun z=>z.1*z.2).take k).sum),some (.f,.int (k:Int))],by simp only[pv,seval],[some (.f,eR a),some (.f,eR b),some (.f,.int (((a.zip b).map fun z=>z.1*z.2).take (k+1)).sum),some (.f,.int (k:Int))],?_,_,rfl⟩;have e1:=kZ (l:=a) hk;have e2:=kZ (l:=b) FQ;have e3:=tW (ha _ (dP hk)) (hb _ (dP FQ)) hn hm;rw[m6 a b k hk FQ];unfold cf eR;simp only[pv,seval,op,e1,e2,e3]) [some (.f,eR a),some (.f,eR b),some (.f,.int 0),none] ⟨_,by rw[RO,TZ]⟩
 unfold bt fm;rw[ck (h:=by rfl)];have hr:bB (aq (bA h8 (ag (ak 0) ax))) [some (.f,eR a),some (.f,eR b),some (.f,.int 0),none]=.ok ((List.range a.length).map fun(k:Nat)=>D.int (k:Int),[some (.f,eR a),some (.f,eR b),some (.f,.int 0),none]):=by
  refine(zI (a.length:Int) (by lia) (by lia) _ _ _ (.val (.int (a.length:Int))) ?_ rfl);unfold eR;simp only[pv,seval,op,bK]
 rw[au (env':=[some (.f,eR a),some (.f,eR b),some (.f,.int 0),none]) (by simp only[pv,seval])];rw[au (env':=[some (.f,eR a),some (.f,eR b),some (.f,.int (dot a b)),t]) (by
  unfold dY;rw[F4,hr,DW];rw[hz]at hf;exact hf)]
 unfold du;simp only[pv,seval]
def co(rows:List (List Int))(uZ:List Int)(j k:Nat):Int:=(((rows.zip uZ).take j).map fun z=>z.1.getD k 0*z.2).sum
theorem m8(rows:List (List Int))(uZ:List Int):((rows.map eR).zip (uZ.map D.int)).map (fun z=>D.tup [z.1,z.2])=(rows.zip uZ).map fun z=>D.tup [eR z.1,.int z.2]:=by
 rw[List.zip_map,Pd];rfl
def Rows(n w:Nat)(rows:List (List Int)):Prop:=∀r∈rows,r.length=w/\Bg n r
theorem jV(rows:List (List Int)):Dc (rows.map eR)=true:=by
 rw[bF,QA,OS];intro r _;show d4 (.tup _)=true;rw[jU,C7]
theorem By{n m:Nat}(hn:n<=900000)(hm:m<=900000)(w k:Nat)(hk:k<w)(rows:List (List Int))(uZ:List Int)(hr:Rows n w rows)(Hz:Bg m uZ):cG (lM 2 (bf (av 0) (bf (av 1) fK))) gP (aJ gr (aq (aJ DT (ak 0) (ak 2))) (ak 1)) ((rows.zip uZ).map fun z=>D.tup [eR z.1,.int z.2]) [none,none,some (.f,.int (k:Int))]=.ok (((rows.zip uZ).map fun z=>z.1.getD k 0*z.2).map D.int):=by
 rw[Pd];refine eX (fun env=>∃t u,env=[t,u,some (.f,.int (k:Int))]) _ ?_ _ ⟨_,_,rfl⟩;rintro⟨r,y⟩ hz env ⟨t,u,rfl⟩;have JA:=Q2 hz;obtain⟨h1,h2⟩:=hr r JA.1;have FQ:k<r.length:=h1▸hk;have e1:=kZ (l:=r) FQ;have e2:=tW (h2 _ (dP FQ)) (Hz y JA.2) hn hm;refine⟨_,l8 _ _ _ _ _,?_⟩;unfold eR;simp only[pv,seval,op,e1,e2];exact⟨_,_,rfl,_,_,rfl⟩
theorem t9{n m:Nat}(hn:n<=900000)(hm:m<=900000)(w:Nat)(hw:w<=1000)(rows:List (List Int))(uZ:List Int)(hr:Rows n w rows)(Hz:Bg m uZ)(hl:rows.length<=1000):dF [.lst (rows.map eR),.lst (uZ.map D.int),.int (w:Int)]=.ok (.f,eR ((List.range w).map (co rows uZ rows.length))):=by
 have KZ:∀k,((rows.zip uZ).map fun z=>z.1.getD k 0*z.2).sum=co rows uZ rows.length k:=fun k=>by
  unfold co;rw[Pk];rw[Qc];lia
 have hl2:∀k,(((rows.zip uZ).map fun z=>z.1.getD k 0*z.2).map D.int).length<=16777216:=fun k=>by
  rw[bK,bK,Qc];lia
 have hc:cG (av 0) gP (bA wt (ag (aq (cZ (oq (ag (aq (aD 1)) (ag (aq (aD 2)) ax))) [none,none,some 0] (lM 2 (bf (av 0) (bf (av 1) fK))) gP (aJ gr (aq (aJ DT (ak 0) (ak 2))) (ak 1)))) ax)) ((List.range w).map fun(k:Nat)=>D.int (k:Int)) [none,some (.f,.lst (rows.map eR)),some (.f,.lst (uZ.map D.int))]=.ok (((List.range w).map (co rows uZ rows.length)).map D.int):=by
  rw[Pd];refine eX (fun env=>∃t,env=[t,some (.f,.lst (rows.map eR)),some (.f,.lst (uZ.map D.int))]) _ ?_ _ ⟨_,rfl⟩;rintro k hk env ⟨t,rfl⟩;have hk:k<w:=PD.mp hk;refine⟨[some (.f,.int (k:Int)),some (.f,.lst (rows.map eR)),some (.f,.lst (uZ.map D.int))],by simp only[pv,seval],?_⟩;simp only[pv,seval,op,m8,By hn hm w k hk rows uZ hr Hz,line_le (hl2 k),C7,uS,KZ];exact⟨_,_,rfl,_,rfl⟩
 have hl3:(((List.range w).map (co rows uZ rows.length)).map D.int).length<=16777216:=by
  rw[bK,bK,OE];lia
 unfold dF mU eR;rw[ck (h:=by rfl)];have Nh:-4611686018427387904<=(w:Int)/\(w:Int)<4611686018427387904:=by lia
 unfold eR at hc;simp only[pv,seval,op,Nh,OW,and_self,hc,line_le hl3,C7]
theorem dv(w k:Nat)(f:Nat->Int)(h:k<w):((List.range w).map f).getD k 0=f k:=by
 rw[dO _ _ _ (by rw[bK,OE];exact h),Rq,Qw]
theorem w6(x y:D)(a b c d t1 t2 t3:Option R):lM 2 (bf (av 4) (bf (av 5) fK)) (.tup [x,y]) [a,b,c,d,t1,t2,t3]=.ok [a,b,c,d,some (.f,x),some (.f,y),t3]:=by
 rw[GU,Oy (by simp),Ed,Ej,Oy (by simp),DW,Ed,Ej,Oy (by simp),DW];rfl
theorem w9{n m:Nat}(hn:n<=900000)(hm:m<=900000)(w:Nat)(hw:w<=1000)(R0 N0:D)(f:Nat->Int)(r:List Int)(y:Int)(hr:r.length=w/\Bg n r)(hy:y.natAbs<2 ^ m)(t:Option R):
  ∃t',eF [some (.f,R0),some (.f,N0),some (.f,.int (w:Int)),some (.l .f,.lst (((List.range w).map f).map D.int)),some (.f,eR r),some (.f,.int y),t] =
   .ok (.nx [some (.f,R0),some (.f,N0),some (.f,.int (w:Int)),some (.l .f,.lst (((List.range w).map fun k=>f k+r.getD k 0*y).map D.int)),some (.f,eR r),some (.f,.int y),t']):=by
 obtain⟨env',hf,t',rfl⟩:=qM (a:=av 6) (g:=dI) (e:=fun k=>D.int (k:Int)) w (fun k env=>∃t,env=[some (.f,R0),some (.f,N0),some (.f,.int (w:Int)),some (.l .f,.lst (((List.range w).map fun i=>if i<k then f i+r.getD i 0*y else f i).map D.int)),some (.f,eR r),some (.f,.int y),t]) (by
  rintro k env hk ⟨t,rfl⟩;have FQ:k<r.length:=hr.1.symm▸hk;generalize hg:(fun i=>if i<k then f i+r.getD i 0*y else f i)=g;have gk:g k=f k:=by rw[<-hg];exact OD (Py _)
  have e0:FD (((List.range w).map g).map D.int) (k:Int)=some (.int (f k)):=by
   rw[kZ (by rw[bK,OE];exact hk),dv w k g hk,gk]
  have e1:=kZ (l:=r) FQ;have e2:=tW (hr.2 _ (dP FQ)) hy hn hm;have e3:ixN (((List.range w).map g).map D.int).length (k:Int)=some k:=l9 _ _ (by rw[bK,bK,OE];exact hk);have e4:(((List.range w).map g).map D.int).set k (.int (f k+r.getD k 0*y))=((List.range w).map fun i=>if i<k+1 then f i+r.getD i 0*y else f i).map D.int:=by
   rw[Pd,gX,Pd];refine PY fun i _=>?_
   show(if i=k then D.int _ else D.int (g i))=D.int (if i<k+1 then f i+r.getD i 0*y else f i);by_cases h:i=k
   ·subst h;rw[Oy rfl,Oy (Nat.lt_add_one _)]
   ·rw[OD h,<-hg];dsimp only;by_cases h2:i<k
    ·rw[Oy h2,Oy (by lia)]
    ·rw[OD h2,OD (by lia)]
  refine⟨[some (.f,R0),some (.f,N0),some (.f,.int (w:Int)),some (.l .f,.lst (((List.range w).map g).map D.int)),some (.f,eR r),some (.f,.int y),some (.f,.int (k:Int))],by simp only[pv,seval],
   [some (.f,R0),some (.f,N0),some (.f,.int (w:Int)),some (.l .f,.lst (((List.range w).map fun i=>if i<k+1 then f i+r.getD i 0*y else f i).map D.int)),some (.f,eR r),some (.f,.int y),some (.f,.int (k:Int))],?_,_,rfl⟩
  rw[<-e4];unfold dI eR;simp only[pv,seval,op,e0,e1,e2,e3]) [some (.f,R0),some (.f,N0),some (.f,.int (w:Int)),some (.l .f,.lst (((List.range w).map f).map D.int)),some (.f,eR r),some (.f,.int y),t] ⟨t,by simp only[OJ,SQ]⟩
 refine⟨t',?_⟩;unfold eF;rw[F4,zI (w:Int) (by lia) (by lia) _ _ _ (.var 2) rfl rfl,DW];refine hf.trans ?_;have:(List.range w).map (fun i=>if i<w then f i+r.getD i 0*y else f i)=(List.range w).map fun k=>f k+r.getD k 0*y:=PY fun i hi=>Oy (PD.mp hi)
 rw[this]
theorem zN{n m:Nat}(hn:n<=900000)(hm:m<=900000)(w:Nat)(hw:w<=1000)(rows:List (List Int))(uZ:List Int)(hr:Rows n w rows)(Hz:Bg m uZ)(hl:rows.length<=1000)(Ni:rows.length=uZ.length):bU [.lst (rows.map eR),.lst (uZ.map D.int),.int (w:Int)]=.ok (.f,eR ((List.range w).map (co rows uZ rows.length))):=by
 have zl:(rows.zip uZ).length=rows.length:=by
  rw[Qc];lia
 have e0:gr (.lst [.int 0]) (.int (w:Int))=.ok (.l .f,.lst (((List.range w).map fun _=>(0:Int)).map D.int)):=by
  show xE (.lst [.int 0]) (.int (w:Int))=_;rw[qL,Oy ⟨by lia,by lia,line_le (by rw[OA,P1];lia)⟩,OW];have:(List.replicate w [D.int 0]).flatten=((List.range w).map fun _=>(0:Int)).map D.int:=by
   rw[Pd];clear hw hr;induction w with
   |zero=>rfl
   |succ n ih=>rw[SV,Ta,ih,RD,O6];rfl
  rw[this]
 obtain⟨env',hf,t1,t2,t3,rfl⟩:=for_list (a:=lM 2 (bf (av 4) (bf (av 5) fK))) (g:=fV) (e:=fun z:List Int×Int=>D.tup [eR z.1,.int z.2]) (rows.zip uZ) (fun j env=>∃t1 t2 t3,env=[some (.f,.lst (rows.map eR)),some (.f,.lst (uZ.map D.int)),some (.f,.int (w:Int)),some (.l .f,.lst (((List.range w).map (co rows uZ j)).map D.int)),t1,t2,t3]) (by
  rintro j ⟨r,y⟩ env hj ⟨t1,t2,t3,rfl⟩;have hz:(r,y)∈rows.zip uZ:=Pr hj;have GJ:=Q2 hz;obtain⟨q1,q2⟩:=Ql.mp hj;obtain⟨l1,q1⟩:=wZ q1;obtain⟨l2,q2⟩:=wZ q2;obtain⟨t',hs⟩:=w9 hn hm w hw (.lst (rows.map eR)) (.lst (uZ.map D.int)) (co rows uZ j) r y (hr r GJ.1) (Hz y GJ.2) t3;have e:(fun k=>co rows uZ j k+r.getD k 0*y)=co rows uZ (j+1):=funext fun k=>by
   unfold co;rw[w5 rows uZ j k l1 l2];dsimp only at q1 q2;rw[q1,q2]
  rw[e]at hs;exact⟨_,w6 _ _ _ _ _ _ _ _ _,_,hs,_,_,_,rfl⟩) [some (.f,.lst (rows.map eR)),some (.f,.lst (uZ.map D.int)),some (.f,.int (w:Int)),some (.l .f,.lst (((List.range w).map fun _=>(0:Int)).map D.int)),none,none,none] ⟨_,_,_,by
   have:co rows uZ 0=fun _=>(0:Int):=funext fun k=>by unfold co;rw[RO];rfl
   rw[this]⟩
 unfold bU jg;rw[ck (h:=by rfl)];rw[au (env':=[some (.f,.lst (rows.map eR)),some (.f,.lst (uZ.map D.int)),some (.f,.int (w:Int)),some (.l .f,.lst (((List.range w).map fun _=>(0:Int)).map D.int)),none,none,none]) (by simp only[pv,seval,e0])];rw[au (env':=[some (.f,.lst (rows.map eR)),some (.f,.lst (uZ.map D.int)),some (.f,.int (w:Int)),some (.l .f,.lst (((List.range w).map (co rows uZ rows.length)).map D.int)),t1,t2,t3]) (by
  unfold gU;rw[F4];simp only[pv,seval,m8];rw[zl]at hf;exact hf)]
 unfold fW;simp only[pv,seval,op];rfl
end LW
namespace LW
theorem N1:∀(k n:Nat) (f:Nat->Nat),k<n->(∀i,i<n->f i<k)->∃i j,i<j/\j<n/\f i=f j
 | 0,n,f,h,hf=>absurd (hf 0 h) (OJ _)
 |k+1,0,f,h,hf=>absurd h (OJ _)
 |k+1,n+1,f,h,hf=>by
  by_cases hc:∃i,i<n/\f i=f n
  ·obtain⟨i,h1,h2⟩:=hc;exact⟨i,n,h1,Pf n,h2⟩
  ·have hn:∀i,i<n->f i≠f n:=fun i hi e=>hc ⟨i,hi,e⟩
   obtain⟨i,j,h1,h2,h3⟩:=N1 k n (fun i=>if f i=k then f n else f i) (by lia) (fun i hi=>by
    have a1:=hf i (by lia);have a2:=hf n (by lia);have a3:=hn i hi;split <;> lia)
   refine⟨i,j,h1,by lia,?_⟩;have b1:=hn i (by lia);have b2:=hn j (by lia);split at h3 <;> split at h3 <;> lia
def sg(n:Nat)(f:Nat->Int):Int:=match n with
 | 0=>0
 |n+1=>sg n f+f n
theorem bJ{n:Nat}{f g:Nat->Int}(h:∀k,k<n->f k=g k):sg n f=sg n g:=by
 induction n with
 |zero=>rfl
 |succ n ih=>unfold sg;rw[ih fun k hk=>h k (by lia),h n (by lia)]
theorem dQ{n:Nat}{f:Nat->Int}(h:∀k,k<n->f k=0):sg n f=0:=by
 induction n with
 |zero=>rfl
 |succ n ih=>unfold sg;rw[ih fun k hk=>h k (by lia),h n (by lia)];rfl
theorem k5(n:Nat)(f g:Nat->Int):sg n (fun k=>f k+g k)=sg n f+sg n g:=by
 induction n with
 |zero=>rfl
 |succ n ih=>unfold sg;rw[ih];lia
theorem gj(n:Nat)(x:Int)(f:Nat->Int):sg n (fun k=>x*f k)=x*sg n f:=by
 induction n with
 |zero=>exact(O2 x).symm
 |succ n ih=>unfold sg;rw[ih,R7]
theorem qT(n:Nat)(x:Int)(f:Nat->Int):sg n (fun k=>f k*x)=sg n f*x:=by
 rw[Pu,<-gj];exact bJ fun k _=>Pu _ _
theorem qU(m n:Nat)(f:Nat->Nat->Int):sg m (fun i=>sg n (f i))=sg n fun j=>sg m fun i=>f i j:=by
 induction m with
 |zero=>exact(dQ fun _ _=>rfl).symm
 |succ m ih=>
  show sg m (fun i=>sg n (f i))+sg n (f m)=sg n fun j=>(sg m fun i=>f i j)+f m j
  rw[ih,<-k5]
theorem iM{n c:Nat}(h:c<n){f:Nat->Int}(hf:∀k,k<n->k≠c->f k=0):sg n f=f c:=by
 induction n with
 |zero=>lia
 |succ n ih=>
  unfold sg;by_cases hc:c=n
  ·subst hc;rw[dQ fun k hk=>hf k (by lia) (by lia),SN]
  ·rw[ih (by lia) fun k hk=>hf k (by lia),hf n (by lia) (fun e=>hc e.symm),PL]
theorem BU{n:Nat}{f:Nat->Int}{M:Nat}(h:∀k,k<n->(f k).natAbs<=M):(sg n f).natAbs<=n*M:=by
 induction n with
 |zero=>show(0:Int).natAbs<=_;rw[Nat.zero_mul];decide
 |succ n ih=>
  unfold sg;have h1:=ih fun k hk=>h k (by lia)
  have h2:=h n (by lia);have h3:=RW (sg n f) (f n);rw[Sz];lia
def Hg(K:Nat):Nat->(Nat->Nat)->Nat
 | 0,_=>0
 |s+1,y=>Hg K s y*K+y s
theorem uT{K:Nat}:∀(s:Nat) (y:Nat->Nat),(∀j,j<s->y j<K)->Hg K s y<K ^ s
 | 0,_,_=>Pf 0
 |s+1,y,h=>by
  have h1:=uT s y fun j hj=>h j (by lia)
  have h2:=h s (by lia);show Hg K s y*K+y s<K ^ (s+1);rw[Qq];have h3:(Hg K s y+1)*K<=K ^ s*K:=P8 K h1;rw[Sz]at h3;lia
theorem qV{K:Nat}:∀(s:Nat) (y z:Nat->Nat),(∀j,j<s->y j<K/\z j<K)->Hg K s y=Hg K s z->∀j,j<s->y j=z j
 | 0,_,_,_,_,j,hj=>absurd hj (OJ j)
 |s+1,y,z,h,e,j,hj=>by
  have e:Hg K s y*K+y s=Hg K s z*K+z s:=e;obtain⟨h1,h2⟩:=h s (by lia);have hd:Hg K s y=Hg K s z:=by
   have e1:(Hg K s y*K+y s) / K=(Hg K s z*K+z s) / K:=by rw[e]
   rw[Qo,Qo (Hg K s z),Nat.mul_add_div (by lia),Nat.mul_add_div (by lia),Nat.div_eq_of_lt h1,Nat.div_eq_of_lt h2]at e1;lia
  rw[hd]at e;by_cases hj2:j=s
  ·subst hj2;lia
  ·exact qV s y z (fun j hj=>h j (by lia)) hd j (by lia)
def E8(B n i:Nat):Nat:=n / B ^ i%B
theorem qW{B:Nat}:∀(r n m:Nat),n<B ^ r->m<B ^ r->(∀i,i<r->E8 B n i=E8 B m i)->n=m
 | 0,n,m,hn,hm,_=>by
  rw[Nat.pow_zero]at hn hm;lia
 |r+1,n,m,hn,hm,h=>by
  have h0:=h 0 (by lia);unfold E8 at h0;rw[Nat.pow_zero,Nat.div_one,Nat.div_one]at h0;rw[Qq,Qo]at hn hm;have hd:n / B=m / B:=qW r (n / B) (m / B) (SW hn) (SW hm) fun i hi=>by
   have:=h (i+1) (by lia);unfold E8 at this ⊢;rw[Qq,Qo,<-Sn,<-Sn]at this;exact this
  have e1:=Nat.div_add_mod n B;have e2:=Nat.div_add_mod m B;rw[hd,h0]at e1;lia
theorem uU{r s A:Nat}(h:s<r)(m:Nat->Nat->Int)(hA:∀j,j<s->∀i,i<r->(m j i).natAbs<=A):∃x:Nat->Int,(∃i,i<r/\x i≠0)/\(∀i,i<r->(x i).natAbs<=(2*(r*A)+1) ^ s)/\∀j,j<s->sg r (fun i=>m j i*x i)=0:=by
 generalize hX:(2*(r*A)+1) ^ s=X;have Nj:∀n i,E8 (X+1) n i<=X:=fun n i=>by
  exact Nat.le_of_lt_succ (Nat.mod_lt (n / (X+1) ^ i) (Q1 X))
 have hy:∀n j,j<s->(sg r fun i=>m j i*(E8 (X+1) n i:Int)).natAbs<=r*A*X:=fun n j hj=>by
  rw[Tt];refine BU fun i hi=>?_
  rw[PF,Pc];exact Rh (hA j hj i hi) (Nj n i)
 generalize hC:r*A=C at hX hy;have DH:∀n j,j<s->((sg r fun i=>m j i*(E8 (X+1) n i:Int))+(C*X:Nat)).toNat<2*(C*X)+1:=fun n j hj=>by
  have:=hy n j hj;generalize (sg r fun i=>m j i*(E8 (X+1) n i:Int))=q at this;generalize C*X=t at this;lia
 have hcmp:(2*(C*X)+1) ^ s<(X+1) ^ r:=by
  have h1:(X+1) ^ (s+1)<=(X+1) ^ r:=QJ (Q1 X) h;have h2:2*(C*X)+1<=(X+1)*(2*C+1):=by
   have:(X+1)*(2*C+1)=2*(C*X)+2*C+X+1:=by
    rw[Nat.mul_add,Nat.add_mul,Uw,Nat.one_mul,Qo X,Tt];lia
   lia
  have h3:(2*(C*X)+1) ^ s<=(X+1) ^ s*X:=by
   rw[<-hX,<-Nat.mul_pow,hX];exact Tb h2 s
  have h4:(X+1) ^ s*X<(X+1) ^ (s+1):=by
   rw[Qq];have:0<(X+1) ^ s:=Nat.pow_pos (Q1 X);exact Nat.mul_lt_mul_of_pos_left (Pf X) this
  lia
 obtain⟨a,b,h1,h2,h3⟩:=N1 _ _ (fun n=>Hg (2*(C*X)+1) s fun j=>((sg r fun i=>m j i*(E8 (X+1) n i:Int))+(C*X:Nat)).toNat) hcmp fun n _=>uT s _ fun j hj=>DH n j hj
 have h4:=qV s _ _ (fun j hj=>⟨DH a j hj,DH b j hj⟩) h3;refine⟨fun i=>(E8 (X+1) a i:Int)-(E8 (X+1) b i:Int),?_,fun i _=>?_,fun j hj=>?_⟩
 ·apply Px;intro Lb;have:a=b:=qW r a b (by lia) h2 fun i hi=>by
   apply Px;intro HW;exact Lb ⟨i,hi,fun z=>HW (by have z:(E8 (X+1) a i:Int)-(E8 (X+1) b i:Int)=0:=z;lia)⟩
  lia
 ·have:=Nj a i;have:=Nj b i;show((E8 (X+1) a i:Int)-(E8 (X+1) b i:Int)).natAbs<=X;lia
 ·have e:=h4 j hj;have ya:=hy a j hj;have yb:=hy b j hj;have:sg r (fun i=>m j i*((E8 (X+1) a i:Int)-(E8 (X+1) b i:Int)))=(sg r fun i=>m j i*(E8 (X+1) a i:Int))-sg r fun i=>m j i*(E8 (X+1) b i:Int):=by
   have e2:sg r (fun i=>m j i*((E8 (X+1) a i:Int)-(E8 (X+1) b i:Int)))+(sg r fun i=>m j i*(E8 (X+1) b i:Int))=sg r fun i=>m j i*(E8 (X+1) a i:Int):=by
    rw[<-k5];refine bJ fun k _=>?_
    rw[<-R7];congr 1
    lia
   lia
  rw[this];generalize (sg r fun i=>m j i*(E8 (X+1) a i:Int))=qa at e ya;generalize (sg r fun i=>m j i*(E8 (X+1) b i:Int))=qb at e yb;generalize C*X=t at e ya yb;lia
def Jk(r w:Nat)(F:Nat->Nat->Int):Prop:=∀x:Nat->Int,(∀k,k<w->sg r (fun i=>x i*F i k)=0)->∀i,i<r->x i=0
def In(r w:Nat)(F:Nat->Nat->Int)(v:Nat->Int):Prop:=∃(d:Int) (x:Nat->Int),d≠0/\∀k,k<w->d*v k=sg r fun i=>x i*F i k
theorem cS{r w:Nat}{F:Nat->Nat->Int}{i:Nat}(h:i<r):In r w F (F i):=by
 refine⟨1,fun j=>if j=i then 1 else 0,by decide,fun k _=>?_⟩;show 1*F i k=sg r fun j=>(if j=i then 1 else 0)*F j k
 rw[iM h (f:=fun j=>(if j=i then 1 else 0)*F j k) fun j _ hj=>by
  show(if j=i then 1 else 0)*F j k=0;rw[OD hj,P4]]
 show 1*F i k=(if i=i then 1 else 0)*F i k;rw[Oy rfl]
theorem jW{r w:Nat}{F:Nat->Nat->Int}{v:Nat->Int}(h:∀k,k<w->v k=0):In r w F v:=by
 refine⟨1,fun _=>0,by decide,fun k hk=>?_⟩;rw[h k hk,dQ fun j _=>P4 _,O2]
theorem in_add{r w:Nat}{F:Nat->Nat->Int}{u v:Nat->Int}(a b:Int)(hu:In r w F u)(hv:In r w F v):In r w F fun k=>a*u k+b*v k:=by
 obtain⟨d,x,h1,h2⟩:=hu;obtain⟨e,y,h3,h4⟩:=hv;refine⟨d*e,fun i=>e*a*x i+d*b*y i,fun z=>(O3.mp z).elim h1 h3,fun k hk=>?_⟩;have e1:d*e*(a*u k+b*v k)=e*a*(d*u k)+d*b*(e*v k):=by
  rw[R7];congr 1
  ·simp only[Pu,Rf]
  ·simp only[Pu,Rf]
 rw[e1,h2 k hk,h4 k hk,<-gj,<-gj,<-k5];refine bJ fun i _=>?_
 rw[Int.add_mul,Pl,Pl,Pl,Pl,Pl,Pl]
theorem gY{r w:Nat}{F:Nat->Nat->Int}{u v:Nat->Int}(d:Int)(hd:d≠0)(h:∀k,k<w->d*v k=u k)(hu:In r w F u):In r w F v:=by
 obtain⟨e,x,h1,h2⟩:=hu;refine⟨e*d,x,fun z=>(O3.mp z).elim h1 hd,fun k hk=>?_⟩;rw[Pl,h k hk,h2 k hk]
theorem bw{r w:Nat}{F:Nat->Nat->Int}{u v:Nat->Int}(h:∀k,k<w->v k=u k)(hu:In r w F u):In r w F v:=gY 1 (by decide) (fun k hk=>by rw[P7,h k hk]) hu
theorem gZ{r w:Nat}{F:Nat->Nat->Int}:∀(n:Nat) (x:Nat->Int) (G:Nat->Nat->Int),(∀i,i<n->In r w F (G i))->In r w F fun k=>sg n fun i=>x i*G i k
 | 0,_,_,_=>jW fun _ _=>rfl
 |n+1,x,G,h=>by
  have h1:=gZ n x G fun i hi=>h i (by lia)
  refine bw (fun k _=>?_) (in_add 1 (x n) h1 (h n (by lia)));show sg n (fun i=>x i*G i k)+x n*G n k=_;rw[P7]
theorem cX{r s w:Nat}{F G:Nat->Nat->Int}{v:Nat->Int}(hv:In r w F v)(h:∀i,i<r->In s w G (F i)):In s w G v:=by
 obtain⟨d,x,h1,h2⟩:=hv;exact gY d h1 h2 (gZ r x F h)
theorem m9{a b w:Nat}{A B:Nat->Nat->Int}(hi:Jk a w A)(h:∀i,i<a->In b w B (A i)):a<=b:=by
 apply Px;intro DH;have Hs:∃(d:Nat->Int) (m:Nat->Nat->Int),∀i,i<a->d i≠0/\∀k,k<w->d i*A i k=sg b fun j=>m i j*B j k:=by
  have:∀i,∃(p:Int×(Nat->Int)),i<a->p.1≠0/\∀k,k<w->p.1*A i k=sg b fun j=>p.2 j*B j k:=fun i=>by
   by_cases JJ:i<a
   ·obtain⟨d,x,h1,h2⟩:=h i JJ;exact⟨(d,x),fun _=>⟨h1,h2⟩⟩
   ·exact⟨(0,fun _=>0),fun z=>absurd z JJ⟩
  exact⟨fun i=>(this i).choose.1,fun i=>(this i).choose.2,fun i JJ=>(this i).choose_spec JJ⟩
 obtain⟨d,m,hm⟩:=Hs;have hbd:∃M,∀j,j<b->∀i,i<a->(m i j).natAbs<=M:=by
  have h1:∀(n:Nat) (f:Nat->Nat),∃M,∀i,i<n->f i<=M:=fun n f=>by
   induction n with
   |zero=>exact⟨0,fun i hi=>absurd hi (OJ _)⟩
   |succ n ih=>
    obtain⟨M,hM⟩:=ih;refine⟨M+f n,fun i hi=>?_⟩;by_cases JK:i=n
    ·rw[JK];lia
    ·have:=hM i (by lia);lia
  have h2:∀j,∃M,∀i,i<a->(m i j).natAbs<=M:=fun j=>h1 a fun i=>(m i j).natAbs
  obtain⟨M,hM⟩:=h1 b fun j=>(h2 j).choose
  exact⟨M,fun j hj i JJ=>OF ((h2 j).choose_spec i JJ) (hM j hj)⟩
 obtain⟨M,hM⟩:=hbd;obtain⟨x,⟨i0,MA,Iu⟩,_,hx⟩:=uU (r:=a) (s:=b) (A:=M) (by lia) (fun j i=>m i j) hM;have:=hi (fun i=>x i*d i) (fun k hk=>by
  have e1:sg a (fun i=>x i*d i*A i k)=sg a fun i=>sg b fun j=>x i*(m i j*B j k):=bJ fun i JJ=>by
   rw[Pl,(hm i JJ).2 k hk,gj]
  rw[e1,qU];refine dQ fun j hj=>?_
  have e2:sg a (fun i=>x i*(m i j*B j k))=sg a fun i=>m i j*x i*B j k:=bJ fun i _=>by rw[<-Pl,Pu (x i)]
  rw[e2,qT,hx j hj,P4]) i0 MA
 exact(O3.mp this).elim Iu (hm i0 MA).1
theorem zO{a b w:Nat}{A B:Nat->Nat->Int}(h1:Jk a w A)(h2:Jk b w B)(h3:∀i,i<a->In b w B (A i))(h4:∀i,i<b->In a w A (B i)):a=b:=Nat.le_antisymm (m9 h1 h3) (m9 h2 h4)
abbrev Vc(l:List Int):Nat->Int:=fun k=>l.getD k 0
abbrev Dq:=List (Nat×List Int)
def Dh(L:Dq)(i:Nat):Nat:=(L.getD i (0,[])).1
def Dk(L:Dq)(i:Nat):List Int:=(L.getD i (0,[])).2
structure Rdd(w:Nat)(L:Dq):Prop where
 col:∀i,i<L.length->Dh L i<w
 len:∀i,i<L.length->(Dk L i).length=w
 own:∀i,i<L.length->(Dk L i).getD (Dh L i) 0≠0
 oth:∀i j,i<L.length->j<L.length->i≠j->(Dk L i).getD (Dh L j) 0=0
abbrev Fm(L:Dq):Nat->Nat->Int:=fun i=>Vc (Dk L i)
theorem Rdd.at{w:Nat}{L:Dq}(H:Rdd w L)(x:Nat->Int){j:Nat}(hj:j<L.length):sg L.length (fun i=>x i*Fm L i (Dh L j))=x j*(Dk L j).getD (Dh L j) 0:=
 iM hj fun i hi KG=>by
  show x i*(Dk L i).getD (Dh L j) 0=0;rw[H.oth i j hi hj KG,O2]
theorem Rdd.inj{w:Nat}{L:Dq}(H:Rdd w L){i j:Nat}(hi:i<L.length)(hj:j<L.length)(e:Dh L i=Dh L j):i=j:=by
 apply Px;intro h;have h1:=H.oth j i hj hi (fun z=>h z.symm);rw[e]at h1;exact H.own j hj h1
theorem Rdd.ind{w:Nat}{L:Dq}(H:Rdd w L):Jk L.length w (Fm L):=fun x hx i hi=>by
 have h:=hx (Dh L i) (H.col i hi);rw[H.at x hi]at h;exact(O3.mp h).resolve_right (H.own i hi)
theorem Rdd.zero{w:Nat}{L:Dq}(H:Rdd w L){v:Nat->Int}(hv:In L.length w (Fm L) v)(h0:∀i,i<L.length->v (Dh L i)=0):∀k,k<w->v k=0:=fun k hk=>by
 obtain⟨d,x,h1,h2⟩:=hv;have hx:∀i,i<L.length->x i=0:=fun i hi=>by
  have h:=h2 (Dh L i) (H.col i hi);rw[h0 i hi,O2,H.at x hi]at h;exact(O3.mp h.symm).resolve_right (H.own i hi)
 have h:=h2 k hk;rw[dQ fun i hi=>by rw[hx i hi,P4]]at h;exact(O3.mp h).resolve_left h1
theorem Rdd.line{w:Nat}{L:Dq}(H:Rdd w L){v:Nat->Int}(hv:In L.length w (Fm L) v){j:Nat}(hj:j<L.length)(h0:∀i,i<L.length->i≠j->v (Dh L i)=0):∃d y:Int,d≠0/\∀k,k<w->d*v k=y*Fm L j k:=by
 obtain⟨d,x,h1,h2⟩:=hv;have hx:∀i,i<L.length->i≠j->x i=0:=fun i hi KG=>by
  have h:=h2 (Dh L i) (H.col i hi);rw[h0 i hi KG,O2,H.at x hi]at h;exact(O3.mp h.symm).resolve_right (H.own i hi)
 refine⟨d,x j,h1,fun k hk=>?_⟩;rw[h2 k hk];exact iM hj fun i hi KG=>by rw[hx i hi KG,P4]
def gl:List Int->Nat->Nat
 |[],g=>g
 |x::r,g=>gl r (Nat.gcd g x.natAbs)
def low(r:List Int):List Int:=if gl r 0=0 then r else r.map fun x=>x.fdiv (gl r 0:Int)
theorem qX:∀(r:List Int) (g:Nat),gl r g ∣ g/\∀x∈r,gl r g ∣ x.natAbs
 |[],g=>⟨Nat.dvd_refl g,fun _ h=>nomatch h⟩
 |x::r,g=>by
  obtain⟨h1,h2⟩:=qX r (Nat.gcd g x.natAbs);refine⟨Tu h1 (Nat.gcd_dvd_left _ _),fun y hy=>?_⟩;rcases Ov.mp hy with rfl|hy
  ·exact Tu h1 (Nat.gcd_dvd_right _ _)
  ·exact h2 y hy
theorem ng:∀(r:List Int) (g d:Nat),d ∣ g->(∀x∈r,d ∣ x.natAbs)->d ∣ gl r g
 |[],_,_,h,_=>h
 |x::r,g,d,h,hr=>ng r _ d (Nat.dvd_gcd h (hr x Oh)) fun y hy=>hr y (Og _ hy)
theorem qY:∀(r:List Int) (g:Nat) (y:Int),gl (r.map fun x=>y*x) (y.natAbs*g)=y.natAbs*gl r g
 |[],_,_=>rfl
 |x::r,g,y=>by
  show gl (r.map fun x=>y*x) (Nat.gcd (y.natAbs*g) (y*x).natAbs)=_;rw[PF,Nat.gcd_mul_left];exact qY r _ y
theorem xa{r:List Int}(h:gl r 0=0):∀x∈r,x=0:=fun x hx=>by
 have:=(qX r 0).2 x hx;rw[h]at this;exact RL.mp (Nat.eq_zero_of_zero_dvd this)
theorem jX(r:List Int):(low r).length=r.length:=by
 unfold low;split
 ·rfl
 ·rw[bK]
theorem iN(r:List Int):∃g:Nat,g≠0/\(∀k,(g:Int)*(low r).getD k 0=r.getD k 0)/\((∃x∈r,x≠0)->gl (low r) 0=1):=by
 by_cases h:gl r 0=0
 ·refine⟨1,by decide,fun k=>?_,fun⟨x,hx,Iu⟩=>absurd (xa h x hx) Iu⟩;unfold low;rw[Oy h];exact P7 _
 ·have hm:∀x∈r,(gl r 0:Int)*x.fdiv (gl r 0:Int)=x:=fun x hx=>Ru (Int.ofNat_dvd_left.mpr ((qX r 0).2 x hx))
  refine⟨gl r 0,h,fun k=>?_,fun _=>?_⟩
  ·unfold low;rw[OD h,Od,Od,OG];cases hk:r[k]? with
   |none=>exact O2 _
   |some x=>exact hm x (Pr hk)
  ·have e:=qY (low r) 0 (gl r 0:Int);have e2:(low r).map (fun x=>(gl r 0:Int)*x)=r:=by
    unfold low;rw[OD h,Pd];refine(PY fun x hx=>?_).trans (List.map_id _);exact hm x hx
   rw[e2,Nat.mul_zero,Pc]at e;exact Nat.eq_of_mul_eq_mul_left (by lia) (e.symm.trans (Uw _).symm)
theorem CM{l:List Int}(h1:gl l 0=1){d y:Int}(hd:d≠0){v:Nat->Int}(h:∀k,k<l.length->d*v k=y*l.getD k 0):∃t:Int,∀k,k<l.length->v k=t*l.getD k 0:=by
 have hdy:d.natAbs ∣ y.natAbs:=by
  have h2:=ng (l.map fun x=>y*x) (y.natAbs*0) d.natAbs (by rw[Nat.mul_zero];exact Nat.dvd_zero _) fun x hx=>by
   obtain⟨z,hz,e⟩:=rX hx;obtain⟨k,hk,ez⟩:=PZ hz;have h3:=h k hk;rw[Od,kY hk,ez]at h3;have h3:d*v k=y*z:=h3;rw[<-e,<-h3,PF];exact Nat.dvd_mul_right _ _
  rw[qY,h1,Uw]at h2;exact h2
 obtain⟨t,ht⟩:=Rn.mp hdy;refine⟨t,fun k hk=>?_⟩;have h3:=h k hk;rw[ht,Pl]at h3;exact Int.eq_of_mul_eq_mul_left hd h3
abbrev Fs(S:List (List Int)):Nat->Nat->Int:=fun i=>Vc (S.getD i [])
structure Inv(w:Nat)(rows:List (List Int))(L:Dq):Prop where
 red:Rdd w L
 pri:∀i,i<L.length->gl (Dk L i) 0=1
 base:∃S:List (List Int),S.length=L.length/\(∀s∈S,s∈rows)/\Jk L.length w (Fs S)/\(∀i,i<L.length->In L.length w (Fs S) (Fm L i))/\∀i,i<L.length->In L.length w (Fm L) (Fs S i)
 spn:∀r∈rows,In L.length w (Fm L) (Vc r)
theorem b6{α:Type}{l:List α}{k:Nat}{d:α}(h:k<l.length):l.getD k d∈l:=by
 rw[Od,kY h];exact List.getElem_mem h
theorem Inv.size{w A:Nat}{rows:List (List Int)}{L:Dq}(H:Inv w rows L)(hA:∀r∈rows,∀k,k<w->(r.getD k 0).natAbs<=A){i:Nat}(hi:i<L.length){k:Nat}(hk:k<w):((Dk L i).getD k 0).natAbs<=L.length*((2*(L.length*A)+1) ^ (L.length-1)*A):=by
 obtain⟨S,s1,s2,s3,s4,s5⟩:=H.base;have hS:∀t,t<L.length->∀k,k<w->(Fs S t k).natAbs<=A:=fun t ht k hk=>hA _ (s2 _ (b6 (by lia))) k hk
 obtain⟨x,⟨i0,MA,Iu⟩,MB,hx⟩:=uU (r:=L.length) (s:=L.length-1) (A:=A) (by lia) (fun j t=>Fs S t (Dh L (if j<i then j else j+1))) fun j hj t ht=>hS t ht _ (H.red.col _ (by split <;> lia))
 have hv:In L.length w (Fm L) fun k=>sg L.length fun t=>x t*Fs S t k:=gZ _ x (Fs S) s5
 obtain⟨d,y,hd,hy⟩:=H.red.line hv hi fun j hj MC=>by
  have h:=hx (if j<i then j else j-1) (by split <;> lia);have e:(if(if j<i then j else j-1)<i then(if j<i then j else j-1) else(if j<i then j else j-1)+1)=j:=by
   by_cases h1:j<i
   ·rw[Oy h1,Oy h1]
   ·rw[OD h1,OD (by lia)];lia
  rw[e]at h;rw[<-h];exact bJ fun t _=>Pu _ _
 have hlen:=H.red.len i hi;obtain⟨t,ht⟩:=CM (H.pri i hi) hd fun k hk=>hy k (hlen▸hk)
 have ht0:t≠0:=fun z=>Iu (s3 x (fun k hk=>by
  have:=ht k (hlen.symm▸hk);rw[z,P4]at this;exact this) i0 MA)
 have hvk:=ht k (hlen.symm▸hk);have hb:(sg L.length fun t=>x t*Fs S t k).natAbs<=L.length*((2*(L.length*A)+1) ^ (L.length-1)*A):=BU fun t ht=>by
  rw[PF];exact Rh (MB t ht) (hS t ht k hk)
 rw[hvk,PF]at hb;have:1<=t.natAbs:=by lia
 refine OF ?_ hb;exact So _ this
def Ek(row:List Int)(c:Nat)(E9:List Int):List Int:=if row.getD c 0=0 then row else(List.range row.length).map fun k=>row.getD k 0*E9.getD c 0+E9.getD k 0 * -(row.getD c 0)
theorem ma(r:List Int)(q:Nat)(l:List Int):(Ek r q l).length=r.length:=by
 unfold Ek;split
 ·rfl
 ·rw[bK,OE]
theorem uV{row:List Int}{c:Nat}{b:List Int}(hb:b.getD c 0≠0):∃x y:Int,x≠0/\(∀k,k<row.length->(Ek row c b).getD k 0=x*row.getD k 0+y*b.getD k 0)/\(c<row.length->(Ek row c b).getD c 0=0):=by
 unfold Ek;by_cases h:row.getD c 0=0
 ·refine⟨1,0,by decide,fun k _=>?_,fun _=>?_⟩
  ·rw[Oy h,P7,P4,PL]
  ·rw[Oy h,h]
 ·refine⟨b.getD c 0,-(row.getD c 0),hb,fun k hk=>?_,fun hc=>?_⟩
  ·rw[OD h,dv _ _ _ hk,Pu,Pu (b.getD k 0)]
  ·rw[OD h,dv _ _ _ hc,Pu,<-R7,Int.add_right_neg,O2]
def Ee(L:Dq)(row:List Int):Nat->List Int
 | 0=>row
 |n+1=>Ek (Ee L row n) (Dh L n) (Dk L n)
theorem fI(L:Dq)(row:List Int):∀n,(Ee L row n).length=row.length
 | 0=>rfl
 |n+1=>by
  show(Ek _ _ _).length=_;rw[ma,fI L row n]
theorem nh{w:Nat}{L:Dq}(H:Rdd w L){row:List Int}(hr:row.length=w):∀n,n<=L.length->∃(d:Int) (x:Nat->Int),d≠0/\(∀k,k<w->(Ee L row n).getD k 0=d*row.getD k 0+sg L.length fun i=>x i*Fm L i k)/\∀i,i<n->(Ee L row n).getD (Dh L i) 0=0
 | 0,_=>⟨1,fun _=>0,by decide,fun k _=>by rw[P7,dQ fun i _=>P4 _,PL];rfl,fun i hi=>absurd hi (OJ i)⟩
 |n+1,hn=>by
  obtain⟨d,x,h1,h2,h3⟩:=nh H hr n (by lia);obtain⟨a,b,g1,g2,g3⟩:=uV (row:=Ee L row n) (c:=Dh L n) (b:=Dk L n) (H.own n (by lia));rw[fI,hr]at g2 g3;refine⟨a*d,fun i=>a*x i+if i=n then b else 0,fun z=>(O3.mp z).elim g1 h1,fun k hk=>?_,fun i hi=>?_⟩
  ·show(Ek _ _ _).getD k 0=_;rw[g2 k hk,h2 k hk];have e:sg L.length (fun i=>(a*x i+if i=n then b else 0)*Fm L i k)=a*sg L.length (fun i=>x i*Fm L i k)+b*Fm L n k:=by
    have e1:sg L.length (fun i=>(if i=n then b else 0)*Fm L i k)=b*Fm L n k:=by
     have:=iM (n:=L.length) (c:=n) (by lia) (f:=fun i=>(if i=n then b else 0)*Fm L i k) fun i _ JK=>by
      show(if i=n then b else 0)*Fm L i k=0;rw[OD JK,P4]
     rw[this];show(if n=n then b else 0)*Fm L n k=_;rw[Oy rfl]
    rw[<-gj,<-e1,<-k5];refine bJ fun i _=>?_
    rw[Int.add_mul,Pl]
   rw[e,R7,Pl,Int.add_assoc]
  ·show(Ek _ _ _).getD _ 0=0;by_cases JK:i=n
   ·subst JK;exact g3 (H.col i (by lia))
   ·rw[g2 _ (H.col i (by lia)),h3 i (by lia),H.oth n i (by lia) (by lia) (fun z=>JK z.symm),O2,O2];rfl
def D8(L:Dq)(q:Nat)(nl:List Int):Dq:=(L.map fun z=>(z.1,low (Ek z.2 q nl)))++[(q,nl)]
theorem qZ(L:Dq)(q:Nat)(nl:List Int):(D8 L q nl).length=L.length+1:=by
 unfold D8;rw[zH,bK,Sw]
theorem di(L:Dq)(q:Nat)(nl:List Int){i:Nat}(h:i<L.length):Dh (D8 L q nl) i=Dh L i/\Dk (D8 L q nl) i=low (Ek (Dk L i) q nl):=by
 unfold Dh Dk D8;rw[Od,QK (by rw[bK];exact h),OG,Od,kY h];exact⟨rfl,rfl⟩
theorem cT(L:Dq)(q:Nat)(nl:List Int):Dh (D8 L q nl) L.length=q/\Dk (D8 L q nl) L.length=nl:=by
 unfold Dh Dk D8;rw[Od,QH (by rw[bK];exact Oq _),bK,Nat.sub_self];exact⟨rfl,rfl⟩
theorem zP{r:List Int}{k:Nat}(h:r.getD k 0≠0):∃x∈r,x≠0:=by
 by_cases hk:k<r.length
 ·exact⟨_,b6 hk,h⟩
 ·rw[Od,Rm (by lia)]at h;exact absurd rfl h
theorem ni{r:List Int}{k:Nat}(h:r.getD k 0≠0):(low r).getD k 0≠0/\gl (low r) 0=1:=by
 obtain⟨g,g1,g2,g3⟩:=iN r;refine⟨fun z=>h ?_,g3 (zP h)⟩;rw[<-g2 k,z,O2]
theorem xb{r:List Int}{k:Nat}(h:r.getD k 0=0):(low r).getD k 0=0:=by
 obtain⟨g,g1,g2,g3⟩:=iN r;have:=g2 k;rw[h]at this;exact(O3.mp this).resolve_left (by lia)
theorem uW{r w:Nat}{F:Nat->Nat->Int}{l:List Int}(h:In r w F (Vc l)):In r w F (Vc (low l)):=by
 obtain⟨g,g1,g2,_⟩:=iN l;exact gY (g:Int) (by lia) (fun k _=>g2 k) h
theorem nj{r w:Nat}{F:Nat->Nat->Int}{l:List Int}(h:In r w F (Vc (low l))):In r w F (Vc l):=by
 obtain⟨g,g1,g2,_⟩:=iN l;refine bw (fun k _=>?_) (in_add (g:Int) 0 h (jW (v:=fun _=>0) fun _ _=>rfl));rw[O2,PL];exact(g2 k).symm
theorem xc{α:Type}(S:List α)(x d:α){i:Nat}(h:i<S.length):(S++[x]).getD i d=S.getD i d:=by
 rw[Od,QK h,<-Od]
theorem xf{α:Type}(S:List α)(x d:α):(S++[x]).getD S.length d=x:=by
 rw[Od,QH (Oq _),Nat.sub_self];rfl
theorem xg{r w:Nat}{S:List (List Int)}{x:List Int}{v:Nat->Int}(hr:S.length=r)(h:In r w (Fs S) v):In (r+1) w (Fs (S++[x])) v:=by
 refine cX h fun i hi=>bw (fun k _=>?_) (cS (F:=Fs (S++[x])) (i:=i) (by lia))
 show(S.getD i []).getD k 0=((S++[x]).getD i []).getD k 0;rw[xc S x [] (by lia)]
theorem xh{r w:Nat}{S:List (List Int)}{x:List Int}(hr:S.length=r):In (r+1) w (Fs (S++[x])) (Vc x):=by
 refine bw (fun k _=>?_) (cS (F:=Fs (S++[x])) (i:=r) (by lia));show x.getD k 0=((S++[x]).getD r []).getD k 0;rw[<-hr,xf]
theorem Inv.start(w:Nat):Inv w [] []:=
 ⟨⟨fun _ h=>absurd h (OJ _),fun _ h=>absurd h (OJ _),fun _ h=>absurd h (OJ _),fun _ _ h=>absurd h (OJ _)⟩,fun _ h=>absurd h (OJ _),⟨[],rfl,fun _ h=>(nomatch h),fun _ _ _ h=>absurd h (OJ _),fun _ h=>absurd h (OJ _),fun _ h=>absurd h (OJ _)⟩,fun _ h=>nomatch h⟩
theorem Inv.none{w:Nat}{rows:List (List Int)}{L:Dq}(H:Inv w rows L){row:List Int}(hr:row.length=w)(hz:∀k,k<w->(Ee L row L.length).getD k 0=0):Inv w (rows++[row]) L:=by
 obtain⟨S,s1,s2,s3,s4,s5⟩:=H.base;refine⟨H.red,H.pri,⟨S,s1,fun s hs=>Oo _ (s2 s hs),s3,s4,s5⟩,fun r h=>?_⟩;rcases zy h with h|h
 ·exact H.spn r h
 ·rw[uR h];obtain⟨d,x,h1,h2,_⟩:=nh H.red hr L.length (Oq _);refine gY d h1 (u:=fun k=>sg L.length fun i=>-x i*Fm L i k) (fun k hk=>?_) (gZ L.length (fun i=>-x i) (Fm L) fun i hi=>cS hi);have h:=h2 k hk;rw[hz k hk]at h;have e:sg L.length (fun i=>-x i*Fm L i k) = -sg L.length fun i=>x i*Fm L i k:=by
   have:=gj L.length (-1) fun i=>x i*Fm L i k
   rw[QB,P7]at this;rw[<-this];refine bJ fun i _=>?_
   rw[QB,QB,P7]
  show d*row.getD k 0=_;rw[e];lia
theorem Inv.more{w:Nat}{rows:List (List Int)}{L:Dq}(H:Inv w rows L){row:List Int}(hr:row.length=w){q:Nat}(hq:q<w)(Dg:(Ee L row L.length).getD q 0≠0):Inv w (rows++[row]) (D8 L q (low (Ee L row L.length))):=by
 obtain⟨d,x,h1,h2,h3⟩:=nh H.red hr L.length (Oq _);have L5:=fI L row L.length;generalize Ee L row L.length=aE at Dg h2 h3 L5;obtain⟨n1,n2⟩:=ni Dg;have n3:∀i,i<L.length->(low aE).getD (Dh L i) 0=0:=fun i hi=>xb (h3 i hi)
 have L6:=jX aE;have Nk:∀{r:Nat}{F:Nat->Nat->Int},In r w F (Vc aE)->In r w F (Vc (low aE)):=fun h=>uW h
 have Ni:∀{r:Nat}{F:Nat->Nat->Int},In r w F (Vc (low aE))->In r w F (Vc aE):=fun h=>nj h
 generalize low aE=nl at n1 n2 n3 L6 Nk Ni;have FN:∀i,i<L.length->∃a b:Int,a≠0/\(∀k,k<w->(Ek (Dk L i) q nl).getD k 0=a*(Dk L i).getD k 0+b*nl.getD k 0)/\(Ek (Dk L i) q nl).getD q 0=0:=fun i hi=>by
  obtain⟨a,b,g1,g2,g3⟩:=uV (row:=Dk L i) (c:=q) (b:=nl) n1;rw[H.red.len i hi]at g2 g3;exact⟨a,b,g1,g2,g3 hq⟩
 have L7:∀i,i<L.length->(Ek (Dk L i) q nl).getD (Dh L i) 0≠0:=fun i hi=>by
  obtain⟨a,b,g1,g2,_⟩:=FN i hi;rw[g2 _ (H.red.col i hi),n3 i hi,O2,PL];exact fun z=>(O3.mp z).elim g1 (H.red.own i hi)
 have JZ:=qZ L q nl;have hpri:∀i,i<(D8 L q nl).length->gl (Dk (D8 L q nl) i) 0=1:=fun i hi=>by
  by_cases h:i<L.length
  ·rw[(di L q nl h).2];exact(ni (L7 i h)).2
  ·obtain rfl:i=L.length:=by lia
   rw[(cT L q nl).2];exact n2
 have hred:Rdd w (D8 L q nl):=by
  refine⟨fun i hi=>?_,fun i hi=>?_,fun i hi=>?_,fun i j hi hj KG=>?_⟩
  ·by_cases h:i<L.length
   ·rw[(di L q nl h).1];exact H.red.col i h
   ·obtain rfl:i=L.length:=by lia
    rw[(cT L q nl).1];exact hq
  ·by_cases h:i<L.length
   ·rw[(di L q nl h).2,jX,ma];exact H.red.len i h
   ·obtain rfl:i=L.length:=by lia
    rw[(cT L q nl).2,L6,L5,hr]
  ·by_cases h:i<L.length
   ·rw[(di L q nl h).2,(di L q nl h).1];exact(ni (L7 i h)).1
   ·obtain rfl:i=L.length:=by lia
    rw[(cT L q nl).2,(cT L q nl).1];exact n1
  ·by_cases h:i<L.length
   ·rw[(di L q nl h).2];obtain⟨a,b,_,g2,g3⟩:=FN i h;refine xb ?_;by_cases h':j<L.length
    ·rw[(di L q nl h').1,g2 _ (H.red.col j h'),n3 j h',H.red.oth i j h h' KG,O2,O2];rfl
    ·obtain rfl:j=L.length:=by lia
     rw[(cT L q nl).1];exact g3
   ·obtain rfl:i=L.length:=by lia
    rw[(cT L q nl).2,(di L q nl (i:=j) (by lia)).1];exact n3 j (by lia)
 have hold:∀i,i<L.length->In (D8 L q nl).length w (Fm (D8 L q nl)) (Fm L i):=fun i hi=>by
  obtain⟨a,b,g1,g2,_⟩:=FN i hi;have i1:In (D8 L q nl).length w (Fm (D8 L q nl)) (Vc (Ek (Dk L i) q nl)):=by
   refine nj (bw (fun k _=>?_) (cS (i:=i) (by lia)));show _=(Dk (D8 L q nl) i).getD k 0;rw[(di L q nl hi).2]
  have i2:In (D8 L q nl).length w (Fm (D8 L q nl)) (Vc nl):=by
   refine bw (fun k _=>?_) (cS (i:=L.length) (by lia));show _=(Dk (D8 L q nl) L.length).getD k 0;rw[(cT L q nl).2]
  refine gY a g1 (fun k hk=>?_) (in_add 1 (-b) i1 i2);show a*(Dk L i).getD k 0=1*(Ek (Dk L i) q nl).getD k 0 + -b*nl.getD k 0;rw[g2 k hk,P7,QB];lia
 have GK:In (D8 L q nl).length w (Fm (D8 L q nl)) (Vc nl):=by
  refine bw (fun k _=>?_) (cS (i:=L.length) (by lia));show _=(Dk (D8 L q nl) L.length).getD k 0;rw[(cT L q nl).2]
 have L8:In (D8 L q nl).length w (Fm (D8 L q nl)) (Vc row):=by
  refine gY d h1 (fun k hk=>?_) (in_add 1 (-1) (Ni GK) (gZ L.length x (Fm L) hold));show d*row.getD k 0=1*aE.getD k 0 + -1*_;rw[h2 k hk];lia
 obtain⟨S,s1,s2,s3,s4,s5⟩:=H.base;refine⟨hred,hpri,⟨S++[row],by rw[JZ,zH,s1];rfl,fun s hs=>?_,?_,fun i hi=>?_,fun i hi=>?_⟩,fun r h=>?_⟩
 ·rcases zy hs with h|h
  ·exact Oo _ (s2 s h)
  ·exact Oj _ h
 ·rw[JZ];intro y hy i hi;have e1:∀k,k<w->sg L.length (fun i=>y i*Fs S i k)+y L.length*row.getD k 0=0:=fun k hk=>by
   refine Eq.trans ?_ (hy k hk);show _=sg L.length (fun i=>y i*Fs (S++[row]) i k)+y L.length*Fs (S++[row]) L.length k;congr 1
   ·refine bJ fun i hi=>?_
    show y i*(S.getD i []).getD k 0=y i*((S++[row]).getD i []).getD k 0;rw[xc S row [] (by lia)]
   ·show _=y L.length*((S++[row]).getD L.length []).getD k 0;rw[<-s1,xf]
  have N2:y L.length=0:=by
   apply Px;intro HW;have i1:In L.length w (Fm L) (Vc row):=gY (y L.length) HW (u:=fun k=>sg L.length fun i=>-y i*Fs S i k) (fun k hk=>by
    have e2:sg L.length (fun i=>-y i*Fs S i k) = -sg L.length fun i=>y i*Fs S i k:=by
     have:=gj L.length (-1) fun i=>y i*Fs S i k
     rw[QB,P7]at this;rw[<-this];refine bJ fun i _=>?_
     rw[QB,QB,P7]
    have:=e1 k hk;show y L.length*row.getD k 0=_;rw[e2];lia) (gZ L.length (fun i=>-y i) (Fs S) s5)
   have i2:In L.length w (Fm L) (Vc aE):=bw (fun k hk=>by
    show aE.getD k 0=d*row.getD k 0+1*_;rw[h2 k hk,P7]) (in_add d 1 i1 (gZ L.length x (Fm L) fun i hi=>cS hi))
   exact Dg (H.red.zero i2 h3 q hq)
  by_cases My:i<L.length
  ·refine s3 y (fun k hk=>?_) i My;have:=e1 k hk;rw[N2,P4,PL]at this;exact this
  ·obtain rfl:i=L.length:=by lia
   exact N2
 ·rw[JZ];have i0:∀i,i<L.length->In (L.length+1) w (Fs (S++[row])) (Fm L i):=fun i hi=>xg s1 (s4 i hi)
  have i1:In (L.length+1) w (Fs (S++[row])) (Vc aE):=bw (fun k hk=>by
   show aE.getD k 0=d*row.getD k 0+1*_;rw[h2 k hk,P7]) (in_add d 1 (xh s1) (gZ L.length x (Fm L) i0))
  by_cases h:i<L.length
  ·show In _ w _ (Vc (Dk (D8 L q nl) i));rw[(di L q nl h).2];obtain⟨a,b,_,g2,_⟩:=FN i h;exact uW (bw (fun k hk=>g2 k hk) (in_add a b (i0 i h) (Nk i1)))
  ·obtain rfl:i=L.length:=by lia
   show In _ w _ (Vc (Dk (D8 L q nl) L.length));rw[(cT L q nl).2];exact Nk i1
 ·by_cases h:i<L.length
  ·refine cX (bw (fun k _=>?_) (s5 i h)) hold;show((S++[row]).getD i []).getD k 0=(S.getD i []).getD k 0;rw[xc S row [] (by lia)]
  ·obtain rfl:i=L.length:=by lia
   refine bw (fun k _=>?_) L8;show((S++[row]).getD L.length []).getD k 0=row.getD k 0;rw[<-s1,xf]
 ·rcases zy h with h|h
  ·exact cX (H.spn r h) hold
  ·rw[uR h];exact L8
theorem ua(n:Nat)(f:Nat->Int):sg (n+1) f=f 0+sg n fun i=>f (i+1):=by
 induction n with
 |zero=>show 0+f 0=f 0+0;lia
 |succ n ih=>
  show sg (n+1) f+f (n+1)=f 0+(sg n (fun i=>f (i+1))+f (n+1))
  rw[ih];lia
theorem k6{w:Nat}{S:List (List Int)}{r:List Int}(h:r∈S):In S.length w (Fs S) (Vc r):=by
 obtain⟨i,hi,e⟩:=PZ h;refine bw (fun k _=>?_) (cS (F:=Fs S) hi);show r.getD k 0=(S.getD i []).getD k 0;rw[Od (l:=S),kY hi,e];rfl
def nz(r:List Int):Bool:=r.any fun x=>!(x==0)
theorem Av{r:List Int}(h:nz r=false)(k:Nat):r.getD k 0=0:=by
 apply Px;intro hk;obtain⟨x,hx,Iu⟩:=zP hk;have:=Rg.mp h x hx;rw[OQ.mpr Iu]at this;exact this rfl
def cU:List Int->Nat
 |[]=>0
 |x::r=>if x=0 then cU r+1 else 0
theorem k7:∀{r:List Int},nz r=true->cU r<r.length/\r.getD (cU r) 0≠0/\∀j,j<cU r->r.getD j 0=0
 |[],h=>nomatch h
 |x::r,h=>by
  by_cases hx:x=0
  ·have hr:nz r=true:=by
    unfold nz at h ⊢;rw[Ry,hx]at h;exact h
   obtain⟨h1,h2,h3⟩:=k7 hr;have e:cU (x::r)=cU r+1:=Oy hx;rw[e];refine⟨Nat.succ_lt_succ h1,h2,fun j hj=>?_⟩;cases j with
   |zero=>exact hx
   |succ j=>exact h3 j (by lia)
  ·have e:cU (x::r)=0:=OD hx;rw[e];exact⟨Q1 _,hx,fun j hj=>absurd hj (OJ _)⟩
def D4(top:List Int)(c:Nat)(row:List Int):List Int:=(List.range row.length).map fun k=>row.getD k 0*top.getD c 0-top.getD k 0*row.getD c 0
def GV(top:List Int)(aE:List (List Int)):List (List Int):=(aE.map (D4 top (cU top))).filter nz
theorem q0(top:List Int)(aE:List (List Int)):(GV top aE).length<=aE.length:=OF (O4 _ _) (Rk (bK _))
def rk:Nat->List (List Int)->Nat
 | 0,_=>0
 |_+1,[]=>0
 |n+1,top::aE=>rk n (GV top aE)+1
theorem q5{w:Nat}:∀(n:Nat) (l:List (List Int)),l.length<=n->(∀r∈l,r.length=w/\nz r=true)->∃E:Nat->Nat->Int,Jk (rk n l) w E/\(∀i,i<rk n l->In l.length w (Fs l) (E i))/\∀r∈l,In (rk n l) w E (Vc r)
 | 0,l,hl,_=>by
  have:l=[]:=List.length_eq_zero_iff.mp (by lia);subst this;exact⟨fun _ _=>0,fun _ _ i hi=>absurd hi (OJ _),fun i hi=>absurd hi (OJ _),fun _ h=>nomatch h⟩
 |n+1,[],_,_=>⟨fun _ _=>0,fun _ _ i hi=>absurd hi (OJ _),fun i hi=>absurd hi (OJ _),fun _ h=>nomatch h⟩
 |n+1,top::aE,hl,h=>by
  obtain⟨ht,hz⟩:=h top Oh;obtain⟨c1,c2,c3⟩:=k7 hz;have Nl:∀r∈GV top aE,∃s∈aE,D4 top (cU top) s=r:=fun r hr=>rX (OT.mp hr).1
  have MD:∀s∈aE,∀k,k<w->(D4 top (cU top) s).getD k 0=s.getD k 0*top.getD (cU top) 0-top.getD k 0*s.getD (cU top) 0:=fun s hs k hk=>by
   unfold D4;rw[dv _ _ _ (by rw[(h s (Og _ hs)).1];exact hk)]
  obtain⟨E,e1,e2,e3⟩:=q5 n (GV top aE) (by have:=q0 top aE;rw[OA]at hl;lia) fun r hr=>by
   obtain⟨s,hs,e⟩:=Nl r hr;refine⟨?_,(OT.mp hr).2⟩;rw[<-e];unfold D4;rw[bK,OE];exact(h s (Og _ hs)).1
  show ∃E:Nat->Nat->Int,Jk (rk n (GV top aE)+1) w E/\(∀i,i<rk n (GV top aE)+1->In (top::aE).length w (Fs (top::aE)) (E i))/\∀r∈top::aE,In (rk n (GV top aE)+1) w E (Vc r);generalize rk n (GV top aE)=m at e1 e2 e3;have hE0:∀i,i<m->E i (cU top)=0:=fun i hi=>by
   obtain⟨d,x,h1,h2⟩:=e2 i hi;have h3:=h2 (cU top) (by lia);rw[dQ fun j hj=>by
    obtain⟨s,hs,e⟩:=Nl _ (b6 (d:=[]) hj);show x j*((GV top aE).getD j []).getD (cU top) 0=0;rw[<-e,MD s hs _ (by lia),Pu (s.getD _ 0),Int.sub_self,O2]]at h3
   exact(O3.mp h3).resolve_left h1
  have JK:∀i,i<m->In (m+1) w (fun i=>match i with | 0=>Vc top|i+1=>E i) (E i):=fun i hi=>cS (F:=fun i=>match i with | 0=>Vc top|i+1=>E i) (i:=i+1) (by lia)
  have L9:In (m+1) w (fun i=>match i with | 0=>Vc top|i+1=>E i) (Vc top):=cS (F:=fun i=>match i with | 0=>Vc top|i+1=>E i) (i:=0) (by lia);refine⟨fun i=>match i with | 0=>Vc top|i+1=>E i,fun x hx i hi=>?_,fun i hi=>?_,fun r hr=>?_⟩
  ·have e4:∀k,k<w->x 0*top.getD k 0+sg m (fun i=>x (i+1)*E i k)=0:=fun k hk=>by
    have:=hx k hk;rw[ua]at this;exact this
   have h0:x 0=0:=by
    have:=e4 (cU top) (by lia);rw[dQ fun i hi=>by rw[hE0 i hi,O2],PL]at this;exact(O3.mp this).resolve_right c2
   cases i with
   |zero=>exact h0
   |succ i=>
    refine e1 (fun i=>x (i+1)) (fun k hk=>?_) i (by lia);have:=e4 k hk;rw[h0,P4,SN]at this;exact this
  ·cases i with
   |zero=>exact k6 Oh
   |succ i=>
    refine cX (e2 i (by lia)) fun j hj=>?_
    obtain⟨s,hs,e⟩:=Nl _ (b6 (d:=[]) hj);refine bw (fun k hk=>?_) (in_add (top.getD (cU top) 0) (-(s.getD (cU top) 0)) (k6 (Og _ hs)) (k6 Oh));show((GV top aE).getD j []).getD k 0=top.getD (cU top) 0*s.getD k 0 + -(s.getD (cU top) 0)*top.getD k 0;rw[<-e,MD s hs k hk,QB,Pu,Pu (top.getD k 0)];lia
  ·rcases Ov.mp hr with rfl|hs
   ·exact L9
   ·have i1:In (m+1) w (fun i=>match i with | 0=>Vc top|i+1=>E i) (Vc (D4 top (cU top) r)):=by
     by_cases hn:nz (D4 top (cU top) r)=true
     ·exact cX (e3 _ (OT.mpr ⟨SA.mpr ⟨r,hs,rfl⟩,hn⟩)) JK
     ·exact jW fun k _=>Av (Qn.mpr hn) k
    refine gY (top.getD (cU top) 0) c2 (fun k hk=>?_) (in_add 1 (r.getD (cU top) 0) i1 L9);show top.getD (cU top) 0*r.getD k 0=1*(D4 top (cU top) r).getD k 0+r.getD (cU top) 0*top.getD k 0;rw[MD r hs k hk,P7,Pu,Pu (top.getD k 0)];lia
theorem uX{w b:Nat}{rows:List (List Int)}(hr:∀r∈rows,r.length=w){B:Nat->Nat->Int}(h1:Jk b w B)(h2:∀r∈rows,In b w B (Vc r))(h3:∀i,i<b->In rows.length w (Fs rows) (B i))(n:Nat)(hn:rows.length<=n):rk n (rows.filter nz)=b:=by
 obtain⟨E,e1,e2,e3⟩:=q5 (w:=w) n (rows.filter nz) (OF (O4 _ _) hn) fun r h=>⟨hr r (OT.mp h).1,(OT.mp h).2⟩
 refine zO e1 h1 (fun i hi=>cX (e2 i hi) fun j hj=>?_) fun i hi=>cX (h3 i hi) fun j hj=>?_
 ·exact h2 _ (OT.mp (b6 (d:=[]) hj)).1
 ·by_cases hz:nz (rows.getD j [])=true
  ·exact e3 _ (OT.mpr ⟨b6 hj,hz⟩)
  ·exact jW fun k _=>Av (Qn.mpr hz) k
theorem Inv.rank{w:Nat}{rows:List (List Int)}{L:Dq}(H:Inv w rows L)(hr:∀r∈rows,r.length=w)(n:Nat)(hn:rows.length<=n):rk n (rows.filter nz)=L.length:=by
 obtain⟨S,s1,s2,s3,s4,s5⟩:=H.base;refine uX hr H.red.ind H.spn (fun i hi=>cX (s4 i hi) fun j hj=>k6 (s2 _ (b6 (by lia)))) n hn
def Jl(w c:Nat)(x:Int):List Int:=(List.range w).map fun k=>if k=c then x else 0
theorem xi(w c:Nat)(x:Int):(Jl w c x).length=w:=by unfold Jl;rw[bK,OE]
theorem ub(w c:Nat)(x:Int){k:Nat}(h:k<w):(Jl w c x).getD k 0=if k=c then x else 0:=by
 unfold Jl;rw[dv _ _ _ h]
def DM(L:Dq):Nat->Nat
 | 0=>1
 |n+1=>Nat.lcm (DM L n) ((Dk L n).getD (Dh L n) 0).natAbs
theorem me(L:Dq):∀n i,i<n->((Dk L i).getD (Dh L i) 0).natAbs ∣ DM L n
 | 0,i,h=>absurd h (OJ i)
 |n+1,i,h=>by
  by_cases hi:i=n
  ·rw[hi];exact Nat.dvd_lcm_right _ _
  ·exact Tu (me L n i (by lia)) (Nat.dvd_lcm_left _ _)
theorem rg{w:Nat}{L:Dq}(H:Rdd w L):∀n,n<=L.length->0<DM L n
 | 0,_=>Nat.one_pos
 |n+1,h=>Nat.lcm_pos (rg H n (by lia)) (S2.mpr (H.own n (by lia)))
theorem uY{L:Dq}{M:Nat}(hM:∀i,i<L.length->((Dk L i).getD (Dh L i) 0).natAbs<=M):∀n,n<=L.length->DM L n<=M ^ n
 | 0,_=>Oq 1
 |n+1,h=>by
  rw[Qq];refine OF ?_ (Rh (uY hM n (by lia)) (hM n (by lia)));exact Nat.div_le_self _ _
def Fb(L:Dq)(c w:Nat):Nat->List Int
 | 0=>Jl w c (DM L L.length:Int)
 |n+1=>(Fb L c w n).set (Dh L n) (-((Dk L n).getD c 0)*(DM L L.length:Int).fdiv ((Dk L n).getD (Dh L n) 0))
theorem gG(L:Dq)(c w:Nat):∀n,(Fb L c w n).length=w
 | 0=>xi _ _ _
 |n+1=>by
  show((Fb L c w n).set _ _).length=w;rw[O1,gG L c w n]
theorem nq(l:List Int)(j k:Nat)(x:Int)(hj:j<l.length):(l.set j x).getD k 0=if k=j then x else l.getD k 0:=by
 rw[Od,List.getElem?_set];by_cases h:j=k
 ·rw[Oy h,Oy hj,Oy h.symm];rfl
 ·rw[OD h,OD (fun z=>h z.symm),<-Od]
theorem gm{w:Nat}{L:Dq}(H:Rdd w L){c k:Nat}(hk:k<w):∀n,n<=L.length->(∀i,i<n->k≠Dh L i)->(Fb L c w n).getD k 0=if k=c then(DM L L.length:Int) else 0
 | 0,_,_=>ub _ _ _ hk
 |n+1,hn,h=>by
  show((Fb L c w n).set _ _).getD k 0=_;rw[nq _ _ _ _ (by rw[gG];exact H.col n (by lia)),OD (h n (by lia)),gm H hk n (by lia) fun i hi=>h i (by lia)]
theorem rh{w:Nat}{L:Dq}(H:Rdd w L)(c:Nat):∀n,n<=L.length->∀i,i<n->(Fb L c w n).getD (Dh L i) 0 = -((Dk L i).getD c 0)*(DM L L.length:Int).fdiv ((Dk L i).getD (Dh L i) 0)
 | 0,_,i,h=>absurd h (OJ i)
 |n+1,hn,i,h=>by
  show((Fb L c w n).set _ _).getD _ 0=_;rw[nq _ _ _ _ (by rw[gG];exact H.col n (by lia))];by_cases hi:i=n
  ·rw[hi,Oy rfl]
  ·rw[OD fun e=>hi (H.inj (by lia) (by lia) e),rh H c n (by lia) i (by lia)]
abbrev xG(L:Dq)(c w:Nat):List Int:=Fb L c w L.length
def kr(L:Dq)(c w:Nat):List Int:=low (xG L c w)
def Fy(L:Dq)(c:Nat):Bool:=L.any fun z=>z.1==c
theorem uc{L:Dq}{c:Nat}(h:Fy L c=false):∀i,i<L.length->c≠Dh L i:=fun i hi e=>by
 have:=Rg.mp h _ (b6 (d:=(0,[])) hi);exact this (OO.mpr e.symm)
theorem zQ{L:Dq}{c:Nat}(h:Fy L c=true):∃i,i<L.length/\c=Dh L i:=by
 obtain⟨z,hz,e⟩:=QR.mp h;obtain⟨i,hi,ez⟩:=PZ hz;refine⟨i,hi,?_⟩;unfold Dh;rw[Od,kY hi,ez];exact(OO.mp e).symm
theorem zR{n a b:Nat}(ha:a<n)(hb:b<n)(Hc:a≠b){f:Nat->Int}(h:∀k,k<n->k≠a->k≠b->f k=0):sg n f=f a+f b:=by
 have e1:sg n (fun k=>(if k=a then f a else 0)+if k=b then f b else 0)=sg n f:=bJ fun k hk=>by
  by_cases h1:k=a
  ·rw[Oy h1,OD (by lia),h1,PL]
  ·rw[OD h1,SN];by_cases h2:k=b
   ·rw[Oy h2,h2]
   ·rw[OD h2,h k hk h1 h2]
 rw[<-e1,k5,iM ha fun k _ hk=>OD hk,iM hb fun k _ hk=>OD hk,Oy rfl,Oy rfl]
theorem rj{w:Nat}{L:Dq}(H:Rdd w L){c:Nat}(hc:c<w)(hk:Fy L c=false){j:Nat}(hj:j<L.length):sg w (fun k=>(Dk L j).getD k 0*(xG L c w).getD k 0)=0:=by
 have hf:=uc hk;rw[zR hc (H.col j hj) (hf j hj) fun k FQ h1 h2=>by
  by_cases Nm:Fy L k=true
  ·obtain⟨i,hi,e⟩:=zQ Nm;rw[e,H.oth j i hj hi (fun z=>h2 (by rw[z];exact e)),P4]
  ·rw[gm H FQ _ (Oq _) (uc (Qn.mpr Nm)),OD h1,O2]]
 rw[gm H hc _ (Oq _) hf,Oy rfl,rh H c _ (Oq _) j hj];have hd:(Dk L j).getD (Dh L j) 0*(DM L L.length:Int).fdiv ((Dk L j).getD (Dh L j) 0)=(DM L L.length:Int):=Ru (Rn.mp (by rw[Pc];exact me L _ j hj));have e:(Dk L j).getD (Dh L j) 0*(-((Dk L j).getD c 0)*(DM L L.length:Int).fdiv ((Dk L j).getD (Dh L j) 0)) = -((Dk L j).getD c 0)*(DM L L.length:Int):=by
  rw[Rf,hd]
 rw[e,QB];lia
theorem zS(L:Dq)(c w:Nat):∃g:Nat,g≠0/\∀k,(g:Int)*(kr L c w).getD k 0=(xG L c w).getD k 0:=by
 obtain⟨g,h1,h2,_⟩:=iN (xG L c w);exact⟨g,h1,h2⟩
theorem zT{w:Nat}{rows:List (List Int)}{L:Dq}(H:Inv w rows L){c:Nat}(hc:c<w)(hk:Fy L c=false){r:List Int}(hr:r∈rows):sg w (fun k=>r.getD k 0*(kr L c w).getD k 0)=0:=by
 obtain⟨g,g1,g2⟩:=zS L c w;obtain⟨d,x,d1,d2⟩:=H.spn r hr;have e:(d*(g:Int))*sg w (fun k=>r.getD k 0*(kr L c w).getD k 0)=0:=by
  rw[<-gj];have e1:sg w (fun k=>d*(g:Int)*(r.getD k 0*(kr L c w).getD k 0))=sg w fun k=>sg L.length fun i=>x i*((Dk L i).getD k 0*(xG L c w).getD k 0):=bJ fun k hk=>by
   have e2:d*(g:Int)*(r.getD k 0*(kr L c w).getD k 0)=(d*r.getD k 0)*((g:Int)*(kr L c w).getD k 0):=by
    rw[Pl,Rf (g:Int),<-Pl]
   have d2:d*r.getD k 0=sg L.length fun i=>x i*(Dk L i).getD k 0:=d2 k hk
   rw[e2,g2 k,d2,<-qT];exact bJ fun i _=>Pl _ _ _
  rw[e1,<-qU];refine dQ fun i hi=>?_
  rw[gj,rj H.red hc hk hi,O2]
 exact(O3.mp e).resolve_left fun z=>(O3.mp z).elim d1 (by lia)
def Hn(L:Dq)(w:Nat):List Nat:=(List.range w).filter fun c=>!Fy L c
theorem u0(L:Dq)(c w:Nat):(kr L c w).length=w:=by unfold kr;rw[jX,gG]
theorem zU{w:Nat}{L:Dq}(H:Rdd w L){c:Nat}(hc:c<w)(hk:Fy L c=false):(kr L c w).getD c 0≠0:=by
 refine(ni ?_).1;rw[gm H hc _ (Oq _) (uc hk),Oy rfl];have:=rg H L.length (Oq _);lia
theorem zV{w:Nat}{L:Dq}(H:Rdd w L){c k:Nat}(hk:k<w)(FQ:Fy L k=false)(h:k≠c):(kr L c w).getD k 0=0:=by
 refine xb ?_;rw[gm H hk _ (Oq _) (uc FQ),OD h]
def cC(L:Dq)(w:Nat):List (List Int):=(Hn L w).map fun c=>kr L c w
theorem xj{w:Nat}{L:Dq}(H:Rdd w L):Jk (cC L w).length w (Fs (cC L w)):=by
 have hl:(cC L w).length=(Hn L w).length:=bK _;rw[hl];intro x hx i hi;have H0:∀j,j<(Hn L w).length->(cC L w).getD j []=kr L ((Hn L w).getD j 0) w:=fun j hj=>by
  unfold cC;rw[Od,OG,kY hj,Od,kY hj];rfl
 have J3:∀j,j<(Hn L w).length->(Hn L w).getD j 0<w/\Fy L ((Hn L w).getD j 0)=false:=fun j hj=>by
  have:=OT.mp (b6 (l:=Hn L w) (d:=0) hj);refine⟨PD.mp this.1,?_⟩;have h2:=this.2;rw[RX]at h2;exact h2
 have M3:(Hn L w).Nodup:=List.nodup_range.filter _;obtain⟨c1,c2⟩:=J3 i hi;have h:=hx ((Hn L w).getD i 0) c1;rw[iM hi fun j hj MC=>by
  show x j*((cC L w).getD j []).getD _ 0=0;rw[H0 j hj,zV H c1 c2 fun e=>MC (by
   rw[Od,Od,kY hi,kY hj]at e;exact((List.getElem_inj M3).mp e).symm),O2]]at h
 have h:x i*((cC L w).getD i []).getD ((Hn L w).getD i 0) 0=0:=h;rw[H0 i hi]at h;exact(O3.mp h).resolve_right (zU H c1 c2)
theorem rm:∀(l:List Nat) (a:Nat),l.Nodup->a∈l->(l.filter fun x=>!(a==x)).length+1=l.length
 |[],_,_,h=>nomatch h
 |b::l,a,hn,h=>by
  rw[OU]at hn;by_cases e:a=b
  ·subst e;have:l.filter (fun x=>!(a==x))=l:=Tc.mpr fun x hx=>by
    have:(a==x)=false:=OQ.mpr fun z=>hn.1 (z▸hx)
    rw[this];rfl
   rw[Sd,OZ,this];rfl
  ·have:=rm l a hn.2 ((Ov.mp h).resolve_left e);rw[Sd,OQ.mpr e];show _+1+1=_+1;rw[this]
theorem rp{w:Nat}{L:Dq}(H:Rdd w L):(Hn L w).length+L.length=w:=by
 have key:∀n,n<=L.length->((List.range w).filter fun c=>!Fy (L.take n) c).length+n=w:=fun n=>by
  induction n with
  |zero=>
   intro _;have:(List.range w).filter (fun c=>!Fy (L.take 0) c)=List.range w:=Tc.mpr fun _ _=>rfl
   rw[this,OE];rfl
  |succ n ih=>
   intro hn;have h1:=ih (by lia);have h2:=rm ((List.range w).filter fun c=>!Fy (L.take n) c) (Dh L n) (List.nodup_range.filter _) (OT.mpr ⟨PD.mpr (H.col n (by lia)),by
    rw[RX];apply Qn.mpr;intro h;obtain⟨i,hi,e⟩:=zQ h;rw[Pp]at hi;have e2:Dh (L.take n) i=Dh L i:=by
     unfold Dh;rw[Od,Tv,Oy (by lia),Od]
    rw[e2]at e;have:=H.inj (by lia) (by lia) e;lia⟩)
   have e3:((List.range w).filter fun c=>!Fy (L.take n) c).filter (fun x=>!(Dh L n==x))=(List.range w).filter fun c=>!Fy (L.take (n+1)) c:=by
    rw[List.filter_filter];refine List.filter_congr fun x _=>?_
    unfold Fy;rw[PM (by lia),List.any_append,Bool.not_or,Bool.and_comm];congr 2
    show(Dh L n==x)=((L[n].1==x)||false)
    unfold Dh;rw[Od,kY (by lia),Tn];rfl
   rw[e3]at h2;lia
 have:=key L.length (Oq _);rw[Sa]at this;exact this
theorem rq{w:Nat}{rows:List (List Int)}{L:Dq}(H:Inv w rows L)(hr:∀r∈rows,r.length=w){n m:Nat}(hn:rows.length<=n)(hm:w<=m):(cC L w).length+rk n (rows.filter nz)=w/\rk m ((cC L w).filter nz)=(cC L w).length:=by
 have hl:(cC L w).length=(Hn L w).length:=bK _;have hf:=rp H.red;refine⟨by rw[H.rank hr n hn,hl];exact hf,?_⟩;refine uX (fun r h=>?_) (xj H.red) (fun r h=>k6 h) (fun i hi=>cS hi) m (by lia);obtain⟨c,_,e⟩:=rX h;rw[<-e,u0]
end LW
namespace LW
open PySem L2 NX PV
theorem zW(a:Int){b:Int}(h:b≠0):zc (.int a) (.int b)=.ok (.f,.int (a.fmod b)):=by
 unfold zc;dsimp only;rw[Oy h]
theorem mf(a:Int){b:Int}{n:Nat}(h:b≠0)(h2:b.natAbs<2 ^ n)(hn:n<=9000):jI (.int a) (.int b)=.ok (.f,.int (a.fdiv b)):=by
 have:b.natAbs.log2<9000:=by
  have:=(Uq (fun z=>h (RL.mp z))).mpr h2;lia
 unfold jI;dsimp only;rw[Oy ⟨h,this⟩]
theorem jj(a:Int){b:Int}(h:0<b):a.fmod b=a%b:=by
 rw[Int.fmod_eq_emod,Oy (.inl (SO h)),PL]
theorem CN(a:Int){b:Int}(h:b≠0):(a.fmod b).natAbs<b.natAbs:=by
 rcases Tw h with hb|hb
 ·have e:a.fmod b = -((-a)%(-b)):=by
   rw[<-jj (-a) (b:=-b) (by lia),Se,Ux]
  have h1:=Qe (-a) (b:=-b) (by lia);have h2:=Qx (-a) (b:=-b) (by lia);lia
 ·rw[jj a hb];have h1:=Qe a (b:=b) (by lia);have h2:=Qx a hb;lia
theorem nr{a b:Int}(hb:0<b)(hr:0<a%b):2*(b%(a%b))<b:=by
 have h1:=Qx a hb;have h2:=Qx b hr;have h3:=Qe b (b:=a%b) (by lia);have h4:=Int.mul_ediv_add_emod b (a%b);have h5:1<=b / (a%b):=by
  have:=Int.ediv_nonneg (SO hb) (SO hr);rcases Int.lt_or_eq_of_le this with h|h
  ·lia
  ·rw[<-h,O2]at h4;lia
 have h6:a%b*1<=a%b*(b / (a%b)):=Int.mul_le_mul_of_nonneg_left h5 (SO hr);lia
theorem CO{a b:Int}(hb:b≠0)(hr:a.fmod b≠0):2*(b.fmod (a.fmod b)).natAbs<b.natAbs:=by
 rcases Tw hb with h|h
 ·have e:a.fmod b = -((-a)%(-b)):=by
   rw[<-jj (-a) (b:=-b) (by lia),Se,Ux]
  have h0:=Qe (-a) (b:=-b) (by lia);have hp:0<(-a)%(-b):=by lia
  have e2:b.fmod (a.fmod b) = -((-b)%((-a)%(-b))):=by
   rw[e,<-jj (-b) hp,<-Se,Ux]
  have:=nr (a:=-a) (b:=-b) (by lia) hp;have:=Qe (-b) (b:=(-a)%(-b)) (by lia);lia
 ·rw[jj a h]at hr ⊢;have h0:=Qe a (b:=b) (by lia);have hp:0<a%b:=by lia
  rw[jj b hp];have:=nr (a:=a) h hp;have:=Qe b (b:=a%b) (by lia);lia
theorem u9(a b:Int):Int.gcd b (a.fmod b)=Int.gcd a b:=by rw[Int.fmod_def,Int.gcd_sub_mul_left_right,Int.gcd_comm]
abbrev oC:FT:=DF (aN DZ (ak 1) (aq (aT (.int 0))))
theorem mh(F:Nat)(a:Int)(t:Option R):bT oC aF (F+1) [some (.f,.int a),some (.f,.int 0),t]=.ok (.nx [some (.f,.int a),some (.f,.int 0),t]):=by
 have hc:oC [some (.f,.int a),some (.f,.int 0),t]=.ok (false,[some (.f,.int a),some (.f,.int 0),t]):=by
  have e:((0:Int)==0)=true:=rfl;simp only[pv,seval,op,e,Q8]
 rw[eW,hc,DW];dsimp only;rw[OD OB]
theorem zX(F:Nat)(a b:Int)(hb:b≠0)(t:Option R):bT oC aF (F+1) [some (.f,.int a),some (.f,.int b),t]=bT oC aF F [some (.f,.int b),some (.f,.int (a.fmod b)),some (.f,.int (a.fmod b))]:=by
 have hc:oC [some (.f,.int a),some (.f,.int b),t]=.ok (true,[some (.f,.int a),some (.f,.int b),t]):=by
  have e:(b==0)=false:=OQ.mpr hb;simp only[pv,seval,op,e,Bool.not_false]
 have ME:aF [some (.f,.int a),some (.f,.int b),t]=.ok (.nx [some (.f,.int b),some (.f,.int (a.fmod b)),some (.f,.int (a.fmod b))]):=by
  unfold aF;have hm:=zW a hb;rw[au (env':=[some (.f,.int a),some (.f,.int b),some (.f,.int (a.fmod b))]) (by simp only[pv,seval,op,hm])];rw[au (env':=[some (.f,.int b),some (.f,.int b),some (.f,.int (a.fmod b))]) (by simp only[pv,seval,op])];simp only[pv,seval,op]
 rw[eW,hc,DW];dsimp only;rw[Oy rfl,ME,DW]
theorem rA:∀(n F:Nat) (a b:Int) (t:Option R),b.natAbs<2 ^ n->2*n+1<=F->∃(c:Int) (u:Option R),c.natAbs=Int.gcd a b/\bT oC aF F [some (.f,.int a),some (.f,.int b),t]=.ok (.nx [some (.f,.int c),some (.f,.int 0),u])
 | 0,F,a,b,t,h,hF=>by
  have:b=0:=by
   have:b.natAbs<1:=h;lia
  subst this;obtain⟨F,rfl⟩:∃G,F=G+1:=⟨F-1,by lia⟩
  exact⟨a,t,(RN a).symm,mh F a t⟩
 |n+1,F,a,b,t,h,hF=>by
  obtain⟨F,rfl⟩:∃G,F=G+1:=⟨F-1,by lia⟩
  by_cases hb:b=0
  ·subst hb;exact⟨a,t,(RN a).symm,mh F a t⟩
  rw[zX F a b hb t,<-u9 a b];obtain⟨F,rfl⟩:∃G,F=G+1:=⟨F-1,by lia⟩
  by_cases hr:a.fmod b=0
  ·rw[hr];exact⟨b,_,(RN b).symm,mh F b _⟩
  rw[zX F b _ hr,<-u9 b (a.fmod b)];refine rA n F _ _ _ ?_ (by lia);have:=CO hb hr;rw[Qq]at h;lia
theorem zY(c:Int):xD [.int c]=.ok (.f,.int (c.natAbs:Int)):=by
 show Res.ok (O.f,D.int (if c<0 then -c else c))=_;split <;> (congr 3;lia)
theorem ve{n:Nat}(hn:n<=9000)(a b:Int)(h:b.natAbs<2 ^ n):aM [.int a,.int b]=.ok (.f,.int (Int.gcd a b:Int)):=by
 obtain⟨c,u,hc,e⟩:=rA n 100000 a b none h (by lia);have ha:=zY c;unfold aM dU;rw[ck (h:=by rfl)];rw[au (env':=[some (.f,.int c),some (.f,.int 0),u]) (by
  unfold cW;exact e)]
 unfold cK;rw[<-hc];simp only[pv,seval,op,ha]
theorem zZ{n:Nat}:∀(r:List Int) (g:Nat),Bg n r->g<2 ^ n->gl r g<2 ^ n
 |[],g,_,h=>h
 |x::r,g,hb,h=>zZ r _ (fun y hy=>hb y (Og _ hy)) (by
  rcases Ts g with e|e
  ·rw[e,Nat.gcd_zero_left];exact hb x Oh
  ·exact PK (Nat.gcd_le_left _ e) h)
theorem nv{n:Nat}(hn:n<=9000)(E0:Option R):∀(r:List Int) (g:Nat) (t:Option R),Bg n r->∃u,cY (av 2) dG (r.map D.int) [E0,some (.f,.int (g:Int)),t]=.ok (.nx [E0,some (.f,.int (gl r g:Int)),u])
 |[],g,t,_=>⟨t,rfl⟩
 |x::r,g,t,hb=>by
  have hd:=ve hn (g:Int) x (hb x Oh);have eg:Int.gcd (g:Int) x=Nat.gcd g x.natAbs:=rfl;rw[eg]at hd;obtain⟨u,e⟩:=nv hn E0 r (Nat.gcd g x.natAbs) (some (.f,.int x)) fun y hy=>hb y (Og _ hy)
  have ha:av 2 (.int x) [E0,some (.f,.int (g:Int)),t]=.ok [E0,some (.f,.int (g:Int)),some (.f,.int x)]:=rfl;have ME:dG [E0,some (.f,.int (g:Int)),some (.f,.int x)]=.ok (.nx [E0,some (.f,.int ((Nat.gcd g x.natAbs:Nat):Int)),some (.f,.int x)]):=by
   unfold dG;simp only[pv,seval,op,hd]
  refine⟨u,?_⟩;rw[iL,fH,ha,DW,ME,DW];exact e
theorem jY{n:Nat}(hn:n<=9000)(r:List Int)(hb:Bg n r)(hl:r.length<=1000):bP [eR r]=.ok (.f,eR (low r)):=by
 obtain⟨u,e⟩:=nv hn (some (.f,eR r)) r 0 none hb;have hg:=zZ r 0 hb (QC n);unfold bP mV;rw[ck (h:=by rfl)];rw[au (env':=[some (.f,eR r),some (.f,.int ((0:Nat):Int)),none]) (by
  generalize eR r=ER;simp only[pv,seval,op] <;> rfl)]
 rw[au (env':=[some (.f,eR r),some (.f,.int (gl r 0:Int)),u]) (by
  unfold jd eR;simp only[pv,seval,op];exact e)]
 unfold iE low;by_cases h0:gl r 0=0
 ·rw[Oy h0];have e0:(((gl r 0:Nat):Int)==0)=true:=by rw[h0];rfl
  rw[F3];generalize eR r=ER;simp only[pv,seval,op,e0]
 ·rw[OD h0];have e0:(((gl r 0:Nat):Int)==0)=false:=OQ.mpr (by lia);have hz:((gl r 0:Nat):Int)≠0:=by lia
  have hc:cG (av 0) gP (aJ jI (ak 0) (ak 1)) (r.map D.int) [none,some (.f,.int (gl r 0:Int))]=.ok ((r.map fun x=>x.fdiv (gl r 0:Int)).map D.int):=by
   rw[Pd];refine eX (fun env=>∃t,env=[t,some (.f,.int (gl r 0:Int))]) _ ?_ _ ⟨_,rfl⟩;rintro x _ env ⟨t,rfl⟩;have hf:=mf x hz (by rw[Pc];exact hg) hn;refine⟨[some (.f,.int x),some (.f,.int (gl r 0:Int))],rfl,.f,[some (.f,.int x),some (.f,.int (gl r 0:Int))],?_,_,rfl⟩;simp only[pv,seval,op,hf];rfl
  have hlen:((r.map fun x=>x.fdiv (gl r 0:Int)).map D.int).length<=sizeLine:=qN (by rw[bK,bK];lia);have KH:=C7 (r.map fun x=>x.fdiv (gl r 0:Int));rw[au (env':=[some (.f,eR r),some (.f,.int (gl r 0:Int)),u]) (by
   generalize eR r=ER;simp only[pv,seval,op,e0,l7])]
  unfold eR;generalize (aJ jI (ak 0) (ak 1))=FZ1 at hc ⊢;simp only[pv,seval,op,hc,hlen,KH]
end LW
namespace PV
open PySem L2 NX
theorem ny{fs:FOs}{env:PV.Env}:ja fs env=Res.bnd (fs env) (f:=⟨fun p=>match p.1 with
 |[.val d]=>(match d with | .lst a=>.ok (qq a,p.2) | .tup a=>.ok (qq a,p.2)|_=>.bad)
 |_=>.bad⟩):=by
 unfold ja D9 mS;cases fs env with
 |ok p=>
  obtain⟨os,e⟩:=p;match os with
  |[]=>rfl
  |[.val d]=>cases d <;> rfl
  |[.var _]=>rfl
  | .val _::_::_=>rfl
  | .var _::_::_=>rfl
 |_=>rfl
theorem xk{i:Nat}{a:FG}{g:FS}{env env':PV.Env}{ks vs:List D}(hi:env[i]?=some (some (.d,.dct false ks vs)))(h:∀p,∃e,cY a g ks (env.set i (some (.pin p .f,.dct false ks vs)))=.ok (.nx e)/\jH i p e=true/\kN i e=true/\e.set i (some (.d,.dct false ks vs))=env'):qA i a g env=.ok (.nx env'):=by
 unfold qA;rw[hi];refine qw fun p=>?_
 obtain⟨e,h1,h2,h3,h4⟩:=h p;rw[h1];show(if jH i p e&&kN i e then Res.ok (Out.nx (e.set i (some (.d,.dct false ks vs)))) else .bad)=_;rw[h2,h3,h4];rfl
theorem forD_eq{i:Nat}{a:FG}{g:FS}{env env':PV.Env}{p:Addr}{ks vs:List D}(hi:env[i]?=some (some (.pin p .d,.dct false ks vs))){e:PV.Env}(h1:cY a g ks (env.set i (some (.pin p .f,.dct false ks vs)))=.ok (.nx e))(h2:jH i p e=true)(h3:cleanE i e=true)(h4:e.set i (some (.pin p .d,.dct false ks vs))=env'):kJ i a g env=.ok (.nx env'):=by
 unfold kJ;rw[hi];show(cY a g ks (env.set i (some (.pin p .f,.dct false ks vs)))).bind (qp i p (.dct false ks vs))=_;rw[h1];show(if jH i p e&&cleanE i e then Res.ok (Out.nx (e.set i (some (.pin p .d,.dct false ks vs)))) else .bad)=_;rw[h2,h3,h4];rfl
end PV
namespace LW
open PySem L2 NX PV
def Jm(r:List Int):List Int:=(r.zipIdx.filter fun z=>!(z.1==0)).map fun z=>(z.2:Int)
theorem ud(r:List Int):qq (r.map D.int)=r.zipIdx.map fun z=>D.tup [.int (z.2:Int),.int z.1]:=by
 unfold qq;rw[List.zipIdx_map,Pd];rfl
theorem k8(r:List Int):cG (lM 2 (bf (av 0) (bf (av 1) fK))) (DF (aN DZ (ak 1) (aq (aT (.int 0))))) (aD 0) (qq (r.map D.int)) [none,none]=.ok ((Jm r).map D.int):=by
 rw[ud];rw[ia (p:=fun z:Int×Nat=>!(z.1==0)) (r:=fun z:Int×Nat=>D.int (z.2:Int)) (fun env=>∃t1 t2,env=[t1,t2]) r.zipIdx ?_ _ ⟨_,_,rfl⟩]
 ·unfold Jm;rw[Pd];rfl
 ·rintro z _ env ⟨t1,t2,rfl⟩;refine⟨[some (.f,.int (z.2:Int)),some (.f,.int z.1)],by simp only[pv,seval],[some (.f,.int (z.2:Int)),some (.f,.int z.1)],by simp only[pv,seval,op],?_⟩;cases h:(z.1==0) with
  |true=>exact⟨_,_,rfl⟩
  |false=>exact⟨.f,_,rfl,_,_,rfl⟩
theorem z4(r:List Int):(Jm r).length<=r.length:=by
 unfold Jm;rw[bK];exact OF (O4 _ _) (Rk (Tr))
theorem Ma{r:List Int}{c:Nat}(h:c<r.length):DT (eR r) (.int (c:Int))=.ok (.f,.int (r.getD c 0)):=by
 unfold eR;rw[wU,gu (j:=c) (v:=D.int (r.getD c 0)) (by rw[OG,kY h,dO r c 0 h];rfl)]
theorem k9{n:Nat}(Ho:n<=900000)(row E9:List Int)(c:Nat)(hc:c<row.length)(hl:E9.length=row.length)(h1:Bg n row)(h2:Bg n E9)(hw:row.length<=1000):bX [eR row,.int (c:Int),eR E9]=.ok (.f,eR (Ek row c E9)):=by
 have i1:=Ma hc;have i2:=Ma (r:=E9) (c:=c) (by lia);unfold bX kO;rw[ck (h:=by rfl)];unfold Ek;by_cases h0:row.getD c 0=0
 ·rw[Oy h0];have e0:(row.getD c 0==0)=true:=by rw[h0];rfl
  rw[F3];generalize eR row=ER at i1 ⊢;simp only[pv,seval,op,i1,e0]
 ·rw[OD h0];have e0:(row.getD c 0==0)=false:=OQ.mpr h0;have hn:Bg n [E9.getD c 0,-(row.getD c 0)]:=fun x hx=>by
   rcases Ov.mp hx with rfl|hx
   ·exact h2 _ (dP (by lia))
   ·rw[uR hx,RQ];exact h1 _ (dP hc)
  have hr:Rows n row.length [row,E9]:=fun x hx=>by
   rcases Ov.mp hx with rfl|hx
   ·exact⟨rfl,h1⟩
   ·rw[uR hx];exact⟨hl,h2⟩
  have hs:=t9 Ho Ho row.length hw [row,E9] [E9.getD c 0,-(row.getD c 0)] hr hn (by show 2<=1000;decide);have ec:((List.range row.length).map (co [row,E9] [E9.getD c 0,-(row.getD c 0)] 2))=(List.range row.length).map fun k=>row.getD k 0*E9.getD c 0+E9.getD k 0 * -(row.getD c 0):=by
   refine PY fun k _=>?_
   unfold co;simp
  have hs:dF [.lst [eR row,eR E9],.lst [.int (E9.getD c 0),.int (-(row.getD c 0))],.int (row.length:Int)]=.ok (.f,eR ((List.range row.length).map (co [row,E9] [E9.getD c 0,-(row.getD c 0)] 2))):=hs;rw[ec]at hs;have Iv:h8 [eR row]=.ok (.f,.int (row.length:Int)):=by
   show Res.ok (O.f,D.int (((row.map D.int).length:Nat):Int))=_;rw[bK]
  generalize eR ((List.range row.length).map fun k=>row.getD k 0*E9.getD c 0+E9.getD k 0 * -(row.getD c 0))=RES at hs ⊢;rw[au (env':=[some (.f,eR row),some (.f,.int (c:Int)),some (.f,eR E9)]) (by
   generalize eR row=ER at i1 ⊢;generalize eR E9=EB;simp only[pv,seval,op,i1,e0,l7])]
  generalize eR row=ER at i1 hs Iv ⊢;generalize eR E9=EB at i2 hs ⊢;simp only[pv,seval,op,i1,i2,hs,Iv]
def kL(L:Dq):List D:=L.map fun z=>D.int (z.1:Int)
def vL(L:Dq):List D:=L.map fun z=>eR z.2
def dL(L:Dq):D:=.dct false (kL L) (vL L)
theorem Mb(a b:Nat):C9 (.int (a:Int)) (.int (b:Int))=(a==b):=by
 rw[C9,O7,OO,OO];lia
theorem BV:∀(L:Dq) (i:Nat),i<L.length->(∀j,j<i->Dh L j≠Dh L i)->PV.getD (kL L) (vL L) (.int (Dh L i:Int))=some (eR (Dk L i))
 |[],i,h,_=>absurd h (OJ i)
 |(c,r)::L,0,_,_=>by
  show(((D.int (c:Int),eR r)::(kL L).zip (vL L)).find? (fun p=>C9 (.int (c:Int)) p.1)).map (·.2)=some (eR r);rw[Qu (by show C9 (.int (c:Int)) (.int (c:Int))=true;rw[Mb,OZ])];rfl
 |(c,r)::L,i+1,h,hj=>by
  have hc:c≠Dh L i:=hj 0 (Q1 i);have:=BV L i (Nat.lt_of_succ_lt_succ h) fun j MC=>hj (j+1) (Nat.succ_lt_succ MC)
  show(((D.int (c:Int),eR r)::(kL L).zip (vL L)).find? (fun p=>C9 (.int (Dh L i:Int)) p.1)).map (·.2)=some (eR (Dk L i));rw[Qv (by show ¬ C9 (.int (Dh L i:Int)) (.int (c:Int))=true;rw[Mb,OO];exact fun e=>hc e.symm)];exact this
theorem MF{w:Nat}{L:Dq}(H:Rdd w L){i:Nat}(hi:i<L.length):Ir (dL L) (.int (Dh L i:Int))=.ok (.f,eR (Dk L i)):=by
 unfold Ir dL;dsimp only;rw[Oy (show dE false (.int (Dh L i:Int))=true from rfl),BV L i hi fun j hj e=>by have:=H.inj (by lia) hi e;lia]
theorem BW(L:Dq)(q:Nat)(l:List Int)(h:∀i,i<L.length->Dh L i≠q):kz (kL L) (vL L) (.int (q:Int)) (eR l)=(kL (L++[(q,l)]),vL (L++[(q,l)])):=by
 have ha:(kL L).any (C9 (.int (q:Int)))=false:=by
  unfold kL;rw[Rl,Rg];intro z hz;obtain⟨i,hi,e⟩:=PZ hz;have hq:=h i hi;unfold Dh at hq;rw[Od,kY hi,e]at hq;show ¬ C9 (.int (q:Int)) (.int (z.1:Int))=true;rw[Mb,OO];exact fun e=>hq e.symm
 unfold kz;rw[ha,OD OB];unfold kL vL;rw[O6,O6];rfl
theorem dZ(r:List Int):d4 (eR r)=true:=by
 unfold eR;rw[jU,C7]
theorem rB(L:Dq):Dc (vL L)=true:=by
 unfold vL;rw[bF,QA,OS];exact fun z _=>dZ z.2
theorem gq(L:Dq):aH .d (dL L)=true:=rB L
theorem Bg.mono{n m:Nat}{a:List Int}(h:Bg n a)(hn:n<=m):Bg m a:=fun x hx=>Ot (h x hx) (QJ (by decide) hn)
theorem Bg.at{n:Nat}{a:List Int}(h:Bg n a)(k:Nat):(a.getD k 0).natAbs<2 ^ n:=by
 by_cases hk:k<a.length
 ·exact h _ (dP hk)
 ·rw[Od,Rm (by lia)];exact QC n
theorem la{x y:Int}{n m:Nat}(hx:x.natAbs<2 ^ n)(hy:y.natAbs<2 ^ m):(x*y).natAbs<2 ^ (n+m):=by
 rw[PF,Nat.pow_add];exact Nat.mul_lt_mul_of_lt_of_lt hx hy
theorem rD{n m:Nat}{row b:List Int}(h1:Bg n row)(h2:Bg m b)(c:Nat):Bg (n+m+1) (Ek row c b):=by
 unfold Ek;split
 ·exact h1.mono (by lia)
 ·intro x hx;obtain⟨k,_,e⟩:=rX hx;rw[<-e];have a1:=la (h1.at k) (h2.at c);have a2:=la (h2.at k) (show(-(row.getD c 0)).natAbs<2 ^ n by rw[RQ];exact h1.at c);rw[Nat.add_comm m n]at a2;have a3:=RW (row.getD k 0*b.getD c 0) (b.getD k 0 * -(row.getD c 0));rw[Qq];lia
def Fu(t:Option R):Bool:=match t with
 |some r=>aH r.1 r.2
 |none=>true
abbrev En(L:Dq)(q:Nat)(nl:List Int)(k:Nat):Dq:=(L.take k).map fun z=>(z.1,low (Ek z.2 q nl))
theorem vf(L:Dq)(q:Nat)(nl:List Int){k i:Nat}(hk:k<=L.length)(h:i<(En L q nl k).length):Dh (En L q nl k) i=Dh L i:=by
 have hl:i<k:=by
  rw[bK,Pp]at h;lia
 unfold Dh En;rw[Od,OG,Tv,Oy hl,kY (by lia),Od,kY (by lia)];rfl
theorem xl{w n:Nat}(hw:w<=1000)(hn:n+n+1<=9000){L:Dq}(H:Rdd w L)(hb:∀i,i<L.length->Bg n (Dk L i))(hL:L.length<=1000){q:Nat}(hq:q<w){nl:List Int}(Nn:nl.length=w)(Hz:Bg n nl)(p:Addr):∃t4,Fu t4=true/\cY (av 4) bQ (kL L) [some (.pin p .f,dL L),some (.f,.int (q:Int)),some (.f,eR nl),some (.d,dL []),none]=.ok (.nx [some (.pin p .f,dL L),some (.f,.int (q:Int)),some (.f,eR nl),some (.d,dL (En L q nl L.length)),t4]):=by
 obtain⟨env',hf,t4,h4,rfl⟩:=for_list (a:=av 4) (g:=bQ) (e:=fun z:Nat×List Int=>D.int (z.1:Int)) L (fun k env=>∃t4,Fu t4=true/\env=[some (.pin p .f,dL L),some (.f,.int (q:Int)),some (.f,eR nl),some (.d,dL (En L q nl k)),t4]) (by
  rintro k x env hx ⟨t4,h4,rfl⟩;obtain⟨hk,ex⟩:=wZ hx;have ec:Dh L k=x.1:=by unfold Dh;rw[Od,hx];rfl
  have er:Dk L k=x.2:=by unfold Dk;rw[Od,hx];rfl
  have hd:=MF H hk;have hc:=k9 (n:=n) (by lia) (Dk L k) nl q (by rw[H.len k hk];exact hq) (by rw[H.len k hk,Nn]) (hb k hk) Hz (by rw[H.len k hk];exact hw);have Gf:=jY hn (Ek (Dk L k) q nl) (rD (hb k hk) Hz q) (by rw[ma,H.len k hk];exact hw);have hp:=BW (En L q nl k) (Dh L k) (low (Ek (Dk L k) q nl)) fun i hi e=>by
   have Nm:i<k:=by
    rw[bK,Pp]at hi;lia
   rw[vf L q nl (by lia) hi]at e;have:=H.inj (by lia) hk e;lia
  have ej:En L q nl k++[(Dh L k,low (Ek (Dk L k) q nl))]=En L q nl (k+1):=by
   unfold En;rw[PM hk,O6,ex,ec,er];rfl
  rw[ej]at hp;have MG:(kL (En L q nl k)).length<sizeLine:=oA (by unfold kL;rw[bK,bK,Pp];lia);rw[<-ec];refine⟨[some (.pin p .f,dL L),some (.f,.int (q:Int)),some (.f,eR nl),some (.d,dL (En L q nl k)),some (.f,.int (Dh L k:Int))],rfl,[some (.pin p .f,dL L),some (.f,.int (q:Int)),some (.f,eR nl),some (.d,dL (En L q nl (k+1))),some (.f,.int (Dh L k:Int))],?_,_,rfl,rfl⟩;have JL:=dZ (low (Ek (Dk L k) q nl));have N3:=dZ (Ek (Dk L k) q nl);unfold bQ;generalize dL L=DL at hd ⊢;have e1:g0 bP (ag (aq (g0 bX (ag (aq (aJ Ir (ak 0) (ak 4))) (ag (ak 1) (ag (ak 2) ax))))) ax) [some (.pin p .f,DL),some (.f,.int (q:Int)),some (.f,eR nl),some (.d,dL (En L q nl k)),some (.f,.int (Dh L k:Int))]=.ok ((.f,eR (low (Ek (Dk L k) q nl))),[some (.pin p .f,DL),some (.f,.int (q:Int)),some (.f,eR nl),some (.d,dL (En L q nl k)),some (.f,.int (Dh L k:Int))]):=by
   generalize dL (En L q nl k)=DJ;generalize eR (low (Ek (Dk L k) q nl))=E1 at Gf JL ⊢;generalize eR (Ek (Dk L k) q nl)=E2 at Gf hc N3;generalize eR (Dk L k)=E3 at hd hc;generalize eR nl=E4 at hc ⊢;simp only[pv,seval,op,hd,hc,Gf,JL,N3]
  unfold y0;rw[e1];show(if dE false (.int (Dh L k:Int))&&decide ((kL (En L q nl k)).length<sizeLine) then _ else _)=_;rw[O9 MG];show Res.ok (Out.nx [some (.pin p .f,DL),some (.f,.int (q:Int)),some (.f,eR nl),some (.d,.dct false (kz (kL (En L q nl k)) (vL (En L q nl k)) (.int (Dh L k:Int)) (eR (low (Ek (Dk L k) q nl)))).1 (kz (kL (En L q nl k)) (vL (En L q nl k)) (.int (Dh L k:Int)) (eR (low (Ek (Dk L k) q nl)))).2),some (.f,.int (Dh L k:Int))])=_;rw[hp];rfl) [some (.pin p .f,dL L),some (.f,.int (q:Int)),some (.f,eR nl),some (.d,dL []),none] ⟨none,rfl,rfl⟩
 exact⟨t4,h4,hf⟩
theorem forD_eq{i:Nat}{a:FG}{g:FS}{env env':PV.Env}{p:Addr}{ks vs:List D}(hi:env[i]?=some (some (.pin p .d,.dct false ks vs))){e:PV.Env}(h1:cY a g ks (env.set i (some (.pin p .f,.dct false ks vs)))=.ok (.nx e))(h2:jH i p e=true)(h3:cleanE i e=true)(h4:e.set i (some (.pin p .d,.dct false ks vs))=env'):kJ i a g env=.ok (.nx env'):=PV.forD_eq hi h1 h2 h3 h4
theorem z5{w n:Nat}(hw:w<=1000)(hn:n+n+1<=9000){L:Dq}(H:Rdd w L)(hb:∀i,i<L.length->Bg n (Dk L i))(hL:L.length<=1000){q:Nat}(hq:q<w)(hqc:∀i,i<L.length->Dh L i≠q){nl:List Int}(Nn:nl.length=w)(Hz:Bg n nl)(p:Addr):aY p [dL L,.int (q:Int),eR nl]=.ok (.t [.d,.pin p .d],.tup [dL (D8 L q nl),dL L]):=by
 obtain⟨t4,h4,e⟩:=xl hw hn H hb hL hq Nn Hz p;have e1:cM [some (.pin p .d,dL L),some (.f,.int (q:Int)),some (.f,eR nl),some (.d,dL []),none]=.ok (.nx [some (.pin p .d,dL L),some (.f,.int (q:Int)),some (.f,eR nl),some (.d,dL (En L q nl L.length)),t4]):=by
  unfold cM;refine forD_eq (ks:=kL L) (vs:=vL L) rfl e (by show decide (p=p)=true;exact O9 rfl) ?_ rfl;show(List.all [none,some (O.f,D.int (q:Int)),some (.f,eR nl),some (.d,dL (En L q nl L.length)),t4] Fu)=true;have c1:Fu (some (.f,eR nl))=true:=dZ nl;have c2:Fu (some (.f,.int (q:Int)))=true:=rfl;have c3:Fu (some (.d,dL (En L q nl L.length)))=true:=gq _;have c0:Fu none=true:=rfl;simp only[Qr,SM,c0,c1,c2,c3,h4,Pe]
 have hj:En L q nl L.length++[(q,nl)]=D8 L q nl:=by
  unfold En D8;rw[Sa]
 have hp:=BW (En L q nl L.length) q nl fun i hi e=>by
  rw[vf L q nl (Oq _) hi]at e;rw[bK,Pp]at hi;exact hqc i (by lia) e
 rw[hj]at hp;have MG:(kL (En L q nl L.length)).length<sizeLine:=oA (by unfold kL;rw[bK,bK,Pp];lia);unfold aY fT;rw[eY (h:=by rfl)];simp only[List.map,List.replicate,QN,Pw];rw[au (env':=[some (.pin p .d,dL L),some (.f,.int (q:Int)),some (.f,eR nl),some (.d,dL []),none]) (by
  show _=Res.ok (Out.nx [some (.pin p .d,dL L),some (.f,.int (q:Int)),some (.f,eR nl),some (.d,.dct false [] []),none]);generalize dL L=D0;generalize eR nl=EN;simp only[pv,seval,op])]
 rw[au e1];unfold dW;rw[au (env':=[some (.pin p .d,dL L),some (.f,.int (q:Int)),some (.f,eR nl),some (.d,dL (D8 L q nl)),t4]) (by
  show(if dE false (.int (q:Int))&&decide ((kL (En L q nl L.length)).length<sizeLine) then _ else _)=_;rw[O9 MG];show Res.ok (Out.nx [some (.pin p .d,dL L),some (.f,.int (q:Int)),some (.f,eR nl),some (.d,.dct false (kz (kL (En L q nl L.length)) (vL (En L q nl L.length)) (.int (q:Int)) (eR nl)).1 (kz (kL (En L q nl L.length)) (vL (En L q nl L.length)) (.int (q:Int)) (eR nl)).2),t4])=_;rw[hp];rfl)]
 rfl
def GW(t:Option R):Bool:=match t with
 |some r=>okO r.1 r.2
 |none=>true
theorem jZ:∀r:List Int,qy (r.map D.int)=true
 |[]=>rfl
 |x::r=>by
  rw[iL,qy,jZ r];rfl
theorem z6(r:List Int):noD (eR r)=true:=by
 unfold eR;rw[noD,jZ]
theorem vg:∀rows:List (List Int),qy (rows.map eR)=true
 |[]=>rfl
 |x::r=>by rw[iL,qy,vg r,z6];rfl
theorem z7(a c d e f g:Option R)(h:GW a=true/\GW c=true/\GW d=true/\GW e=true/\GW f=true):kN 1 [a,g,c,d,e,f]=true:=by
 obtain⟨h1,h2,h3,h4,h5⟩:=h;show(List.all [a,none,c,d,e,f] _)=true;show(List.all [a,none,c,d,e,f] GW)=true;simp only[Qr,SM,h1,h2,h3,h4,h5,Rz];rfl
theorem ue(rows:List (List Int)):GW (some (.f,.lst (rows.map eR)))=true:=by
 show noD (.lst (rows.map eR))=true;rw[noD,vg]
theorem z8(r:List Int):GW (some (.f,eR r))=true:=z6 r
theorem Bz(l:List Int):GW (some (.l .f,.lst (l.map D.int)))=true:=jZ l
theorem mi{n a:Nat}{L:Dq}(hb:∀i,i<L.length->Bg n (Dk L i)){row:List Int}(hr:Bg a row):∀k,k<=L.length->Bg (a+k*(n+1)) (Ee L row k)
 | 0,_=>hr.mono (by lia)
 |k+1,h=>by
  have:=rD (mi hb hr k (by lia)) (hb k (by lia)) (Dh L k);refine this.mono ?_;rw[Sz];lia
def Hq(L:Dq)(t4:Option R)(k:Nat):Option R:=if k=0 then t4 else some (.f,.int (Dh L (k-1):Int))
theorem vh(L:Dq){t4:Option R}(h:GW t4=true)(k:Nat):GW (Hq L t4 k)=true:=by
 unfold Hq;split
 ·exact h
 ·rfl
theorem z9(rows:List (List Int)){w n a:Nat}(hw:w<=1000){L:Dq}(H:Rdd w L)(hb:∀i,i<L.length->Bg n (Dk L i)){r:List Int}(hr:r.length=w)(Jn:Bg a r)(hz:a+L.length*(n+1)+n<=900000)(t4 t5:Option R)(h4:GW t4=true)(h5:GW t5=true):c8 [some (.f,.lst (rows.map eR)),some (.d,dL L),some (.f,eR r),some (.f,eR r),t4,t5]=.ok (.nx [some (.f,.lst (rows.map eR)),some (.d,dL L),some (.f,eR r),some (.f,eR (Ee L r L.length)),Hq L t4 L.length,t5]):=by
 have key:∀p,cY (av 4) bY (kL L) [some (.f,.lst (rows.map eR)),some (.pin p .f,dL L),some (.f,eR r),some (.f,eR r),t4,t5]=.ok (.nx [some (.f,.lst (rows.map eR)),some (.pin p .f,dL L),some (.f,eR r),some (.f,eR (Ee L r L.length)),Hq L t4 L.length,t5]):=fun p=>by
  obtain⟨env',hf,rfl⟩:=for_list (a:=av 4) (g:=bY) (e:=fun z:Nat×List Int=>D.int (z.1:Int)) L (fun k env=>env=[some (.f,.lst (rows.map eR)),some (.pin p .f,dL L),some (.f,eR r),some (.f,eR (Ee L r k)),Hq L t4 k,t5]) (by
   rintro k x env hx rfl;obtain⟨hk,ex⟩:=wZ hx;have ec:Dh L k=x.1:=by unfold Dh;rw[Od,hx];rfl
   have hd:=MF H hk;have hkm:k*(n+1)<=L.length*(n+1):=P8 _ (Ri hk);have hc:=k9 (n:=a+k*(n+1)+n) (by lia) (Ee L r k) (Dk L k) (Dh L k) (by rw[fI,hr];exact H.col k hk) (by rw[fI,hr];exact H.len k hk) ((mi hb Jn k (by lia)).mono (by lia)) ((hb k hk).mono (by lia)) (by rw[fI,hr];exact hw);have fl:=dZ (Ek (Ee L r k) (Dh L k) (Dk L k));rw[<-ec];refine⟨[some (.f,.lst (rows.map eR)),some (.pin p .f,dL L),some (.f,eR r),some (.f,eR (Ee L r k)),some (.f,.int (Dh L k:Int)),t5],rfl,[some (.f,.lst (rows.map eR)),some (.pin p .f,dL L),some (.f,eR r),some (.f,eR (Ee L r (k+1))),Hq L t4 (k+1),t5],?_,rfl⟩;show _=Res.ok (Out.nx [some (.f,.lst (rows.map eR)),some (.pin p .f,dL L),some (.f,eR r),some (.f,eR (Ek (Ee L r k) (Dh L k) (Dk L k))),some (.f,.int (Dh L k:Int)),t5]);unfold bY;generalize dL L=DL at hd ⊢;generalize eR (Dk L k)=EL at hc hd ⊢;generalize eR (Ek (Ee L r k) (Dh L k) (Dk L k))=EC at hc fl ⊢;generalize eR (Ee L r k)=ES at hc ⊢;generalize eR r=ER;simp only[pv,seval,op,hd,hc,fl]) [some (.f,.lst (rows.map eR)),some (.pin p .f,dL L),some (.f,eR r),some (.f,eR r),t4,t5] rfl
  exact hf
 unfold c8;exact xk (ks:=kL L) (vs:=vL L) rfl fun p=>⟨_,key p,(by show decide (p=p)=true;exact O9 rfl),z7 _ _ _ _ _ _ ⟨ue rows,z8 r,z8 _,vh L h4 _,h5⟩,rfl⟩
theorem xm(R0:Option R)(DL:D)(ER:Option R)(aE:List Int)(hl:aE.length<=1000)(h:Jm aE=[])(t4 t5:Option R):bc [R0,some (.d,DL),ER,some (.f,eR aE),t4,t5]=.ok (.nx [R0,some (.d,DL),ER,some (.f,eR aE),t4,some (.l .f,.lst [])]):=by
 have hc:=k8 aE;rw[h]at hc;have hc:cG (lM 2 (bf (av 0) (bf (av 1) fK))) (DF (aN DZ (ak 1) (aq (aT (.int 0))))) (aD 0) (qq (aE.map D.int)) [none,none]=.ok []:=hc;unfold bc eR;generalize (lM 2 (bf (av 0) (bf (av 1) fK)))=AA at hc ⊢;generalize (DF (aN DZ (ak 1) (aq (aT (.int 0)))))=BB at hc ⊢;rw[au (env':=[R0,some (.d,DL),ER,some (.f,.tup (aE.map D.int)),t4,some (.l .f,.lst [])]) (by
  have f0:Dc []=true:=rfl;have z0:0<=sizeLine:=Pn _;simp only[pv,seval,op,ny,hc,f0,z0,P1])]
 have c0:decide ((0:Int)<((([]:List D).length:Nat):Int))=false:=rfl;simp only[pv,seval,op,c0,P1,Int.cast_ofNat_Int,decide_false,l7] <;> rfl
theorem xn(R0:Option R)(ER:Option R){L:Dq}(aE:List Int){n:Nat}(hn:n<=9000)(hb:Bg n aE)(hl:aE.length<=1000)(q:Nat)(more:List Int)(h:Jm aE=(q:Int)::more)(hpw:∀p,aY p [dL L,.int (q:Int),eR (low aE)]=.ok (.t [.d,.pin p .d],.tup [dL (D8 L q (low aE)),dL L]))(t4 t5:Option R):bc [R0,some (.d,dL L),ER,some (.f,eR aE),t4,t5]=.ok (.nx [R0,some (.d,dL (D8 L q (low aE))),ER,some (.f,eR aE),t4,some (.l .f,.lst (((q:Int)::more).map D.int))]):=by
 have hc:=k8 aE;have hle:=z4 aE;rw[h]at hc hle;have Gf:=jY hn aE hb hl;have JL:=dZ (low aE);have hw:=eT (F:=aY) (c:=.d) (r:=(.d,dL (D8 L q (low aE)))) (d':=dL L) hpw;have hz:(((q:Int)::more).map D.int).length<=sizeLine:=line_le (by rw[bK];lia);have hf:=C7 ((q:Int)::more);have H0:FD (((q:Int)::more).map D.int) (0:Int)=some (.int (q:Int)):=gu (j:=0) rfl;have c0:decide ((0:Int)<(((((q:Int)::more).map D.int).length:Nat):Int))=true:=O9 (by rw[bK,OA];lia);have cd:=gq (D8 L q (low aE));have cn:=gq L;generalize dL (D8 L q (low aE))=D1 at hw cd ⊢;generalize dL L=D0 at hw cn ⊢;generalize ((q:Int)::more).map D.int=LL at hc hz hf H0 c0 ⊢;generalize eR (low aE)=ELO at Gf hw JL;unfold bc;have Np:ja (ag (aq (aD 3)) ax) [R0,some (.d,D0),ER,some (.f,eR aE),t4,t5]=.ok (qq (aE.map D.int),[R0,some (.d,D0),ER,some (.f,eR aE),t4,t5]):=by
  unfold eR;simp only[pv,seval,ny]
 generalize hAA:(lM 2 (bf (av 0) (bf (av 1) fK)))=AA at hc ⊢;generalize hBB:(DF (aN DZ (ak 1) (aq (aT (.int 0)))))=BB at hc ⊢;clear hAA hBB;generalize ja (ag (aq (aD 3)) ax)=IE at Np ⊢;generalize eR aE=ERR at Np Gf ⊢;rw[au (env':=[R0,some (.d,D0),ER,some (.f,ERR),t4,some (.l .f,.lst LL)]) (by
  simp only[pv,seval,op,Np,hc,hz,hf])]
 have own:kG .d .d=true:=rfl;simp only[pv,seval,op,c0,H0,Gf,JL,cR,own,hw,cd,cn,Dy,Dz,Pe,Qg]
theorem xo{r:List Int}(h:∀x∈r,x=0):Jm r=[]:=by
 unfold Jm;rw[Sq.mpr ?_]
 ·rfl
 ·intro z hz;have:=h z.1 (List.fst_mem_of_mem_zipIdx hz);rw[this];decide
theorem nE:∀(r:List Int) (n q:Nat),q<r.length->r.getD q 0≠0->(∀j,j<q->r.getD j 0=0)->∃more,((r.zipIdx n).filter fun z=>!(z.1==0)).map (fun z=>(z.2:Int))=((n+q:Nat):Int)::more
 |[],n,q,h,_,_=>by simp at h
 |x::r,n,0,h,h0,_=>by
  have h0:x≠0:=h0;rw[Ro,P9 (by simpa using h0),iL];exact⟨_,rfl⟩
 |x::r,n,q+1,h,h0,hj=>by
  have hx:x=0:=hj 0 (by lia);rw[Ro,Qs (by rw[hx];exact OB)];obtain⟨more,e⟩:=nE r (n+1) q (by rw[OA]at h;lia) h0 fun j hjq=>hj (j+1) (by lia)
  exact⟨more,by rw[e,show n+1+q=n+(q+1) by lia]⟩
theorem rF{r:List Int}{q:Nat}(h:q<r.length)(h0:r.getD q 0≠0)(hj:∀j,j<q->r.getD j 0=0):∃more,Jm r=(q:Int)::more:=by
 obtain⟨more,e⟩:=nE r 0 q h h0 hj;rw[Qp]at e;exact⟨more,e⟩
theorem mj{w:Nat}(hw:w<=6){rows:List (List Int)}(hr:∀r∈rows,r.length=w/\Bg 115 r){L:Dq}(H:Inv w rows L):L.length<=w/\∀i,i<L.length->Bg 720 (Dk L i):=by
 have hl:L.length<=w:=by
  have:=rp H.red;lia
 refine⟨hl,fun i hi x hx=>?_⟩;obtain⟨k,hk,e⟩:=PZ hx;have Nq:k<w:=by rw[<-H.red.len i hi];exact hk
 have h:=H.size (A:=2 ^ 115) (fun r h k _=>Ri ((hr r h).2.at k)) hi Nq;rw[dO _ _ _ hk,e]at h;refine PK h ?_;have N4:L.length<=6:=by lia
 have h1:2*(L.length*2 ^ 115)+1<=2*(6*2 ^ 115)+1:=Nat.succ_le_succ (QY 2 (P8 _ N4));have h2:(2*(L.length*2 ^ 115)+1) ^ (L.length-1)<=(2*(6*2 ^ 115)+1) ^ 5:=OF (Tb h1 _) (QJ (Q1 _) (by lia));exact PK (Rh N4 (P8 _ h2)) (by decide +kernel)
theorem iO{rows:List (List Int)}{w:Nat}(hw:w<=6)(hr:∀r∈rows,r.length=w/\Bg 115 r):∀(rs ps:List (List Int)) (L:Dq),ps++rs=rows->Inv w ps L->∀t2 t3 t4 t5:Option R,GW t4=true->GW t5=true->
  ∃(L':Dq) (u2 u3 u4 u5:Option R),Inv w rows L'/\cY (av 2) bC (rs.map eR) [some (.f,.lst (rows.map eR)),some (.d,dL L),t2,t3,t4,t5]=.ok (.nx [some (.f,.lst (rows.map eR)),some (.d,dL L'),u2,u3,u4,u5])
 |[],ps,L,e,H,t2,t3,t4,t5,_,_=>⟨L,t2,t3,t4,t5,by rw[<-e,OK];exact H,rfl⟩
 |r::rs,ps,L,e,H,t2,t3,t4,t5,h4,h5=>by
  have N5:∀s∈ps,s.length=w/\Bg 115 s:=fun s hs=>hr s (by rw[<-e];exact Oo _ hs)
  obtain⟨rl,rb⟩:=hr r (by rw[<-e];exact Oj _ Oh);obtain⟨l1,l2⟩:=mj hw N5 H;have hl721:L.length*(720+1)<=6*721:=P8 _ (by lia);have ha:av 2 (eR r) [some (.f,.lst (rows.map eR)),some (.d,dL L),t2,t3,t4,t5]=.ok [some (.f,.lst (rows.map eR)),some (.d,dL L),some (.f,eR r),t3,t4,t5]:=rfl;have e1:=z9 rows (by lia) H.red l2 rl rb (by lia) t4 t5 h4 h5;have L5:(Ee L r L.length).length=w:=by rw[fI,rl]
  have Nr:Bg 4500 (Ee L r L.length):=(mi l2 rb L.length (Oq _)).mono (by lia);have N6:=vh L h4 L.length;have e':(ps++[r])++rs=rows:=by rw[OX];exact e
  have N7:∀(D':D) (u5:Option R),bc [some (.f,.lst (rows.map eR)),some (.d,dL L),some (.f,eR r),some (.f,eR (Ee L r L.length)),Hq L t4 L.length,t5]=.ok (.nx [some (.f,.lst (rows.map eR)),some (.d,D'),some (.f,eR r),some (.f,eR (Ee L r L.length)),Hq L t4 L.length,u5])->bC [some (.f,.lst (rows.map eR)),some (.d,dL L),some (.f,eR r),t3,t4,t5]=.ok (.nx [some (.f,.lst (rows.map eR)),some (.d,D'),some (.f,eR r),some (.f,eR (Ee L r L.length)),Hq L t4 L.length,u5]):=fun D' u5 e2=>by
   unfold bC;rw[au (env':=[some (.f,.lst (rows.map eR)),some (.d,dL L),some (.f,eR r),some (.f,eR r),t4,t5]) (by
    generalize dL L=D0;generalize eR r=ER;simp only[pv,seval,op]),au e1,e2]
  by_cases hz:nz (Ee L r L.length)=true
  ·obtain⟨f1,f2,f3⟩:=k7 hz;obtain⟨more,hf⟩:=rF f1 f2 f3;have hq:cU (Ee L r L.length)<w:=by rw[L5]at f1;exact f1
   have H':=H.more rl hq f2;obtain⟨m1,m2⟩:=mj hw (fun s hs=>by
    rcases zy hs with h|h
    ·exact N5 s h
    ·rw[uR h];exact⟨rl,rb⟩) H'
   have Hz:Bg 720 (low (Ee L r L.length)):=by
    have:=m2 L.length (by rw[qZ];lia);rw[(cT L _ _).2]at this;exact this
   obtain⟨d,x,_,_,Lj⟩:=nh H.red rl L.length (Oq _);have e2:=xn (some (.f,.lst (rows.map eR))) (some (.f,eR r)) (Ee L r L.length) (n:=4500) (by decide) Nr (by lia) (cU (Ee L r L.length)) more hf (fun p=>z5 (n:=720) (by lia) (by decide) H.red l2 (by lia) hq (fun i hi e=>f2 (by rw[<-e];exact Lj i hi)) (by rw[jX];exact L5) Hz p) (Hq L t4 L.length) t5;obtain⟨L',u2,u3,u4,u5,H2,e3⟩:=iO hw hr rs (ps++[r]) _ e' H' (some (.f,eR r)) (some (.f,eR (Ee L r L.length))) (Hq L t4 L.length) (some (.l .f,.lst (((cU (Ee L r L.length):Int)::more).map D.int))) N6 (Bz _);refine⟨L',u2,u3,u4,u5,H2,?_⟩;rw[iL,fH,ha,DW,N7 _ _ e2,DW];exact e3
  ·have hz0:∀x∈Ee L r L.length,x=0:=fun x hx=>by
    obtain⟨k,hk,ek⟩:=PZ hx;have:=Av (Qn.mpr hz) k;rw[dO _ _ _ hk,ek]at this;exact this
   have e2:=xm (some (.f,.lst (rows.map eR))) (dL L) (some (.f,eR r)) (Ee L r L.length) (by lia) (xo hz0) (Hq L t4 L.length) t5;obtain⟨L',u2,u3,u4,u5,H2,e3⟩:=iO hw hr rs (ps++[r]) L e' (H.none rl fun k _=>Av (Qn.mpr hz) k) (some (.f,eR r)) (some (.f,eR (Ee L r L.length))) (Hq L t4 L.length) (some (.l .f,.lst [])) N6 rfl;refine⟨L',u2,u3,u4,u5,H2,?_⟩;rw[iL,fH,ha,DW,N7 _ _ e2,DW];exact e3
theorem rH{rows:List (List Int)}{w:Nat}(hw:w<=6)(hr:∀r∈rows,r.length=w/\Bg 115 r):∃L,Inv w rows L/\bD [.lst (rows.map eR)]=.ok (.d,dL L):=by
 obtain⟨L,u2,u3,u4,u5,H,e⟩:=iO hw hr rows [] [] rfl (Inv.start w) none none none none rfl rfl;refine⟨L,H,?_⟩;unfold bD gS;rw[ck (h:=by rfl)];rw[au (env':=[some (.f,.lst (rows.map eR)),some (.d,dL []),none,none,none,none]) (by
  show _=Res.ok (Out.nx [some (.f,.lst (rows.map eR)),some (.d,.dct false [] []),none,none,none,none]);simp only[pv,seval,op])]
 rw[au (env':=[some (.f,.lst (rows.map eR)),some (.d,dL L),u2,u3,u4,u5]) (by
  unfold e9;generalize hD:dL []=D0 at e ⊢;generalize rows.map eR=RR at e ⊢;generalize bC=BB at e ⊢;simp only[pv,seval,op];exact e)]
 unfold eC;generalize dL L=D1;simp only[pv,seval,op]
structure KOk(w:Nat)(L:Dq):Prop where
 red:Rdd w L
 big:∀i,i<L.length->Bg 720 (Dk L i)
 few:L.length<=6
 wid:w<=6
theorem BA(c:Int):xD [.int c]=.ok (.f,.int (c.natAbs:Int)):=zY c
theorem xp{w:Nat}{L:Dq}(H:KOk w L){k:Nat}(hk:k<=L.length):DM L k<2 ^ 4321:=by
 have h:=uY (L:=L) (M:=2 ^ 720) (fun i hi=>Ri ((H.big i hi).at _)) k hk;rw[<-Nat.pow_mul]at h;have hk6:720*k<=4320:=by have:=H.few;lia
 exact PK h (Nat.pow_lt_pow_right (by decide) (by lia))
theorem nF(a b c d e f g:Option R):cleanE 0 [a,b,c,d,e,f,g]=(Fu b&&(Fu c&&(Fu d&&(Fu e&&(Fu f&&Fu g))))):=by
 show(List.all [none,b,c,d,e,f,g] Fu)=_;simp only[Qr,SM,Rz];rfl
theorem Aa(a:Nat){l:Int}(hl:l≠0):(((a:Int)*l).natAbs:Int).fdiv ((Int.gcd (a:Int) l:Nat):Int)=(Nat.lcm a l.natAbs:Int):=by
 rw[PF,Pc,<-Int.ofNat_fdiv];rfl
theorem CP(p:Addr){w:Nat}{L:Dq}(H:KOk w L)(c:Nat):∃u4 u5,Fu u4=true/\Fu u5=true/\de [some (.pin p .d,dL L),some (.f,.int (c:Int)),some (.f,.int (w:Int)),some (.f,.int 1),none,none,none]=.ok (.nx [some (.pin p .d,dL L),some (.f,.int (c:Int)),some (.f,.int (w:Int)),some (.f,.int (DM L L.length:Int)),u4,u5,none]):=by
 obtain⟨env',hf,u4,u5,h4,h5,rfl⟩:=for_list (a:=av 4) (g:=cO) (e:=fun z:Nat×List Int=>D.int (z.1:Int)) L (fun k env=>∃u4 u5,Fu u4=true/\Fu u5=true/\env=[some (.pin p .f,dL L),some (.f,.int (c:Int)),some (.f,.int (w:Int)),some (.f,.int (DM L k:Int)),u4,u5,none]) (by
  rintro k x env hx ⟨u4,u5,_,_,rfl⟩;obtain⟨hk,ex⟩:=wZ hx;have ec:Dh L k=x.1:=by unfold Dh;rw[Od,hx];rfl
  have hd:=MF H.red hk;have D7:=Ma (r:=Dk L k) (c:=Dh L k) (by rw[H.red.len k hk];exact H.red.col k hk);have MH:=H.red.own k hk;have MI:=(H.big k hk).at (Dh L k)
  have Nr:=xp H (k:=k) (by lia);have esc:(DM L (k+1):Int)=(Nat.lcm (DM L k) ((Dk L k).getD (Dh L k) 0).natAbs:Int):=rfl;rw[<-ec,esc];generalize (Dk L k).getD (Dh L k) 0=l at D7 MH MI;have hm:=tW (x:=(DM L k:Int)) (y:=l) (n:=4321) (m:=720) (by rw[Pc];exact Nr) MI (by decide) (by decide);have Hc:=BA ((DM L k:Int)*l);have Gd:=ve (n:=720) (by decide) (DM L k:Int) l MI;have hg0:Int.gcd (DM L k:Int) l≠0:=fun z=>MH (Int.gcd_eq_zero_iff.mp z).2
  have hgb:((Int.gcd (DM L k:Int) l:Nat):Int).natAbs<2 ^ 720:=by
   rw[Pc];exact PK (Nat.gcd_le_right _ (S2.mpr MH)) MI
  have Jo:=mf ((((DM L k:Int)*l).natAbs:Nat):Int) (b:=((Int.gcd (DM L k:Int) l:Nat):Int)) (by lia) hgb (by decide);rw[Aa _ MH]at Jo;refine⟨[some (.pin p .f,dL L),some (.f,.int (c:Int)),some (.f,.int (w:Int)),some (.f,.int (DM L k:Int)),some (.f,.int (Dh L k:Int)),u5,none],rfl,[some (.pin p .f,dL L),some (.f,.int (c:Int)),some (.f,.int (w:Int)),some (.f,.int (Nat.lcm (DM L k) l.natAbs:Int)),some (.f,.int (Dh L k:Int)),some (.f,.int l),none],?_,_,_,rfl,rfl,rfl⟩;unfold cO;generalize dL L=DL at hd ⊢;generalize eR (Dk L k)=EL at hd D7 ⊢;generalize ((Int.gcd (DM L k:Int) l:Nat):Int)=GG at Gd Jo;generalize ((((DM L k:Int)*l).natAbs:Nat):Int)=AA at Hc Jo;generalize ((Nat.lcm (DM L k) l.natAbs:Nat):Int)=LC at Jo ⊢;generalize (DM L k:Int)=SC at hm Hc Gd ⊢;rw[au (env':=[some (.pin p .f,DL),some (.f,.int (c:Int)),some (.f,.int (w:Int)),some (.f,.int SC),some (.f,.int (Dh L k:Int)),some (.f,.int l),none]) (by simp only[pv,seval,op,hd,D7])];simp only[pv,seval,op,hm,Hc,Gd,Jo]) [some (.pin p .f,dL L),some (.f,.int (c:Int)),some (.f,.int (w:Int)),some (.f,.int 1),none,none,none] ⟨none,none,rfl,rfl,rfl⟩
 refine⟨u4,u5,h4,h5,?_⟩;unfold de;refine PV.forD_eq (ks:=kL L) (vs:=vL L) rfl hf (by show decide (p=p)=true;exact O9 rfl) ?_ rfl;rw[nF,h4,h5];rfl
theorem xq(l:List Int):aH (.l .f) (.lst (l.map D.int))=true:=by
 rw[aH,dA,C7]
theorem BC(l:List Int)(k:Nat)(h:k<l.length):ixN (l.map D.int).length (k:Int)=some k:=l9 _ _ (by rw[bK];exact h)
theorem Ab{w:Nat}{L:Dq}(H:KOk w L){k:Nat}(hk:k<L.length):((DM L L.length:Int).fdiv ((Dk L k).getD (Dh L k) 0)).natAbs<2 ^ 4321:=by
 have hd:(Dk L k).getD (Dh L k) 0*(DM L L.length:Int).fdiv ((Dk L k).getD (Dh L k) 0)=(DM L L.length:Int):=Ru (Rn.mp (by rw[Pc];exact me L _ k hk));have h0:=H.red.own k hk;have hb:=xp H (Oq L.length);generalize (DM L L.length:Int).fdiv ((Dk L k).getD (Dh L k) 0)=q at hd;have e:=P0 Int.natAbs hd;rw[PF,Pc]at e;have h1:1*q.natAbs<=((Dk L k).getD (Dh L k) 0).natAbs*q.natAbs:=P8 _ (S2.mpr h0);rw[Nat.one_mul]at h1;lia
theorem ml{w:Nat}{L:Dq}(H:KOk w L)(c:Nat):∀k,k<=L.length->Bg 5041 (Fb L c w k)
 | 0,_=>fun x hx=>by
  unfold Fb Jl at hx;obtain⟨j,_,e⟩:=rX hx;have hb:=xp H (Oq L.length);by_cases hj:j=c
  ·rw[Oy hj]at e;rw[<-e,Pc];exact Ot hb (QJ (by decide) (by decide))
  ·rw[OD hj]at e;rw[<-e];exact QC 5041
 |k+1,hk=>fun x hx=>by
  have hx:x∈(Fb L c w k).set (Dh L k) (-((Dk L k).getD c 0)*(DM L L.length:Int).fdiv ((Dk L k).getD (Dh L k) 0)):=hx;rcases List.mem_or_eq_of_mem_set hx with h|h
  ·exact ml H c k (by lia) x h
  ·rw[h];exact la (n:=720) (m:=4321) (by rw[RQ];exact(H.big k (by lia)).at c) (Ab H (by lia))
theorem CQ(p:Addr){w:Nat}{L:Dq}(H:KOk w L){c:Nat}(hc:c<w)(u4 u5:Option R)(h4:Fu u4=true)(h5:Fu u5=true):∃v4,c9 [some (.pin p .d,dL L),some (.f,.int (c:Int)),some (.f,.int (w:Int)),some (.f,.int (DM L L.length:Int)),u4,u5,some (.l .f,.lst ((Fb L c w 0).map D.int))]=.ok (.nx [some (.pin p .d,dL L),some (.f,.int (c:Int)),some (.f,.int (w:Int)),some (.f,.int (DM L L.length:Int)),v4,u5,some (.l .f,.lst ((Fb L c w L.length).map D.int))]):=by
 obtain⟨env',hf,v4,g4,rfl⟩:=for_list (a:=av 4) (g:=cN) (e:=fun z:Nat×List Int=>D.int (z.1:Int)) L (fun k env=>∃v4,Fu v4=true/\env=[some (.pin p .f,dL L),some (.f,.int (c:Int)),some (.f,.int (w:Int)),some (.f,.int (DM L L.length:Int)),v4,u5,some (.l .f,.lst ((Fb L c w k).map D.int))]) (by
  rintro k x env hx ⟨v4,_,rfl⟩;obtain⟨hk,ex⟩:=wZ hx;have ec:Dh L k=x.1:=by unfold Dh;rw[Od,hx];rfl
  have hd:=MF H.red hk;have i1:=Ma (r:=Dk L k) (c:=c) (by rw[H.red.len k hk];exact hc);have i2:=Ma (r:=Dk L k) (c:=Dh L k) (by rw[H.red.len k hk];exact H.red.col k hk);have Jo:=mf (DM L L.length:Int) (H.red.own k hk) ((H.big k hk).at (Dh L k)) (by decide);have hm:=tW (x:=-((Dk L k).getD c 0)) (y:=(DM L L.length:Int).fdiv ((Dk L k).getD (Dh L k) 0)) (n:=720) (m:=4321) (by rw[RQ];exact(H.big k hk).at c) (Ab H hk) (by decide) (by decide);have e3:=BC (Fb L c w k) (Dh L k) (by rw[gG];exact H.red.col k hk);have e4:((Fb L c w k).map D.int).set (Dh L k) (.int (-((Dk L k).getD c 0)*(DM L L.length:Int).fdiv ((Dk L k).getD (Dh L k) 0)))=(Fb L c w (k+1)).map D.int:=by
   rw[<-List.map_set];rfl
  rw[<-ec];refine⟨[some (.pin p .f,dL L),some (.f,.int (c:Int)),some (.f,.int (w:Int)),some (.f,.int (DM L L.length:Int)),some (.f,.int (Dh L k:Int)),u5,some (.l .f,.lst ((Fb L c w k).map D.int))],rfl,[some (.pin p .f,dL L),some (.f,.int (c:Int)),some (.f,.int (w:Int)),some (.f,.int (DM L L.length:Int)),some (.f,.int (Dh L k:Int)),u5,some (.l .f,.lst ((Fb L c w (k+1)).map D.int))],?_,_,rfl,rfl⟩;rw[<-e4];unfold cN;generalize (DM L L.length:Int).fdiv ((Dk L k).getD (Dh L k) 0)=QQ at Jo hm ⊢;generalize (DM L L.length:Int)=SC at Jo ⊢;generalize dL L=DL at hd ⊢;generalize eR (Dk L k)=EL at hd i1 i2 ⊢;generalize (Fb L c w k).map D.int=UU at e3 ⊢;simp only[pv,seval,op,hd,i1,i2,Jo,hm,e3]) [some (.pin p .f,dL L),some (.f,.int (c:Int)),some (.f,.int (w:Int)),some (.f,.int (DM L L.length:Int)),u4,u5,some (.l .f,.lst ((Fb L c w 0).map D.int))] ⟨u4,h4,rfl⟩
 refine⟨v4,?_⟩;unfold c9;refine PV.forD_eq (ks:=kL L) (vs:=vL L) rfl hf (by show decide (p=p)=true;exact O9 rfl) ?_ rfl;have c6:Fu (some (.l .f,.lst ((Fb L c w L.length).map D.int)))=true:=xq _;rw[nF,g4,h5,c6];rfl
theorem uf(w c:Nat)(x:Int):((((List.range w).map fun _=>(0:Int)).map D.int).set c (.int x))=(Jl w c x).map D.int:=by
 unfold Jl;rw[Pd,gX,Pd];refine PY fun i _=>?_
 show(if i=c then D.int x else D.int 0)=D.int (if i=c then x else 0);split <;> rfl
theorem CS(w:Nat)(hw:w<=1000):gr (.lst [.int 0]) (.int (w:Int))=.ok (.l .f,.lst (((List.range w).map fun _=>(0:Int)).map D.int)):=by
 show xE (.lst [.int 0]) (.int (w:Int))=_;rw[qL,Oy ⟨by lia,by lia,line_le (by rw[OA,P1];lia)⟩,OW];have:(List.replicate w [D.int 0]).flatten=((List.range w).map fun _=>(0:Int)).map D.int:=by
  rw[Pd];clear hw;induction w with
  |zero=>rfl
  |succ n ih=>rw[SV,Ta,ih,RD,O6];rfl
 rw[this]
theorem lb{w:Nat}{L:Dq}(H:KOk w L){c:Nat}(hc:c<w)(p:Addr):aG p [dL L,.int (c:Int),.int (w:Int)]=.ok (.t [.f,.pin p .d],.tup [eR (kr L c w),dL L]):=by
 have hw:=H.wid;obtain⟨u4,u5,h4,h5,e2⟩:=CP p H c;obtain⟨v4,e1⟩:=CQ p H hc u4 u5 h4 h5;have Gf:=jY (n:=5041) (by decide) (xG L c w) (ml H c _ (Oq _)) (by rw[gG];lia);have JL:=dZ (kr L c w);have hz:=CS w (by lia);have e3:ixN (((List.range w).map fun _=>(0:Int)).map D.int).length (c:Int)=some c:=l9 _ _ (by rw[bK,bK,OE];exact hc);have ez:=uf w c (DM L L.length:Int);unfold aG gT;rw[eY (h:=by rfl)];simp only[List.map,List.replicate,QN,Pw];rw[au (env':=[some (.pin p .d,dL L),some (.f,.int (c:Int)),some (.f,.int (w:Int)),some (.f,.int 1),none,none,none]) (by
  generalize dL L=DL;simp only[pv,seval,op])]
 rw[au e2];unfold eE;rw[au (env':=[some (.pin p .d,dL L),some (.f,.int (c:Int)),some (.f,.int (w:Int)),some (.f,.int (DM L L.length:Int)),u4,u5,some (.l .f,.lst (((List.range w).map fun _=>(0:Int)).map D.int))]) (by
  generalize dL L=DL;simp only[pv,seval,op,hz])]
 rw[au (env':=[some (.pin p .d,dL L),some (.f,.int (c:Int)),some (.f,.int (w:Int)),some (.f,.int (DM L L.length:Int)),u4,u5,some (.l .f,.lst ((Fb L c w 0).map D.int))]) (by
  show _=Res.ok (Out.nx [some (.pin p .d,dL L),some (.f,.int (c:Int)),some (.f,.int (w:Int)),some (.f,.int (DM L L.length:Int)),u4,u5,some (.l .f,.lst ((Jl w c (DM L L.length:Int)).map D.int))]);rw[<-ez];generalize dL L=DL;generalize ((List.range w).map fun _=>(0:Int)).map D.int=ZZ at e3 ⊢;simp only[pv,seval,op,e3])]
 rw[au e1];unfold eD;have Gf:bP [.tup ((Fb L c w L.length).map D.int)]=.ok (.f,eR (kr L c w)):=Gf;generalize eR (kr L c w)=EK at Gf JL ⊢;generalize dL L=DL;simp only[pv,seval,op,Gf,JL,bL]
theorem eM{w:Nat}{L:Dq}(H:KOk w L){c:Nat}(hc:c<w):g9 aG .d (dL L) [.int (c:Int),.int (w:Int)]=.ok ((.f,eR (kr L c w)),dL L):=eT (r:=(.f,eR (kr L c w))) (lb H hc)
theorem xr(L:Dq)(c:Nat):(PV.getD (kL L) (vL L) (.int (c:Int))).isSome=Fy L c:=by
 induction L with
 |nil=>rfl
 |cons z L ih=>
  show((((D.int (z.1:Int),eR z.2)::(kL L).zip (vL L)).find? (fun p=>C9 (.int (c:Int)) p.1)).map (·.2)).isSome=(z.1==c||Fy L c)
  by_cases h:z.1=c
  ·rw[Qu (by show C9 (.int (c:Int)) (.int (z.1:Int))=true;rw[Mb,OO];exact h.symm),OO.mpr h];rfl
  ·rw[Qv (by show ¬ C9 (.int (c:Int)) (.int (z.1:Int))=true;rw[Mb,OO];exact fun e=>h e.symm),OQ.mpr h,To];exact ih
theorem Ac(L:Dq)(c:Nat):ou (.int (c:Int)) (dL L)=.ok (.f,.bl (!Fy L c)):=by
 unfold ou dL;dsimp only;rw[Oy (show dE false (.int (c:Int))=true from rfl),xr]
theorem ug{α β:Type}(x:α)(f:α->Res β):(Res.ok x).bind f=f x:=rfl
theorem lg{w:Nat}{L:Dq}(H:KOk w L)(p:Addr):∀(cs:List Nat),(∀c∈cs,c<w)->∀t:Option R,∃t',compLE (av 0) (DF (aN ou (ak 0) (ak 1))) (eFunW (.d) aG 1 (ag (ak 1) (ag (ak 0) (ag (ak 2) ax)))) (cs.map fun(c:Nat)=>D.int (c:Int)) [t,some (.pin p .d,dL L),some (.f,.int (w:Int))]=.ok (((cs.filter fun c=>!Fy L c).map fun c=>kr L c w).map eR,[t',some (.pin p .d,dL L),some (.f,.int (w:Int))])
 |[],_,t=>⟨t,rfl⟩
 |c::cs,h,t=>by
  have hn:=Ac L c;have hk:=eM H (h c Oh);have cd:=gq L;have fk:=dZ (kr L c w);obtain⟨t',e⟩:=lg H p cs (fun x hx=>h x (Og _ hx)) (some (.f,.int (c:Int)));refine⟨t',?_⟩;rw[iL];unfold compLE;have ha:av 0 (.int (c:Int)) [t,some (.pin p .d,dL L),some (.f,.int (w:Int))]=.ok [some (.f,.int (c:Int)),some (.pin p .d,dL L),some (.f,.int (w:Int))]:=rfl;rw[ha,ug];have ec:(DF (aN ou (ak 0) (ak 1))) [some (.f,.int (c:Int)),some (.pin p .d,dL L),some (.f,.int (w:Int))]=.ok (!Fy L c,[some (.f,.int (c:Int)),some (.pin p .d,dL L),some (.f,.int (w:Int))]):=by
   generalize dL L=DL at hn ⊢;simp only[pv,seval,op,hn]
  rw[ec,ug];cases hb:Fy L c with
  |true=>
   rw[Qs (by rw[hb];exact OB)];exact e
  |false=>
   rw[P9 (by rw[hb];rfl),iL,iL];have ef:eFunW (.d) aG 1 (ag (ak 1) (ag (ak 0) (ag (ak 2) ax))) [some (.f,.int (c:Int)),some (.pin p .d,dL L),some (.f,.int (w:Int))]=.ok ((.f,eR (kr L c w)),[some (.f,.int (c:Int)),some (.pin p .d,dL L),some (.f,.int (w:Int))]):=by
    have own:kG .d (.pin p .d)=true:=rfl;generalize dL L=DL at hk cd ⊢;generalize eR (kr L c w)=EK at hk fk ⊢;simp only[pv,seval,op,cR,own,hk,fk,cd,Dy,Dz,cQ,Pe,Qg]
   rw[Oy (by rfl),ef,ug,e,ug]
theorem rJ(rows:List (List Int)):Dc (rows.map eR)=true:=jV rows
theorem nG(L:Dq)(w:Nat):(cC L w).length<=w:=by
 unfold cC;rw[bK];exact OF (O4 _ _) (Rk OE)
theorem uh{w:Nat}{rows:List (List Int)}{L:Dq}(H:KOk w L)(hl:bD [.lst (rows.map eR)]=.ok (.d,dL L)):dH [.lst (rows.map eR),.int (w:Int)]=.ok (.l .f,.lst ((cC L w).map eR)):=by
 have hw:=H.wid;have cd:=gq L;obtain⟨ks,vs,ed,fv⟩:∃ks vs,dL L=.dct false ks vs/\Dc vs=true:=⟨_,_,rfl,rB L⟩
 have hlen:((cC L w).map eR).length<=sizeLine:=line_le (by rw[bK];have:=nG L w;lia);have KH:=rJ (cC L w);have Gd:lV (av 0) (DF (aN ou (ak 0) (ak 1))) (eFunW (.d) aG 1 (ag (ak 1) (ag (ak 0) (ag (ak 2) ax)))) ((List.range w).map fun(c:Nat)=>D.int (c:Int)) (fun q=>[none,some (.pin q .d,.dct false ks vs),some (.f,.int (w:Int))]) 1 (.dct false ks vs)=.ok ((cC L w).map eR):=by
  refine tG fun q=>?_
  obtain⟨t',e⟩:=lg H q (List.range w) (fun c hc=>PD.mp hc) none;rw[ed]at e;exact⟨_,e,rfl⟩
 unfold dH mW;rw[ck (h:=by rfl)];rw[au (env':=[some (.f,.lst (rows.map eR)),some (.f,.int (w:Int)),some (.d,dL L)]) (by
  generalize dL L=DL at hl cd ⊢;simp only[pv,seval,op,hl,cd])]
 rw[ed];have hr:=zI (w:Int) (by lia) (by lia) (ak 1) [some (.f,.lst (rows.map eR)),some (.f,.int (w:Int)),some (.d,.dct false ks vs)] [some (.f,.lst (rows.map eR)),some (.f,.int (w:Int)),some (.d,.dct false ks vs)] (.var 1) rfl rfl;rw[OW]at hr;have ec:jb (bB (ak 1)) [none,some 2,some 1] 2 1 (av 0) (DF (aN ou (ak 0) (ak 1))) (eFunW (.d) aG 1 (ag (ak 1) (ag (ak 0) (ag (ak 2) ax)))) [some (.f,.lst (rows.map eR)),some (.f,.int (w:Int)),some (.d,.dct false ks vs)]=.ok ((.l .f,.lst ((cC L w).map eR)),[some (.f,.lst (rows.map eR)),some (.f,.int (w:Int)),some (.d,.dct false ks vs)]):=by
  unfold jb;rw[hr];show(lV (av 0) (DF (aN ou (ak 0) (ak 1))) (eFunW (.d) aG 1 (ag (ak 1) (ag (ak 0) (ag (ak 2) ax)))) ((List.range w).map fun(c:Nat)=>D.int (c:Int)) (fun q=>[none,some (.pin q .d,.dct false ks vs),some (.f,.int (w:Int))]) 1 (.dct false ks vs)).bind _=_;rw[Gd];show(if((cC L w).map eR).length<=sizeLine/\Dc ((cC L w).map eR)=true/\Dc vs=true then _ else _)=_;rw[Oy ⟨hlen,KH,fv⟩]
 generalize jb (bB (ak 1)) [none,some 2,some 1] 2 1 (av 0) (DF (aN ou (ak 0) (ak 1))) (eFunW (.d) aG 1 (ag (ak 1) (ag (ak 0) (ag (ak 2) ax))))=EE at ec ⊢;simp only[pv,seval,op,ec]
def eV(b:Bool)(r:List Int):D:=if b then .lst (r.map D.int) else .tup (r.map D.int)
theorem rK(r:List Int):cG (av 0) (DF (aN DZ (ak 0) (aq (aT (.int 0))))) (aD 0) (r.map D.int) [none]=.ok ((r.filter fun x=>!(x==0)).map D.int):=by
 refine ia (p:=fun x:Int=>!(x==0)) (fun env=>∃t,env=[t]) r ?_ _ ⟨none,rfl⟩;rintro x _ env ⟨t,rfl⟩;refine⟨[some (.f,.int x)],rfl,[some (.f,.int x)],by simp only[pv,seval,op],?_⟩;cases h:(x==0) with
 |true=>exact⟨_,rfl⟩
 |false=>exact⟨.f,[some (.f,.int x)],rfl,_,rfl⟩
theorem rL(l:List Int):DZ (.lst (l.map D.int)) (.lst [])=.ok (.f,.bl (!l.isEmpty)):=by
 unfold DZ;rw[plainD,cm];cases l <;> rfl
theorem Ad(b:Bool){r:List Int}{k:Nat}(h:k<r.length):DT (eV b r) (.int (k:Int))=.ok (.f,.int (r.getD k 0)):=by
 have e:=gu (xs:=r.map D.int) (j:=k) (v:=D.int (r.getD k 0)) (by rw[OG,kY h,dO r k 0 h];rfl);cases b with
 |true=>show DT (.lst (r.map D.int)) (.int (k:Int))=_;rw[zt,e]
 |false=>show DT (.tup (r.map D.int)) (.int (k:Int))=_;rw[wU,e]
theorem Ae(b:Bool)(r:List Int):h8 [eV b r]=.ok (.f,.int (r.length:Int)):=by
 cases b with
 |true=>show Res.ok (O.f,D.int (((r.map D.int).length:Nat):Int))=_;rw[bK]
 |false=>show Res.ok (O.f,D.int (((r.map D.int).length:Nat):Int))=_;rw[bK]
theorem vi(r:List Int):(r.filter fun x=>!(x==0)).isEmpty = !nz r:=by
 induction r with
 |nil=>rfl
 |cons x r ih=>
  unfold nz at ih ⊢;rw[Sd,Ry];cases h:(x==0) with
  |true=>exact ih
  |false=>rfl
theorem xt(b:Bool){w:Nat}{top:List Int}(ht:top.length=w):cG (av 0) (DF (aN DZ (aq (aJ DT (ak 1) (ak 0))) (aq (aT (.int 0))))) (aD 0) ((List.range w).map fun(k:Nat)=>D.int (k:Int)) [none,some (.f,eV b top)]=.ok (((List.range w).filter fun k=>!(top.getD k 0==0)).map fun(k:Nat)=>D.int (k:Int)):=by
 refine ia (p:=fun k:Nat=>!(top.getD k 0==0)) (r:=fun k:Nat=>D.int (k:Int)) (fun env=>∃t,env=[t,some (.f,eV b top)]) (List.range w) ?_ _ ⟨none,rfl⟩;rintro k hk env ⟨t,rfl⟩;have Nq:=PD.mp hk;have i1:=Ad b (r:=top) (k:=k) (by lia);generalize eV b top=EV at i1 ⊢;generalize top.getD k 0=x at i1 ⊢;refine⟨[some (.f,.int (k:Int)),some (.f,EV)],rfl,[some (.f,.int (k:Int)),some (.f,EV)],by simp only[pv,seval,op,i1],?_⟩;cases h:(x==0) with
 |true=>exact⟨_,rfl⟩
 |false=>exact⟨.f,[some (.f,.int (k:Int)),some (.f,EV)],rfl,_,rfl⟩
theorem uk{top:List Int}(h:nz top=true):∃more,((List.range top.length).filter fun k=>!(top.getD k 0==0))=cU top::more:=by
 obtain⟨h1,h2,h3⟩:=k7 h;obtain⟨m,hm⟩:∃m,top.length=cU top+(m+1):=⟨top.length-cU top-1,by lia⟩
 rw[hm,List.range_add,Tx,Sq.mpr fun k hk=>by
  rw[h3 k (PD.mp hk)];exact OB,Pw,Sl,iL,P9 (by
  rw[Nat.add_zero,OQ.mpr h2];rfl)]
 exact⟨_,rfl⟩
abbrev BD:FX:=aJ lj (aq (aJ gr (aq (aJ DT (ak 1) (ak 0))) (aq (aJ DT (ak 2) (ak 3))))) (aq (aJ gr (aq (aJ DT (ak 2) (ak 0))) (aq (aJ DT (ak 1) (ak 3)))))
theorem xu(b:Bool){w c n:Nat}(hn:n<=900000){row top:List Int}(hr:row.length=w)(ht:top.length=w)(hc:c<w)(Jn:Bg n row)(Jp:Bg n top):cG (av 0) gP BD ((List.range w).map fun(k:Nat)=>D.int (k:Int)) [none,some (.f,eV b row),some (.f,eV b top),some (.f,.int (c:Int))]=.ok ((D4 top c row).map D.int):=by
 rw[eX (r:=fun k:Nat=>D.int (row.getD k 0*top.getD c 0-top.getD k 0*row.getD c 0)) (fun env=>∃t,env=[t,some (.f,eV b row),some (.f,eV b top),some (.f,.int (c:Int))]) (List.range w) ?_ _ ⟨none,rfl⟩]
 ·unfold D4;rw[Pd,hr];rfl
 ·rintro k hk env ⟨t,rfl⟩;have Nq:=PD.mp hk;have i1:=Ad b (r:=row) (k:=k) (by lia);have i2:=Ad b (r:=top) (k:=c) (by lia);have i3:=Ad b (r:=top) (k:=k) (by lia);have i4:=Ad b (r:=row) (k:=c) (by lia);have m1:=tW (Jn.at k) (Jp.at c) hn hn;have m2:=tW (Jp.at k) (Jn.at c) hn hn;generalize eV b row=ED at i1 i4 ⊢;generalize eV b top=EC at i2 i3 ⊢;generalize row.getD k 0=x1 at i1 m1 ⊢;generalize top.getD c 0=x2 at i2 m1 ⊢;generalize top.getD k 0=x3 at i3 m2 ⊢;generalize row.getD c 0=x4 at i4 m2 ⊢;refine⟨[some (.f,.int (k:Int)),some (.f,ED),some (.f,EC),some (.f,.int (c:Int))],rfl,.f,[some (.f,.int (k:Int)),some (.f,ED),some (.f,EC),some (.f,.int (c:Int))],?_,_,rfl⟩;unfold BD;simp only[pv,seval,op,i1,i2,i3,i4,m1,m2]
theorem rM(top:List Int)(c:Nat)(row:List Int):(D4 top c row).length=row.length:=by
 unfold D4;rw[bK,OE]
theorem xv{n:Nat}{top row:List Int}(c:Nat)(h1:Bg n row)(h2:Bg n top):Bg (n+n+1) (D4 top c row):=by
 intro x hx;unfold D4 at hx;obtain⟨k,_,e⟩:=rX hx;rw[<-e];have a1:=la (h1.at k) (h2.at c);have a2:=la (h2.at k) (h1.at c);rw[Qq];lia
theorem BE(b:Bool){w c n:Nat}(hw:w<=100)(hn:n<=900000){row top:List Int}(hr:row.length=w)(ht:top.length=w)(hc:c<w)(Jn:Bg n row)(Jp:Bg n top)(R0 R1 R2 t7:Option R)(acc:List D)(ha:acc.length<=100):∃u7,bN [R0,R1,R2,some (.f,eV b top),some (.f,.int (c:Int)),some (.l .f,.lst acc),some (.f,eV b row),t7]=.ok (.nx [R0,R1,R2,some (.f,eV b top),some (.f,.int (c:Int)),some (.l .f,.lst (acc++([D4 top c row].filter nz).map (eV true))),some (.f,eV b row),u7]):=by
 have hl:=xu b hn hr ht hc Jn Jp;have Iv:=Ae b row;rw[hr]at Iv;have MD:=rM top c row;have hz:((D4 top c row).map D.int).length<=sizeLine:=line_le (by rw[bK];lia);have hf:=C7 (D4 top c row);have Iw:=rK (D4 top c row);have Ho:=rL ((D4 top c row).filter fun x=>!(x==0));rw[vi,Bool.not_not]at Ho;have GJ:(((D4 top c row).filter fun x=>!(x==0)).map D.int).length<=sizeLine:=line_le (by rw[bK];have:=O4 (fun x:Int=>!(x==0)) (D4 top c row);lia);have K0:=C7 ((D4 top c row).filter fun x=>!(x==0));have EW:acc.length<sizeLine:=oA (by lia);have Mc:=zI (w:Int) (by lia) (by lia) (aq (bA h8 (ag (ak 6) ax))) [R0,R1,R2,some (.f,eV b top),some (.f,.int (c:Int)),some (.l .f,.lst acc),some (.f,eV b row),t7] [R0,R1,R2,some (.f,eV b top),some (.f,.int (c:Int)),some (.l .f,.lst acc),some (.f,eV b row),t7] (.val (.int (w:Int))) (by
  generalize eV b row=ED at Iv ⊢;generalize eV b top=EC;simp only[pv,seval,op,Iv]) rfl
 rw[OW]at Mc;have ev:eV true (D4 top c row)=.lst ((D4 top c row).map D.int):=rfl;have Md:([D4 top c row].filter nz).map (eV true)=if nz (D4 top c row) then[.lst ((D4 top c row).map D.int)] else[]:=by
  cases h:nz (D4 top c row) with
  |true=>rw[P9 h];rfl
  |false=>rw[Qs (by rw[h];exact OB)];rfl
 rw[Md];unfold BD at hl;unfold bN;generalize eV b row=ED at hl Mc ⊢;generalize eV b top=EC at hl Mc ⊢;generalize nz (D4 top c row)=bb at Ho ⊢;generalize (D4 top c row).map D.int=UD at hl hz hf Iw ⊢;generalize ((D4 top c row).filter fun x=>!(x==0)).map D.int=ND at Iw Ho GJ K0;have e1:cy 7 (cZ (bB (aq (bA h8 (ag (ak 6) ax)))) [none,some 6,some 3,some 4] (av 0) gP (aJ lj (aq (aJ gr (aq (aJ DT (ak 1) (ak 0))) (aq (aJ DT (ak 2) (ak 3))))) (aq (aJ gr (aq (aJ DT (ak 2) (ak 0))) (aq (aJ DT (ak 1) (ak 3))))))) [R0,R1,R2,some (.f,EC),some (.f,.int (c:Int)),some (.l .f,.lst acc),some (.f,ED),t7]=.ok (.nx [R0,R1,R2,some (.f,EC),some (.f,.int (c:Int)),some (.l .f,.lst acc),some (.f,ED),some (.l .f,.lst UD)]):=by
  generalize bB (aq (bA h8 (ag (ak 6) ax)))=IR at Mc ⊢;generalize (aJ lj (aq (aJ gr (aq (aJ DT (ak 1) (ak 0))) (aq (aJ DT (ak 2) (ak 3))))) (aq (aJ gr (aq (aJ DT (ak 2) (ak 0))) (aq (aJ DT (ak 1) (ak 3))))))=LF at hl ⊢;simp only[pv,seval,op,Mc,hl,hz,hf]
 generalize (DF (aN DZ (ak 0) (aq (aT (.int 0)))))=BB at Iw ⊢;cases bb with
 |true=>
  refine⟨some (.f,.lst UD),?_⟩;rw[au e1,Oy rfl];simp only[pv,seval,op,Iw,GJ,K0,Ho,EW]
 |false=>
  refine⟨some (.l .f,.lst UD),?_⟩;rw[au e1,OD OB,OK];simp only[pv,seval,op,Iw,GJ,K0,Ho,l7]
theorem rN(b:Bool){w c n:Nat}(hw:w<=100)(hn:n<=900000){top:List Int}(ht:top.length=w)(hc:c<w)(Jp:Bg n top)(R0 R1 R2:Option R):∀(l:List (List Int)) (acc:List D) (t6 t7:Option R),(∀r∈l,r.length=w/\Bg n r)->acc.length+l.length<=100->∃u6 u7,cY (av 6) bN (l.map (eV b)) [R0,R1,R2,some (.f,eV b top),some (.f,.int (c:Int)),some (.l .f,.lst acc),t6,t7]=.ok (.nx [R0,R1,R2,some (.f,eV b top),some (.f,.int (c:Int)),some (.l .f,.lst (acc++((l.map (D4 top c)).filter nz).map (eV true))),u6,u7])
 |[],acc,t6,t7,_,_=>⟨t6,t7,by rw[Pt,Pt,List.filter_nil,Pt,OK];rfl⟩
 |r::l,acc,t6,t7,h,hl=>by
  rw[OA]at hl;obtain⟨r1,r2⟩:=h r Oh;obtain⟨v7,e1⟩:=BE b hw hn r1 ht hc r2 Jp R0 R1 R2 t7 acc (by lia);have KH:(([D4 top c r].filter nz).map (eV true)).length<=1:=by rw[bK];exact O4 _ _
  obtain⟨u6,u7,e2⟩:=rN b hw hn ht hc Jp R0 R1 R2 l (acc++([D4 top c r].filter nz).map (eV true)) (some (.f,eV b r)) v7 (fun x hx=>h x (Og _ hx)) (by rw[zH];lia);refine⟨u6,u7,?_⟩;have ha:av 6 (eV b r) [R0,R1,R2,some (.f,eV b top),some (.f,.int (c:Int)),some (.l .f,.lst acc),t6,t7]=.ok [R0,R1,R2,some (.f,eV b top),some (.f,.int (c:Int)),some (.l .f,.lst acc),some (.f,eV b r),t7]:=rfl;have hap:((List.map (D4 top c) (r::l)).filter nz).map (eV true)=([D4 top c r].filter nz).map (eV true)++((l.map (D4 top c)).filter nz).map (eV true):=by
   rw[<-O6,<-Tx];rfl
  rw[iL,fH,ha,DW,e1,DW,hap];rw[OX]at e2;exact e2
theorem xw(b:Bool){w n:Nat}(hw:w<=100)(hn:n<=900000){top:List Int}(ht:top.length=w)(hz:nz top=true)(Jp:Bg n top)(l:List (List Int))(h:∀r∈l,r.length=w/\Bg n r)(hl:l.length<=100)(R0:Option R)(o1:O)(ho:rS o1=true)(k:Int)(t3 t4 t5 t6 t7:Option R):∃u3 u4 u5 u6 u7,cp [R0,some (o1,.lst ((top::l).map (eV b))),some (.f,.int k),t3,t4,t5,t6,t7]=.ok (.nx [R0,some (.f,.lst ((GV top l).map (eV true))),some (.f,.int (k+1)),u3,u4,u5,u6,u7]):=by
 have hc:cU top<w:=by rw[<-ht];exact(k7 hz).1
 have Me:=xt b ht;obtain⟨more,Ij⟩:=uk hz;rw[ht]at Ij;have hml:(cU top::more).length<=w:=by
  rw[<-Ij];exact OF (O4 _ _) (Rk OE)
 rw[Ij]at Me;have Iv:=Ae b top;rw[ht]at Iv;have H0:FD ((top::l).map (eV b)) (0:Int)=some (eV b top):=gu (j:=0) rfl;have Hr:i7 ((top::l).map (eV b)) (some 1) none=l.map (eV b):=mZ ((top::l).map (eV b)) 1;generalize hQ:((top::l).map (eV b))=Q at H0 Hr ⊢;clear hQ;obtain⟨u6,u7,e⟩:=rN b hw hn ht hc Jp R0 (some (o1,.lst Q)) (some (.f,.int k)) l [] t6 t7 h (by rw[P1];lia);rw[Pw]at e;have e1:FD ((cU top::more).map fun(k:Nat)=>D.int (k:Int)) (0:Int)=some (.int (cU top:Int)):=gu (j:=0) rfl;have f1:Dc ((cU top::more).map fun(k:Nat)=>D.int (k:Int))=true:=by
  rw[bF,QA,OS];exact fun _ _=>rfl
 have z1:((cU top::more).map fun(k:Nat)=>D.int (k:Int)).length<=sizeLine:=line_le (by rw[bK];lia);unfold cp;show ∃u3 u4 u5 u6 u7,_=Res.ok (Out.nx [R0,some (.f,.lst (((l.map (D4 top (cU top))).filter nz).map (eV true))),some (.f,.int (k+1)),u3,u4,u5,u6,u7]);generalize ((l.map (D4 top (cU top))).filter nz).map (eV true)=FU at e ⊢;refine⟨some (.f,eV b top),some (.f,.int (cU top:Int)),some (.f,.lst FU),u6,u7,?_⟩;rw[au (env':=[R0,some (o1,.lst Q),some (.f,.int k),some (.f,eV b top),t4,t5,t6,t7]) (by
  generalize eV b top=EC at H0 ⊢;simp only[pv,seval,op,H0,ho])]
 have hr:=zI (w:Int) (by lia) (by lia) (aq (bA h8 (ag (ak 3) ax))) [R0,some (o1,.lst Q),some (.f,.int k),some (.f,eV b top),t4,t5,t6,t7] [R0,some (o1,.lst Q),some (.f,.int k),some (.f,eV b top),t4,t5,t6,t7] (.val (.int (w:Int))) (by
  generalize eV b top=EC at Iv ⊢;simp only[pv,seval,op,Iv]) rfl
 rw[OW]at hr;rw[au (env':=[R0,some (o1,.lst Q),some (.f,.int k),some (.f,eV b top),some (.f,.int (cU top:Int)),t5,t6,t7]) (by
  generalize bB (aq (bA h8 (ag (ak 3) ax)))=IR at hr ⊢;generalize (DF (aN DZ (aq (aJ DT (ak 1) (ak 0))) (aq (aT (.int 0)))))=BB at Me ⊢;generalize eV b top=EC at Me hr ⊢;generalize ((cU top::more).map fun(k:Nat)=>D.int (k:Int))=LC at Me e1 f1 z1 ⊢;simp only[pv,seval,op,hr,Me,e1,f1,z1])]
 rw[au (env':=[R0,some (o1,.lst Q),some (.f,.int k),some (.f,eV b top),some (.f,.int (cU top:Int)),some (.l .f,.lst []),t6,t7]) (by
  generalize eV b top=EC;simp only[pv,seval,op])]
 rw[au (env':=[R0,some (o1,.lst Q),some (.f,.int k),some (.f,eV b top),some (.f,.int (cU top:Int)),some (.l .f,.lst FU),u6,u7]) (by
  unfold fY;generalize eV b top=EC at e ⊢;generalize bN=BB at e ⊢;simp only[pv,seval,op,Hr,ho];exact e)]
 unfold ft;rw[au (env':=[R0,some (.f,.lst FU),some (.f,.int k),some (.f,eV b top),some (.f,.int (cU top:Int)),some (.f,.lst FU),u6,u7]) (by
  generalize eV b top=EC;simp only[pv,seval,op])]
 generalize eV b top=EC;simp only[pv,seval,op]
abbrev xx:FT:=DF (aN DZ (ak 1) (aq (j0 c5)))
theorem rO(b:Bool)(l:List (List Int)):DZ (.lst (l.map (eV b))) (.lst [])=.ok (.f,.bl (!l.isEmpty)):=by
 have hp:plainDs 39 (l.map (eV b))=true:=by
  induction l with
  |nil=>rfl
  |cons r l ih=>
   rw[iL,plainDs,ih,Rz];cases b with
   |true=>show plainD 39 (.lst (r.map D.int))=true;rw[plainD];exact cm _ _
   |false=>show plainD 39 (.tup (r.map D.int))=true;rw[plainD];exact cm _ _
 unfold DZ;rw[plainD,hp];cases l <;> rfl
theorem nH{w:Nat}(hw:w<=100):∀(m:Nat) (l:List (List Int)) (b:Bool) (n F:Nat) (R0:Option R) (o1:O) (k:Int) (t3 t4 t5 t6 t7:Option R),rS o1=true->(∀r∈l,r.length=w/\nz r=true/\Bg n r)->l.length<=m->m<=100->(n+1)*2 ^ m<=900000->m+1<=F->∃o2 u3 u4 u5 u6 u7,bT xx cp F [R0,some (o1,.lst (l.map (eV b))),some (.f,.int k),t3,t4,t5,t6,t7]=.ok (.nx [R0,some (o2,.lst []),some (.f,.int (k+(rk m l:Int))),u3,u4,u5,u6,u7])
 |m,[],b,n,F,R0,o1,k,t3,t4,t5,t6,t7,ho,_,_,_,_,hF=>by
  obtain⟨F,rfl⟩:∃G,F=G+1:=⟨F-1,by lia⟩
  have hn:=rO b [];have hn:DZ (.lst []) (.lst [])=.ok (.f,.bl false):=hn;have hc:xx [R0,some (o1,.lst []),some (.f,.int k),t3,t4,t5,t6,t7]=.ok (false,[R0,some (o1,.lst []),some (.f,.int k),t3,t4,t5,t6,t7]):=by
   simp only[pv,seval,op,hn,ho]
  refine⟨o1,t3,t4,t5,t6,t7,?_⟩;have Nt:rk m []=0:=by cases m <;> rfl
  rw[Pt,eW,hc,DW];dsimp only;rw[OD OB,Nt,Int.natCast_zero,PL]
 | 0,top::l,b,n,F,R0,o1,k,t3,t4,t5,t6,t7,ho,_,hlm,_,_,hF=>absurd hlm (Nat.not_succ_le_zero _)
 |m+1,top::l,b,n,F,R0,o1,k,t3,t4,t5,t6,t7,ho,h,hlm,hm,hsz,hF=>by
  rw[OA]at hlm;obtain⟨F,rfl⟩:∃G,F=G+1:=⟨F-1,by lia⟩
  have NM:0<2 ^ m:=QC m;have hsz2:(n+n+1+1)*2 ^ m<=900000:=by
   rw[Qq,<-Tt,Nat.mul_right_comm,Qo (n+1) 2]at hsz;rw[show n+n+1+1=2*(n+1) by lia];exact hsz
  have hn9:n<=900000:=by
   have:(n+1)*1<=(n+1)*2 ^ (m+1):=QY _ (QC _);lia
  obtain⟨p1,p2,p3⟩:=h top Oh;have hn:=rO b (top::l);have hn:DZ (.lst ((top::l).map (eV b))) (.lst [])=.ok (.f,.bl true):=hn;obtain⟨u3,u4,u5,u6,u7,e⟩:=xw b hw hn9 p1 p2 p3 l (fun r hr=>⟨(h r (Og _ hr)).1,(h r (Og _ hr)).2.2⟩) (by lia) R0 o1 ho k t3 t4 t5 t6 t7;obtain⟨o2,v3,v4,v5,v6,v7,e2⟩:=nH hw m (GV top l) true (n+n+1) F R0 .f (k+1) u3 u4 u5 u6 u7 rfl (fun r hr=>by
   obtain⟨g1,g2⟩:=OT.mp hr;obtain⟨s,hs,es⟩:=rX g1;have hs:=h s (Og _ hs);rw[<-es]at g2 ⊢;exact⟨by rw[rM];exact hs.1,g2,xv _ hs.2.2 p3⟩) (by have:=q0 top l;lia) (by lia) hsz2 (by lia)
  refine⟨o2,v3,v4,v5,v6,v7,?_⟩;have hc:xx [R0,some (o1,.lst ((top::l).map (eV b))),some (.f,.int k),t3,t4,t5,t6,t7]=.ok (true,[R0,some (o1,.lst ((top::l).map (eV b))),some (.f,.int k),t3,t4,t5,t6,t7]):=by
   generalize (top::l).map (eV b)=Q at hn ⊢;simp only[pv,seval,op,hn,ho]
  rw[eW,hc,DW];dsimp only;rw[Oy rfl,e,DW];dsimp only;have Nt:rk (m+1) (top::l)=rk m (GV top l)+1:=rfl;rw[e2,Nt,show k+1+(rk m (GV top l):Int)=k+((rk m (GV top l)+1:Nat):Int) by lia]
theorem vj{w n m:Nat}(hw:w<=100)(hm:m<=100){rows:List (List Int)}(h:∀r∈rows,r.length=w/\Bg n r)(hl:rows.length<=m)(hsz:(n+1)*2 ^ m<=900000):bR [.lst (rows.map eR)]=.ok (.f,.int (rk m (rows.filter nz):Int)):=by
 have KZ:cG (av 0) (DF (aN DZ (aq (cZ (D9 (g7 0) (D9 (fL (aD 0)) (fM (aD 0)))) [none] (av 0) (DF (aN DZ (ak 0) (aq (aT (.int 0))))) (aD 0))) (aq (j0 c5)))) (aD 0) (rows.map eR) [none]=.ok ((rows.filter nz).map (eV false)):=by
  refine ia (a:=av 0) (c:=(DF (aN DZ (aq (cZ (D9 (g7 0) (D9 (fL (aD 0)) (fM (aD 0)))) [none] (av 0) (DF (aN DZ (ak 0) (aq (aT (.int 0))))) (aD 0))) (aq (j0 c5))))) (f:=aD 0) (p:=nz) (r:=eV false) (e:=eR) (fun env=>∃t,env=[t]) rows ?_ [none] ⟨none,rfl⟩;rintro r hr env ⟨t,rfl⟩;have Iw:=rK r;have Ho:=rL (r.filter fun x=>!(x==0));rw[vi,Bool.not_not]at Ho;have GJ:((r.filter fun x=>!(x==0)).map D.int).length<=sizeLine:=line_le (by rw[bK];have:=O4 (fun x:Int=>!(x==0)) r;have:=(h r hr).1;lia);have K0:=C7 (r.filter fun x=>!(x==0));generalize (r.filter fun x=>!(x==0)).map D.int=ND at Iw Ho GJ K0;refine⟨[some (.f,.tup (r.map D.int))],rfl,[some (.f,.tup (r.map D.int))],?_,?_⟩
  ·generalize (DF (aN DZ (ak 0) (aq (aT (.int 0)))))=BB at Iw ⊢;generalize r.map D.int=UD at Iw ⊢;generalize nz r=bb at Ho ⊢;simp only[pv,seval,op,Iw,GJ,K0,Ho]
  ·cases hb:nz r with
   |true=>exact⟨.f,[some (.f,.tup (r.map D.int))],rfl,_,rfl⟩
   |false=>exact⟨_,rfl⟩
 obtain⟨o2,u3,u4,u5,u6,u7,e⟩:=nH hw m (rows.filter nz) false n 100000 (some (.f,.lst (rows.map eR))) (.l .f) 0 none none none none none rfl (fun r hr=>⟨(h r (OT.mp hr).1).1,(OT.mp hr).2,(h r (OT.mp hr).1).2⟩) (OF (O4 _ _) hl) hm hsz (by lia);rw[SN]at e;have hz:((rows.filter nz).map (eV false)).length<=sizeLine:=line_le (by rw[bK];have:=O4 nz rows;lia);have KH:Dc ((rows.filter nz).map (eV false))=true:=by
  rw[bF,QA,OS];exact fun r _=>dZ r
 unfold bR iG;rw[ck (h:=by rfl)];generalize rows.map eR=RR at KZ e ⊢;generalize (DF (aN DZ (aq (cZ (D9 (g7 0) (D9 (fL (aD 0)) (fM (aD 0)))) [none] (av 0) (DF (aN DZ (ak 0) (aq (aT (.int 0))))) (aD 0))) (aq (j0 c5))))=CC at KZ ⊢;generalize (rows.filter nz).map (eV false)=LV at KZ e hz KH;rw[au (env':=[some (.f,.lst RR),some (.l .f,.lst LV),none,none,none,none,none,none]) (by
  simp only[pv,seval,op,KZ,hz,KH])]
 rw[au (env':=[some (.f,.lst RR),some (.l .f,.lst LV),some (.f,.int 0),none,none,none,none,none]) (by
  simp only[pv,seval,op])]
 rw[au (env':=_) (by
  unfold fZ;exact e)]
 unfold fu;simp only[pv,seval,op]
theorem xy(x:Int):bg [.int x]=.ok (.f,.bl true):=by
 have h1:pV "int" (.int x)=true:=rfl;have h2:pV "bool" (.int x)=false:=rfl;unfold bg gW;rw[ck (h:=by rfl)];simp only[pv,seval,op,h1,h2,Bool.not_false]
theorem oD(l:List Int):cG (av 0) gP (g0 bg (ag (ak 0) ax)) (l.map D.int) [none]=.ok ((l.map fun _=>true).map D.bl):=by
 rw[eX (r:=fun _:Int=>D.bl true) (fun env=>∃t,env=[t]) l ?_ _ ⟨none,rfl⟩]
 ·rw[Pd];rfl
 ·rintro x _ env ⟨t,rfl⟩;have h:=xy x;exact⟨[some (.f,.int x)],rfl,.f,[some (.f,.int x)],by simp only[pv,seval,op,h],_,rfl⟩
theorem Af(l:List Int):ou (.bl false) (.lst ((l.map fun _=>true).map D.bl))=.ok (.f,.bl true):=by
 have hp:plainDs 40 ((l.map fun _=>true).map D.bl)=true:=by
  induction l with
  |nil=>rfl
  |cons a l ih=>rw[iL,iL,plainDs,ih];rfl
 have e1:rT (.bl false) ((l.map fun _=>true).map D.bl)=false:=by
  unfold rT;rw[Rl,Rl,Rg];intro x _;exact OB
 show yV (.bl false) (.lst ((l.map fun _=>true).map D.bl))=_;unfold yV Jz;dsimp only;rw[hp,show plainD 40 (.bl false)=true from rfl,Pe,Oy rfl,e1];rfl
theorem Ag(l:List Int)(h:l.length<=1000):((l.map fun _=>true).map D.bl).length<=sizeLine:=line_le (by rw[bK,bK];lia)
theorem F5(l:List Int):Dc ((l.map fun _=>true).map D.bl)=true:=by
 rw[bF,QA,OS];exact fun _ _=>rfl
theorem um{r:List Int}{w:Nat}(h:r.length=w)(hw:w<=1000):bH [eR r,.int (w:Int)]=.ok (.f,.bl true):=by
 have h1:pV "tuple" (.tup (r.map D.int))=true:=rfl;have hc:=oD r;have hn:=Af r;have hz:=Ag r (by lia);have hf:=F5 r;have hq:((w:Int)==(w:Int))=true:=OZ _;unfold bH fX;rw[ck (h:=by rfl)];unfold eR;rw[au (env':=[some (.f,.tup (r.map D.int)),some (.f,.int (w:Int))]) (by
  simp only[pv,seval,op,h1,bK,h,hq,Q8,l7])]
 generalize (g0 bg (ag (ak 0) ax))=FW at hc ⊢;generalize ((r.map fun _=>true).map D.bl)=BL at hc hn hz hf;simp only[pv,seval,op,hc,hn,hz,hf]
theorem rep_int(n:Nat):(List.replicate n [D.int 0]).flatten=(List.replicate n (0:Int)).map D.int:=by
 induction n with
 |zero=>rfl
 |succ n ih=>rw[Po,PX,ih,Po];rfl
theorem BF(n:Nat)(h:n<1000):tq (.tup [.int 0]) (.int (n:Int))=.ok (.f,.tup ((List.replicate n (0:Int)).map D.int)):=by
 rw[uQ,Oy ⟨by simp,by show 1<=10;decide,by lia,by lia⟩,OW,rep_int]
theorem Ah(d:List Int)(m:Int)(h:0<m):0<=dr d m/\dr d m<m:=by
 unfold dr;split
 ·exact oz _ _ h
 ·exact⟨Int.le_refl _,h⟩
theorem xA(w:Nat):(List.replicate w (0:Int)).length=w:=Ss
theorem Ai{w k:Nat}(hw:w<=6)(hk:k<=7){rows:List (List Int)}(hl:rows.length=k)(hr:∀r∈rows,r.length=w/\Bg (100+2*k) r)(d:List Int)(t4 t5:Option R):∃(d':List Int) (r:List Int) (u5:Option R),r.length=w/\Bg (100+2*(k+1)) r/\∀p,bO [some (.pin p (.l .f),.lst (d.map D.int)),some (.f,.int (w:Int)),some (.l .f,.lst (rows.map eR)),some (.f,.int (k:Int)),t4,t5]=.ok (.nx [some (.pin p (.l .f),.lst (d'.map D.int)),some (.f,.int (w:Int)),some (.l .f,.lst ((rows++[r]).map eR)),some (.f,.int (k:Int)),some (.f,eR r),u5]):=by
 have c1:=Bx d w (by lia);have N8:=qS w d;have Jn:Bg (100+2*(k+1)) (Hf w d):=by
  have h100:Bg 100 (Hf w d):=fun x hx=>PK (Bv w d x hx) (by decide +kernel)
  exact h100.mono (by lia)
 have c1:g9 bG (.l .f) (.lst (d.map D.int)) [.int (w:Int)]=.ok ((.f,eR (Hf w d)),.lst ((it List.dropLast w d).map D.int)):=c1;generalize it List.dropLast w d=d1 at c1;generalize Hf w d=r0 at c1 N8 Jn;have f0:=dZ r0;have c2:=ji d1 6 (by decide);have b2:=Ah d1 6 (by decide);generalize dr d1 6=way at c2 b2;generalize d1.dropLast=d2 at c2;have JM:(rows.map eR).length<sizeLine:=oA (by rw[bK];lia);have Mf:=jV rows;have e1:∀p,cy 4 (eFunW (.l .f) bG 0 (ag (ak 0) (ag (ak 1) ax))) [some (.pin p (.l .f),.lst (d.map D.int)),some (.f,.int (w:Int)),some (.l .f,.lst (rows.map eR)),some (.f,.int (k:Int)),t4,t5]=.ok (.nx [some (.pin p (.l .f),.lst (d1.map D.int)),some (.f,.int (w:Int)),some (.l .f,.lst (rows.map eR)),some (.f,.int (k:Int)),some (.f,eR r0),t5]):=fun p=>by
  generalize eR r0=E0 at c1 f0 ⊢;generalize rows.map eR=RR;simp only[pv,seval,op,c1,f0,cR,gf,gd,bL,Dy,Dz,cQ,cq,cu,C7,Pe,Qk,Qg]
 have e2:∀p,cy 5 (eFunW (.l .f) aB 0 (ag (ak 0) (ag (aq (aT (.int 6))) ax))) [some (.pin p (.l .f),.lst (d1.map D.int)),some (.f,.int (w:Int)),some (.l .f,.lst (rows.map eR)),some (.f,.int (k:Int)),some (.f,eR r0),t5]=.ok (.nx [some (.pin p (.l .f),.lst (d2.map D.int)),some (.f,.int (w:Int)),some (.l .f,.lst (rows.map eR)),some (.f,.int (k:Int)),some (.f,eR r0),some (.f,.int way)]):=fun p=>by
  generalize eR r0=E0;generalize rows.map eR=RR;simp only[pv,seval,op,c2,cR,gf,gd,bL,Dy,Dz,cQ,cq,cu,C7,Pe,Qk,Qg]
 have e3:∃(d':List Int) (r:List Int),r.length=w/\Bg (100+2*(k+1)) r/\∀p,Ga (An (DF (aN FR (ak 5) (aq (aT (.int 0))))) (DF (aJ KS (ak 3) (aq (aT (.int 1))))))
  (cy 4 (g0 bU (ag (aq (xC (ak 2) (oi (aJ lj (ak 3) (aq (aT (.int 2))))) oh)) (ag (aq (j0 (cI (aJ lj (aq (eFunW (.l .f) aB 0 (ag (ak 0) (ag (aq (aT (.int 5))) ax)))) (aq (aT (.int 2)))) (cI (aJ lj (aq (eFunW (.l .f) aB 0 (ag (ak 0) (ag (aq (aT (.int 5))) ax)))) (aq (aT (.int 2)))) c5)))) (ag (ak 1) ax)))))
  d7 [some (.pin p (.l .f),.lst (d2.map D.int)),some (.f,.int (w:Int)),some (.l .f,.lst (rows.map eR)),some (.f,.int (k:Int)),some (.f,eR r0),some (.f,.int way)]=.ok (.nx [some (.pin p (.l .f),.lst (d'.map D.int)),some (.f,.int (w:Int)),some (.l .f,.lst (rows.map eR)),some (.f,.int (k:Int)),some (.f,eR r),some (.f,.int way)]):=by
  by_cases h0:way=0/\1<k
  ·obtain⟨hy,KR⟩:=h0;have Mg:(way==0)=true:=OO.mpr hy;have hd2:decide ((1:Int)<(k:Int))=true:=O9 (by lia);have c3:=ji d2 5 (by decide);have c4:=ji d2.dropLast 5 (by decide);have b3:=Ah d2 5 (by decide);have b4:=Ah d2.dropLast 5 (by decide);generalize dr d2 5=x at c3 b3;generalize dr d2.dropLast 5=y at c4 b4;have Hr:i7 (rows.map eR) (some ((k:Int)-2)) none=(rows.drop (k-2)).map eR:=by
    rw[qP,show(k:Int)-2=((k-2:Nat):Int) by lia,mZ]
   have N9:(rows.drop (k-2)).length=2:=by rw[QM];lia
   have Nu:Rows (100+2*k) w (rows.drop (k-2)):=fun r h=>hr r (List.mem_of_mem_drop h)
   have hs:=zN (n:=100+2*k) (m:=2) (by lia) (by decide) w (by lia) (rows.drop (k-2)) [x-2,y-2] Nu (fun z hz=>by
    rcases Ov.mp hz with rfl|hz
    ·show _<4;lia
    ·rw[uR hz];show _<4;lia) (by lia) N9
   have hs:bU [.lst ((rows.drop (k-2)).map eR),.lst [.int (x-2),.int (y-2)],.int (w:Int)]=.ok (.f,eR ((List.range w).map (co (rows.drop (k-2)) [x-2,y-2] (rows.drop (k-2)).length))):=hs;refine⟨d2.dropLast.dropLast,(List.range w).map (co (rows.drop (k-2)) [x-2,y-2] (rows.drop (k-2)).length),by rw[bK,OE],fun z hz=>?_,fun p=>?_⟩
   ·obtain⟨q,_,ez⟩:=rX hz;obtain⟨r1,r2,er⟩:∃r1 r2,rows.drop (k-2)=[r1,r2]:=by
     match hq:rows.drop (k-2),N9 with
     |[r1,r2],_=>exact⟨r1,r2,rfl⟩
    have ME:=(Nu r1 (by rw[er];exact Oh)).2.at q;have NS:=(Nu r2 (by rw[er];exact Og _ Oh)).2.at q;rw[er]at ez;have ec:co [r1,r2] [x-2,y-2] [r1,r2].length q=r1.getD q 0*(x-2)+r2.getD q 0*(y-2):=by
     unfold co;show r1.getD q 0*(x-2)+(r2.getD q 0*(y-2)+0)=_;rw[PL]
    rw[ec]at ez;rw[<-ez];have m1:(r1.getD q 0*(x-2)).natAbs<=(r1.getD q 0).natAbs*2:=by
     rw[PF];exact QY _ (by lia)
    have m2:(r2.getD q 0*(y-2)).natAbs<=(r2.getD q 0).natAbs*2:=by
     rw[PF];exact QY _ (by lia)
    have m3:=RW (r1.getD q 0*(x-2)) (r2.getD q 0*(y-2));rw[show 100+2*(k+1)=100+2*k+2 by lia,Nat.pow_add];show _<2 ^ (100+2*k)*4;lia
   ·have fl:=dZ ((List.range w).map (co (rows.drop (k-2)) [x-2,y-2] (rows.drop (k-2)).length));have Oa:=jV (rows.drop (k-2));generalize eR ((List.range w).map (co (rows.drop (k-2)) [x-2,y-2] (rows.drop (k-2)).length))=ES at hs fl ⊢;generalize (rows.drop (k-2)).map eR=DR at Hr hs Oa;generalize rows.map eR=RR at Hr Mf ⊢;generalize eR r0=E0;simp only[pv,seval,op,Mg,hd2,Hr,c3,c4,hs,fl,Oa,Mf,cR,gf,gd,bL,Dy,Dz,cQ,cq,cu,C7,Pe,Qk,Qg]
  ·refine⟨d2,r0,N8,Jn,fun p=>?_⟩;generalize rows.map eR=RR;generalize eR r0=E0;by_cases hy:way=0
   ·have Mg:(way==0)=true:=OO.mpr hy;have hd2:decide ((1:Int)<(k:Int))=false:=O0 (by lia);simp only[pv,seval,op,Mg,hd2,l7]
   ·have Mg:(way==0)=false:=OQ.mpr hy;simp only[pv,seval,op,Mg,l7]
 obtain⟨d3,r3,h3l,h3b,e3⟩:=e3;have e4:∃r:List Int,r.length=w/\Bg (100+2*(k+1)) r/\∀p,Ga (DF (aN FR (ak 5) (aq (aT (.int 1))))) (cy 4 (aJ tq (aq (yP (cI (aT (.int 0)) c5))) (ak 1))) d7 [some (.pin p (.l .f),.lst (d3.map D.int)),some (.f,.int (w:Int)),some (.l .f,.lst (rows.map eR)),some (.f,.int (k:Int)),some (.f,eR r3),some (.f,.int way)]=.ok (.nx [some (.pin p (.l .f),.lst (d3.map D.int)),some (.f,.int (w:Int)),some (.l .f,.lst (rows.map eR)),some (.f,.int (k:Int)),some (.f,eR r),some (.f,.int way)]):=by
  by_cases hy:way=1
  ·have hd:(way==1)=true:=OO.mpr hy;have hm:=BF w (by lia);have hm:tq (.tup [.int 0]) (.int (w:Int))=.ok (.f,eR (List.replicate w 0)):=hm;have fl:=dZ (List.replicate w 0);refine⟨List.replicate w 0,xA w,fun x hx=>by rw[RY hx];exact QC _,fun p=>?_⟩;generalize eR (List.replicate w 0)=EZ at hm fl ⊢;generalize rows.map eR=RR;generalize eR r3=E3;simp only[pv,seval,op,hd,hm,fl]
  ·have hd:(way==1)=false:=OQ.mpr hy;refine⟨r3,h3l,h3b,fun p=>?_⟩;generalize rows.map eR=RR;generalize eR r3=E3;simp only[pv,seval,op,hd,l7]
 obtain⟨r,hrl2,hrb2,e4⟩:=e4;refine⟨d3,r,some (.f,.int way),hrl2,hrb2,fun p=>?_⟩;unfold bO;rw[au (e1 p),au (e2 p),au (e3 p),au (e4 p)];have ea:(rows++[r]).map eR=rows.map eR++[eR r]:=by rw[O6];rfl
 rw[ea];generalize rows.map eR=RR at JM ⊢;generalize eR r=ER;simp only[pv,seval,op,JM]
theorem Aj{w:Nat}(hw:w<=6)(d:List Int):∃(rows:List (List Int)) (d':List Int),rows.length<=7/\(∀r∈rows,r.length=w/\Bg 115 r)/\g9 cj (.l .f) (.lst (d.map D.int)) [.int (w:Int)]=.ok ((.f,.lst (rows.map eR)),.lst (d'.map D.int)):=by
 have c1:=ji d 8 (by decide);have b1:=Ah d 8 (by decide);obtain⟨n,hn⟩:=R8 b1.1;rw[hn]at b1 c1;obtain⟨E',hf,rows,d',t3,t4,t5,hl,hr,hE⟩:=tU (a:=av 3) (g:=bO) (e:=fun(k:Nat)=>D.int (k:Int)) n (fun k E=>∃(rows:List (List Int)) (d:List Int) (t3 t4 t5:Option R),rows.length=k/\(∀r∈rows,r.length=w/\Bg (100+2*k) r)/\E=fun p=>[some (.pin p (.l .f),.lst (d.map D.int)),some (.f,.int (w:Int)),some (.l .f,.lst (rows.map eR)),t3,t4,t5]) (by
  rintro k E hk ⟨rows,d,t3,t4,t5,hl,hr,rfl⟩;obtain⟨d',r,u5,g1,g2,e⟩:=Ai hw (by lia) hl hr d t4 t5;refine⟨fun p=>[some (.pin p (.l .f),.lst (d.map D.int)),some (.f,.int (w:Int)),some (.l .f,.lst (rows.map eR)),some (.f,.int (k:Int)),t4,t5],fun p=>rfl,fun p=>[some (.pin p (.l .f),.lst (d'.map D.int)),some (.f,.int (w:Int)),some (.l .f,.lst ((rows++[r]).map eR)),some (.f,.int (k:Int)),some (.f,eR r),u5],e,rows++[r],d',_,_,_,by rw[zH,hl];rfl,fun s hs=>?_,rfl⟩;rcases zy hs with h|h
  ·exact⟨(hr s h).1,(hr s h).2.mono (by lia)⟩
  ·rw[uR h];exact⟨g1,g2⟩) (fun p=>[some (.pin p (.l .f),.lst (d.dropLast.map D.int)),some (.f,.int (w:Int)),some (.l .f,.lst (([]:List (List Int)).map eR)),none,none,none]) ⟨[],d.dropLast,none,none,none,rfl,(fun _ h=>nomatch h),rfl⟩
 subst hE;refine⟨rows,d',by lia,fun r h=>⟨(hr r h).1,(hr r h).2.mono (by lia)⟩,eT (r:=(.f,.lst (rows.map eR))) fun p=>?_⟩;have Ob:=hf p;unfold cj iH;rw[eY (h:=by rfl)];simp only[iL,Pt,List.replicate,QN,Pw];rw[au (env':=[some (.pin p (.l .f),.lst (d.map D.int)),some (.f,.int (w:Int)),some (.l .f,.lst []),none,none,none]) (by simp only[pv,seval,op])];rw[au (env':=[some (.pin p (.l .f),.lst (d'.map D.int)),some (.f,.int (w:Int)),some (.l .f,.lst (rows.map eR)),t3,t4,t5]) (by
  unfold f6;generalize bO=BB at Ob ⊢;have Nh:-4611686018427387904<=(n:Int)/\(n:Int)<4611686018427387904:=by lia
  simp only[pv,seval,op,c1,cR,gf,gd,bL,Dy,Dz,cQ,cq,cu,C7,Pe,Qk,Qg,Nh,OW,and_self];exact Ob)]
 unfold fw;generalize rows.map eR=RR;simp only[pv,seval,op,bL]
theorem Ak{a b:List Int}(h:a.length=b.length):dot a b=sg a.length fun k=>a.getD k 0*b.getD k 0:=by
 have key:∀n,n<=a.length->(((a.zip b).map fun z=>z.1*z.2).take n).sum=sg n fun k=>a.getD k 0*b.getD k 0:=fun n=>by
  induction n with
  |zero=>intro _;rfl
  |succ n ih=>
   intro hn;rw[m6 a b n (by lia) (by lia),ih (by lia)];rfl
 have:=key a.length (Oq _);rw[Pk (by rw[bK,Qc];lia)]at this;exact this
theorem Al{w:Nat}{L:Dq}(H:KOk w L)(c:Nat):Bg 5041 (kr L c w):=fun x hx=>by
 obtain⟨g,g1,g2⟩:=zS L c w;obtain⟨k,hk,e⟩:=PZ hx;have h:=g2 k;rw[dO _ _ _ hk,e]at h;have hb:=(ml H c L.length (Oq _)).at k;rw[<-h,PF,Pc]at hb;refine PK ?_ hb;exact So _ (Nat.pos_of_ne_zero g1)
theorem oE(n:Nat)(rows:List (List Int)):plainDs (n+1) (rows.map eR)=true:=by
 induction rows with
 |nil=>rfl
 |cons r rows ih=>rw[iL,plainDs,ih];show(plainD (n+1) (.tup _)&&true)=true;rw[plainD,cm];rfl
theorem rQ(rows:List (List Int)):FR (.lst (rows.map eR)) (.lst (rows.map eR))=.ok (.f,.bl true):=qO _ (by rw[plainD];exact oE _ _)
section
variable{w:Nat}{rows:List (List Int)}{L:Dq}
theorem rR(S0:D)(DD:List D)(hw:w<=6){x:List Int}(hx:x.length=w)(MB:Bg 5041 x)(T5:Addr->Option R):∀(l:List (List Int)) (t7:Option R),(∀r∈l,r.length=w/\Bg 115 r/\sg w (fun k=>r.getD k 0*x.getD k 0)=0)->∃u7,∀p,cY (av 7) f7 (l.map eR) [some (.f,S0),some (.l .f,.lst DD),some (.f,.int (w:Int)),some (.f,.lst (rows.map eR)),some (.l .f,.lst (rows.map eR)),T5 p,some (.f,eR x),t7,none]=.ok (.nx [some (.f,S0),some (.l .f,.lst DD),some (.f,.int (w:Int)),some (.f,.lst (rows.map eR)),some (.l .f,.lst (rows.map eR)),T5 p,some (.f,eR x),u7,none])
 |[],t7,_=>⟨t7,fun _=>rfl⟩
 |r::l,t7,h=>by
  obtain⟨u7,e⟩:=rR S0 DD hw hx MB T5 l (some (.f,eR r)) fun s hs=>h s (Og _ hs)
  refine⟨u7,fun p=>?_⟩;obtain⟨h1,h2,h3⟩:=h r Oh;have hp:=oB (n:=115) (m:=5041) (by decide) (by decide) r x h2 MB (by lia) (by lia);rw[Ak (by lia),h1,h3]at hp;have ha:av 7 (eR r) [some (.f,S0),some (.l .f,.lst DD),some (.f,.int (w:Int)),some (.f,.lst (rows.map eR)),some (.l .f,.lst (rows.map eR)),T5 p,some (.f,eR x),t7,none]=.ok [some (.f,S0),some (.l .f,.lst DD),some (.f,.int (w:Int)),some (.f,.lst (rows.map eR)),some (.l .f,.lst (rows.map eR)),T5 p,some (.f,eR x),some (.f,eR r),none]:=rfl;have hb:f7 [some (.f,S0),some (.l .f,.lst DD),some (.f,.int (w:Int)),some (.f,.lst (rows.map eR)),some (.l .f,.lst (rows.map eR)),T5 p,some (.f,eR x),some (.f,eR r),none]=.ok (.nx [some (.f,S0),some (.l .f,.lst DD),some (.f,.int (w:Int)),some (.f,.lst (rows.map eR)),some (.l .f,.lst (rows.map eR)),T5 p,some (.f,eR x),some (.f,eR r),none]):=by
   unfold f7;have e0:((0:Int)==0)=true:=rfl;generalize eR r=ER at hp ⊢;generalize eR x=EX at hp ⊢;generalize rows.map eR=RR;generalize T5 p=TP;simp only[pv,seval,op,hp,e0,Q8,l7]
  rw[iL,fH,ha,DW,hb,DW];exact e p
theorem nJ(S0:D)(DD:List D)(hw:w<=6)(hr:∀r∈rows,r.length=w/\Bg 115 r)(TT:List D):∀(l:List (List Int)) (t6 t7:Option R),(∀x∈l,x.length=w/\Bg 5041 x/\∀r∈rows,sg w (fun k=>r.getD k 0*x.getD k 0)=0)->∃u6 u7,∀p,lr (av 6) jK 5 p TT (l.map eR) [some (.f,S0),some (.l .f,.lst DD),some (.f,.int (w:Int)),some (.f,.lst (rows.map eR)),some (.l .f,.lst (rows.map eR)),some (.pin p (.l .f),.lst TT),t6,t7,none]=.ok (.nx [some (.f,S0),some (.l .f,.lst DD),some (.f,.int (w:Int)),some (.f,.lst (rows.map eR)),some (.l .f,.lst (rows.map eR)),some (.pin p (.l .f),.lst TT),u6,u7,none])
 |[],t6,t7,_=>⟨t6,t7,fun _=>rfl⟩
 |x::l,t6,t7,h=>by
  obtain⟨h1,h2,h3⟩:=h x Oh;obtain⟨v7,e1⟩:=rR (rows:=rows) S0 DD hw h1 h2 (fun p=>some (.pin p (.l .f),.lst TT)) rows t7 fun r h=>⟨(hr r h).1,(hr r h).2,h3 r h⟩
  obtain⟨u6,u7,e2⟩:=nJ S0 DD hw hr TT l (some (.f,eR x)) v7 fun y hy=>h y (Og _ hy)
  refine⟨u6,u7,fun p=>?_⟩;have Oc:=um h1 (by lia);rw[iL];refine(qC (e1:=[some (.f,S0),some (.l .f,.lst DD),some (.f,.int (w:Int)),some (.f,.lst (rows.map eR)),some (.l .f,.lst (rows.map eR)),some (.pin p (.l .f),.lst TT),some (.f,eR x),t7,none]) (e:=[some (.f,S0),some (.l .f,.lst DD),some (.f,.int (w:Int)),some (.f,.lst (rows.map eR)),some (.l .f,.lst (rows.map eR)),some (.pin p (.l .f),.lst TT),some (.f,eR x),v7,none]) rfl ?_ rfl).trans (e2 p);unfold jK;rw[au (env':=[some (.f,S0),some (.l .f,.lst DD),some (.f,.int (w:Int)),some (.f,.lst (rows.map eR)),some (.l .f,.lst (rows.map eR)),some (.pin p (.l .f),.lst TT),some (.f,eR x),t7,none]) (by
   generalize eR x=EX at Oc ⊢;generalize rows.map eR=RR;simp only[pv,seval,op,Oc,Q8,l7])]
  have e1:=e1 p;unfold qD;generalize eR x=EX at e1 ⊢;generalize rows.map eR=RR at e1 ⊢;generalize f7=GG at e1 ⊢;simp only[pv,seval,op];exact e1
end
theorem law_plain(ns:List Int)(h:ns.length<=63):∃o,m_law [.lst (ns.map D.int)]=.ok (o,.bl true):=by
 obtain⟨d0,_,e0⟩:=qR ns h;generalize hS:(.lst (ns.map D.int):D)=S0 at e0;unfold m_law zf;rw[ck (h:=by rfl)];rw[au (env':=[some (.f,S0),some (.l .f,.lst (d0.map D.int)),none,none,none,none,none,none,none]) (by simp only[pv,seval,op,e0,cR,gf,gd,bL,Dy,Dz,cQ,cq,cu,C7,Pe,Qk,Qg])];have b1:=Ah d0 7 (by decide);have c1:=ji d0 7 (by decide);obtain⟨w,hw⟩:=R8 b1.1;rw[hw]at b1 c1;generalize d0.dropLast=d1 at c1;rw[au (env':=[some (.f,S0),some (.l .f,.lst (d1.map D.int)),some (.f,.int (w:Int)),none,none,none,none,none,none]) (by simp only[pv,seval,op,c1,cR,gf,gd,bL,Dy,Dz,cQ,cq,cu,C7,Pe,Qk,Qg])];have K1:w<=6:=by lia
 obtain⟨rows,d2,hl,hr,c2⟩:=Aj K1 d1;have fl:d4 (.lst (rows.map eR))=false:=rfl;rw[au (env':=[some (.f,S0),some (.l .f,.lst (d2.map D.int)),some (.f,.int (w:Int)),some (.f,.lst (rows.map eR)),none,none,none,none,none]) (by
  generalize rows.map eR=RR at c2 fl ⊢;simp only[pv,seval,op,c2,fl,cR,gf,gd,bL,Dy,Dz,cQ,cq,cu,C7,Pe,Qk,Qg,iL,Pt,CI,CJ,Bool.false_and,l7,SQ])]
 generalize d2.map D.int=DD;rw[au (env':=[some (.f,S0),some (.l .f,.lst DD),some (.f,.int (w:Int)),some (.f,.lst (rows.map eR)),some (.l .f,.lst (rows.map eR)),none,none,none,none]) (by
  have fr:=jV rows;generalize rows.map eR=RR at fr ⊢;simp only[pv,seval,op,fr])]
 obtain⟨L,H,hld⟩:=rH K1 hr;obtain⟨l1,l2⟩:=mj K1 hr H;have KO:KOk w L:=⟨H.red,l2,by lia,K1⟩
 have hk:=uh (rows:=rows) KO hld;have MG:=nG L w;have Nv:∀x∈cC L w,x.length=w/\Bg 5041 x/\∀r∈rows,sg w (fun k=>r.getD k 0*x.getD k 0)=0:=fun x hx=>by
  obtain⟨c,hc,e⟩:=rX hx;obtain⟨hc1,G0⟩:=OT.mp hc;rw[<-e];rw[RX]at G0;exact⟨u0 L c w,Al KO c,fun r hrr=>zT H (PD.mp hc1) G0 hrr⟩
 obtain⟨q1,q2⟩:=rq H (fun r h=>(hr r h).1) (n:=7) (m:=6) hl K1;have Nw:=vj (w:=w) (n:=115) (m:=7) (by lia) (by decide) hr hl (by decide);have Mh:=vj (w:=w) (n:=5041) (m:=6) (by lia) (by decide) (rows:=cC L w) (fun x hx=>⟨(Nv x hx).1,(Nv x hx).2.1⟩) (by lia) (by decide);rw[q2]at Mh;have hlen:h8 [.lst ((cC L w).map eR)]=.ok (.f,.int ((cC L w).length:Int)):=by
  show Res.ok (O.f,D.int ((((cC L w).map eR).length:Nat):Int))=_;rw[bK]
 have JB:=rJ (cC L w);rw[au (env':=[some (.f,S0),some (.l .f,.lst DD),some (.f,.int (w:Int)),some (.f,.lst (rows.map eR)),some (.l .f,.lst (rows.map eR)),some (.l .f,.lst ((cC L w).map eR)),none,none,none]) (by
  generalize (cC L w).map eR=KK at hk JB ⊢;generalize rows.map eR=RR at hk ⊢;simp only[pv,seval,op,hk,JB])]
 rw[au (env':=[some (.f,S0),some (.l .f,.lst DD),some (.f,.int (w:Int)),some (.f,.lst (rows.map eR)),some (.l .f,.lst (rows.map eR)),some (.l .f,.lst ((cC L w).map eR)),none,none,none]) (by
  have hi:pV "list" (.lst ((cC L w).map eR))=true:=rfl;have hq:(((cC L w).length:Int)==(w:Int)-(rk 7 (rows.filter nz):Int))=true:=OO.mpr (by lia);generalize ((cC L w).length:Int)=kl at hlen hq;generalize (rk 7 (rows.filter nz):Int)=rr at Nw hq;generalize (cC L w).map eR=KK at hi hlen ⊢;generalize rows.map eR=RR at Nw ⊢;generalize hX:(.lst KK:D)=XK at hi hlen ⊢;simp only[pv,seval,op,hi,hlen,Nw,hq,Q8,l7])]
 obtain⟨u6,u7,e2⟩:=nJ S0 DD K1 hr ((cC L w).map eR) (cC L w) none none Nv;rw[au (env':=[some (.f,S0),some (.l .f,.lst DD),some (.f,.int (w:Int)),some (.f,.lst (rows.map eR)),some (.l .f,.lst (rows.map eR)),some (.l .f,.lst ((cC L w).map eR)),u6,u7,none]) (by
  unfold qE;exact wO rfl fun p=>⟨_,e2 p,rfl⟩)]
 unfold mX;rw[au (env':=[some (.f,S0),some (.l .f,.lst DD),some (.f,.int (w:Int)),some (.f,.lst (rows.map eR)),some (.l .f,.lst (rows.map eR)),some (.l .f,.lst ((cC L w).map eR)),u6,u7,none]) (by
  have hq:(((cC L w).length:Int)==((cC L w).length:Int))=true:=OZ _;generalize ((cC L w).length:Int)=kl at hlen hq Mh;generalize (cC L w).map eR=KK at hlen Mh ⊢;generalize rows.map eR=RR;generalize hX:(.lst KK:D)=XK at hlen Mh ⊢;simp only[pv,seval,op,hlen,Mh,hq,Q8,l7])]
 rw[au (env':=[some (.f,S0),some (.l .f,.lst DD),some (.f,.int (w:Int)),some (.f,.lst (rows.map eR)),some (.l .f,.lst (rows.map eR)),some (.l .f,.lst ((cC L w).map eR)),u6,u7,some (.l .f,.lst ((cC L w).map eR))]) (by
  generalize (cC L w).map eR=KK at JB ⊢;generalize rows.map eR=RR;simp only[pv,seval,op,JB])]
 obtain⟨ONE,hm1,hf1⟩:∃T,tq (.tup [.int 1]) (.int (w:Int))=.ok (.f,T)/\d4 T=true:=by
  refine⟨_,by rw[uQ,Oy ⟨by simp,by show 1<=10;decide,by lia,by lia⟩],?_⟩;rw[jU,bF,OS];intro z hz;obtain⟨y,hy,GJ⟩:=List.mem_flatten.mp hz;rw[RY hy]at GJ;rw[uR GJ];rfl
 have hsz:((cC L w).map eR).length<sizeLine:=oA (by rw[bK];lia);rw[au (env':=[some (.f,S0),some (.l .f,.lst DD),some (.f,.int (w:Int)),some (.f,.lst (rows.map eR)),some (.l .f,.lst (rows.map eR)),some (.l .f,.lst ((cC L w).map eR++[ONE])),u6,u7,some (.l .f,.lst ((cC L w).map eR))]) (by
  generalize (cC L w).map eR=KK at hsz ⊢;generalize rows.map eR=RR;simp only[pv,seval,op,hm1,hf1,hsz])]
 have q3:=rQ rows;have q4:=rQ (cC L w);generalize (cC L w).map eR=KK at hk JB q4 ⊢;generalize rows.map eR=RR at hk q3 ⊢;refine⟨.f,?_⟩;simp only[pv,seval,op,hk,JB,q3,q4]
end LW
namespace FIN
open PySem PySem.Spec PyProof.Rows L2 NX PV LW
theorem Am{l:PySem.W.OpenLaw}{w:World}{K:W.Frag}{h:Heap}{mg:Str->Option Value}{fa f:Addr}{od an:Option Addr}{sl:Array (Option Value)}{oc kV dc pm cd ct:Value}(X:K.In h)(G:h.Ns mainGlobals mg)(hfa:mg "law" = some (.ref fa))
  (aL:PySem.W.nsIn K mainGlobals "law" = some (some (.ref f))) (lL:K.lookup f=some ⟨oc,od,.func (PySem.W.fnOf "law" "law" (dw jS) (b8 jS) (defScope jS) .none kV dc pm an cd ct),sl⟩) (cL:PySem.W.codeIn K cd "law" = true) (kL:PySem.W.keepIn K (.ref f)=true)
  (Gu:Def K mg "summed" jL) (DX:Def K mg "common_divisor" cA) (Gv:Def K mg "lowest" jM) (FK:Def K mg "cleared" iI) (Eo:Def K mg "with_leader" dJ) (EF:Def K mg "leaders_of" eG) (EG:Def K mg "kernel_row" eI) (Gw:Def K mg "kernel" jP) (Ef:Def K mg "_law_numbers" dg) (EO:Def K mg "_law_draw" fE) (Ep:Def K mg "_law_number" dM) (Fl:Def K mg "_law_row" gE) (Eg:Def K mg "_law_product" dh) (Fn:Def K mg "_law_sum" gF) (EH:Def K mg "_law_whole" eJ) (Er:Def K mg "_law_is_row" dN) (ET:Def K mg "_law_rank" fF) (EU:Def K mg "_law_rows" fG)
  (FH:PySem.W.nsIn K mainGlobals "abs" = some none) (F1:PySem.W.nsIn K mainGlobals "bool" = some none) (DU:PySem.W.nsIn K mainGlobals "enumerate" = some none) (Hd:PySem.W.nsIn K mainGlobals "int" = some none) (Di:PySem.W.nsIn K mainGlobals "isinstance" = some none) (DE:PySem.W.nsIn K mainGlobals "len" = some none) (Ec:PySem.W.nsIn K mainGlobals "list" = some none) (Dm:PySem.W.nsIn K mainGlobals "range" = some none) (D3:PySem.W.nsIn K mainGlobals "reversed" = some none) (FE:PySem.W.nsIn K mainGlobals "sum" = some none) (Du:PySem.W.nsIn K mainGlobals "tuple" = some none) (FF:PySem.W.nsIn K mainGlobals "zip" = some none):
  ∃fd:FuncData,(∀(s:Shared) (v:Value),BindsTo s fd ⟨[v],[]⟩ [("_law_script",v)])/\∀base:Heap,K.In base->base.Ns mainGlobals mg->FnOk l.prog w K mg base Ht 6 fa fd ["_law_script"] (sV K):=by
 have e:=hfa.symm.trans (PySem.W.mg_of X G aL);cases e;have F:=uu (st:=jS) lL cL kL;have JN:=O5 X G FH;have y_bool:=O5 X G F1;have Gx:=O5 X G DU;have Mi:=O5 X G Hd;have D5:=O5 X G Di;have Fo:=O5 X G DE;have Ik:=O5 X G Ec;have D6:=O5 X G Dm;have GX:=O5 X G D3;have JO:=O5 X G FE;have El:=O5 X G Du;have JP:=O5 X G FF;refine⟨PySem.W.fnOf "law" "law" (dw jS) (b8 jS) (defScope jS) .none kV dc pm an cd ct,fun s v=>.of_eq rfl,fun base KB GB=>?_⟩;have Il:Ct l.prog w K mg base "summed" 1 (spF K dF):=qG Gu D6 JO El JP;have DY:Ct l.prog w K mg base "common_divisor" 1 (spF K aM):=gD DX JN;have Fp:Ct l.prog w K mg base "lowest" 2 (spF K bP):=qH Gv DY El;have FL:Ct l.prog w K mg base "cleared" 2 (spF K bX):=oy FK Il Fo;have Fz:Ct l.prog w K mg base "with_leader" 3 (spM K (.d) aY):=iR Eo FL Fp;have F6:Ct l.prog w K mg base "leaders_of" 4 (spF K bD):=jN EF FL Fp Fz Gx Fo;have eM:Ct l.prog w K mg base "kernel_row" 3 (spM K (.d) aG):=jO EG DY Fp JN El;have Im:Ct l.prog w K mg base "kernel" 5 (spF K dH):=qI Gw eM F6 D6;have Fq:Ct l.prog w K mg base "_law_numbers" 1 (spF K br):=iJ Ef Fo Ik GX JO;have Eh:Ct l.prog w K mg base "_law_draw" 1 (spM K (.l .f) aB):=kS EO;have FA:Ct l.prog w K mg base "_law_number" 2 (spM K (.l .f) aZ):=iS Ep Eh;have GY:Ct l.prog w K mg base "_law_row" 3 (spM K (.l .f) bG):=lY Fl FA D6 El;have Ft:Ct l.prog w K mg base "_law_product" 1 (spF K bt):=iK Eg Fo D6;have GZ:Ct l.prog w K mg base "_law_sum" 1 (spF K bU):=lZ Fn D6 El JP;have F7:Ct l.prog w K mg base "_law_whole" 1 (spF K bg):=jR EH y_bool Mi D5;have FC:Ct l.prog w K mg base "_law_is_row" 2 (spF K bH):=iU Er F7 D5 Fo El;have Gy:Ct l.prog w K mg base "_law_rank" 1 (spF K bR):=kU ET Fo D6;have Gz:Ct l.prog w K mg base "_law_rows" 4 (spM K (.l .f) cj):=kW EU Eh GY GZ D6;exact(zi F Eh FC Fq Ft Gy Gz Im D5 Fo Ik).imp (y3 law_plain)
end FIN
def PySem.W.Fast.tw14490294509100300199:=0
def PySem.W.Fast.tw12238822796402473951:=0
def PySem.W.Fast.tw11834360364555926274:=0
def PySem.W.Fast.tw6842435483564900778:=0
def PySem.W.Fast.tw10923625686230184806:=0
def PySem.W.Fast.tw16751131411925708024:=0
def PySem.W.Fast.tw13277977448793589409:=0
def PySem.W.Fast.tw2304428267419358794:=0
def PySem.W.Fast.tw11054097053144053880:=0
def PySem.W.Fast.tw5732853634809912617:=0
def PySem.W.Fast.tw14530137737611185695:=0
def PySem.W.Fast.tw7055790187155653537:=0
def PySem.W.Fast.tw9051395136329312156:=0
def PySem.W.Fast.tw9081615678356963643:=0
def PySem.W.Fast.tw10266545362965693524:=0
def PySem.W.Fast.tw16577008459020354367:=0
def PySem.W.Fast.tw539502938833321581:=0
def PySem.W.Fast.tw9147606030274362715:=0
def PySem.W.Fast.tw11557461114418456548:=0
def PySem.W.Fast.tw9737030256771508427:=0
open PySem PySem.W PyProof.Rows
set_option maxRecDepth 100000 in
set_option maxHeartbeats 0 in
theorem PySem.Challenge.cw_netfinder_k41_kernels_holds : PySem.Challenge.rw_netfinder_k41_kernels.Holds := by
  w_on; o_law; k_head; (case hw => w_witness2)
  k_fill
  refine PV.CB (l := PySem.Challenge.rw_netfinder_k41_kernels) (k := 6) (x := "_law_script") rfl rfl ⟨rfl, by decide, by decide⟩ (fun w h Y => PySem.W.kIn_of Y) ?F
  case F =>
    intro w mg fa h KX G Lf
    refine' FIN.Am KX G Lf ?aL ?lL ?cL ?kL ?Gu ?DX ?Gv ?FK ?Eo ?EF ?EG ?Gw ?Ef ?EO ?Ep ?Fl ?Eg ?Fn ?EH ?Er ?ET ?EU ?FH ?F1 ?DU ?Hd ?Di ?DE ?Ec ?Dm ?D3 ?FE ?Du ?FF
    (case aL => k_is); (case lL => k_is); (case cL => k_is); (case kL => k_is)
    iterate 18 (refine' PV.y4 KX G ?a ?l ?c ?k; (case a => k_is); (case l => k_is); (case c => k_is); (case k => k_is))
    iterate 12 k_is
