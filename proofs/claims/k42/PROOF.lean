import PyProof.Rows.All
import Wide.All
import OpenK.AllK
import Wide.FinOn
import Lean
import PyProof.EqAt
import PyProof.EqKinds
import PyProof.TupleCall
import PySem.Challenge.RW_netfinder_k42_spanned_or_not
set_option Elab.async false
set_option linter.all false
set_option maxRecDepth 100000
set_option compiler.extract_closed false
set_option bootstrap.genMatcherCode false
noncomputable section
theorem Zz{a b:Prop}(x:a)(y:b):a∧b:=⟨x,y⟩
def Pg:=@List.getD_eq_getElem?_getD
def Ph:=@PySem.wpAny_bind
def Pj:=@List.mem_append_right
def Pk:=@List.getElem?_eq_getElem
def Pl:=@List.size_toArray
def Pm:=@PySem.Heap.get?_push_of_some
def Pn:=@List.getElem?_eq_some_iff
def Po:=@Nat.lt_of_lt_of_le
def Pp:=@List.mem_append_left
def Pq:=@List.mem_cons_self
def Pr:=@PySem.Heap.lt_size
def Pt:=@Nat.le_refl
def Pu:=@List.mem_cons_of_mem
def Pw:=@List.mem_cons
def Px:=@if_pos
def Py:=@PySem.wpAny_pure
def Pz:=@PySem.Heap.get?_push_size
def PB:=@Nat.ne_of_lt
def PD:=@Bool.and_eq_true
def PF:=@Bool.false_ne_true
def PH:=@List.length_cons
def PJ:=@if_neg
def PK:=@List.getElem?_map
def PL:=@List.map_cons
def PM:=@List.length_range
def PN:=@Nat.le_trans
def PQ:=@List.length_map
def PR:=@List.mem_append
def PU:=@List.append_nil
def PX:=@List.nodup_append
def PY:=@Nat.not_lt_zero
def PZ:=@List.lookup_cons
def P0:=@Option.some.inj
def P1:=@Bool.and_self
def P2:=@Classical.byContradiction
def P4:=@Int.mul_zero
def P5:=@beq_iff_eq
def P6:=@beq_eq_false_iff_ne
def P7:=@List.map_map
def P8:=@List.all_eq_true
def P9:=@Nat.lt_succ_self
def Qa:=@decide_eq_false
def Qb:=@List.length_set
def Qc:=@beq_self_eq_true
def Qd:=@decide_eq_true_eq
def Qe:=@List.nodup_cons
def Qf:=@List.mem_singleton
def Qg:=@Int.mul_eq_zero
def Qh:=@PySem.W.mg_none_of
def Qi:=@decide_eq_true
def Qj:=@List.mem_of_getElem?
def Qk:=@Int.mul_assoc
def Ql:=@List.append_assoc
def Qm:=@List.map_append
def Qn:=@Bool.eq_iff_iff
def Qo:=@List.length_append
def Qp:=@Nat.lt_of_le_of_lt
def Qq:=@PySem.Heap.size_push
def Qr:=@Int.natAbs_natCast
def Qs:=@List.length_take
def Qt:=@List.not_mem_nil
def Qu:=@Int.toNat_natCast
def Qv:=@PyProof.Rows.callWith_type1
def Qw:=@List.replicate_succ
def Qx:=@List.map_congr_left
def Qy:=@List.getElem_of_mem
def Qz:=@PySem.wpAny_callSpecial?_slot
def QA:=@Nat.zero_le
def QB:=@List.getElem?_set_self
def QC:=@List.take_of_length_le
def QD:=@List.drop_eq_getElem_cons
def QF:=@PySem.PassesOwn.never
def QH:=@Nat.lt_irrefl
def QJ:=@List.eq_nil_of_length_eq_zero
def QK:=@PySem.mem_of_lookup
def QL:=@PySem.AutoSeq1.wpAny_loadPart'
def QM:=@List.mem_range
def QN:=@congrArg
def QR:=@PySem.wpAny_pyIter_tuple
def QU:=@PySem.wpAny_field
def QV:=@Int.one_mul
def QX:=@Nat.mul_le_mul_right
def QY:=@List.set_set
def QZ:=@Int.add_zero
def Q0:=@Int.mul_comm
def Q1:=@if_true
def Q2:=@Array.length_toList
def Q3:=@PySem.wpAny_pyIter_list
def Q4:=@PyProof.Rows.slot_tuple_getitem
def Q5:=@PySem.wpAny_newObj_type
def Q6:=@List.flatten_cons
def Q7:=@List.length_nil
def Q8:=@List.length_zip
def Q9:=@List.nil_append
def Ra:=@Int.zero_mul
def Rb:=@PySem.wpAny_Call_Name_kw
def Rc:=@Option.isSome_iff_exists
def Rf:=@Bool.true_and
def Rg:=@PySem.wpAny_seqItems
def Rh:=@Int.natAbs_mul
def Ri:=@Int.mul_left_comm
def Rj:=@Ne.symm
def Rk:=@PySem.W.kia_one
def Rl:=@Int.emod_nonneg
def Rm:=@Option.map_eq_some_iff
def Rn:=@PySem.F.slot_tuple_iterator_next
def Ro:=@List.length_singleton
def Rp:=@PySem.wpAny_setField_rec
def Rq:=@List.getElem?_append_left
def Rr:=@List.getElem?_zip_eq_some
def Rt:=@Int.neg_mul
def Ru:=@List.take_succ_eq_append_getElem
def Rv:=@PySem.wpAny_passesOwn
def Rw:=@List.of_mem_zip
def Rx:=@PySem.wpAny_comprehension_free
def Ry:=@List.map_nil
def Rz:=@List.all_cons
def RA:=@PySem.wpAny_call_entry
def RB:=@List.cons_append
def RC:=@List.drop_length
def RD:=@List.nodup_nil
def RE:=@List.find?_cons_of_pos
def RF:=@List.find?_cons_of_neg
def RG:=@Int.emod_lt_of_pos
def RH:=@List.mem_filter
def RI:=@Nat.ne_of_gt
def RJ:=@List.find?_cons
def RK:=@Nat.mul_comm
def RL:=@Nat.succ_pos
def RM:=@PySem.wpAny_truthy_bool
def RN:=@Nat.le_of_succ_le
def RO:=@Bool.eq_false_iff
def RP:=@Bool.not_true
def RQ:=@List.getElem?_append_right
def RS:=@Nat.pow_le_pow_right
def RT:=@List.any_eq_true
def RU:=@Nat.le_succ
def RV:=@List.length_reverse
def RW:=@Nat.le_of_lt
def RX:=@PySem.wpAny_mono
def RY:=@PySem.F.args_tuple_add_2
def RZ:=@Nat.zero_add
def R1:=@Nat.pow_succ
def R3:=@PySem.F.entry_tuple_add
def R4:=@List.foldl_cons
def R5:=@PySem.tupleKind_room_in1
def R6:=@List.zip_cons_cons
def R7:=@List.getElem_range
def R8:=@PySem.F.plainAttrs_list
def R9:=@Option.bind_eq_some_iff
def Sa:=@List.filter_cons_of_pos
def Sb:=@List.filter_cons_of_neg
def Sd:=@PySem.F.slot_tuple_add
def Se:=@PySem.Heap.get?_update_other
def Sf:=@List.any_eq_false
def Sg:=@Nat.mul_le_mul
def Sh:=@Int.natAbs_neg
def Si:=@PySem.Heap.get?_update_self
def Sj:=@List.all_map
def Sk:=@List.any_map
def Sl:=@List.getElem?_eq_none
def Sm:=@Int.natAbs_dvd_natAbs
def Sn:=@List.length_filter_le
def So:=@List.zipIdx_cons
def Sq:=@Nat.le_add_right
def Sr:=@List.getElem_map
def Ss:=@List.getElem?_set_ne
def Su:=@PySem.wpAny_updateSeq_pair
def Sv:=@Int.mul_fdiv_cancel'
def Sw:=@PySem.Paired.length
def Sy:=@PySem.F.args_tuple_iterator_next_1
def Sz:=@or_false
def SA:=@List.dropLast_cons_of_ne_nil
def SD:=@List.filterMap_cons
def SE:=@PySem.wpAny_execs_nil
def SF:=@List.range_succ
def SG:=@PySem.F.entry_tuple_iterator_next
def SH:=@PySem.F.slot_zip_next
def SI:=@PySem.wpAny_ite_split
def SJ:=@PySem.Calls.Name_function_global
def SK:=@List.mem_map
def SM:=@Bool.false_eq_true
def SN:=@Int.natAbs_eq_zero
def SO:=@Int.gcd_zero_right
def SQ:=@List.drop_zero
def SR:=@List.take_zero
def SU:=@Bool.not_false
def SV:=@PySem.wpAny_assign_Name
def SW:=@Nat.lt_succ_of_lt
def SX:=@Option.isSome_map
def SY:=@of_decide_eq_true
def S1:=@PySem.F.slot_list_append
def S2:=@PySem.F.type_list_append
def S3:=@PySem.sizeLine_eq
def S4:=@PySem.wpAny_holding
def S5:=@PySem.wpAny_onRaise
def S6:=@PySem.wpAny_letGo
def S7:=@decide_eq_false_iff_not
def S8:=@List.any_cons
def S9:=@Bool.and_true
def Ta:=@Int.mul_add
def Tb:=@Int.eq_ofNat_of_zero_le
def Tc:=@PySem.noFill_tuple_add
def Td:=@List.length_drop
def Te:=@Int.neg_fmod_neg
def Tf:=@PySem.W.cellsFrom_some
def Tn:=@List.Perm.append_right
def To:=@Nat.div_div_eq_div_mul
def Tp:=@Nat.le_mul_of_pos_left
def Tq:=@Nat.lt_of_succ_lt_succ
def Tr:=@List.filter_eq_nil_iff
def Tt:=@PySem.concat_meets
def Tu:=@PySem.wpAny_typeOf
def Tv:=@Array.getElem?_toList
def Tw:=@Nat.succ_mul
def Tx:=@Nat.le_of_eq
def Tz:=@List.forIn_cons
def TB:=@Bool.or_eq_true
def TF:=@PySem.wpAny_specialOf
def TH:=@PySem.pushCells_keeps
def TJ:=@List.Perm.append_left
def TK:=@List.perm_append_comm
def TL:=@List.mem_iff_getElem?
def TM:=@Classical.choose_spec
def TQ:=@List.all_nil
def TR:=@Int.le_of_lt
def TU:=@Nat.two_pow_pos
def TV:=@List.getLast?_concat
def TY:=@List.dropLast_concat
def TZ:=@List.replicate_succ'
def T1:=@Nat.div_lt_of_lt_mul
def T2:=@List.forIn_nil
def T3:=@Bool.and_false
def T4:=@Int.natAbs_pos
def T8:=@Nat.add_left_cancel
def T9:=@List.take_succ_cons
def Ua:=@List.drop_succ_cons
def Ub:=@List.sum_append_int
def Uc:=@List.flatten_append
def Ud:=@Nat.pow_le_pow_left
def Ui:=@List.mem_filterMap
def Uk:=@PySem.seq_tuple_add
def Ul:=@if_false
def Uo:=@PySem.wpAny_standAt
def Up:=@Bool.false_or
def Ur:=@Option.isSome_some
def Us:=@List.length_zipIdx
def Ut:=@Nat.eq_zero_or_pos
def Uu:=@Nat.dvd_trans
def Uv:=@Int.lt_or_gt_of_ne
def Uw:=@List.getElem?_take
def Uz:=@PySem.call_meets
def UC:=@PySem.wpAny_rule
def UO:=@Nat.sub_zero
def UP:=@List.sum_nil
def UQ:=@Int.zero_add
def U7:=@and_self
def Va:=@List.not_lt
def Ve:=@Nat.log2_lt
def Vj:=@Nat.mul_one
def Vk:=@Int.add_mul
def Vl:=@Int.neg_neg
def VR:=@bne_iff_ne
def We:=@dif_pos
def Wm:=@Eq.trans
namespace L2
open PySem PySem.Spec PyProof.Rows
def IsTupN(h:Heap)(a:Addr)(items:Array Value):Prop:=∃o,h.get? a=some o/\o.cls=.type "tuple"/\(∃n,o.data=.seq items n)/\o.dict=none
theorem IsTupN.tup{h:Heap}{a:Addr}{items:Array Value}(p:IsTupN h a items):IsTup h a items:=by
 obtain⟨o,e,c,n,_⟩:=p;exact⟨o,e,c,n⟩
theorem IsTupN.new(h:Heap)(items:Array Value):IsTupN (h.push {cls:=.type "tuple",data:=.seq items}) h.objs.size items:=⟨_,Pz _ rfl,rfl,⟨_,rfl⟩,rfl⟩
abbrev Key:=Sum Int Str
def ml:Key->Value->Bool
 | .inl k,v=>Value.isInt k v
 | .inr x,v=>Value.isStrOf x v
def CJ(w:World):Key->Int
 | .inl k=>hashInt k
 | .inr x=>hashStr w x
theorem bF:∀{k:Key}{v:Value},ml k v=true->(∃i t,k=Sum.inl i/\v=Value.int i t)\/(∃x t,k=Sum.inr x/\v=Value.str x t)
 | .inl i,v,h=>by
  obtain⟨t,e⟩:=Value.isInt_shape (k:=i) (v:=v) h;exact .inl ⟨i,t,rfl,e⟩
 | .inr x,v,h=>by
  obtain⟨t,e⟩:=Value.isStrOf_shape (x:=x) (v:=v) h;exact .inr ⟨x,t,rfl,e⟩
theorem pL(i:Int)(t:Tok):ml (.inl i) (.int i t)=true:=by simp[ml,Value.isInt]
theorem pM(x:Str)(t:Tok):ml (.inr x) (.str x t)=true:=by simp[ml,Value.isStrOf]
theorem yC(a b:Int):decide ((Sum.inl a:Key)=Sum.inl b)=(a==b):=by
 by_cases e:a=b
 ·subst e;simp
 ·have h:¬ (Sum.inl a:Key)=Sum.inl b:=fun q=>e (Sum.inl.inj q)
  rw[Qa h];exact(P6.mpr e).symm
theorem yD(a b:Str):decide ((Sum.inr a:Key)=Sum.inr b)=decide (a=b):=by
 by_cases e:a=b
 ·subst e;simp
 ·have h:¬ (Sum.inr a:Key)=Sum.inr b:=fun q=>e (Sum.inr.inj q)
  rw[Qa h,Qa e]
theorem yE(a:Int)(b:Str):decide ((Sum.inl a:Key)=Sum.inr b)=false:=Qa (fun q=>nomatch q)
theorem yF(a:Str)(b:Int):decide ((Sum.inr a:Key)=Sum.inl b)=false:=Qa (fun q=>nomatch q)
noncomputable def mixKind(prog:Program)(w:World):PySem.KeyKind prog w Key where
 is:=ml
 hash:=CJ w
 inj:=fun v a b ha hb=>by
  rcases bF ha with⟨i,t,rfl,rfl⟩|⟨x,t,rfl,rfl⟩
  ·rcases bF hb with⟨j,u,rfl,e⟩|⟨y,u,rfl,e⟩
   ·injection e with e1 _;rw[e1]
   ·exact nomatch e
  ·rcases bF hb with⟨j,u,rfl,e⟩|⟨y,u,rfl,e⟩
   ·exact nomatch e
   ·injection e with e1 _;rw[e1]
 byValue:=fun k v h=>by
  rcases bF h with⟨i,t,rfl,rfl⟩|⟨x,t,rfl,rfl⟩ <;> rfl
 pyHash:=fun hv h=>by
  rcases bF hv with⟨i,t,rfl,rfl⟩|⟨x,t,rfl,rfl⟩
  ·exact wpAny_pyHash_int h
  ·exact wpAny_pyHash_str h
 eqBool:=fun hu hv h=>by
  rcases bF hu with⟨i,t,rfl,rfl⟩|⟨x,t,rfl,rfl⟩
  ·rcases bF hv with⟨j,u,rfl,rfl⟩|⟨y,u,rfl,rfl⟩
   ·rw[yC]at h;exact wpAny_eqBool_int h
   ·rw[yE]at h;exact SeqAt.EqAt.int_str i t y u _ _ _ _ h
  ·rcases bF hv with⟨j,u,rfl,rfl⟩|⟨y,u,rfl,rfl⟩
   ·rw[yF]at h;exact SeqAt.EqAt.str_int x t j u _ _ _ _ h
   ·rw[yD]at h;exact wpAny_eqBool_str h
 «strs»:=fun k x t v h=>by
  rcases bF h with⟨i,u,rfl,e⟩|⟨y,u,rfl,e⟩
  ·exact nomatch e
  ·injection e with e1 _;subst e1;cases v <;> rfl
theorem oT(prog:Program)(w:World)(k:Key)(v:Value):(mixKind prog w).is k v=ml k v:=rfl
theorem mm(prog:Program)(w:World)(i:Int)(t:Tok):(mixKind prog w).is (.inl i) (.int i t)=true:=pL i t
theorem mn(prog:Program)(w:World)(x:Str)(t:Tok):(mixKind prog w).is (.inr x) (.str x t)=true:=pM x t
inductive V where
 |non|bl (b:Bool)|int (i:Int)|str (x:Str)|byt (b:Array UInt8)|flt (b:UInt64)|ref (a:Addr)|ty (n:String)
 deriving DecidableEq
noncomputable def RelV:V->Value->Prop
 | .non,u=>u=Value.none
 | .bl b,u=>u=Value.bool b
 | .int i,u=>∃t,u=Value.int i t
 | .str x,u=>∃t,u=Value.str x t
 | .byt b,u=>∃t,u=Value.bytes b t
 | .flt b,u=>∃t,u=Value.float b t
 | .ref a,u=>u=Value.ref a
 | .ty n,u=>u=Value.type n
abbrev Vals:List V->List Value->Prop:=Paired RelV
theorem Vals.length{xs:List V}{us:List Value}(r:Vals xs us):xs.length=us.length:=Sw r
theorem Vals.get:∀{xs:List V}{us:List Value}{i:Nat}{x:V},Vals xs us->xs[i]?=some x->∃u,us[i]?=some u/\RelV x u
 |_,_,_,_,.nil,e=>by simp at e
 |_,_,0,_,.cons r _,e=>by simp at e;subst e;exact⟨_,rfl,r⟩
 |_,_,i+1,x,.cons _ t,e=>by
  obtain⟨u,h1,h2⟩:=Vals.get (i:=i) (x:=x) t (by simpa using e);exact⟨u,by simpa using h1,h2⟩
theorem Vals.set{x:V}{u:Value}(r:RelV x u):∀{xs:List V}{us:List Value}(i:Nat),Vals xs us->Vals (xs.set i x) (us.set i u)
 |_,_,_,.nil=>.nil
 |_,_,0,.cons _ t=>.cons r t
 |_,_,i+1,.cons q t=>.cons q (Vals.set r i t)
theorem Vals.append:∀{xs ys:List V}{us ws:List Value},Vals xs us->Vals ys ws->Vals (xs++ys) (us++ws)
 |_,_,_,_,.nil,s=>s
 |_,_,_,_,.cons r t,s=>.cons r (Vals.append t s)
theorem Vals.take:∀{xs:List V}{us:List Value}(n:Nat),Vals xs us->Vals (xs.take n) (us.take n)
 |_,_,0,_=>.nil
 |_,_,_+1,.nil=>.nil
 |_,_,n+1,.cons r t=>.cons r (Vals.take n t)
theorem Vals.drop:∀{xs:List V}{us:List Value}(n:Nat),Vals xs us->Vals (xs.drop n) (us.drop n)
 |_,_,0,r=>r
 |_,_,_+1,.nil=>.nil
 |_,_,n+1,.cons _ t=>Vals.drop n t
def RelO:Option V->Option Value->Prop
 |some v,some u=>RelV v u
 |none,none=>True
 |_,_=>False
def KV{κ:Type}:List (κ×V)->List (κ×Value)->Prop:=Paired fun(p:κ×V) (q:κ×Value)=>p.1=q.1/\RelV p.2 q.2
def kV:Key->V
 | .inl i=>.int i
 | .inr x=>.str x
inductive HO where
 |lst (xs:List V)
 |tup (xs:List V)
 |dK (DS:List (Key×V))|dT (DS:List (List Key×V))
 |set (S:Int->Bool) (n:Nat)
 |ins (C dx:Addr) (fs:List (Str×V))
 |own (x:Addr)
 |xd (fs:List (Str×V))
 |met (f x:Addr)
 |rng (lo hi:Int)
 |frz (o:Obj) (u:HO)
 |tbl (ps:Array Value)
 |ext (φ:Heap->Prop)
abbrev Hp:=Addr->Option HO
def upd(H:Hp)(a:Addr)(o:HO):Hp:=fun b=>if b=a then some o else H b
theorem ay{H:Hp}{a:Addr}{o:HO}:upd H a o a=some o:=by unfold upd;rw[Px rfl]
theorem ai{H:Hp}{a b:Addr}{o:HO}(h:b≠a):upd H a o b=H b:=by unfold upd;rw[PJ h]
theorem A9{H:Hp}{a b:Addr}{o u:HO}(h:H a=some o)(h':H b=some u)(d:o≠u):a≠b:=by
 intro e;subst e;rw[h]at h';exact d (P0 h')
theorem aA{H:Hp}{a b:Addr}{o:HO}(h:H a=some o)(h':H b=none):a≠b:=by
 intro e;subst e;rw[h]at h';cases h'
section
variable(P:Program)(w:World)
noncomputable def ObjOk(H:Hp)(h:Heap)(a:Addr):HO->Prop
 | .lst xs=>xs.length<=sizeLine/\∃(DY:List Value) (n:Nat),Vals xs DY/\h.get? a=some {cls:=.type "list",data:=.seq DY.toArray n}
 | .tup xs=>xs.length<=sizeLine/\∃DY:List Value,Vals xs DY/\IsTupN h a DY.toArray
 | .dK DS=>DS.length<=sizeLine/\(a==sysModules)=false/\∃vs,KV DS vs/\h.DictOf (mixKind P w) a vs
 | .dT DS=>DS.length<=sizeLine/\(a==sysModules)=false/\∃xs:List (List Key×Addr×Value),
   Paired (fun(p:List Key×V) (q:List Key×Addr×Value)=>p.1=q.1/\H q.2.1=some (.tup (p.1.map kV))/\RelV p.2 q.2.2) DS xs/\
   ∃o es ep,h.get? a=some o/\o.ExactDict/\o.data=.dict es ep/\es.toList=xs.map (entryOfKey (tupleKind (mixKind P w)))/\(xs.map (·.1)).Nodup
 | .set S n=>h.SetOf (intKind P w) a S n
 | .ins C dx fs=>H dx=some (.own a)/\fs.length<=1000/\dx≠a/\h.get? a=some (PySem.W.instObj C dx)/\
   ∃mA,h.Ns1 dx mA/\(∀f,RelO (fs.lookup f) (mA f))/\PySem.Within mA (fs.map (·.1))
 | .own _=>∃o,h.get? a=some o
 | .xd fs=>∃mA,h.Ns1 a mA/\∀f,RelO (fs.lookup f) (mA f)
 | .rng lo hi=>∃t u v,h.get? a=some {cls:=.type "range",data:=.fields #[.int lo t,.int hi u,.int 1 v]}
 | .frz o u=>h.get? a=some o/\ObjOk H h a u
 | .tbl ps=>h.get? a=some {cls:=.none,data:=.fields ps}
 | .met f x=>h.get? a=some (PySem.W.methodObj (.ref f) (.ref x))
 | .ext φ=>φ h/\(∃o,h.get? a=some o)/\∀h1 h2:Heap,φ h1->(∀o,h1.get? a=some o->h2.get? a=some o)->φ h2
def HOk(H:Hp)(h:Heap):Prop:=∀a o,H a=some o->ObjOk P w H h a o
end
section
variable{P:Program}{w:World}{H H':Hp}{h h':Heap}{a:Addr}{o:HO}
theorem ObjOk.lt(x:ObjOk P w H h a o):a<h.objs.size:=by
 cases o with
 |lst xs=>obtain⟨_,_,_,_,e⟩:=x;exact Pr e
 |tup xs=>obtain⟨_,_,_,p⟩:=x;exact p.tup.lt
 |dK DS=>obtain⟨_,_,_,_,o,_,_,e,_⟩:=x;exact Pr e
 |dT DS=>obtain⟨_,_,_,_,o,_,_,e,_⟩:=x;exact Pr e
 |set S n=>obtain⟨o,_,_,_,e,_⟩:=x;exact Pr e
 |ins C dx fs=>obtain⟨_,_,_,e,_⟩:=x;exact Pr e
 |own y=>obtain⟨_,e⟩:=x;exact Pr e
 |xd fs=>obtain⟨_,⟨_,_,_,e,_⟩,_⟩:=x;exact Pr e
 |rng lo hi=>obtain⟨_,_,_,e⟩:=x;exact Pr e
 |frz ob u=>obtain⟨e,_⟩:=x;exact Pr e
 |tbl ps=>exact Pr (show h.get? a=some _ from x)
 |met f y=>exact Pr (show h.get? a=some _ from x)
 |ext φ=>obtain⟨_,⟨_,e⟩,_⟩:=x;exact Pr e
theorem Paired.mapP{α β:Type}{F G:α->β->Prop}:∀{l₁:List α}{l₂:List β},Paired F l₁ l₂->(∀a b,F a b->G a b)->Paired G l₁ l₂
 |_,_,.nil,_=>.nil
 |_,_,.cons r t,f=>.cons (f _ _ r) (Paired.mapP t f)
theorem ObjOk.stay(x:ObjOk P w H h a o)(k:∀b u,(b=a\/H b=some (.own a))->h.get? b=some u->h'.get? b=some u)
  (ho:∀b,H b=some (.own a)->H' b=some (.own a)) (ht:∀b xs,H b=some (.tup xs)->H' b=some (.tup xs)):ObjOk P w H' h' a o:=by
 induction o with
 |lst xs=>obtain⟨z,DY,n,r,e⟩:=x;exact⟨z,DY,n,r,k _ _ (.inl rfl) e⟩
 |tup xs=>obtain⟨z,DY,r,ob,e,c⟩:=x;exact⟨z,DY,r,ob,k _ _ (.inl rfl) e,c⟩
 |dK DS=>obtain⟨z,y,vs,r,ob,es,ep,e,c⟩:=x;exact⟨z,y,vs,r,ob,es,ep,k _ _ (.inl rfl) e,c⟩
 |dT DS=>
  obtain⟨z,y,xs,r,ob,es,ep,e,c⟩:=x;exact⟨z,y,xs,Paired.mapP r fun p q z=>⟨z.1,ht _ _ z.2.1,z.2.2⟩,ob,es,ep,k _ _ (.inl rfl) e,c⟩
 |set S n=>obtain⟨ob,es,ep,t,e,c⟩:=x;exact⟨ob,es,ep,t,k _ _ (.inl rfl) e,c⟩
 |ins C dx fs=>
  obtain⟨d,z,ne,e,mA,⟨od,es,ep,e2,c⟩,r⟩:=x;exact⟨ho _ d,z,ne,k _ _ (.inl rfl) e,mA,⟨od,es,ep,k _ _ (.inr d) e2,c⟩,r⟩
 |own y=>obtain⟨ob,e⟩:=x;exact⟨ob,k _ _ (.inl rfl) e⟩
 |xd fs=>obtain⟨mA,⟨od,es,ep,e,c⟩,r⟩:=x;exact⟨mA,⟨od,es,ep,k _ _ (.inl rfl) e,c⟩,r⟩
 |rng lo hi=>obtain⟨t,u,v,e⟩:=x;exact⟨t,u,v,k _ _ (.inl rfl) e⟩
 |frz ob u ih=>obtain⟨e,q⟩:=x;exact⟨k _ _ (.inl rfl) e,ih q⟩
 |tbl ps=>
  have e:h.get? a=some {cls:=.none,data:=.fields ps}:=x;show h'.get? a=some {cls:=.none,data:=.fields ps};exact k a _ (.inl rfl) e
 |met f y=>
  have e:h.get? a=some (PySem.W.methodObj (.ref f) (.ref y)):=x;show h'.get? a=some (PySem.W.methodObj (.ref f) (.ref y));exact k a _ (.inl rfl) e
 |ext φ=>obtain⟨p,⟨o,e⟩,st⟩:=x;exact⟨st _ _ p fun o q=>k _ _ (.inl rfl) q,⟨o,k _ _ (.inl rfl) e⟩,st⟩
theorem HOk.lt(x:HOk P w H h)(e:H a=some o):a<h.objs.size:=(x a o e).lt
theorem HOk.fresh(x:HOk P w H h)(e:h.objs.size<=a):H a=none:=by
 cases q:H a with
 |none=>rfl
 |some u=>exact absurd (Po (x.lt q) e) (QH _)
theorem HOk.kept(x:HOk P w H h)(k:∀b u,h.get? b=some u->h'.get? b=some u):HOk P w H h':=fun a o e=>
 (x a o e).stay (fun b u _ q=>k b u q) (fun _ q=>q) fun _ _ q=>q
theorem HOk.laid(x:HOk P w H h)(k:∀b u,h.get? b=some u->h'.get? b=some u)(hp:h.objs.size<=a)(new:ObjOk P w (upd H a o) h' a o):HOk P w (upd H a o) h':=fun b u e=>by
 have hn:=x.fresh hp;by_cases hb:b=a
 ·subst hb;rw[ay]at e;cases e;exact new
 ·rw[ai hb]at e;exact(x b u e).stay (fun c v _ q=>k c v q) (fun c q=>by rw[ai (aA q hn)];exact q) fun c xs q=>by rw[ai (aA q hn)];exact q
end
def Rd(H:Hp)(a:Addr)(u:HO):Prop:=H a=some u\/∃o,H a=some (.frz o u)
theorem Rd.ok{P:Program}{w:World}{H:Hp}{h:Heap}{a:Addr}{u:HO}(r:Rd H a u)(x:HOk P w H h):ObjOk P w H h a u:=by
 rcases r with r|⟨o,r⟩
 ·exact x a u r
 ·obtain⟨_,q⟩:=x a _ r;exact q
def Md:Option HO->Prop
 |some (.lst _)=>True
 |some (.dK _)=>True
 |some (.dT _)=>True
 |some (.set _ _)=>True
 |some (.ins _ _ _)=>True
 |some (.ext _)=>True
 |_=>False
section
variable{P:Program}{w:World}{H:Hp}{h h':Heap}{x e:Addr}{o':HO}
theorem HOk.write(ok:HOk P w H h)(mu:Md (H x))(he:e=x\/H e=some (.own x))(k:∀b u,b≠e->h.get? b=some u->h'.get? b=some u)(LU:∃u,h'.get? e=some u)
  (new:ObjOk P w (upd H x o') h' x o'):HOk P w (upd H x o') h':=fun b u q=>by
 have Me:∀c y,H c=some (.own y)->c≠x:=fun c y r z=>by subst z;rw[r]at mu;exact mu
 have ntup:∀c xs,H c=some (.tup xs)->c≠x:=fun c xs r z=>by subst z;rw[r]at mu;exact mu
 by_cases hb:b=x
 ·subst hb;rw[ay]at q;cases q;exact new
 ·rw[ai hb]at q;by_cases hbe:b=e
  ·have q':H b=some (.own x):=by
    rcases he with z|z
    ·exact absurd (hbe.trans z) hb
    ·rw[hbe];exact z
   rw[q]at q';cases q';obtain⟨v,hv⟩:=LU;exact⟨v,by rw[hbe];exact hv⟩
  ·refine(ok b u q).stay (fun c v hc r=>k c v ?_ r) (fun c r=>by rw[ai (Me c b r)];exact r) fun c xs r=>by rw[ai (ntup c xs r)];exact r
   rcases hc with rfl|hc
   ·exact hbe
   ·rintro rfl;rcases he with z|z
    ·exact Me c b hc z
    ·rw[hc]at z;cases z;exact hb rfl
end
structure Un(fs ex:List Addr)(H H':Hp)(h h':Heap):Prop where
 keep:∀b o,h.get? b=some o->H b=none->b∉fs->b∉ex->h'.get? b=some o
 slot:∀b o,h.get? b=some o->H b=none->b∈fs->b∉ex->∃sl,h'.get? b=some {o with slots:=sl}
 free:∀b o,h.get? b=some o->H b=none->b∉ex->H' b=none
 there:∀b o,h.get? b=some o->b∉ex->∃o',h'.get? b=some o'
 tups:∀b xs,H b=some (.tup xs)->H' b=some (.tup xs)
 frzs:∀b o u,H b=some (.frz o u)->H' b=some (.frz o u)
 tbls:∀b ps,H b=some (.tbl ps)->∃more,H' b=some (.tbl (ps++more))
section
variable{fs fs' ex ex':List Addr}{H H1 H2:Hp}{h h1 h2 h':Heap}{a x e:Addr}{o:HO}
theorem Un.any(u:Un fs ex H H1 h h1){b:Addr}{ob:Obj}(q:h.get? b=some ob)(n:H b=none)(hx:b∉ex):∃sl,h1.get? b=some {ob with slots:=sl}:=by
 by_cases hb:b∈fs
 ·exact u.slot b ob q n hb hx
 ·exact⟨ob.slots,u.keep b ob q n hb hx⟩
theorem Un.kept(k:∀b u,h.get? b=some u->h'.get? b=some u):Un fs ex H H h h':=
 ⟨fun b ob q _ _ _=>k b ob q,fun b ob q _ _ _=>⟨ob.slots,k b ob q⟩,fun _ _ _ n _=>n,fun b ob q _=>⟨ob,k b ob q⟩,fun _ _ q=>q,fun _ _ _ q=>q,fun _ ps q=>⟨#[],by rw[q];simp⟩⟩
theorem Un.refl:Un fs ex H H h h:=Un.kept fun _ _ q=>q
theorem Un.laid(k:∀b u,h.get? b=some u->h'.get? b=some u)(hp:h.objs.size<=a)(hn:H a=none):Un fs ex H (upd H a o) h h' where
 keep:=fun b u q _ _ _=>k b u q
 slot:=fun b u q _ _ _=>⟨u.slots,k b u q⟩
 free:=fun b u q n _=>by rw[ai (PB (Po (Pr q) hp))];exact n
 there:=fun b u q _=>⟨u,k b u q⟩
 tups:=fun b xs q=>by rw[ai (aA q hn)];exact q
 frzs:=fun b u xs q=>by rw[ai (aA q hn)];exact q
 tbls:=fun b ps q=>⟨#[],by rw[ai (aA q hn),q];simp⟩
theorem Un.write(mu:Md (H x))(he:e=x\/H e=some (.own x))(k:∀b u,b≠e->h.get? b=some u->h'.get? b=some u)(LU:∃u,h'.get? e=some u):Un fs ex H (upd H x o) h h':=by
 have hx:∀b,H b=none->b≠x:=fun b n z=>by subst z;rw[n]at mu;exact mu
 have hb:∀b,H b=none->b≠e:=fun b n z=>by
  subst z;rcases he with r|r
  ·exact hx b n r
  ·rw[n]at r;cases r
 have hm:∀b u,H b=some u->¬ Md (some u)->b≠x:=fun b u q nm z=>by subst z;rw[q]at mu;exact nm mu
 refine⟨fun b u q n _ _=>k b u (hb b n) q,fun b u q n _ _=>⟨u.slots,k b u (hb b n) q⟩,fun b u q n _=>by rw[ai (hx b n)];exact n,fun b u q _=>?_,
  fun b xs q=>by rw[ai (hm b _ q fun z=>z)];exact q,fun b u xs q=>by rw[ai (hm b _ q fun z=>z)];exact q,fun b ps q=>⟨#[],by rw[ai (hm b _ q fun z=>z),q];simp⟩⟩
 by_cases hbe:b=e
 ·subst hbe;exact LU
 ·exact⟨u,k b u hbe q⟩
end
def trk(h:Heap)(H:Hp):List Addr:=(List.range h.objs.size).filter fun a=>(H a).isSome
def ti(h:Heap)(H:Hp):Heap:=PySem.W.hideAll h (trk h H)
theorem pN(h:Heap)(H:Hp):(ti h H).objs.size=h.objs.size:=PySem.W.hideAll_size _ _
theorem tj{h:Heap}{H:Hp}{b:Addr}{o:Obj}(e:h.get? b=some o)(n:H b=none):(ti h H).get? b=some o:=
 PySem.W.hideAll_get _ e fun hm=>by
  have q:(H b).isSome=true:=(RH.mp hm).2;rw[n]at q;simp at q
theorem wo{h:Heap}{H:Hp}{b:Addr}{o:Obj}(e:(ti h H).get? b=some o):h.get? b=some o/\H b=none:=by
 have e':h.get? b=some o:=PySem.W.of_hideAll (trk h H) e;refine⟨e',?_⟩;cases q:H b with
 |none=>rfl
 |some x=>
  have hm:b∈trk h H:=RH.mpr ⟨QM.mpr (Pr e'),by simp[q]⟩;have z:(ti h H).get? b=none:=PySem.W.hideAll_none (trk h H) hm;rw[z]at e;cases e
def wq(g h:Heap)(L:Addr):List (Addr×Obj):=(List.range h.objs.size).filterMap fun a=>if a=L\/(g.get? a).isSome=true then none else(h.get? a).map fun o=>(a,o)
def aO(g h:Heap)(L d:Addr):List (Addr×Obj):=(wq g h L).filter fun p=>decide (p.1≠d)
structure Mod(K:W.Frag)(mg:Str->Option Value)(base:Heap):Prop where
 kin:K.In base
 glob:base.Ns mainGlobals mg
 blt:∃mb,base.Ns builtinsNs mb/\∀x:Str,x≠"__name__"->mb x=bootBuiltins x
 nolimit:base.NoLimit
structure Cx where
 prog:Program
 w:World
 K:W.Frag
 mg:Str->Option Value
 base:Heap
 A:Around
 N:List Str
 s₀:Shared
 H₀:Hp
 env:Env
 outer:List Env
 stack:List Env
 ex:List Addr
 fn:Str->Bool
 calm:Bool
 pn:List (Addr×Obj)
 xe:Value->Shared->Prop
def HR(l:List Env):List Addr:=l.filterMap (·.frame)
abbrev Cx.fs(X:Cx):List Addr:=HR X.outer
def NM(sc:Scope)(x:Str):Prop:=sc.names.lookup x=some .local\/sc.names.lookup x=some .cell\/sc.names.lookup x=some .free
def Loc(sc:Scope)(x:Str):Prop:=sc.names.lookup x=some .local\/sc.names.lookup x=some .cell
def Cs(sc:Scope)(x:Str):Bool:=match sc.names.lookup x with
 |some .local=>true
 |some .cell=>true
 |_=>false
theorem lo{sc:Scope}{x:Str}(h:Cs sc x=true):Loc sc x:=by
 unfold Cs at h;split at h
 ·exact .inl (by assumption)
 ·exact .inr (by assumption)
 ·cases h

def CK(env:Env)(h:Heap)(m:Str->Option Value)(x:Str)(u:Value):Prop:=
 (env.kindOf x=some .local/\m x=some u)\/((env.kindOf x=some .cell\/env.kindOf x=some .free)/\∃c,env.cells.lookup x=some c/\h.IsCell c (some u))
structure Cx.Ok(X:Cx):Prop where
 mod:Mod X.K X.mg X.base
 kind:X.env.scope.kind=.function
 glob:X.env.globals=mainGlobals
 blt:X.env.builtins=builtinsNs
 above:X.s₀.heap.objs.size<=X.env.locals
 inj:∀x y c,X.env.cells.lookup x=some c->X.env.cells.lookup y=some c->x=y
 has:∀x,(X.env.kindOf x=some .cell\/X.env.kindOf x=some .free)->∃c,X.env.cells.lookup x=some c
 cab:∀x c,X.fn x=true->X.env.cells.lookup x=some c->X.s₀.heap.objs.size<=c
 hd:X.calm=true->X.A.handled=none
 frames:X.A.frames=some X.stack
 stk:X.stack=X.outer\/(X.stack=X.env::X.outer/\X.env.frame=some X.env.locals)
 exf:∀b∈X.ex,b≠X.env.locals/\∀x c,X.env.cells.lookup x=some c->c≠b
 bs:∀b o,X.base.get? b=some o->X.s₀.heap.get? b=some o/\X.H₀ b=none
 bsz:X.base.objs.size<=X.s₀.heap.objs.size
 noex:∀b o,X.base.get? b=some o->b∉X.ex
 exfs:∀b∈X.ex,b∉X.fs
 funs:X.s₀.heap.FunFrames X.base X.outer
 frf:∀b∈X.fs,X.H₀ b=none
structure Inv(X:Cx)(pr:List (Addr×Obj))(σ:List (Option V))(H:Hp)(s:Shared):Prop where
 ok:X.Ok
 os:s.os=X.s₀.os
 bare:AllBare s.gens
 base:Un X.fs X.ex X.H₀ H X.s₀.heap s.heap
 loc:∃m,s.heap.Ns X.env.locals m/\∀(i:Nat) (x:Str) (v:V),X.N[i]?=some x->σ[i]?=some (some v)->NM X.env.scope x->∃u,RelV v u/\CK X.env s.heap m x u
 cell:∀x c,X.env.cells.lookup x=some c->∃v,s.heap.IsCell c v
 free:H X.env.locals=none
 freeC:∀x c,X.env.cells.lookup x=some c->H c=none
 pin:∀p∈X.pn++pr,s.heap.get? p.1=some p.2/\H p.1=none/\p.1≠X.env.locals/\p.1∉X.fs/\∀v,p.2.data≠.cell v
 hok:HOk X.prog X.w H s.heap
 len:σ.length=X.N.length
section
variable{X:Cx}{pr:List (Addr×Obj)}{σ:List (Option V)}{H H':Hp}{s:Shared}{h':Heap}
theorem Cx.Ok.nofr(ok:X.Ok){b:Addr}{o:Obj}(e:X.base.get? b=some o):b∉X.fs:=fun hb=>by
 have:=(ok.funs.mem hb).1;rw[e]at this;cases this
theorem Inv.bs(I:Inv X pr σ H s):∀b o,X.base.get? b=some o->s.heap.get? b=some o/\H b=none:=fun b o e=>
 ⟨I.base.keep b o (I.ok.bs b o e).1 (I.ok.bs b o e).2 (I.ok.nofr e) (I.ok.noex b o e),I.base.free b o (I.ok.bs b o e).1 (I.ok.bs b o e).2 (I.ok.noex b o e)⟩
theorem Inv.bk(I:Inv X pr σ H s):∀b o,X.base.get? b=some o->s.heap.get? b=some o:=fun b o e=>(I.bs b o e).1
theorem Inv.mod(I:Inv X pr σ H s):Mod X.K X.mg X.base:=I.ok.mod
theorem Inv.kIn(I:Inv X pr σ H s):X.K.In s.heap:=I.ok.mod.kin.keeps I.bk
theorem Inv.lt(I:Inv X pr σ H s):X.env.locals<s.heap.objs.size:=let⟨_,hn,_⟩:=I.loc;hn.lt
theorem Inv.sz(I:Inv X pr σ H s):X.s₀.heap.objs.size<=s.heap.objs.size:=PN I.ok.above (RW I.lt)
theorem Inv.nofs(I:Inv X pr σ H s){a:Addr}(h:s.heap.objs.size<=a):a∉X.fs:=fun hb=>by
 obtain⟨_,o,ho,_⟩:=I.ok.funs.mem hb;exact absurd (Po (Pr ho) (PN I.sz h)) (QH _)
theorem Inv.cne(I:Inv X pr σ H s):∀x c,X.env.cells.lookup x=some c->c≠X.env.locals:=fun x c e z=>by
 obtain⟨v,o,ho,hd⟩:=I.cell x c e;obtain⟨m,⟨o',es,ep,IV,JI,_⟩,_⟩:=I.loc;rw[z,IV]at ho;cases ho;rw[JI]at hd;cases hd
theorem Inv.funs(I:Inv X pr σ H s):s.heap.FunFrames X.base X.outer:=by
 have all:∀(l:List Env),(∀b∈HR l,b∈X.fs)->X.s₀.heap.FunFrames X.base l->s.heap.FunFrames X.base l:=by
  intro l;induction l with
  |nil=>intro _ _;trivial
  |cons env r ih=>
   intro hs hl;obtain⟨hk,⟨L,o,hf,hn,ho,hd⟩,hr⟩:=hl;have hL:L∈X.fs:=hs L (by unfold HR;rw[SD,hf];exact Pq);obtain⟨sl,e⟩:=I.base.slot L o ho (I.ok.frf L hL) hL fun z=>I.ok.exfs L z hL
   exact⟨hk,⟨L,_,hf,hn,e,hd⟩,ih (fun b hb=>hs b (by unfold HR;rw[SD,hf];exact Pu _ hb)) hr⟩
 exact all X.outer (fun _ hb=>hb) I.ok.funs
theorem Inv.stack(I:Inv X pr σ H s):s.heap.FunFrames X.base X.stack:=by
 rcases I.ok.stk with e|⟨e,hf⟩
 ·rw[e];exact I.funs
 ·rw[e];obtain⟨m,hn,_⟩:=I.loc;refine .cons (by rw[I.ok.kind];decide) hf hn ?_ I.funs;exact Heap.get?_none_of_le (PN I.ok.bsz I.ok.above)
theorem Inv.stkSub(I:Inv X pr σ H s):∀b∈HR X.stack,b∈X.env.locals::X.fs:=fun b hb=>by
 rcases I.ok.stk with e|⟨e,hf⟩
 ·rw[e]at hb;exact Pu _ hb
 ·rw[e]at hb;unfold HR at hb;rw[SD,hf]at hb;exact hb
theorem Inv.stkFree(I:Inv X pr σ H s):∀b∈HR X.stack,H b=none:=fun b hb=>by
 rcases Pw.mp (I.stkSub b hb) with e|hb
 ·rw[e];exact I.free
 ·obtain⟨_,o,ho,_⟩:=I.ok.funs.mem hb;exact I.base.free b o ho (I.ok.frf b hb) fun z=>I.ok.exfs b z hb
theorem Inv.step{g':Array GenState}{t':Nat}{d':Drawn}{ch:List Addr}(I:Inv X pr σ H s)
  (IK:∀b∈ch,(b∈X.ex\/X.s₀.heap.objs.size<=b)/\b≠X.env.locals/\(∀x c,X.env.cells.lookup x=some c->c≠b)/\∀p∈X.pn++pr,p.1≠b)
  (keep:∀b o,b≠X.env.locals->b∉X.fs->b∉ch->s.heap.get? b=some o->H b=none->h'.get? b=some o)
  (slot:∀b o,b≠X.env.locals->b∈X.fs->b∉ch->s.heap.get? b=some o->H b=none->∃sl,h'.get? b=some {o with slots:=sl}) (free:∀b o,b∉ch->s.heap.get? b=some o->H b=none->H' b=none)
  (there:∀b o,b∉ch->s.heap.get? b=some o->∃o',h'.get? b=some o')
  (tups:∀b xs,H b=some (.tup xs)->H' b=some (.tup xs)) (frzs:∀b o u,H b=some (.frz o u)->H' b=some (.frz o u)) (tbls:∀b ps,H b=some (.tbl ps)->∃more,H' b=some (.tbl (ps++more)))
  (ns:∀m,s.heap.Ns X.env.locals m->h'.Ns X.env.locals m) (hok:HOk X.prog X.w H' h') (hg:AllBare g'):
  Inv X pr σ H' {s with heap:=h',gens:=g',drawn:=d',toks:=t'}:=by
 have Oy:∀b o,X.s₀.heap.get? b=some o->b≠X.env.locals:=fun b o e=>PB (Po (Pr e) I.ok.above)
 have Nh:∀b o,X.s₀.heap.get? b=some o->b∉X.ex->b∉ch:=fun b o e hx hb=>by
  rcases(IK b hb).1 with z|z
  ·exact hx z
  ·exact absurd (Po (Pr e) z) (QH _)
 have cellK:∀x c,X.env.cells.lookup x=some c->∀v,s.heap.IsCell c v->h'.IsCell c v:=fun x c e v D8=>by
  obtain⟨o,ho,hd⟩:=D8;have Mf:c∉ch:=fun z=>(IK c z).2.2.1 x c e rfl
  by_cases hc:c∈X.fs
  ·obtain⟨sl,q⟩:=slot c o (I.cne x c e) hc Mf ho (I.freeC x c e);exact⟨_,q,hd⟩
  ·exact⟨o,keep c o (I.cne x c e) hc Mf ho (I.freeC x c e),hd⟩
 refine⟨I.ok,I.os,hg,⟨fun b o e n hb hx=>?_,fun b o e n hb hx=>?_,fun b o e n hx=>?_,fun b o e hx=>?_,fun b xs e=>tups b xs (I.base.tups b xs e),fun b o xs e=>frzs b o xs (I.base.frzs b o xs e),fun b ps e=>?_⟩,?_,fun x c e=>?_,?_,fun x c e=>?_,fun p hp=>?_,hok,I.len⟩
 ·exact keep b o (Oy b o e) hb (Nh b o e hx) (I.base.keep b o e n hb hx) (I.base.free b o e n hx)
 ·obtain⟨sl,e1⟩:=I.base.slot b o e n hb hx;obtain⟨sl',e2⟩:=slot b _ (Oy b o e) hb (Nh b o e hx) e1 (I.base.free b o e n hx);exact⟨sl',e2⟩
 ·obtain⟨o',e1⟩:=I.base.there b o e hx;exact free b o' (Nh b o e hx) e1 (I.base.free b o e n hx)
 ·obtain⟨o',e1⟩:=I.base.there b o e hx;exact there b o' (Nh b o e hx) e1
 ·obtain⟨m1,e1⟩:=I.base.tbls b ps e;obtain⟨m2,e2⟩:=tbls b _ e1;exact⟨m1++m2,by rw[e2,Array.append_assoc]⟩
 ·obtain⟨m,hn,hl⟩:=I.loc;refine⟨m,ns m hn,fun i x v e1 e2 e3=>?_⟩;obtain⟨u,r,l⟩:=hl i x v e1 e2 e3;refine⟨u,r,?_⟩;rcases l with l|⟨k,c,e,z⟩
  ·exact .inl l
  ·exact .inr ⟨k,c,e,cellK x c e _ z⟩
 ·obtain⟨v,z⟩:=I.cell x c e;exact⟨v,cellK x c e v z⟩
 ·obtain⟨m,⟨o,_,_,ho,_⟩,_⟩:=I.loc;exact free _ o (fun z=>(IK _ z).2.1 rfl) ho I.free
 ·obtain⟨v,o,ho,hd⟩:=I.cell x c e;exact free c o (fun z=>(IK c z).2.2.1 x c e rfl) ho (I.freeC x c e)
 ·obtain⟨e,n,ne,nf,d⟩:=I.pin p hp;have Mf:p.1∉ch:=fun z=>(IK p.1 z).2.2.2 p hp rfl
  exact⟨keep p.1 p.2 ne nf Mf e n,free p.1 p.2 Mf e n,ne,nf,d⟩
theorem Inv.un{t':Nat}(I:Inv X pr σ H s)(u:Un X.fs [] H H' s.heap h')(hok:HOk X.prog X.w H' h'):Inv X pr σ H' {s with heap:=h',toks:=t'}:=by
 obtain⟨m,⟨o,es,ep,ho,r⟩,_⟩:=id I.loc;obtain⟨sl,hL⟩:=u.any ho I.free (by simp);exact I.step (g':=s.gens) (d':=s.drawn) (ch:=[]) (fun _ z=>nomatch z) (fun b o _ hb _ e n=>u.keep b o e n hb (by simp)) (fun b o _ hb _ e n=>u.slot b o e n hb (by simp)) (fun b o _ e n=>u.free b o e n (by simp)) (fun b o _ e=>u.there b o e (by simp)) u.tups u.frzs u.tbls (fun m' hm=>by
  obtain⟨o',Ht,KU,IV,r'⟩:=hm;rw[ho]at IV;cases IV;exact⟨_,Ht,KU,hL,r'⟩) hok I.bare
theorem Inv.call{g':Array GenState}{t':Nat}{d':Drawn}{ch:List Addr}(I:Inv X pr σ H s)(u:Un (HR X.stack) ch H H' s.heap h')(hok:HOk X.prog X.w H' h')(hg:AllBare g')
  (IK:∀b∈ch,(b∈X.ex\/X.s₀.heap.objs.size<=b)/\b≠X.env.locals/\(∀x c,X.env.cells.lookup x=some c->c≠b)/\∀p∈X.pn++pr,p.1≠b):
  Inv X pr σ H' {s with heap:=h',gens:=g',drawn:=d',toks:=t'}:=by
 obtain⟨m,⟨o,es,ep,ho,r⟩,_⟩:=id I.loc;obtain⟨sl,hL⟩:=u.any ho I.free fun z=>(IK _ z).2.1 rfl
 exact I.step (ch:=ch) IK (fun b o hL hb hc e n=>u.keep b o e n (fun z=>(Pw.mp (I.stkSub b z)).elim hL hb) hc) (fun b o _ _ hc e n=>u.any e n hc) (fun b o hc e n=>u.free b o e n hc) (fun b o hc e=>u.there b o e hc) u.tups u.frzs u.tbls (fun m' hm=>by
  obtain⟨o',Ht,KU,IV,r'⟩:=hm;rw[ho]at IV;cases IV;exact⟨_,Ht,KU,hL,r'⟩) hok hg
theorem Inv.turned{t':Nat}{it:Addr}(I:Inv X pr σ H s)(k:∀b o,b≠it->s.heap.get? b=some o->h'.get? b=some o)(hn:H it=none)(hL:it≠X.env.locals)
  (h1:it∈X.ex\/X.s₀.heap.objs.size<=it) (h2:∀x c,X.env.cells.lookup x=some c->c≠it) (h3:∀p∈X.pn++pr,p.1≠it):Inv X pr σ H {s with heap:=h',toks:=t'}:=by
 have Oz:∀b u,H b=some u->b≠it:=fun b u e z=>by rw[z,hn]at e;cases e
 refine I.step (g':=s.gens) (d':=s.drawn) (ch:=[it]) (fun b hb=>?_) (fun b o _ _ hc e _=>k b o (fun z=>hc (by simp[z])) e) (fun b o _ _ hc e _=>⟨o.slots,k b o (fun z=>hc (by simp[z])) e⟩) (fun _ _ _ _ n=>n)
  (fun b o hc e=>⟨o,k b o (fun z=>hc (by simp[z])) e⟩) (fun _ _ e=>e) (fun _ _ _ e=>e) (fun b ps e=>⟨#[],by rw[e];simp⟩) (fun m hm=>?_) (fun b u e=>?_) I.bare
 ·have e:b=it:=by simpa using hb
  subst e;exact⟨h1,hL,h2,h3⟩
 ·obtain⟨o,es,ep,ho,r⟩:=hm;exact⟨o,es,ep,k _ o (Rj hL) ho,r⟩
 ·refine(I.hok b u e).stay (fun c v hc q=>k c v ?_ q) (fun _ q=>q) fun _ _ q=>q
  rcases hc with z|z
  ·rw[z];exact Oz b u e
  ·exact Oz c _ z
theorem Inv.tok(I:Inv X pr σ H s)(t:Nat):Inv X pr σ H {s with toks:=t}:=I.un (h':=s.heap) (t':=t) Un.refl I.hok
theorem Inv.kept{t':Nat}(I:Inv X pr σ H s)(k:∀b u,s.heap.get? b=some u->h'.get? b=some u):Inv X pr σ H {s with heap:=h',toks:=t'}:=I.un (Un.kept k) (I.hok.kept k)
theorem Inv.laid{a:Addr}{o:HO}{t':Nat}(I:Inv X pr σ H s)(k:∀b u,s.heap.get? b=some u->h'.get? b=some u)(hp:s.heap.objs.size<=a)(new:ObjOk X.prog X.w (upd H a o) h' a o):
  Inv X pr σ (upd H a o) {s with heap:=h',toks:=t'}:=I.un (Un.laid k hp (I.hok.fresh hp)) (I.hok.laid k hp new)
theorem Inv.write{x e:Addr}{o:HO}{t':Nat}(I:Inv X pr σ H s)(mu:Md (H x))(he:e=x\/H e=some (.own x))(k:∀b u,b≠e->s.heap.get? b=some u->h'.get? b=some u)(LU:∃u,h'.get? e=some u)
  (new:ObjOk X.prog X.w (upd H x o) h' x o):Inv X pr σ (upd H x o) {s with heap:=h',toks:=t'}:=I.un (Un.write mu he k LU) (I.hok.write mu he k LU new)
theorem Inv.pins_of{Kt:List (Addr×Obj)}(I:Inv X pr σ H s)(h:∀p∈Kt,s.heap.get? p.1=some p.2/\H p.1=none/\p.1≠X.env.locals/\p.1∉X.fs/\∀v,p.2.data≠.cell v):Inv X Kt σ H s:=
 ⟨I.ok,I.os,I.bare,I.base,I.loc,I.cell,I.free,I.freeC,fun p hp=>(PR.mp hp).elim (fun z=>I.pin p (Pp _ z)) (h p),I.hok,I.len⟩
theorem ni{N:List Str}(hN:N.Nodup){i j:Nat}{x:Str}(a:N[i]?=some x)(b:N[j]?=some x):i=j:=by
 obtain⟨h1,e1⟩:=Pn.mp a;obtain⟨h2,e2⟩:=Pn.mp b;exact(List.getElem_inj hN).mp (e1.trans e2.symm)
theorem ig{M:Model}{A:Around}{E:Value->Shared->Prop}{i:Nat}{x:Str}{v:V}{u:Value}{Q:Unit->Shared->Prop}(I:Inv X pr σ H s)(hN:X.N.Nodup)(hi:X.N[i]?=some x)(hx:Loc X.env.scope x)(r:RelV v u)
  (h:∀s',Inv X pr (σ.set i (some v)) H s'->(∃a,Heap.SameBut a s.heap s'.heap/\(a=X.env.locals\/X.env.cells.lookup x=some a))->Q () s') (hf:X.fn x=true\/X.env.scope.names.lookup x=some .local:=by first|exact .inl rfl|exact .inr rfl|assumption):wpAny M A (storeName X.env x u) Q E s:=by
 obtain⟨m,hn,hl⟩:=id I.loc;have hcls:(X.env.scope.kind==.class||(X.env.scope.kind==.module&&X.env.locals != X.env.globals))=false:=by rw[I.ok.kind];rfl
 have hiσ:i<σ.length:=by rw[I.len];exact(Pn.mp hi).1
 have cne:=I.cne;have tracked:∀{a:Addr}{h':Heap},(∃o,s.heap.get? a=some o/\H a=none)->Heap.SameBut a s.heap h'->HOk X.prog X.w H h':=fun{a h'} ha hs b ob e=>by
  obtain⟨_,_,Ku⟩:=ha;refine(I.hok b ob e).stay (fun c w' hc q=>(hs.2 c ?_).trans q) (fun _ q=>q) fun _ _ q=>q
  rintro rfl;rcases hc with rfl|hc
  ·rw[Ku]at e;cases e
  ·rw[Ku]at hc;cases hc
 rcases hx with hk|hk
 ·refine wpAny_storeName_local hk hn (fun h' hn' hs=>?_) hcls;obtain⟨oL,_,_,hoL,_⟩:=id hn;refine h _ ⟨I.ok,I.os,I.bare,⟨fun b o e n hb hx=>?_,fun b o e n hb hx=>?_,I.base.free,fun b o e hx=>?_,I.base.tups,I.base.frzs,I.base.tbls⟩,⟨_,hn',fun j y v' e1 e2 e3=>?_⟩,fun y c e=>?_,I.free,I.freeC,fun p hp=>?_,tracked ⟨oL,hoL,I.free⟩ hs,by simpa using I.len⟩ ⟨_,hs,.inl rfl⟩
  ·exact(hs.2 b (PB (Po (Pr e) I.ok.above))).trans (I.base.keep b o e n hb hx)
  ·obtain⟨sl,e1⟩:=I.base.slot b o e n hb hx;exact⟨sl,(hs.2 b (PB (Po (Pr e) I.ok.above))).trans e1⟩
  ·obtain⟨o',e1⟩:=I.base.there b o e hx;exact⟨o',(hs.2 b (PB (Po (Pr e) I.ok.above))).trans e1⟩
  ·by_cases hj:j=i
   ·subst hj;rw[hi]at e1;cases e1;rw[QB hiσ]at e2;cases e2;exact⟨u,r,.inl ⟨hk,by simp⟩⟩
   ·rw[Ss (Rj hj)]at e2;obtain⟨u',r',q⟩:=hl j y v' e1 e2 e3;refine⟨u',r',?_⟩;rcases q with⟨k,e⟩|⟨k,c,e,z⟩
    ·refine .inl ⟨k,?_⟩;have:y≠x:=fun e=>hj (ni hN e1 (e▸hi))
     simp[this,e]
    ·exact .inr ⟨k,c,e,z.sameBut hs (cne y c e)⟩
  ·obtain⟨w',z⟩:=I.cell y c e;exact⟨w',z.sameBut hs (cne y c e)⟩
  ·obtain⟨e,n,ne,nf,d⟩:=I.pin p hp;exact⟨(hs.2 p.1 ne).trans e,n,ne,nf,d⟩
 ·have Iq:X.fn x=true:=by
   rcases hf with z|z
   ·exact z
   ·rw[z]at hk;cases hk
  obtain⟨c,hc⟩:=I.ok.has x (.inl hk);obtain⟨w',z⟩:=I.cell x c hc;refine wpAny_storeName_cell I.ok.kind hk hc z (fun h' LV hs=>?_);obtain⟨oc,OA,hocd⟩:=id z;refine h {s with heap:=h'} ⟨I.ok,I.os,I.bare,⟨fun b o e n hb hx=>?_,fun b o e n hb hx=>?_,I.base.free,fun b o e hx=>?_,I.base.tups,I.base.frzs,I.base.tbls⟩,⟨m,hn.sameBut hs (Rj (cne x c hc)),fun j y v' e1 e2 e3=>?_⟩,fun y c' e=>?_,I.free,I.freeC,fun p hp=>?_,tracked ⟨oc,OA,I.freeC x c hc⟩ hs,by simpa using I.len⟩ ⟨c,hs,.inr hc⟩
  ·exact(hs.2 b (PB (Po (Pr e) (I.ok.cab x c Iq hc)))).trans (I.base.keep b o e n hb hx)
  ·obtain⟨sl,e1⟩:=I.base.slot b o e n hb hx;exact⟨sl,(hs.2 b (PB (Po (Pr e) (I.ok.cab x c Iq hc)))).trans e1⟩
  ·obtain⟨o',e1⟩:=I.base.there b o e hx;exact⟨o',(hs.2 b (PB (Po (Pr e) (I.ok.cab x c Iq hc)))).trans e1⟩
  ·by_cases hj:j=i
   ·subst hj;rw[hi]at e1;cases e1;rw[QB hiσ]at e2;cases e2;exact⟨u,r,.inr ⟨.inl hk,c,hc,LV⟩⟩
   ·rw[Ss (Rj hj)]at e2;obtain⟨u',r',q⟩:=hl j y v' e1 e2 e3;refine⟨u',r',?_⟩;rcases q with q|⟨k,c',e,z'⟩
    ·exact .inl q
    ·refine .inr ⟨k,c',e,z'.sameBut hs ?_⟩;rintro rfl;exact hj (ni hN e1 (I.ok.inj _ _ _ e hc▸hi))
  ·by_cases KW:c'=c
   ·subst KW;exact⟨_,LV⟩
   ·obtain⟨w2,z2⟩:=I.cell y c' e;exact⟨w2,z2.sameBut hs KW⟩
  ·obtain⟨e,n,ne,nf,d⟩:=I.pin p hp;refine⟨(hs.2 p.1 ?_).trans e,n,ne,nf,d⟩;intro q;rw[q,OA]at e;have q':oc=p.2:=P0 e;exact d w' (by rw[<-q'];exact hocd)
theorem nj{M:Model}{A:Around}{E:Value->Shared->Prop}{i:Nat}{x:Str}{v:V}{u:Value}{Q:Unit->Shared->Prop}(I:Inv X pr σ H s)(hN:X.N.Nodup)(hi:X.N[i]?=some x)(hx:Loc X.env.scope x)(r:RelV v u)
  (h:∀s',Inv X pr (σ.set i (some v)) H s'->Q () s') (hf:X.fn x=true\/X.env.scope.names.lookup x=some .local:=by first|exact .inl rfl|exact .inr rfl|assumption):wpAny M A (storeName X.env x u) Q E s:=
 ig I hN hi hx r (fun s' I' _=>h s' I') hf
theorem Inv.call'{s':Shared}{ch:List Addr}(I:Inv X pr σ H s)(ho:s'.os=s.os)(u:Un (HR X.stack) ch H H' s.heap s'.heap)(hok:HOk X.prog X.w H' s'.heap)(hg:AllBare s'.gens)
  (IK:∀b∈ch,(b∈X.ex\/X.s₀.heap.objs.size<=b)/\b≠X.env.locals/\(∀x c,X.env.cells.lookup x=some c->c≠b)/\∀p∈X.pn++pr,p.1≠b):Inv X pr σ H' s':=by
 obtain⟨h',g',d',t',o'⟩:=s';have e:o'=s.os:=ho;subst e;exact I.call (g':=g') (t':=t') (d':=d') u hok hg IK
end
abbrev XK:=Value->Option Addr->Hp->Prop
abbrev St:=List (Option V)
abbrev VK:=V->Hp->Prop
abbrev TE:=St->Hp->VK->Prop
abbrev TT:=St->Hp->(Bool->Hp->Prop)->Prop
abbrev TA:=St->Hp->(List V->Hp->Prop)->Prop
structure Ends where
 nx:St->Hp->Prop
 rt:VK
 bk:St->Hp->Prop:=fun _ _=>False
 ct:St->Hp->Prop:=fun _ _=>False
abbrev TS:=Ends->St->Hp->Prop
def EP(X:Cx)(pr:List (Addr×Obj))(σ:St)(Q:VK)(u:Value)(s':Shared):Prop:=∃v H',Inv X pr σ H' s'/\RelV v u/\Q v H'
def TP(X:Cx)(pr:List (Addr×Obj))(σ:St)(Q:Bool->Hp->Prop)(b:Bool)(s':Shared):Prop:=∃H',Inv X pr σ H' s'/\Q b H'
def AP(X:Cx)(pr:List (Addr×Obj))(σ:St)(Q:List V->Hp->Prop)(us:List Value)(s':Shared):Prop:=∃vs H',Inv X pr σ H' s'/\Vals vs us/\Q vs H'
def SP(X:Cx)(pr:List (Addr×Obj))(D:Ends)(f:Flow)(s':Shared):Prop:=
 match f with
 | .next=>∃σ' H',Inv X pr σ' H' s'/\D.nx σ' H'
 | .brk=>∃σ' H',Inv X pr σ' H' s'/\D.bk σ' H'
 | .cont=>∃σ' H',Inv X pr σ' H' s'/\D.ct σ' H'
 | .ret u=>∃v σ' H',Inv X pr σ' H' s'/\RelV v u/\D.rt v H'
def PE(X:Cx)(e:Expr)(t:TE):Prop:=
 ∀(pr:List (Addr×Obj)) (s:Shared) (σ:St) (H:Hp) (Q:VK),Inv X pr σ H s->t σ H Q->wpAny (model X.prog X.w) X.A (eval e X.env) (EP X pr σ Q) X.xe s
def PT(X:Cx)(e:Expr)(t:TT):Prop:=
 ∀(pr:List (Addr×Obj)) (s:Shared) (σ:St) (H:Hp) (Q:Bool->Hp->Prop),Inv X pr σ H s->t σ H Q->wpAny (model X.prog X.w) X.A (isTrue e X.env (eval e X.env)) (TP X pr σ Q) X.xe s
def PW(X:Cx)(e:Expr)(t:TT):Prop:=
 ∀(whole:Sem Value) (pr:List (Addr×Obj)) (s:Shared) (σ:St) (H:Hp) (Q:Bool->Hp->Prop),Inv X pr σ H s->t σ H Q->wpAny (model X.prog X.w) X.A (isTrue e X.env whole) (TP X pr σ Q) X.xe s
theorem PW.pt{X:Cx}{e:Expr}{t:TT}(h:PW X e t):PT X e t:=h _
def PA(X:Cx)(es:List Expr)(t:TA):Prop:=
 ∀(pos:Pos) (pr:List (Addr×Obj)) (s:Shared) (σ:St) (H:Hp) (Q:List V->Hp->Prop),Inv X pr σ H s->t σ H Q->wpAny (model X.prog X.w) X.A (spliced (backTo pos (starEach es X.env))) (AP X pr σ Q) X.xe s
def PS(X:Cx)(st:Stmt)(t:TS):Prop:=
 ∀(pr:List (Addr×Obj)) (s:Shared) (σ:St) (H:Hp) (D:Ends),Inv X pr σ H s->t D σ H->wpAny (model X.prog X.w) X.A (exec st X.env) (SP X pr D) X.xe s
def PSs(X:Cx)(st:List Stmt)(t:TS):Prop:=
 ∀(pr:List (Addr×Obj)) (s:Shared) (σ:St) (H:Hp) (D:Ends),Inv X pr σ H s->t D σ H->wpAny (model X.prog X.w) X.A (execs st X.env) (SP X pr D) X.xe s
theorem Eg{α:Type}{t:Sem α}{Q Q':α->Shared->Prop}{M:Model}{A:Around}{E:Value->Shared->Prop}{s:Shared}(h:wpAny M A t Q E s)(hQ:∀a s,Q a s->Q' a s):wpAny M A t Q' E s:=RX h hQ fun _ _ x=>x
section
variable{X:Cx}
theorem bin{a b:Expr}{ta tb:TE}(ha:PE X a ta)(hb:PE X b tb){pr:List (Addr×Obj)}{s:Shared}{σ:St}{H:Hp}{R:V->V->Hp->Prop}(I:Inv X pr σ H s)(h:ta σ H fun x H1=>tb σ H1 fun y H2=>R x y H2)
  {α:Type}{Q:α->Shared->Prop}{f:Value->Value->Sem α}
  (hf:∀v u s2 x y H2,Inv X pr σ H2 s2->RelV x v->RelV y u->R x y H2->wpAny (model X.prog X.w) X.A (f v u) Q X.xe s2):
  wpAny (model X.prog X.w) X.A (eval a X.env) (fun v s₁=>wpAny (model X.prog X.w) X.A (eval b X.env) (fun u s₂=>wpAny (model X.prog X.w) X.A (f v u) Q X.xe s₂) X.xe s₁) X.xe s:=by
 refine Eg (ha pr s σ H _ I h) fun v s1 Ee=>?_
 obtain⟨x,H1,I1,r1,q1⟩:=Ee;refine Eg (hb pr s1 σ H1 _ I1 q1) fun u s2 Ee=>?_
 obtain⟨y,H2,I2,r2,q2⟩:=Ee;exact hf v u s2 x y H2 I2 r1 r2 q2
def oU(i:Nat):TE:=fun σ H Q=>∃v,σ[i]?=some (some v)/\Q v H
def tC(v:V):TE:=fun _ H Q=>Q v H
theorem yG{i:Nat}{x:Str}{pos:Pos}(hN:X.N[i]?=some x)(hv:NM X.env.scope x)(hd:(x==("__debug__" : Str))=false:=by decide)(Hu:(x==("__classdict__" : Str))=false:=by decide):PE X (.Name x pos) (oU i):=by
 intro pr s σ H Q I h;obtain⟨v,e,h⟩:=h;obtain⟨m,hn,hl⟩:=I.loc;obtain⟨u,r,l⟩:=hl i x v hN e hv;have fin:EP X pr σ Q u s:=⟨v,H,I,r,h⟩
 rcases l with⟨hk,hm⟩|⟨hk,c,hc,Eb⟩
 ·exact wpAny_Name (wpAny_loadName_local I.ok.kind hk hn hm fin) hd
 ·rcases hk with hk|hk
  ·exact wpAny_Name (wpAny_loadName_cell I.ok.kind hk hc Eb fin) hd
  ·exact wpAny_Name (wpAny_loadName_free I.ok.kind hk hc Eb fin Hu) hd
theorem vo{i j pos}:PE X (.Constant (.int i) j pos) (tC (.int i)):=fun _ _ _ H _ I h=>wpAny_Constant_int ⟨.int i,H,I.tok _,⟨_,rfl⟩,h⟩
theorem Ba{b j pos}:PE X (.Constant (.bool b) j pos) (tC (.bl b)):=fun _ _ _ H _ I h=>Constant_bool ⟨.bl b,H,I,rfl,h⟩
theorem yH{j pos}:PE X (.Constant .none j pos) (tC .non):=fun _ _ _ H _ I h=>Constant_none ⟨.non,H,I,rfl,h⟩
theorem yI{x j pos}:PE X (.Constant (.str x) j pos) (tC (.str x)):=fun _ _ _ H _ I h=>Calls.Constant_str ⟨.str x,H,I.tok _,⟨_,rfl⟩,h⟩
def Gl(X:Cx)(x:Str):Prop:=X.env.kindOf x=some .globalImplicit
theorem wt{E:Value->Shared->Prop}{pr:List (Addr×Obj)}{s:Shared}{σ:St}{H:Hp}{x:Str}{u:Value}{pos:Pos}{Q:Value->Shared->Prop}(I:Inv X pr σ H s)(hg:Gl X x)(hm:X.mg x=some u)(h:Q u s)
  (hd:(x==("__debug__" : Str))=false:=by decide):wpAny (model X.prog X.w) X.A (eval (.Name x pos) X.env) Q E s:=
 SJ I.ok.kind hg (Calls.loadGlobal_global (by rw[I.ok.glob];exact I.mod.glob.keeps I.bk) hm h) hd
theorem gQ{E:Value->Shared->Prop}{pr:List (Addr×Obj)}{s:Shared}{σ:St}{H:Hp}{x:Str}{u:Value}{pos:Pos}{Q:Value->Shared->Prop}(I:Inv X pr σ H s)(hg:Gl X x)(hm:X.mg x=none)(hv:bootBuiltins x=some u)(h:Q u s)
  (hn:x≠"__name__":=by decide) (hd:(x==("__debug__" : Str))=false:=by decide):wpAny (model X.prog X.w) X.A (eval (.Name x pos) X.env) Q E s:=by
 obtain⟨mb,h1,h2⟩:=I.mod.blt;exact SJ I.ok.kind hg (Calls.loadGlobal_builtin (by rw[I.ok.glob];exact I.mod.glob.keeps I.bk) hm (by rw[I.ok.blt];exact h1.keeps I.bk) ((h2 x hn).trans hv) h) hd
theorem wu{x:Str}{v:V}{u:Value}{pos:Pos}(hg:Gl X x)(hm:X.mg x=none)(hv:bootBuiltins x=some u)(r:RelV v u)(hn:x≠"__name__":=by decide)(hd:(x==("__debug__" : Str))=false:=by decide):PE X (.Name x pos) (tC v):=
 fun _ _ _ H _ I h=>gQ I hg hm hv ⟨v,H,I,r,h⟩ hn hd
variable{a b:Expr}{ta tb:TE}{pos:Pos}
def PC(X:Cx)(op:CmpOp)(a b:Expr)(t:TE):Prop:=
 ∀(pr:List (Addr×Obj)) (s:Shared) (σ:St) (H:Hp) (Q:VK),Inv X pr σ H s->t σ H Q->
  wpAny (model X.prog X.w) X.A (eval a X.env) (fun v s₁=>wpAny (model X.prog X.w) X.A (eval b X.env) (fun u s₂=>wpAny (model X.prog X.w) X.A (compareOp op v u) (EP X pr σ Q) X.xe s₂) X.xe s₁) X.xe s
theorem tm(b:Expr){op:CmpOp}(h:op≠.In)(h2:op≠.NotIn):behindInMarks op b=false:=by
 have e1:(op==CmpOp.In)=false:=by cases op <;> first|rfl|exact absurd rfl h
 have e2:(op==CmpOp.NotIn)=false:=by cases op <;> first|rfl|exact absurd rfl h2
 cases b <;> simp[behindInMarks,e1,e2]
def tB(t:TE):TT:=fun σ H Q=>t σ H fun x H1=>∃c,x=.bl c/\Q c H1
theorem Cu{op:CmpOp}{t:TE}(h:PC X op a b t)(h1:behindInMarks op b=false:=by first|exact tm _ (by decide) (by decide)|rfl):PT X (.Compare a [op] [b] pos) (tB t):=by
 intro pr s σ H Q I hw;refine wpAny_isTrue_Compare1 (Eg (h pr s σ H _ I hw) fun v s1 h1=>Eg h1 fun u s2 h2=>Eg h2 fun c s3 ⟨x,H1,I1,r1,q1⟩=>?_) h1;obtain⟨d,rfl,q⟩:=q1;cases r1;exact RM ⟨H1,I1,q⟩
theorem yJ{e:Expr}{t:TE}(h:PE X e t)(he:∀whole,isTrue e X.env whole=(do let v <-whole;standAt e.pos;holding [v] (truthy v)):=by intro _;rfl):PT X e (tB t):=by
 intro pr s σ H Q I hw;refine isTrue_plain (Eg (h pr s σ H _ I hw) fun v s1 ⟨x,H1,I1,r1,q1⟩=>?_) (he _);obtain⟨d,rfl,q⟩:=q1;cases r1;exact RM ⟨H1,I1,q⟩
variable{tA Ni:TT}{aO:List Expr}
def CM(t u:TT):TT:=fun σ H Q=>t σ H fun c H1=>if c=true then u σ H1 Q else Q false H1
def tOr(t u:TT):TT:=fun σ H Q=>t σ H fun c H1=>if c=true then Q true H1 else u σ H1 Q
def CN(t:TT):TT:=fun σ H Q=>t σ H fun c H1=>Q (!c) H1
theorem wx(ha:PT X a tA):PW X (.BoolOp .And [a] pos) tA:=by
 intro wh pr s σ H Q I h;refine isTrue_and (Eg (ha pr s σ H Q I h) fun c s1 e=>?_);cases c with
 |true=>exact isTrue_and_nil e
 |false=>exact e
theorem yK(ha:PT X a tA):PW X (.BoolOp .Or [a] pos) tA:=by
 intro wh pr s σ H Q I h;refine isTrue_or (Eg (ha pr s σ H Q I h) fun c s1 e=>?_);cases c with
 |false=>exact isTrue_or_nil e
 |true=>exact e
theorem yL(ha:PT X a tA)(hb:PW X (.BoolOp .And (b::aO) pos) Ni):PW X (.BoolOp .And (a::b::aO) pos) (CM tA Ni):=by
 intro wh pr s σ H Q I h;refine isTrue_and (Eg (ha pr s σ H _ I h) fun c s1 Ee=>?_);obtain⟨H1,I1,q1⟩:=Ee;cases c with
 |true=>exact hb wh pr s1 σ H1 Q I1 q1
 |false=>exact⟨H1,I1,q1⟩
theorem Bb(ha:PT X a tA)(hb:PW X (.BoolOp .Or (b::aO) pos) Ni):PW X (.BoolOp .Or (a::b::aO) pos) (tOr tA Ni):=by
 intro wh pr s σ H Q I h;refine isTrue_or (Eg (ha pr s σ H _ I h) fun c s1 Ee=>?_);obtain⟨H1,I1,q1⟩:=Ee;cases c with
 |true=>exact⟨H1,I1,q1⟩
 |false=>exact hb wh pr s1 σ H1 Q I1 q1
theorem yM(ha:PT X a tA):PT X (.UnaryOp .Not a pos) (CN tA):=by
 intro pr s σ H Q I h;exact isTrue_not (ha pr s σ H (fun c H1=>Q (!c) H1) I h)
def Bc(ta tb:TE):TE:=fun σ H Q=>ta σ H fun x H1=>∃c,x=.bl c/\if c=true then tb σ H1 Q else Q (.bl false) H1
def Bd(ta:TE):TE:=fun σ H Q=>ta σ H fun x H1=>∃c,x=.bl c/\Q (.bl (!c)) H1
theorem yN{op}{t:TE}(h:PE X a t):PE X (.BoolOp op [a] pos) t:=fun pr s σ H Q I hw=>BoolOp_one (h pr s σ H Q I hw)
theorem yO(ha:PE X a ta)(hb:PE X (.BoolOp .And (b::aO) pos) tb):PE X (.BoolOp .And (a::b::aO) pos) (Bc ta tb):=by
 intro pr s σ H Q I h;refine BoolOp_and (Eg (ha pr s σ H _ I h) fun v s1 Ee=>?_);obtain⟨x,H1,I1,r1,q1⟩:=Ee;obtain⟨c,rfl,q1⟩:=q1;cases r1;refine RM ?_;cases c with
 |true=>exact hb pr s1 σ H1 Q I1 q1
 |false=>exact⟨.bl false,H1,I1,rfl,q1⟩
theorem yP(ha:PE X a ta):PE X (.UnaryOp .Not a pos) (Bd ta):=by
 intro pr s σ H Q I h;refine UnaryOp_ (Eg (ha pr s σ H _ I h) fun v s1 Ee=>?_);obtain⟨x,H1,I1,r1,q1⟩:=Ee;obtain⟨c,rfl,q1⟩:=q1;cases r1;exact not_of (RM ⟨.bl (!c),H1,I1,rfl,q1⟩)
end
def SqL(K:W.Frag)(H:Hp)(a:Addr)(xs:List V):Prop:=
 Rd H a (.lst xs)\/
  ∃(o:Obj) (DY:Array Value) (n:Nat),K.lookup a=some o/\o.cls=.type "list"/\o.dict=none/\o.data=.seq DY n/\DY.size<=sizeLine/\Vals xs DY.toList
def SqT(K:W.Frag)(H:Hp)(a:Addr)(xs:List V):Prop:=
 Rd H a (.tup xs)\/
  ∃(o:Obj) (DY:Array Value) (n:Nat),K.lookup a=some o/\o.cls=.type "tuple"/\o.dict=none/\o.data=.seq DY n/\DY.size<=sizeLine/\Vals xs DY.toList
def CO:Value->Option V
 | .none=>some .non
 | .bool b=>some (.bl b)
 | .int i _=>some (.int i)
 | .str x _=>some (.str x)
 | .bytes b _=>some (.byt b)
 | .float b _=>some (.flt b)
 | .ref a=>some (.ref a)
 | .type n=>some (.ty n)
 |_=>none
theorem RelV.abs{x:V}{u:Value}(r:RelV x u):CO u=some x:=by
 cases x with
 |non=>cases r;rfl
 |bl _=>cases r;rfl
 |int _=>obtain⟨t,rfl⟩:=r;rfl
 |str _=>obtain⟨t,rfl⟩:=r;rfl
 |byt _=>obtain⟨t,rfl⟩:=r;rfl
 |flt _=>obtain⟨t,rfl⟩:=r;rfl
 |ref _=>cases r;rfl
 |ty _=>cases r;rfl
theorem RelV.inj{x y:V}{u:Value}(r:RelV x u)(q:RelV y u):x=y:=P0 (r.abs.symm.trans q.abs)
theorem Vals.inj:∀{xs ys:List V}{us:List Value},Vals xs us->Vals ys us->xs=ys
 |_,_,_,.nil,.nil=>rfl
 |_,_,_,.cons r t,.cons r' t'=>by rw[r.inj r',Vals.inj t t']
section
variable{X:Cx}{pr:List (Addr×Obj)}{σ:St}{H:Hp}{s:Shared}{a:Addr}{xs ys:List V}
theorem SqL.of{K:W.Frag}(h:H a=some (.lst xs)):SqL K H a xs:=.inl (.inl h)
theorem SqT.of{K:W.Frag}(h:H a=some (.tup xs)):SqT K H a xs:=.inl (.inl h)
theorem Inv.list(I:Inv X pr σ H s)(h:SqL X.K H a xs):∃DY:List Value,Vals xs DY/\PlainL s.heap a DY.toArray/\xs.length<=sizeLine:=by
 rcases h with h|⟨o,DY,n,hk,hc,hd,hs,hz,r⟩
 ·obtain⟨z,DY,n,r,e⟩:=h.ok I.hok;exact⟨DY,r,⟨_,n,e,rfl,rfl,rfl⟩,z⟩
 ·refine⟨DY.toList,r,⟨o,n,I.kIn a o hk,hc,hd,by simpa using hs⟩,?_⟩;have e:=r.length;simp only[Q2]at e;lia
theorem Inv.tupleN(I:Inv X pr σ H s)(h:SqT X.K H a xs):∃DY:List Value,Vals xs DY/\IsTupN s.heap a DY.toArray/\xs.length<=sizeLine:=by
 rcases h with h|⟨o,DY,n,hk,hc,hdn,hs,hz,r⟩
 ·obtain⟨z,DY,r,p⟩:=h.ok I.hok;exact⟨DY,r,p,z⟩
 ·refine⟨DY.toList,r,⟨o,I.kIn a o hk,hc,⟨n,by simpa using hs⟩,hdn⟩,?_⟩;have e:=r.length;simp only[Q2]at e;lia
theorem Inv.tuple(I:Inv X pr σ H s)(h:SqT X.K H a xs):∃DY:List Value,Vals xs DY/\IsTup s.heap a DY.toArray/\xs.length<=sizeLine:=by
 obtain⟨DY,r,p,z⟩:=I.tupleN h;exact⟨DY,r,p.tup,z⟩
theorem Inv.list_inj(I:Inv X pr σ H s)(h:SqL X.K H a xs)(h':SqL X.K H a ys):xs=ys:=by
 obtain⟨DY,r,⟨o,n,e,_,_,d⟩,_⟩:=I.list h;obtain⟨its',r',⟨o',n',e',_,_,d'⟩,_⟩:=I.list h';rw[e]at e';cases e';rw[d]at d';injection d' with d1 _;have:DY=its':=by simpa using QN Array.toList d1
 subst this;exact r.inj r'
theorem Inv.tuple_inj(I:Inv X pr σ H s)(h:SqT X.K H a xs)(h':SqT X.K H a ys):xs=ys:=by
 obtain⟨DY,r,⟨o,e,_,n,d⟩,_⟩:=I.tuple h;obtain⟨its',r',⟨o',e',_,n',d'⟩,_⟩:=I.tuple h';rw[e]at e';cases e';rw[d]at d';injection d' with d1 _;have:DY=its':=by simpa using QN Array.toList d1
 subst this;exact r.inj r'
end
abbrev Cx.wish(X:Cx)(E:Value->Shared->Prop):Cx:={X with xe:=E}
abbrev Cx.nox(X:Cx):Cx:=X.wish fun _ _=>False
theorem Cx.Ok.wish{X:Cx}(ok:X.Ok)(E:Value->Shared->Prop):(X.wish E).Ok:=
 ⟨ok.mod,ok.kind,ok.glob,ok.blt,ok.above,ok.inj,ok.has,ok.cab,ok.hd,ok.frames,ok.stk,ok.exf,ok.bs,ok.bsz,ok.noex,ok.exfs,ok.funs,ok.frf⟩
theorem Cx.Ok.unwish{X:Cx}{E:Value->Shared->Prop}(ok:(X.wish E).Ok):X.Ok:=
 ⟨ok.mod,ok.kind,ok.glob,ok.blt,ok.above,ok.inj,ok.has,ok.cab,ok.hd,ok.frames,ok.stk,ok.exf,ok.bs,ok.bsz,ok.noex,ok.exfs,ok.funs,ok.frf⟩
section
variable{X:Cx}{pr:List (Addr×Obj)}{σ:St}{H:Hp}{s:Shared}{E:Value->Shared->Prop}
theorem Inv.wish(I:Inv X pr σ H s)(E:Value->Shared->Prop):Inv (X.wish E) pr σ H s:=⟨I.ok.wish E,I.os,I.bare,I.base,I.loc,I.cell,I.free,I.freeC,I.pin,I.hok,I.len⟩
theorem Inv.unwish(I:Inv (X.wish E) pr σ H s):Inv X pr σ H s:=⟨I.ok.unwish,I.os,I.bare,I.base,I.loc,I.cell,I.free,I.freeC,I.pin,I.hok,I.len⟩
theorem SP.unwish{D:Ends}{f:Flow}{s':Shared}(h:SP (X.wish E) pr D f s'):SP X pr D f s':=by
 cases f with
 |next=>obtain⟨σ',H',I,q⟩:=h;exact⟨σ',H',I.unwish,q⟩
 |brk=>obtain⟨σ',H',I,q⟩:=h;exact⟨σ',H',I.unwish,q⟩
 |cont=>obtain⟨σ',H',I,q⟩:=h;exact⟨σ',H',I.unwish,q⟩
 |ret u=>obtain⟨v,σ',H',I,r,q⟩:=h;exact⟨v,σ',H',I.unwish,r,q⟩
theorem PSs.nox{st:List Stmt}{t:TS}(h:PSs X.nox st t):PSs X st t:=fun pr s σ H D I hw=>
 RX (h pr s σ H D (I.wish _) hw) (fun _ _ q=>q.unwish) fun _ _ z=>False.elim z
end
section
variable{X:Cx}{st:Stmt}{aO:List Stmt}{t u:TS}{e:Expr}{te:TE}{pos:Pos}
def Be:TS:=fun D σ H=>D.nx σ H
def CP(t u:TS):TS:=fun D σ H=>t {D with nx:=u D} σ H
theorem wy:PSs X [] Be:=fun _ _ σ H _ I h=>SE ⟨σ,H,I,h⟩
theorem tq(h1:PS X st t)(h2:PSs X aO u):PSs X (st::aO) (CP t u):=by
 intro pr s σ H D I h;refine wpAny_execs_cons (Eg (h1 pr s σ H {D with nx:=u D} I h) fun f s1 q=>?_);cases f with
 |next=>
  obtain⟨σ',H',I',q⟩:=q;exact h2 pr s1 σ' H' D I' q
 |ret v=>exact q
 |brk=>exact q
 |cont=>exact q
theorem wz(h1:PS X st t):PSs X [st] t:=by
 intro pr s σ H D I h;refine wpAny_execs_cons (Eg (h1 pr s σ H D I h) fun f s1 q=>?_);cases f with
 |next=>exact SE q
 |ret v=>exact q
 |brk=>exact q
 |cont=>exact q
theorem Inv.quiet{pr:List (Addr×Obj)}{σ:St}{H:Hp}{s:Shared}(I:Inv X pr σ H s):interactive X.env=false:=by simp[interactive,I.ok.kind]
def Bf(te:TE):TS:=fun D σ H=>te σ H fun _ H1=>D.nx σ H1
theorem wA(he:PE X e te)(hs:swapsWith e none pos.line X.env=pure false:=by rfl):PS X (.Expr e pos) (Bf te):=by
 intro pr s σ H D I h;exact wpAny_Expr_any (Eg (he pr s σ H _ I h) fun v s1 ⟨x,H1,I1,r1,q1⟩=>⟨σ,H1,I1,q1⟩) I.quiet hs
def CQ(te:TE):TS:=fun D σ H=>te σ H D.rt
theorem vp(he:PE X e te):PS X (.Return (some e) pos) (CQ te):=by
 intro pr s σ H D I h;exact wpAny_Return_some (Eg (he pr s σ H _ I h) fun v s1 ⟨x,H1,I1,r1,q1⟩=>⟨x,σ,H1,I1,r1,q1⟩)
def CS(c:TT)(t u:TS):TS:=fun D σ H=>c σ H fun b H1=>if b=true then t D σ H1 else u D σ H1
theorem Bh{c:Expr}{a b:List Stmt}{tc:TT}(hc:PT X c tc)(ha:PSs X a t)(hb:PSs X b u):PS X (.If c a b pos) (CS tc t u):=by
 intro pr s σ H D I h;refine wpAny_If (Eg (hc pr s σ H _ I h) fun d s1 Ee=>?_);obtain⟨H1,I1,q1⟩:=Ee;cases d with
 |true=>exact ha pr s1 σ H1 D I1 q1
 |false=>exact hb pr s1 σ H1 D I1 q1
end
abbrev TG:=V->St->Hp->(St->Hp->Prop)->Prop
abbrev Kv:=List V->St->Hp->(St->Hp->Prop)->Prop
def PG(X:Cx)(target:Expr)(t:TG):Prop:=
 ∀(pr:List (Addr×Obj)) (s:Shared) (σ:St) (H:Hp) (v:V) (u:Value) (Q:St->Hp->Prop),Inv X pr σ H s->RelV v u->t v σ H Q->
  wpAny (model X.prog X.w) X.A (assign target X.env u) (fun _ s'=>∃σ' H',Inv X pr σ' H' s'/\Q σ' H') X.xe s
def KY(X:Cx)(ts:List Expr)(t:Kv):Prop:=
 ∀(pr:List (Addr×Obj)) (s:Shared) (σ:St) (H:Hp) (vs:List V) (us:List Value) (Q:St->Hp->Prop),Inv X pr σ H s->Vals vs us->t vs σ H Q->
  wpAny (model X.prog X.w) X.A (assignInOrder ((assignEach ts X.env).map (·.2)) us) (fun _ s'=>∃σ' H',Inv X pr σ' H' s'/\Q σ' H') X.xe s
abbrev CT:=V->V->V->Hp->(Hp->Prop)->Prop
def CU(X:Cx)(t:CT):Prop:=
 ∀(pr:List (Addr×Obj)) (s:Shared) (σ:St) (H:Hp) (o i v:V) (ov iv u:Value) (Q:Hp->Prop),Inv X pr σ H s->RelV o ov->RelV i iv->RelV v u->t o i v H Q->
  wpAny (model X.prog X.w) X.A (setItem ov iv u) (fun _ s'=>∃H',Inv X pr σ H' s'/\Q H') X.xe s
section
variable{X:Cx}{pos:Pos}
def yQ(i:Nat):TG:=fun v σ H Q=>Q (σ.set i (some v)) H
theorem wB{i:Nat}{x:Str}(hN:X.N.Nodup)(hi:X.N[i]?=some x)(hx:Loc X.env.scope x)(hf:X.fn x=true\/X.env.scope.names.lookup x=some .local:=by first|exact .inl rfl|exact .inr rfl|assumption):PG X (.Name x pos) (yQ i):=by
 intro pr s σ H v u Q I r h;exact SV (nj I hN hi hx r (fun s' I'=>⟨_,H,I',h⟩) hf)
def CV:Kv:=fun vs σ H Q=>vs=[]/\Q σ H
def Bi(t:TG)(u:Kv):Kv:=fun vs σ H Q=>∃v r,vs=v::r/\t v σ H fun σ' H'=>u r σ' H' Q
theorem wC:KY X [] CV:=by
 intro pr s σ H vs us Q I r h;obtain⟨e,h⟩:=h;subst e;cases r;exact assignInOrder_nil ⟨σ,H,I,h⟩
theorem tu{e:Expr}{es:List Expr}{t:TG}{u:Kv}(h1:PG X e t)(h2:KY X es u)
  (hs:(assignEach (e::es) X.env).map (·.2)=assign e X.env::(assignEach es X.env).map (·.2):=by rfl):KY X (e::es) (Bi t u):=by
 intro pr s σ H vs us Q I r h;obtain⟨v,vr,e1,h⟩:=h;subst e1;cases r with
 |cons r rr=>
  rw[hs];refine assignInOrder_cons (Eg (h1 pr s σ H _ _ _ I r h) fun _ s1 Ee=>?_);obtain⟨σ1,H1,I1,q1⟩:=Ee;exact h2 pr s1 σ1 H1 _ _ Q I1 rr q1
def CW(K:W.Frag)(n:Nat)(t:Kv):TG:=fun v σ H Q=>∃a xs,v=.ref a/\SqT K H a xs/\xs.length=n/\t xs σ H Q
theorem yR{es:List Expr}{k:Nat}{t:Kv}{n:Nat}(hc:X.calm=true)(h:KY X es t)
  (hn:(assignEach es X.env).length=n:=by rfl) (KZ:(assignEach es X.env).findIdx? (·.1)=none:=by rfl):PG X (.Tuple es k pos) (CW X.K n t):=by
 intro pr s σ H v u Q I r hw;obtain⟨a,xs,e1,hq,hl,hw⟩:=hw;subst e1;cases r;obtain⟨DY,rv,ht,hz⟩:=I.tuple hq;refine assign_Tuple_tuple (I.ok.hd hc) ht (by simp[hn,<-hl,rv.length]) KZ fun h' hx=>?_
 have I1:Inv X pr σ H {s with heap:=h'}:=I.kept (t':=s.toks) fun b o e=>hx b o (PB (Pr e)) e
 exact h pr _ σ H xs _ Q I1 (by simpa using rv) hw
def CY(te:TE)(g:TG):TS:=fun D σ H=>te σ H fun x H1=>g x σ H1 D.nx
theorem yS{i:Nat}{x:Str}{e:Expr}{te:TE}{pos':Pos}(hN:X.N.Nodup)(hi:X.N[i]?=some x)(hx:Loc X.env.scope x)(he:PE X e te)(hs:swapsWith e (some (.Name x pos')) pos.line X.env=pure false:=by rfl)(hf:X.fn x=true\/X.env.scope.names.lookup x=some .local:=by first|exact .inl rfl|exact .inr rfl|assumption):
  PS X (.Assign [.Name x pos'] e pos) (CY te (yQ i)):=by
 intro pr s σ H D I h;refine wpAny_Assign_Name (Eg (he pr s σ H _ I h) fun v s1 ⟨y,H1,I1,r1,q1⟩=>?_) hs;exact nj I1 hN hi hx r1 (fun s2 I2=>⟨_,H1,I2,q1⟩) hf
end
section
variable{X:Cx}{pos:Pos}
def yT(c:TT)(tb:TS):TS:=fun D σ H=>∃W:Nat->St->Hp->Prop,(∃m,W m σ H)/\∀m σ H,W m σ H->
 c σ H fun b H1=>if b=true then ∃N:St->Hp->Prop,(∀σ' H',N σ' H'->∃m',m'<m/\W m' σ' H')/\tb {D with nx:=N,ct:=N,bk:=D.nx} σ H1 else D.nx σ H1
theorem tw{c:Expr}{body:List Stmt}{tc:TT}{tb:TS}(hp:PassesOwn (model X.prog X.w) X.A X.env X.xe)(hc:PT X c tc)(hb:PSs X body tb):PS X (.While c body [] pos) (yT tc tb):=by
 intro pr s σ H D I h;obtain⟨W,⟨m0,w0⟩,turn⟩:=h;refine wpAny_While (codeAny_whileLoop (fun n s'=>∃σ' H',Inv X pr σ' H' s'/\W n σ' H') ?_ m0 ⟨σ,H,I,w0⟩);rintro n s1 ⟨σ1,H1,I1,w1⟩;refine Rv hp (Eg (hc pr s1 σ1 H1 _ I1 (turn n σ1 H1 w1)) fun b s2 Ee=>?_);obtain⟨H2,I2,q2⟩:=Ee;cases b with
 |true=>
  obtain⟨N,hN,q2⟩:=q2;rw[Px rfl];refine Rv hp (Eg (hb pr s2 σ1 H2 _ I2 q2) fun f s3 q3=>?_);cases f with
  |next=>
   obtain⟨σ3,H3,I3,n3⟩:=q3;obtain⟨m',hm,w3⟩:=hN σ3 H3 n3;exact⟨m',hm,σ3,H3,I3,w3⟩
  |cont=>
   obtain⟨σ3,H3,I3,n3⟩:=q3;obtain⟨m',hm,w3⟩:=hN σ3 H3 n3;exact⟨m',hm,σ3,H3,I3,w3⟩
  |brk=>exact q3
  |ret v=>exact q3
 |false=>
  rw[PJ PF];exact SE ⟨σ1,H2,I2,q2⟩
end
structure It where
 go:Nat->Hp->Prop
 yld:Nat->Hp->V->Hp->Prop
 stop:Nat->Hp->Prop
def kN(X:Cx)(pr:List (Addr×Obj))(H:Hp)(b:Addr):Prop:=
 H b=none/\b≠X.env.locals/\b∉X.fs/\(b∈X.ex\/X.s₀.heap.objs.size<=b)/\(∀x c,X.env.cells.lookup x=some c->c≠b)/\∀p∈X.pn++pr,p.1≠b
theorem Inv.fpOk{X:Cx}{pr:List (Addr×Obj)}{σ:St}{H H':Hp}{s:Shared}{b:Addr}(I:Inv X pr σ H s)(hb:s.heap.objs.size<=b)(hn:H' b=none):kN X pr H' b:=by
 refine⟨hn,RI (Po I.lt hb),I.nofs hb,.inr (PN I.sz hb),fun x c e z=>?_,fun p hp z=>?_⟩
 ·obtain⟨v,q⟩:=I.cell x c e;exact absurd (Po q.lt (by rw[z];exact hb)) (QH _)
 ·exact absurd (Po (Pr (I.pin p hp).1) (by rw[z];exact hb)) (QH _)
structure Turn(P:Program)(w:World)(K:W.Frag)(tg:Expr)(J:It)(fp:List Addr)(it:Addr)(tn:Nat->Heap->Prop):Prop where
 mem:it∈fp
 obj:∀i h,tn i h->∀b∈fp,∃o,h.get? b=some o/\∀v,o.data≠.cell v
 keep:∀i h h',tn i h->(∀b∈fp,∀o,h.get? b=some o->h'.get? b=some o)->tn i h'
 item:∀(X:Cx),X.prog=P->X.w=w->X.K=K->X.calm=true->∀(i:Nat) (pr:List (Addr×Obj)) (s:Shared) (σ:St) (H:Hp) (E:Value->Shared->Prop),Inv X pr σ H s->(∀b∈fp,kN X pr H b)->tn i s.heap->J.go i H->
  wpAny (model P w) X.A (pyNext (.ref it)) (fun r s1=>∃u,r=some u/\
   wpAny (model P w) X.A (letOwnedTupleGo tg (.ref it) u) (fun _ s2=>∃x H',Inv X pr σ H' s2/\RelV x u/\J.yld i H x H'/\tn (i+1) s2.heap/\∀b∈fp,H' b=none) E s1) E s
 done:∀(X:Cx),X.prog=P->X.w=w->X.K=K->X.calm=true->∀(i:Nat) (pr:List (Addr×Obj)) (s:Shared) (σ:St) (H:Hp) (E:Value->Shared->Prop),Inv X pr σ H s->(∀b∈fp,kN X pr H b)->tn i s.heap->J.stop i H->
  wpAny (model P w) X.A (pyNext (.ref it)) (fun r s1=>r=none/\Inv X pr σ H s1) E s
 self:∀(A:Around) (i:Nat) (s:Shared) (Q:Value->Shared->Prop) (E:Value->Shared->Prop),tn i s.heap->Q (.ref it) s->wpAny (model P w) A (pyIter (.ref it)) Q E s
abbrev TI:=St->Hp->(It->Hp->Prop)->Prop
def OB(X:Cx)(pr:List (Addr×Obj))(σ:St)(tg:Expr)(R:It->Hp->Prop)(LX:Value)(s2:Shared):Prop:=
 ∃(it:Addr) (fp:List Addr) (tn:Nat->Heap->Prop) (J:It) (H':Hp),LX=.ref it/\Inv X pr σ H' s2/\Turn X.prog X.w X.K tg J fp it tn/\tn 0 s2.heap/\(∀b∈fp,kN X pr H' b)/\R J H'
def PI(X:Cx)(tg iter:Expr)(wi:TI):Prop:=
 ∀(pr:List (Addr×Obj)) (s:Shared) (σ:St) (H:Hp) (R:It->Hp->Prop),Inv X pr σ H s->wi σ H R->
  wpAny (model X.prog X.w) X.A (eval iter X.env) (fun v s1=>wpAny (model X.prog X.w) X.A (pyIter v) (OB X pr σ tg R) X.xe s1) X.xe s
theorem pO {M : Model} {A : Around} {E : Value -> Shared -> Prop} {s : Shared} {tg : Expr} {it : Addr} {u : Value} {o : Obj} {n : String} {vs : Array Value} {Q : Unit -> Shared -> Prop} (ho : s.heap.get? it = some o) (hc : o.cls = .type n) (hd : o.data = .fields vs)
    (hn : ["enumerate", "zip", "dict_itemiterator", "dict_reverseitemiterator", "odict_iterator", "itertools.zip_longest", "itertools.pairwise"].contains n = false) (hQ : Q () s) : wpAny M A (letOwnedTupleGo tg (.ref it) u) Q E s := by
  unfold letOwnedTupleGo
  cases tg <;> first
    | exact Py hQ
    | (cases u <;> first
        | exact Py hQ
        | (refine Ph (wpAny_load ho ?_)
           rw [hc, hd]
           show wpAny M A (if (["enumerate", "zip", "dict_itemiterator", "dict_reverseitemiterator", "odict_iterator", "itertools.zip_longest", "itertools.pairwise"].contains n && vs[0]? == some (rawInt _)) = true then _ else _) Q E s
           rw [PJ (by intro h; rw [hn, Bool.false_and] at h; cases h)]
           exact Py hQ))
def LY(K:W.Frag)(a:Addr):It:=
 ⟨fun i H=>∃xs x,SqL K H a xs/\xs[i]?=some x,fun i H x H'=>H'=H/\∀xs,SqL K H a xs->xs[i]?=some x,fun i H=>∃xs,SqL K H a xs/\xs.length<=i⟩
def NO(K:W.Frag)(a:Addr):It:=
 ⟨fun i H=>∃xs x,SqT K H a xs/\xs[i]?=some x,fun i H x H'=>H'=H/\∀xs,SqT K H a xs->xs[i]?=some x,fun i H=>∃xs,SqT K H a xs/\xs.length<=i⟩
def Nj(lo:Int)(n:Nat):It:=⟨fun i _=>i<n,fun i H x H'=>H'=H/\x=.int (lo+i),fun i _=>n<=i⟩
theorem pP{P:Program}{w:World}{K:W.Frag}{tg:Expr}(a it:Addr):Turn P w K tg (LY K a) [it] it (fun i h=>h.IsListIter it a i) where
 mem:=by simp
 obj:=fun i h st b hb=>by
  have e:b=it:=by simpa using hb
  subst e;obtain⟨o,e,c,d⟩:=st;exact⟨o,e,fun v z=>by rw[d]at z;cases z⟩
 keep:=fun i h h' st k=>st.at fun o e=>k it (by simp) o e
 item:=by
  intro X hP hw hK hc i pr s σ H E I hf st hg;subst hP hw hK;obtain⟨xs,x,hq,hx⟩:=hg;obtain⟨DY,rv,p,hz⟩:=I.list hq;obtain⟨u,hu,ru⟩:=rv.get hx;obtain⟨f0,f1,f2,f3,f4,f5⟩:=hf it (by simp);refine wpAny_pyNext_list_item st p.isList (x:=u) (by simpa using hu) fun h' Hq sb=>?_
  have I1:Inv X pr σ H {s with heap:=h'}:=I.turned (t':=s.toks) (fun b o hb e=>(sb.2 b hb).trans e) f0 f1 f3 f4 f5;obtain⟨o,e,c,d⟩:=id Hq;exact⟨u,rfl,pO (s:={s with heap:=h'}) e c d (by decide) ⟨x,H,I1,ru,⟨rfl,fun ys hy=>by rw[I.list_inj hy hq];exact hx⟩,Hq,fun b hb=>(hf b hb).1⟩⟩
 done:=by
  intro X hP hw hK hc i pr s σ H E I hf st hg;subst hP hw hK;obtain⟨xs,hq,hx⟩:=hg;obtain⟨DY,rv,p,hz⟩:=I.list hq;obtain⟨f0,f1,f2,f3,f4,f5⟩:=hf it (by simp);have hl:=rv.length;exact wpAny_pyNext_list_end (I.ok.hd hc) st p.isList (by simp;lia) fun h' eb=>⟨rfl,I.turned (t':=s.toks) (fun b o hb e=>eb b o hb e) f0 f1 f3 f4 f5⟩
 self:=fun _ _ _ _ _ st h=>wpAny_pyIter_listiter st h
theorem oV{P:Program}{w:World}{K:W.Frag}{tg:Expr}(a it:Addr):Turn P w K tg (NO K a) [it] it (fun i h=>h.IsTupleIter it a i) where
 mem:=by simp
 obj:=fun i h st b hb=>by
  have e:b=it:=by simpa using hb
  subst e;obtain⟨o,e,c,d⟩:=st;exact⟨o,e,fun v z=>by rw[d]at z;cases z⟩
 keep:=fun i h h' st k=>st.at fun o e=>k it (by simp) o e
 item:=by
  intro X hP hw hK hc i pr s σ H E I hf st hg;subst hP hw hK;obtain⟨xs,x,hq,hx⟩:=hg;obtain⟨DY,rv,p,hz⟩:=I.tuple hq;obtain⟨u,hu,ru⟩:=rv.get hx;obtain⟨f0,f1,f2,f3,f4,f5⟩:=hf it (by simp);refine wpAny_pyNext_tuple_item st (show s.heap.IsTuple a DY.toArray from p) (x:=u) (by simpa using hu) fun h' Hq sb=>?_
  have I1:Inv X pr σ H {s with heap:=h'}:=I.turned (t':=s.toks) (fun b o hb e=>(sb.2 b hb).trans e) f0 f1 f3 f4 f5;obtain⟨o,e,c,d⟩:=id Hq;exact⟨u,rfl,pO (s:={s with heap:=h'}) e c d (by decide) ⟨x,H,I1,ru,⟨rfl,fun ys hy=>by rw[I.tuple_inj hy hq];exact hx⟩,Hq,fun b hb=>(hf b hb).1⟩⟩
 done:=by
  intro X hP hw hK hc i pr s σ H E I hf st hg;subst hP hw hK;obtain⟨xs,hq,hx⟩:=hg;obtain⟨DY,rv,p,hz⟩:=I.tuple hq;obtain⟨f0,f1,f2,f3,f4,f5⟩:=hf it (by simp);have hl:=rv.length;exact wpAny_pyNext_tuple_end (I.ok.hd hc) st (show s.heap.IsTuple a DY.toArray from p) (by simp;lia) fun h' eb=>⟨rfl,I.turned (t':=s.toks) (fun b o hb e=>eb b o hb e) f0 f1 f3 f4 f5⟩
 self:=fun _ _ _ _ _ st h=>wpAny_pyIter_tupleiter st h
theorem oW{P:Program}{w:World}{K:W.Frag}{tg:Expr}(it:Addr)(lo:Int)(n:Nat):Turn P w K tg (Nj lo n) [it] it (fun i h=>IsRangeIter h it (lo+(i:Nat)*1) ((n:Int)-(i:Nat)) 1) where
 mem:=by simp
 obj:=fun i h st b hb=>by
  have e:b=it:=by simpa using hb
  subst e;exact⟨_,st,fun v z=>by
   have z':Data.fields _=Data.cell v:=z;cases z'⟩
 keep:=fun i h h' st k=>k it (by simp) _ st
 item:=by
  intro X hP hw hK hc i pr s σ H E I hf st hg;subst hP hw hK;obtain⟨f0,f1,f2,f3,f4,f5⟩:=hf it (by simp);have W:=Walks.range (prog:=X.prog) (w:=X.w) (I.ok.hd hc) it lo 1 n;refine W.item i s _ _ hg st fun v h' tk hv Hq kk=>?_
  obtain⟨t,rfl⟩:=hv;have I1:Inv X pr σ H {s with heap:=h',toks:=tk}:=I.turned (fun b o hb e=>kk b o (by simpa using hb) e) f0 f1 f3 f4 f5;refine⟨_,rfl,pO (s:={s with heap:=h',toks:=tk}) (n:="range_iterator") Hq rfl rfl (by decide) ⟨.int (lo+i),H,I1,⟨t,?_⟩,⟨rfl,rfl⟩,Hq,fun b hb=>(hf b hb).1⟩⟩;rw[Int.mul_one]
 done:=by
  intro X hP hw hK hc i pr s σ H E I hf st hg;subst hP hw hK;obtain⟨f0,f1,f2,f3,f4,f5⟩:=hf it (by simp);exact wpAny_pyNext_range_end (I.ok.hd hc) st (by have:n<=i:=hg;lia) fun h' eb=>⟨rfl,I.turned (t':=s.toks) (fun b o hb e=>eb b o hb e) f0 f1 f3 f4 f5⟩
 self:=fun _ _ _ _ _ st h=>wpAny_pyIter_rangeiter st h
section
variable{X:Cx}{tg:Expr}
def Bj(K:W.Frag)(tl:TE):TI:=fun σ H R=>tl σ H fun x H1=>∃a,x=.ref a/\(∃xs,SqL K H1 a xs)/\R (LY K a) H1
def CZ(K:W.Frag)(tl:TE):TI:=fun σ H R=>tl σ H fun x H1=>∃a,x=.ref a/\(∃xs,SqT K H1 a xs)/\R (NO K a) H1
theorem pQ{l:Expr}{tl:TE}(hl:PE X l tl):PI X tg l (Bj X.K tl):=by
 intro pr s σ H R I h;refine Eg (hl pr s σ H _ I h) fun v s1 Ee=>?_
 obtain⟨x,H1,I1,r1,q1⟩:=Ee;obtain⟨a,e,⟨xs,hq⟩,q⟩:=q1;subst e;cases r1;obtain⟨DY,rv,p,hz⟩:=I1.list hq;refine Q3 p.isList ?_;refine⟨s1.heap.objs.size,[s1.heap.objs.size],_,_,H1,rfl,I1.kept (t':=s1.toks) fun b o e=>Pm _ e,pP a _,⟨_,Pz _ rfl,rfl,rfl⟩,fun b hb=>?_,q⟩;have e:b=s1.heap.objs.size:=by simpa using hb
 subst e;exact I1.fpOk (Pt _) (I1.hok.fresh (Pt _))
theorem yU{l:Expr}{tl:TE}(hl:PE X l tl):PI X tg l (CZ X.K tl):=by
 intro pr s σ H R I h;refine Eg (hl pr s σ H _ I h) fun v s1 Ee=>?_
 obtain⟨x,H1,I1,r1,q1⟩:=Ee;obtain⟨a,e,⟨xs,hq⟩,q⟩:=q1;subst e;cases r1;obtain⟨DY,rv,p,hz⟩:=I1.tuple hq;refine QR (show s1.heap.IsTuple a DY.toArray from p) ?_;refine⟨s1.heap.objs.size,[s1.heap.objs.size],_,_,H1,rfl,I1.kept (t':=s1.toks) fun b o e=>Pm _ e,oV a _,⟨_,Pz _ rfl,rfl,rfl⟩,fun b hb=>?_,q⟩;have e:b=s1.heap.objs.size:=by simpa using hb
 subst e;exact I1.fpOk (Pt _) (I1.hok.fresh (Pt _))
theorem tF{pr:List (Addr×Obj)}{σ:St}{H:Hp}{s:Shared}{R:It->Hp->Prop}{E:Value->Shared->Prop}{lo hi:Int}{t u v:Tok}{tk:Nat}(I:Inv X pr σ H s)(h1:-(2 ^ 62)<=lo)(h2:lo<2 ^ 62)(h3:-(2 ^ 62)<=hi)(h4:hi<2 ^ 62)
  (q:R (Nj lo (hi-lo).toNat) H):wpAny (model X.prog X.w) X.A (pyIter (.ref s.heap.objs.size)) (OB X pr σ tg R) E {s with heap:=s.heap.push {cls:=.type "range",data:=.fields #[.int lo t,.int hi u,.int 1 v]},toks:=tk}:=by
 refine wpAny_pyIter_range (IsRange.new ..) (small_one h1 h2 h3 h4) ?_;have I1:Inv X pr σ H {s with heap:=s.heap.push {cls:=.type "range",data:=.fields #[.int lo t,.int hi u,.int 1 v]},toks:=tk}:=I.kept fun b o e=>Pm _ e
 refine⟨(s.heap.push {cls:=.type "range",data:=.fields #[.int lo t,.int hi u,.int 1 v]}).objs.size,[(s.heap.push {cls:=.type "range",data:=.fields #[.int lo t,.int hi u,.int 1 v]}).objs.size],_,_,H,rfl,
  I1.kept (t':=tk) fun b o e=>Pm _ e,oW _ lo (hi-lo).toNat,?_,fun b hb=>?_,q⟩
 ·have e1:lo+((0:Nat):Int)*1=lo:=by simp
  have e2:(((hi-lo).toNat:Nat):Int)-((0:Nat):Int)=Builtin.Range.rangeSize lo hi 1:=by rw[rangeSize_one];split <;> lia
  show IsRangeIter _ _ (lo+((0:Nat):Int)*1) ((((hi-lo).toNat:Nat):Int)-((0:Nat):Int)) 1;rw[e1,e2];exact Pz _ rfl
 ·have e:b=(s.heap.push {cls:=.type "range",data:=.fields #[.int lo t,.int hi u,.int 1 v]}).objs.size:=by simpa using hb
  subst e;exact I1.fpOk (Pt _) (I1.hok.fresh (Pt _))
def Bk(ta:TA):TI:=fun σ H R=>ta σ H fun vs H1=>∃j:Int,vs=[.int j]/\-(2 ^ 62)<=j/\j<2 ^ 62/\R (Nj 0 j.toNat) H1
theorem pR{a:Expr}{ta:TA}{p pos:Pos}(hg:Gl X "range")(hm:X.mg "range" = none)(ha:PA X [a] ta)(hs:starEach [a] X.env=[(false,eval a X.env)]:=by rfl):PI X tg (.Call (.Name "range" p) [a] [] pos) (Bk ta):=by
 intro pr s σ H R I h;refine Call_ (gQ I hg hm boot_range (Qv (Eg (ha pos pr s σ H _ I h) fun us s1 ⟨vs,H1,I1,r1,q1⟩=>?_) hs rfl));obtain⟨j,e,q1,q2,q⟩:=q1;subst e;cases r1 with
 |cons r rr=>
  cases rr;obtain⟨t,rfl⟩:=r;exact call_range_1 (tF I1 (by lia) (by lia) q1 q2 (by simpa using q))
noncomputable def C0(wi:TI)(g:TG)(tb:TS):TS:=fun D σ H=>wi σ H fun J H1=>∃W:Nat->Nat->St->Hp->Prop,(∃m,W 0 m σ H1)/\∀i m σ H,W i m σ H->
 (J.stop i H/\D.nx σ H)\/(J.go i H/\∃N:St->Hp->Prop,(∀σ' H',N σ' H'->∃m',m'<m/\W (i+1) m' σ' H')/\∀x H',J.yld i H x H'->g x σ H' fun σ2 H2=>tb {D with nx:=N,ct:=N,bk:=D.nx} σ2 H2)
def je(fp:List Addr)(h:Heap):List (Addr×Obj):=fp.filterMap fun b=>(h.get? b).map fun o=>(b,o)
theorem cV{fp:List Addr}{h:Heap}{b:Addr}{o:Obj}(hb:b∈fp)(e:h.get? b=some o):(b,o)∈je fp h:=Ui.mpr ⟨b,hb,by rw[e];rfl⟩
theorem pS{fp:List Addr}{h:Heap}{p:Addr×Obj}(hp:p∈je fp h):p.1∈fp/\h.get? p.1=some p.2:=by
 obtain⟨b,hb,e⟩:=Ui.mp hp;cases q:h.get? b with
 |none=>rw[q]at e;cases e
 |some o=>
  rw[q]at e;have e':(b,o)=p:=P0 e;subst e';exact⟨hb,q⟩
theorem Inv.pinned{pr:List (Addr×Obj)}{σ:St}{H:Hp}{s:Shared}{fp:List Addr}(I:Inv X pr σ H s)(hf:∀b∈fp,kN X pr H b)(ho:∀b∈fp,∃o,s.heap.get? b=some o/\∀v,o.data≠.cell v):Inv X (pr++je fp s.heap) σ H s:=
 I.pins_of fun p hp=>(PR.mp hp).elim (fun z=>I.pin p (Pj _ z)) fun z=>by
  obtain⟨hb,e⟩:=pS z;obtain⟨f0,f1,f2,_⟩:=hf p.1 hb;obtain⟨o,e',d⟩:=ho p.1 hb;rw[e]at e';cases e';exact⟨e,f0,f1,f2,d⟩
theorem Inv.unpinned{pr pl:List (Addr×Obj)}{σ:St}{H:Hp}{s:Shared}(I:Inv X (pr++pl) σ H s):Inv X pr σ H s:=I.pins_of fun p hp=>I.pin p (Pj _ (Pp _ hp))
theorem pT{iter:Expr}{body:List Stmt}{wi:TI}{g:TG}{tb:TS}{pos:Pos}(hp:PassesOwn (model X.prog X.w) X.A X.env X.xe)(hc:X.calm=true)(hi:PI X tg iter wi)(hg:PG X tg g)(hb:PSs X body tb)
  (hs:∀x,foldedSetIterable iter X.env x=pure x:=by intro _;rfl):PS X (.For tg iter body [] pos) (C0 wi g tb):=by
 intro pr s σ H D I h;refine wpAny_For (Eg (hi pr s σ H _ I h) fun v s1 h1=>Eg h1 fun LX s2 h2=>?_) hs;obtain⟨it,fp,tn,J,H2,e,I2,T,D5,f2,W,⟨m0,w0⟩,turn⟩:=h2;subst e;have Gz:∀{H':Hp},(∀b∈fp,H' b=none)->∀b∈fp,kN X pr H' b:=fun hn b hb=>⟨hn b hb,(f2 b hb).2⟩
 refine codeAny_forLoop_any (fun n s'=>∃i σ' H',Inv X pr σ' H' s'/\tn i s'.heap/\(∀b∈fp,H' b=none)/\W i n σ' H') ?_ m0 ⟨0,σ,H2,I2,D5,fun b hb=>(f2 b hb).1,w0⟩;rintro n s3 ⟨i,σ3,H3,I3,En,Kw,w3⟩;rcases turn i n σ3 H3 w3 with⟨stop,qn⟩|⟨go,N,hN,step⟩
 ·refine Rv hp (Eg (T.done X rfl rfl rfl hc i pr s3 σ3 H3 X.xe I3 (Gz Kw) En stop) fun r s4 Ee=>?_);obtain⟨hr,I4⟩:=Ee;subst hr;exact SE ⟨σ3,H3,I4,qn⟩
 ·refine Rv hp (Eg (T.item X rfl rfl rfl hc i pr s3 σ3 H3 X.xe I3 (Gz Kw) En go) fun r s4 Ee=>?_);obtain⟨u,hr,h4⟩:=Ee;subst hr;refine Rv hp (Eg h4 fun _ s5 Ee=>?_);obtain⟨x,H5,I5,r5,y5,Fo,Mg⟩:=Ee;have Mh:=I5.pinned (Gz Mg) (T.obj _ _ Fo);refine Rv hp (Eg (hg _ s5 σ3 H5 x u _ Mh r5 (step x H5 y5)) fun _ s6 Ee=>?_);obtain⟨σ6,H6,I6,q6⟩:=Ee;refine Rv hp (Eg (hb _ s6 σ6 H6 _ I6 q6) fun f s7 q7=>?_);have again:∀{σ7:St}{H7:Hp},Inv X (pr++je fp s5.heap) σ7 H7 s7->N σ7 H7->∃m,m<n/\∃i σ' H',Inv X pr σ' H' s7/\tn i s7.heap/\(∀b∈fp,H' b=none)/\W i m σ' H':=fun{σ7 H7} I7 n7=>by
   obtain⟨m',hm,w7⟩:=hN σ7 H7 n7;refine⟨m',hm,i+1,σ7,H7,I7.unpinned,T.keep _ _ _ Fo fun b hb o e=>(I7.pin (b,o) (Pj _ (Pj _ (cV hb e)))).1,fun b hb=>?_,w7⟩;obtain⟨o,e,d⟩:=T.obj _ _ Fo b hb;exact(I7.pin (b,o) (Pj _ (Pj _ (cV hb e)))).2.1
  cases f with
  |next=>obtain⟨σ7,H7,I7,n7⟩:=q7;exact again I7 n7
  |cont=>obtain⟨σ7,H7,I7,n7⟩:=q7;exact again I7 n7
  |brk=>obtain⟨σ7,H7,I7,q7⟩:=q7;exact⟨σ7,H7,I7.unpinned,q7⟩
  |ret v=>obtain⟨x7,σ7,H7,I7,r7,q7⟩:=q7;exact⟨x7,σ7,H7,I7.unpinned,r7,q7⟩
end
theorem for_list{K:W.Frag}{a:Addr}{xs:List V}{g:TG}{tb:TS}{D:Ends}{σ:St}{H:Hp}(Pv:Nat->St->Hp->Prop)(h0:Pv 0 σ H)(hl:∀i σ H,i<=xs.length->Pv i σ H->SqL K H a xs)
  (hs:∀i x σ H,xs[i]?=some x->Pv i σ H->g x σ H fun σ2 H2=>tb {D with nx:=Pv (i+1),ct:=Pv (i+1),bk:=D.nx} σ2 H2) (hd:∀σ H,Pv xs.length σ H->D.nx σ H):
  ∃W:Nat->Nat->St->Hp->Prop,(∃m,W 0 m σ H)/\∀i m σ H,W i m σ H->
   ((LY K a).stop i H/\D.nx σ H)\/((LY K a).go i H/\∃N:St->Hp->Prop,(∀σ' H',N σ' H'->∃m',m'<m/\W (i+1) m' σ' H')/\∀x H',(LY K a).yld i H x H'->g x σ H' fun σ2 H2=>tb {D with nx:=N,ct:=N,bk:=D.nx} σ2 H2):=by
 refine⟨fun i m σ H=>m=xs.length-i/\i<=xs.length/\Pv i σ H,⟨xs.length,by simp,QA _,h0⟩,?_⟩;rintro i m σ H ⟨rfl,hi,p⟩;have q:=hl i σ H hi p;by_cases ED:i<xs.length
 ·refine .inr ⟨⟨xs,xs[i],q,by simp[ED]⟩,Pv (i+1),fun σ' H' p'=>⟨xs.length-(i+1),by lia,rfl,ED,p'⟩,fun x H' y=>?_⟩;obtain⟨e,y⟩:=y;subst e;exact hs i x σ _ (y xs q) p
 ·have e:i=xs.length:=by lia
  subst e;exact .inl ⟨⟨xs,q,Pt _⟩,hd σ H p⟩
abbrev R2:=V->V->Hp->VK->Prop
def EG(X:Cx)(f:Value->Value->Sem Value)(r:R2):Prop:=
 ∀(pr:List (Addr×Obj)) (s:Shared) (σ:St) (H:Hp) (x y:V) (v u:Value) (Q:VK),Inv X pr σ H s->RelV x v->RelV y u->r x y H Q->
  wpAny (model X.prog X.w) X.A (f v u) (EP X pr σ Q) X.xe s
def NP(X:Cx)(f:Value->Sem Value)(r:V->Hp->VK->Prop):Prop:=
 ∀(pr:List (Addr×Obj)) (s:Shared) (σ:St) (H:Hp) (x:V) (v:Value) (Q:VK),Inv X pr σ H s->RelV x v->r x H Q->
  wpAny (model X.prog X.w) X.A (f v) (EP X pr σ Q) X.xe s
def eO(X:Cx)(f:Value)(r:List V->Hp->VK->Prop):Prop:=
 ∀(pr:List (Addr×Obj)) (s:Shared) (σ:St) (H:Hp) (xs:List V) (us:List Value) (Q:VK),Inv X pr σ H s->Vals xs us->r xs H Q->
  wpAny (model X.prog X.w) X.A (call f us) (EP X pr σ Q) X.xe s
def LZ(r:R2)(ta tb:TE):TE:=fun σ H Q=>ta σ H fun x H1=>tb σ H1 fun y H2=>r x y H2 Q
def tUn(r:V->Hp->VK->Prop)(ta:TE):TE:=fun σ H Q=>ta σ H fun x H1=>r x H1 Q
def rI(C:Int->Int->Prop)(g:Int->Int->V):R2:=fun x y H Q=>∃i j,x=.int i/\y=.int j/\C i j/\Q (g i j) H
def L0(g:Int->Int->V):R2:=fun x y H Q=>∃i j,x=.int i/\y=.int j/\Q (g i j) H
def rU(g:Int->V):V->Hp->VK->Prop:=fun x H Q=>∃i,x=.int i/\Q (g i) H
section
variable{X:Cx}{a b c:Expr}{ta tb tc:TE}{pos:Pos}
theorem Bl(ha:PE X a ta)(hb:PE X b tb){pr:List (Addr×Obj)}{s:Shared}{σ:St}{H:Hp}{R:V->V->Hp->Prop}(I:Inv X pr σ H s)
  (h:ta σ H fun x H1=>tb σ H1 fun y H2=>R x y H2) {Q:Value->Shared->Prop}{f:Value->Value->Sem Value}
  (hf:∀v u s2 x y H2,Inv X pr σ H2 s2->RelV x v->RelV y u->R x y H2->wpAny (model X.prog X.w) X.A (f v u) Q X.xe s2):
  wpAny (model X.prog X.w) X.A (eval a X.env) (fun v s₁=>wpAny (model X.prog X.w) X.A (eval b X.env) (fun u s₂=>wpAny (model X.prog X.w) X.A (f v u) Q X.xe s₂) X.xe s₁) X.xe s:=by
 refine Eg (ha pr s σ H _ I h) fun v s1 Ee=>?_
 obtain⟨x,H1,I1,r1,q1⟩:=Ee;refine Eg (hb pr s1 σ H1 _ I1 q1) fun u s2 Ee=>?_
 obtain⟨y,H2,I2,r2,q2⟩:=Ee;exact hf v u s2 x y H2 I2 r1 r2 q2
theorem Bm{op:Operator}{r:R2}(ho:EG X (binaryOp op) r)(ha:PE X a ta)(hb:PE X b tb):PE X (.BinOp a op b pos) (LZ r ta tb):=by
 intro pr s σ H Q I h;exact wpAny_BinOp (Bl ha hb I h fun v u s2 x y H2 I2 rx ry q=>ho pr s2 σ H2 x y v u Q I2 rx ry q)
theorem Bn{op:UnaryOp}{r:V->Hp->VK->Prop}(ho:NP X (unaryOp op) r)(ha:PE X a ta):PE X (.UnaryOp op a pos) (tUn r ta):=by
 intro pr s σ H Q I h;exact UnaryOp_ (Eg (ha pr s σ H _ I h) fun v s1 ⟨x,H1,I1,r1,q1⟩=>ho pr s1 σ H1 x v Q I1 r1 q1)
theorem Kx{f:Value->Value->Sem Value}{C:Int->Int->Prop}{g:Int->Int->Int}
  (rule:∀(i j:Int) (t u:Tok) (s:Shared) (Q:Value->Shared->Prop) (E:Value->Shared->Prop),C i j->Q (.int (g i j) s.toks) {s with toks:=s.toks+1}->wpAny (model X.prog X.w) X.A (f (.int i t) (.int j u)) Q E s):
  EG X f (rI C fun i j=>.int (g i j)):=by
 intro pr s σ H x y v u Q I rx ry h;obtain⟨i,j,rfl,rfl,hc,q⟩:=h;obtain⟨t,rfl⟩:=rx;obtain⟨t',rfl⟩:=ry;exact rule i j t t' s _ _ hc ⟨.int (g i j),H,I.tok _,⟨_,rfl⟩,q⟩
theorem Cv{f:Value->Value->Sem Value}{g:Int->Int->Int}
  (rule:∀(i j:Int) (t u:Tok) (s:Shared) (Q:Value->Shared->Prop) (E:Value->Shared->Prop),Q (.int (g i j) s.toks) {s with toks:=s.toks+1}->wpAny (model X.prog X.w) X.A (f (.int i t) (.int j u)) Q E s):
  EG X f (L0 fun i j=>.int (g i j)):=by
 intro pr s σ H x y v u Q I rx ry h;obtain⟨i,j,rfl,rfl,q⟩:=h;obtain⟨t,rfl⟩:=rx;obtain⟨t',rfl⟩:=ry;exact rule i j t t' s _ _ ⟨.int (g i j),H,I.tok _,⟨_,rfl⟩,q⟩
theorem Cw{f:Value->Value->Sem Value}{g:Int->Int->Bool}
  (rule:∀(i j:Int) (t u:Tok) (s:Shared) (Q:Value->Shared->Prop) (E:Value->Shared->Prop),Q (.bool (g i j)) s->wpAny (model X.prog X.w) X.A (f (.int i t) (.int j u)) Q E s):
  EG X f (L0 fun i j=>.bl (g i j)):=by
 intro pr s σ H x y v u Q I rx ry h;obtain⟨i,j,rfl,rfl,q⟩:=h;obtain⟨t,rfl⟩:=rx;obtain⟨t',rfl⟩:=ry;exact rule i j t t' s _ _ ⟨.bl (g i j),H,I,rfl,q⟩
def C1(i j:Int):Prop:=0<j/\j<1073741824
def C2(i j:Int):Prop:=0<=j/\j<=1000000/\i.natAbs<2 ^ 64
def CMul(i j:Int):Prop:=(-(2 ^ 64)<i/\i<2 ^ 64)\/(-(2 ^ 64)<j/\j<2 ^ 64)
theorem CMul.ok{i j:Int}(h:CMul i j):IntMulOk i j:=by
 rcases h with⟨h1,h2⟩|⟨h1,h2⟩
 ·exact .of_left (intBits_le_64 h1 h2)
 ·exact .of_right (intBits_le_64 h1 h2)
theorem yV:EG X (binaryOp .Add) (L0 fun i j=>.int (i+j)):=Cv fun _ _ _ _ _ _ _ q=>add_int q
theorem yW:EG X (binaryOp .Sub) (L0 fun i j=>.int (i-j)):=Cv fun _ _ _ _ _ _ _ q=>sub_int q
theorem yX:EG X (binaryOp .Mult) (rI CMul fun i j=>.int (i*j)):=Kx fun _ _ _ _ _ _ _ hc q=>mul_int q hc.ok
theorem wD:EG X (binaryOp .FloorDiv) (rI C1 fun i j=>.int (i / j)):=Kx fun i j _ _ _ _ _ hc q=>by
 have h1:(0:Int)<j:=hc.1;have h2:j<1073741824:=hc.2;exact floordiv_int (by lia) (by rw[Int.fdiv_eq_ediv_of_nonneg i (by lia)];exact q) (.inl (PyProof.noPylong_small (by lia)))
theorem yY:EG X (binaryOp .Mod) (rI (fun _ j=>0<j) fun i j=>.int (i%j)):=Kx fun i j _ _ _ _ _ hc q=>by
 have h1:(0:Int)<j:=hc;exact mod_int' (by lia) (by rw[Int.fmod_eq_emod_of_nonneg i (by lia)];exact q)
theorem wF:EG X (binaryOp .Mod) (rI (fun _ j=>j≠0) fun i j=>.int (i.fmod j)):=Kx fun _ _ _ _ _ _ _ hc q=>mod_int' hc q
theorem yZ:EG X (binaryOp .Pow) (rI C2 fun i j=>.int (i ^ j.toNat)):=Kx fun _ _ _ _ _ _ _ hc q=>pow_int_small hc.1 hc.2.1 hc.2.2 q
theorem unI{f:Value->Sem Value}{g:Int->Int}
  (rule:∀(i:Int) (t:Tok) (s:Shared) (Q:Value->Shared->Prop) (E:Value->Shared->Prop),Q (.int (g i) s.toks) {s with toks:=s.toks+1}->wpAny (model X.prog X.w) X.A (f (.int i t)) Q E s):
  NP X f (rU fun i=>.int (g i)):=by
 intro pr s σ H x v Q I rx h;obtain⟨i,rfl,q⟩:=h;obtain⟨t,rfl⟩:=rx;exact rule i t s _ _ ⟨.int (g i),H,I.tok _,⟨_,rfl⟩,q⟩
theorem y0:NP X (unaryOp .USub) (rU fun i=>.int (-i)):=unI fun _ _ _ _ _ q=>neg_int q
end
section
variable{X:Cx}{a b c:Expr}{ta tb tc:TE}{pos:Pos}
theorem pU{pr:List (Addr×Obj)}{σ:St}{H:Hp}{s:Shared}{Q:VK}{k k':Bool}(I:Inv X pr σ H s)(q:Q (.bl k) H)(e:k=k'):EP X pr σ Q (.bool k') s:=by
 subst e;exact⟨.bl k,H,I,rfl,q⟩
theorem Bo:EG X (compareOp .Lt) (L0 fun i j=>.bl (decide (i<j))):=Cw fun _ _ _ _ _ _ _ q=>lt_int q
theorem Bp:EG X (compareOp .Gt) (L0 fun i j=>.bl (decide (j<i))):=Cw fun _ _ _ _ _ _ _ q=>gt_int q
theorem pV:EG X (compareOp .Lt) (fun x y H Q=>∃i j,x=.str i/\y=.str j/\Q (.bl (decide (i.cps.toList<j.cps.toList))) H):=by
 intro pr s σ H x y v u Q I rx ry h;obtain⟨i,j,rfl,rfl,q⟩:=h;obtain⟨t,rfl⟩:=rx;obtain⟨t',rfl⟩:=ry;exact lt_str (pU I q rfl)
theorem pW:EG X (compareOp .In) (fun x y H Q=>∃i j,x=.str i/\y=.str j/\Q (.bl (!(Builtin.Str.occurrences j i 0 j.length 1).isEmpty)) H):=by
 intro pr s σ H x y v u Q I rx ry h;obtain⟨i,j,rfl,rfl,q⟩:=h;obtain⟨t,rfl⟩:=rx;obtain⟨t',rfl⟩:=ry;exact in_str (pU I q rfl)
theorem kO:EG X (compareOp .NotIn) (fun x y H Q=>∃i j,x=.str i/\y=.str j/\Q (.bl (!(!(Builtin.Str.occurrences j i 0 j.length 1).isEmpty))) H):=by
 intro pr s σ H x y v u Q I rx ry h;obtain⟨i,j,rfl,rfl,q⟩:=h;obtain⟨t,rfl⟩:=rx;obtain⟨t',rfl⟩:=ry;exact notIn_str (pU I q rfl)
theorem a8(b:Expr){op:CmpOp}(h:op≠.In:=by decide)(h2:op≠.NotIn:=by decide):behindInMarks op b=false:=by
 have e1:(op==CmpOp.In)=false:=by cases op <;> first|rfl|exact absurd rfl h
 have e2:(op==CmpOp.NotIn)=false:=by cases op <;> first|rfl|exact absurd rfl h2
 cases b <;> simp[behindInMarks,e1,e2]
theorem wG{op:CmpOp}{r:R2}(ho:EG X (compareOp op) r)(ha:PE X a ta)(hb:PE X b tb)(hm:behindInMarks op b=false):PE X (.Compare a [op] [b] pos) (LZ r ta tb):=by
 intro pr s σ H Q I h;exact wpAny_Compare1 (Bl ha hb I h fun v u s2 x y H2 I2 rx ry q=>ho pr s2 σ H2 x y v u Q I2 rx ry q) hm
def Bq(t:TE):TT:=fun σ H Q=>t σ H fun x H'=>∃k,x=.bl k/\Q k H'
theorem pX{op:CmpOp}{r:R2}(ho:EG X (compareOp op) r)(ha:PE X a ta)(hb:PE X b tb)(hm:behindInMarks op b=false):PT X (.Compare a [op] [b] pos) (Bq (LZ r ta tb)):=by
 intro pr s σ H Q I h;refine wpAny_isTrue_Compare1 (Eg (ha pr s σ H _ I h) fun v s1 ⟨x,H1,I1,r1,q1⟩=>Eg (hb pr s1 σ H1 _ I1 q1) fun u s2 ⟨y,H2,I2,r2,q2⟩=>
  Eg (ho pr s2 σ H2 x y v u _ I2 r1 r2 q2) fun c s3 ⟨z,H3,I3,r3,k,e,q3⟩=>?_) hm
 subst e;cases r3;exact RM ⟨H3,I3,q3⟩
theorem jg:(sizeLine:Nat)<2 ^ 63:=by rw[S3];decide
theorem oX:EG X (binaryOp .Add) (fun x y H Q=>∃i j,x=.str i/\y=.str j/\i.length+j.length<=sizeLine/\Q (.str (i++j)) H):=by
 intro pr s σ H x y v u Q I rx ry h;obtain⟨i,j,rfl,rfl,hz,q⟩:=h;obtain⟨t,rfl⟩:=rx;obtain⟨t',rfl⟩:=ry;exact add_str (fun t' tk=>⟨.str (i++j),H,I.tok _,⟨_,rfl⟩,q⟩) hz
theorem kP{x:V}{us:List Value}(r:Vals [x] us):∃u,us=[u]/\RelV x u:=by
 cases r with
 |cons r1 r2=>cases r2;exact⟨_,rfl,r1⟩
theorem y6{x y:V}{us:List Value}(r:Vals [x,y] us):∃u w',us=[u,w']/\RelV x u/\RelV y w':=by
 cases r with
 |cons r1 r2=>
  cases r2 with
  |cons r3 r4=>cases r4;exact⟨_,_,rfl,r1,r3⟩
theorem tG:eO X (.builtin "abs") (fun xs H Q=>∃i,xs=[.int i]/\Q (.int (if i<0 then -i else i)) H):=by
 intro pr s σ H xs us Q I r h;obtain⟨i,rfl,q⟩:=h;obtain⟨u,rfl,t,rfl⟩:=kP r;exact call_abs_int fun u tk=>⟨.int (if i<0 then -i else i),H,I.tok _,⟨_,rfl⟩,q⟩
end
section
variable{prog:Program}{w:World}{A:Around}{E:Value->Shared->Prop}{s:Shared}{K:W.Frag}{x dx C f:Addr}{mA:Str->Option Value}{name:Str}{v:Value}
end
theorem RelO.some_of{v:V}{o:Option Value}(r:RelO (some v) o):∃u,o=some u/\RelV v u:=by
 cases o with
 |none=>exact(show False from r).elim
 |some u=>exact⟨u,rfl,r⟩
section
variable{P:Program}{w:World}{H H':Hp}{h h':Heap}{a C dx:Addr}{fs fs':List (Str×V)}
end
structure Cls(K:W.Frag)(C:Addr):Prop where
 pg:PySem.W.plainGet K C Str.empty=true
 hd:PySem.W.hasDictIn K C=true
 po:PySem.W.plainOver K C=true
 sa:PySem.W.findIn K (.ref C) "__setattr__" = some (some (.builtin "object.__setattr__"))
theorem Cls.get{K:W.Frag}{C:Addr}(c:Cls K C)(f:Str):PySem.W.plainGet K C f=true:=c.pg
section
variable{X:Cx}{pr:List (Addr×Obj)}{σ:St}{H:Hp}{s:Shared}{a C dx:Addr}{fs:List (Str×V)}{f:Str}{v:V}{A:Around}{E:Value->Shared->Prop}
end
def InOp(X:Cx)(op:Operator)(rd:V->V->Hp->VK->Prop):Prop:=
 ∀(pr:List (Addr×Obj)) (s:Shared) (σ:St) (H:Hp) (x y:V) (u v:Value) (Q:VK),Inv X pr σ H s->RelV x u->RelV y v->rd x y H Q->wpAny (model X.prog X.w) X.A (inplaceOp op u v) (EP X pr σ Q) X.xe s
section
variable{X:Cx}{o e value:Expr}{f:Str}{pos pos' K0:Pos}{ta tv:TE}
def C3:V->V->Hp->VK->Prop:=fun x y H Q=>∃i j,x=.int i/\y=.int j/\Q (.int (i+j)) H
theorem in_add:InOp X .Add C3:=by
 rintro pr s σ H x y u v Q I rx ry ⟨i,j,rfl,rfl,q⟩;obtain⟨t,rfl⟩:=(show ∃t,u=Value.int i t from rx)
 obtain⟨t',rfl⟩:=(show ∃t',v=Value.int j t' from ry)
 exact PyProof.Rows.iadd_int ⟨.int (i+j),H,I.tok _,⟨_,rfl⟩,q⟩
end
section
variable{X:Cx}{pr:List (Addr×Obj)}{σ:St}{H:Hp}{s:Shared}{A:Around}{E:Value->Shared->Prop}{Q:Value->Shared->Prop}{c:Value}{b:Bool}
end
structure Room(k:Nat)(A:Around):Prop where
 hd:A.handled=none
 dp:A.depth+3*k+5<recursionLimit
 un:A.units+16*k+200<cLine
theorem Room.mono{j k:Nat}{A:Around}(r:Room k A)(h:j<=k):Room j A:=⟨r.hd,by have:=r.dp;lia,by have:=r.un;lia⟩
theorem Room.m{j k:Nat}{A:Around}(r:Room k A)(h:j<=k:=by decide):Room j A:=r.mono h
theorem Room.deeper{k:Nat}{A:Around}(r:Room (k+1) A)(env:Env):Room k (A.deeper env):=
 ⟨r.hd,by have:=r.dp;show A.depth+1+3*k+5<_;lia,by have:=r.un;show A.units+3+16*k+200<_;lia⟩
theorem Room.depth{k:Nat}{A:Around}(r:Room k A):A.depth<recursionLimit:=by have:=r.dp;lia
theorem Room.units{k:Nat}{A:Around}(r:Room k A):A.units+64<cLine:=by have:=r.un;lia
theorem Room.units0{k:Nat}{A:Around}(r:Room k A):A.units<cLine:=by have:=r.un;lia
def C4:TA:=fun _ H Q=>Q [] H
def Br(ta:TE)(tr:TA):TA:=fun σ H Q=>ta σ H fun x H1=>tr σ H1 fun xs H2=>Q (x::xs) H2
section
variable{X:Cx}{e:Expr}{es:List Expr}{te:TE}{t:TA}{pos:Pos}
theorem nq:PA X [] C4:=fun _ _ _ _ H Q I h=>Calls.spliced_nil ⟨[],H,I,.nil,h⟩
theorem fY(ha:PE X e te)(hr:PA X es t)(hs:starEach (e::es) X.env=(false,eval e X.env)::starEach es X.env:=by rfl):PA X (e::es) (Br te t):=by
 intro pos pr s σ H Q I h;rw[hs];show wpAny _ _ (spliced ((false,eval e X.env)::backTo pos (starEach es X.env))) _ _ s;refine Calls.spliced_cons (Eg (ha pr s σ H _ I h) fun u s1 Ee=>?_);obtain⟨x,H1,I1,r1,q1⟩:=Ee;exact Eg (hr pos pr s1 σ H1 _ I1 q1) fun us s2 ⟨xs,H2,I2,r2,q2⟩=>⟨x::xs,H2,I2,.cons r1 r2,q2⟩
def C5(t:TA):TE:=fun σ H Q=>t σ H fun xs H1=>xs.length<=sizeLine/\∀p,H1 p=none->Q (.ref p) (upd H1 p (.tup xs))
def C6(t:TA):TE:=fun σ H Q=>t σ H fun xs H1=>xs.length<=sizeLine/\∀p,H1 p=none->Q (.ref p) (upd H1 p (.lst xs))
theorem vq{x1}(h:PA X es t):PE X (.Tuple es x1 pos) (C5 t):=by
 intro pr s σ H Q I hq;refine wpAny_Tuple_spliced (Eg (h pos pr s σ H _ I hq) fun us s1 ⟨xs,H1,I1,r,z,q⟩=>⟨by rw[<-r.length];exact z,?_⟩);have hf:H1 s1.heap.objs.size=none:=I1.hok.fresh (Pt _);refine⟨.ref s1.heap.objs.size,upd H1 s1.heap.objs.size (.tup xs),I1.laid (t':=s1.toks) (fun b u e=>Pm _ e) (Pt _) ?_,rfl,q _ hf⟩;exact⟨z,us,r,⟨_,Pz _ rfl,rfl,⟨_,rfl⟩,rfl⟩⟩
theorem y7(h:PA X es t):PE X (.List es pos) (C6 t):=by
 intro pr s σ H Q I hq;refine wpAny_List_spliced (Eg (h pos pr s σ H _ I hq) fun us s1 ⟨xs,H1,I1,r,z,q⟩=>⟨by rw[<-r.length];exact z,?_⟩);have hf:H1 s1.heap.objs.size=none:=I1.hok.fresh (Pt _);refine⟨.ref s1.heap.objs.size,upd H1 s1.heap.objs.size (.lst xs),I1.laid (t':=s1.toks) (fun b u e=>Pm _ e) (Pt _) ?_,rfl,q _ hf⟩;exact⟨z,us,0,r,Pz _ rfl⟩
end
abbrev Sp:=List V->Hp->VK->XK->Prop
abbrev CXT:=List Env->Hp->Shared->XK->Value->Shared->Prop
structure Env0(P:Program)(w:World)(K:W.Frag)(mg:Str->Option Value)(base:Heap)(A:Around)(outer:List Env)(s:Shared)(H:Hp):Prop where
 frames:A.frames=some outer
 mod:Mod K mg base
 bs:∀b o,base.get? b=some o->s.heap.get? b=some o/\H b=none
 bsz:base.objs.size<=s.heap.objs.size
 funs:s.heap.FunFrames base outer
 frf:∀b∈HR outer,H b=none
 hok:HOk P w H s.heap
 bare:AllBare s.gens
def CE(outer:List Env)(P:Program)(w:World)(H:Hp)(s:Shared)(Q:VK)(u:Value)(s':Shared):Prop:=
 ∃v H',s'.os=s.os/\AllBare s'.gens/\Un (HR outer) [] H H' s.heap s'.heap/\HOk P w H' s'.heap/\RelV v u/\Q v H'
def CR(CX:CXT)(outer:List Env)(P:Program)(w:World)(H:Hp)(s:Shared)(Q:VK)(E:XK)(r:Result)(s':Shared):Prop:=
 match r with
 | .ok (.ret u)=>CE outer P w H s Q u s'
 | .ok _=>False
 | .error e=>CX outer H s E e s'
structure FnOk(P:Program)(w:World)(K:W.Frag)(mg:Str->Option Value)(base:Heap)(CX:CXT)(k:Nat)(f:Addr)(fd:FuncData)(ps:List Str)(sp:Sp):Prop where
 len:∀vs H Q E,sp vs H Q E->vs.length=ps.length
 run:∀(A:Around) (outer:List Env) (s:Shared) (H:Hp) (args:Args) (us:List Value) (vs:List V) (Q:VK) (E:XK),Room k A->Env0 P w K mg base A outer s H->BindsTo s fd args (ps.zip us)->Vals vs us->sp vs H Q E->
  codeAny (model P w) A (.call (.ref f) args) (CR CX outer P w H s Q E) s
theorem FnOk.imp{P:Program}{w:World}{K:W.Frag}{mg:Str->Option Value}{base:Heap}{CX:CXT}{k:Nat}{f:Addr}{fd:FuncData}{ps:List Str}{sp OC:Sp}(F:FnOk P w K mg base CX k f fd ps sp)
  (h:∀vs H Q E,OC vs H Q E->sp vs H Q E):FnOk P w K mg base CX k f fd ps OC:=
 ⟨fun vs H Q E q=>F.len vs H Q E (h _ _ _ _ q),fun A outer s H args us vs Q E hr he hb hv hs=>F.run A outer s H args us vs Q E hr he hb hv (h _ _ _ _ hs)⟩
section
variable{X:Cx}{pr:List (Addr×Obj)}{σ:St}{H:Hp}{s s':Shared}
theorem Inv.env0(I:Inv X pr σ H s):Env0 X.prog X.w X.K X.mg X.base X.A X.stack s H:=
 ⟨I.ok.frames,I.ok.mod,I.bs,PN I.ok.bsz I.sz,I.stack,I.stkFree,I.hok,I.bare⟩
theorem Inv.after{Q:VK}{u:Value}(I:Inv X pr σ H s)(h:CE X.stack X.prog X.w H s Q u s'):EP X pr σ Q u s':=by
 obtain⟨v,H',os,bare,un,hok,r,q⟩:=h;obtain⟨hh,g,d,t,OD⟩:=s';obtain rfl:OD=s.os:=os;exact⟨v,H',I.call (h':=hh) (g':=g) (d':=d) (t':=t) (ch:=[]) un hok bare (fun b z=>absurd z (by simp)),r,q⟩
end
def tCall(sp:Sp)(Ky:List V)(E:XK)(t:TA):TE:=fun σ H Q=>t σ H fun vs H1=>sp (vs++Ky) H1 Q E
def Binds(K:W.Frag)(fd:FuncData)(ps:List Str)(ds:List Value):Prop:=
 ∀(s:Shared) (us:List Value),K.In s.heap->(us++ds).length=ps.length->BindsTo s fd ⟨us,[]⟩ (ps.zip (us++ds))
theorem Binds.all{K:W.Frag}{fd:FuncData}{ps:List Str}(h:∀us:List Value,us.length=ps.length->bindArgs fd ⟨us,[]⟩=pure (ps.zip us)):Binds K fd ps []:=fun s us _ hl=>by
 rw[PU]at hl ⊢;exact .of_eq (h us hl)
def pY(CX:CXT)(X:Cx)(E:XK):Prop:=∀(pr:List (Addr×Obj)) (σ:St) (H:Hp) (s:Shared) (e:Value) (s':Shared),Inv X pr σ H s->CX X.stack H s E e s'->X.xe e s'
section
variable{X:Cx}{CX:CXT}{k:Nat}{f C:Addr}{fd:FuncData}{ps:List Str}{sp:Sp}{Ky:List V}{ds:List Value}{E:XK}{x m:Str}{p pos apos:Pos}{e o:Expr}{es:List Expr}{ta:TE}{t:TA}
theorem y8{pr:List (Addr×Obj)}{σ:St}{H:Hp}{s:Shared}{Q:VK}{us:List Value}{vs:List V}(F:FnOk X.prog X.w X.K X.mg X.base CX k f fd ps sp)(hr:Room k X.A)(hb:Binds X.K fd ps ds)(hd:Vals Ky ds)(hx:pY CX X E)
  (I:Inv X pr σ H s) (r:Vals vs us) (h:sp (vs++Ky) H Q E):wpAny (model X.prog X.w) X.A (call (.ref f) us) (EP X pr σ Q) X.xe s:=by
 have r2:Vals (vs++Ky) (us++ds):=r.append hd;have hl:(us++ds).length=ps.length:=by rw[<-r2.length];exact F.len _ _ _ _ h
 refine wpAny_call (codeAny_mono (F.run X.A X.stack s H ⟨us,[]⟩ (us++ds) (vs++Ky) Q E hr I.env0 (hb s us I.kIn hl) r2 h) fun r s' hq=>?_);cases r with
 |error e=>exact hx pr σ H s e s' I hq
 |ok fl=>
  cases fl with
  |ret u=>exact I.after hq
  |next=>exact False.elim hq
  |brk=>exact False.elim hq
  |cont=>exact False.elim hq
theorem wH(F:FnOk X.prog X.w X.K X.mg X.base CX k f fd ps sp)(hr:Room k X.A)(hg:Gl X x)(hm:X.mg x=some (.ref f))(hk:PySem.W.keepIn X.K (.ref f)=true)(hb:Binds X.K fd ps ds)(hd:Vals Ky ds)(hx:pY CX X E)
  (ha:PA X (e::es) t) (GA:(x==("__debug__" : Str))=false:=by decide) (he:starEach (e::es) X.env=(false,eval e X.env)::starEach es X.env:=by rfl) (FE:(backTo pos (starEach es X.env)).any (·.1)=false:=by rfl):
  PE X (.Call (.Name x p) (e::es) [] pos) (tCall sp Ky E t):=by
 intro pr s σ H Q I h;refine Rb (wt I hg hm ?_ GA);refine PySem.W.callWith_K (h₀:=X.base) I.ok.mod.kin hk (Eg (ha pos pr s σ H _ I h) fun us s1 ⟨vs,H1,I1,r,q⟩=>⟨I1.kIn,?_⟩) he FE;exact y8 F hr hb hd hx I1 r q
end
section
variable{X:Cx}{CX:CXT}{k:Nat}{f C:Addr}{fd:FuncData}{ps ks:List Str}{sp:Sp}{E:XK}{x m:Str}{p pos apos Mi:Pos}{e o:Expr}{es:List Expr}{kws:List Keyword}{te ta:TE}{t tk:TA}{nm:Option Str}
variable{g:List Value->List Value->List Value}{gV:List V->List V->List V}
end
structure FnScope(N P:List Str)(sc:Scope):Prop where
 kind:sc.kind=.function
 co:sc.isCoroutine=false
 gen:sc.isGenerator=false
 nd:N.Nodup
 pre:N.take P.length=P
 par:∀x∈P,sc.names.lookup x=some .local\/sc.names.lookup x=some .cell
 nofree:∀y∈sc.names,y.2≠.free
theorem fs{N P:List Str}{sc:Scope}(a:sc.kind=.function:=by rfl)(b:sc.isCoroutine=false:=by rfl)(c:sc.isGenerator=false:=by rfl)(d:N.Nodup:=by decide +kernel)(e:N.take P.length=P:=by rfl)(f:∀x∈P,sc.names.lookup x=some .local\/sc.names.lookup x=some .cell:=by decide +kernel)(g:∀y∈sc.names,y.2≠.free:=by decide +kernel):FnScope N P sc:=⟨a,b,c,d,e,f,g⟩
theorem kQ{kindOf:Str->Option NameKind}{x:Str}:∀{binds:List (Str×Value)}{m:Str->Option Value},(∀v,(x,v)∉binds)->bindL kindOf binds m x=m x
 |[],_,_=>rfl
 |(n,v)::r,m,h=>by
  unfold bindL;rw[kQ fun w hw=>h w (Pu _ hw)];split
  ·have:x≠n:=by rintro rfl;exact h v Pq
   simp[this]
  ·rfl
theorem kR{kindOf:Str->Option NameKind}{x:Str}:∀{binds:List (Str×Value)}{m:Str->Option Value},(∀v,(x,v)∉binds)->bindC kindOf binds m x=m x
 |[],_,_=>rfl
 |(n,v)::r,m,h=>by
  unfold bindC;rw[kR fun w hw=>h w (Pu _ hw)];split
  ·rfl
  ·have:x≠n:=by rintro rfl;exact h v Pq
   simp[this]
theorem kS{kindOf:Str->Option NameKind}{x:Str}{v:Value}:∀{P:List Str}{vs:List Value}{i:Nat}{m:Str->Option Value},P.Nodup->P[i]?=some x->vs[i]?=some v->kindOf x=some .local->
  bindL kindOf (P.zip vs) m x=some v
 |[],_,_,_,_,h,_,_=>by simp at h
 |_::_,[],_,_,_,_,h,_=>by simp at h
 |p::P,w::vs,0,m,nd,h1,h2,hk=>by
  simp at h1 h2;subst h1;subst h2;show bindL kindOf ((p,w)::P.zip vs) m p=_;unfold bindL;rw[kQ fun v hv=>(Qe.mp nd).1 (Rw hv).1,Px hk];simp
 |p::P,w::vs,i+1,m,nd,h1,h2,hk=>by
  show bindL kindOf ((p,w)::P.zip vs) m x=_;unfold bindL;exact kS (i:=i) (Qe.mp nd).2 (by simpa using h1) (by simpa using h2) hk
theorem kU{kindOf:Str->Option NameKind}{x:Str}{v:Value}:∀{P:List Str}{vs:List Value}{i:Nat}{m:Str->Option Value},P.Nodup->P[i]?=some x->vs[i]?=some v->kindOf x≠some .local->
  bindC kindOf (P.zip vs) m x=some v
 |[],_,_,_,_,h,_,_=>by simp at h
 |_::_,[],_,_,_,_,h,_=>by simp at h
 |p::P,w::vs,0,m,nd,h1,h2,hk=>by
  simp at h1 h2;subst h1;subst h2;show bindC kindOf ((p,w)::P.zip vs) m p=_;unfold bindC;rw[kR fun v hv=>(Qe.mp nd).1 (Rw hv).1,PJ hk];simp
 |p::P,w::vs,i+1,m,nd,h1,h2,hk=>by
  show bindC kindOf ((p,w)::P.zip vs) m x=_;unfold bindC;exact kU (i:=i) (Qe.mp nd).2 (by simpa using h1) (by simpa using h2) hk
def start(N:List Str)(vs:List V):St:=vs.map some++List.replicate (N.length-vs.length) none
noncomputable def tH(CX:CXT)(P:Program)(w:World)(K:W.Frag)(mg:Str->Option Value)(base:Heap)(N:List Str)(qual:Str)(scope:Scope)(f:Addr)(cd:Value)(A:Around)(outer:List Env)(s:Shared)(H:Hp)(E:XK):Cx where
 prog:=P
 w:=w
 K:=K
 mg:=mg
 base:=base
 A:=A.deeper (envOfC qual scope s.heap.objs.size f cd)
 N:=N
 s₀:=s
 H₀:=H
 env:=envOfC qual scope s.heap.objs.size f cd
 outer:=outer
 stack:=envOfC qual scope s.heap.objs.size f cd::outer
 ex:=[]
 calm:=true
 fn:=fun _=>true
 pn:=[]
 xe:=fun e s'=>wpAny (model P w) (A.deeper (envOfC qual scope s.heap.objs.size f cd)) (leaving (envOfC qual scope s.heap.objs.size f cd) e) (fun _ NQ=>CX outer H s E e NQ) (fun e' NQ=>CX outer H s E e' NQ) s'
theorem nr{sc:Scope}{n:Nat}{x:Str}(h:sc.names.lookup x=some .cell):∃c,(cellsFrom n sc.names []).lookup x=some c:=by
 have q:=Tf sc.names n [] (.inl h);exact Rc.mp q
theorem pZ{CX:CXT}{P:Program}{w:World}{K:W.Frag}{mg:Str->Option Value}{base:Heap}{N ps:List Str}{qual:Str}{scope:Scope}{f:Addr}{cd:Value}{A:Around}{outer:List Env}{s s1:Shared}{H:Hp}{E:XK}{us:List Value}{vs:List V}
  (S:FnScope N ps scope) (hd:A.handled=none) (e0:Env0 P w K mg base A outer s H) (hl:vs.length=ps.length) (r:Vals vs us)
  (x:InCallC s s.heap.objs.size (bindL (envOfC qual scope s.heap.objs.size f cd).kindOf (ps.zip us) fun _=>none) (cellsFrom (s.heap.objs.size+1) scope.names []) (bindC (envOfC qual scope s.heap.objs.size f cd).kindOf (ps.zip us) fun _=>none) s1):
  Inv (tH CX P w K mg base N qual scope f cd A outer s H E) [] (start N vs) H s1:=by
 have FE:ps.length<=N.length:=by have:=QN List.length S.pre;rw[Qs]at this;lia
 obtain⟨h1,tk,rfl,hk⟩:=x.done;have Mj:∀b:Addr,b∉(tH CX P w K mg base N qual scope f cd A outer s H E).ex:=fun b z=>absurd (show b∈([]:List Addr) from z) (by simp)
 refine⟨⟨e0.mod,S.kind,rfl,rfl,Pt _,fun y z c h1 h2=>?_,fun y hy=>?_,fun y c _ h=>?_,fun _=>hd,Around.frames_deeper e0.frames,.inr ⟨rfl,rfl⟩,fun b z=>absurd z (Mj b),e0.bs,e0.bsz,fun b _ _=>Mj b,fun b z=>absurd z (Mj b),e0.funs,e0.frf⟩,
  rfl,e0.bare,Un.kept hk,⟨_,x.toInCall.ns,fun i y v h1 h2 h3=>?_⟩,fun y c h=>⟨_,x.cell y c h⟩,e0.hok.fresh (Pt _),fun y c h=>?_,fun p hp=>absurd (show p∈([]:List (Addr×Obj)) from hp) (by simp),e0.hok.kept hk,?_⟩
 ·exact name_of_addr x.apart (QK h1) (QK h2)
 ·have hy:scope.names.lookup y=some .cell\/scope.names.lookup y=some .free:=hy;rcases hy with hy|hy
  ·exact nr hy
  ·exact absurd rfl (S.nofree _ (QK hy))
 ·exact RW (x.above y c (QK h))
 ·have hi:i<vs.length:=by
   unfold start at h2;by_cases hi:i<vs.length
   ·exact hi
   ·rw[RQ (by simpa using hi)]at h2;rw[List.getElem?_replicate]at h2;split at h2 <;> cases h2
  have ha:vs[i]?=some v:=by
   unfold start at h2;rw[Rq (by simpa using hi),PK]at h2;cases e:vs[i]? with
   |none=>rw[e]at h2;cases h2
   |some a=>rw[e]at h2;cases h2;rfl
  obtain⟨u,hu,rv⟩:=r.get ha;have hp:ps[i]?=some y:=by
   rw[<-S.pre,List.getElem?_take_of_lt (by lia)];exact h1
  have OE:ps.Nodup:=by rw[<-S.pre];exact S.nd.sublist (List.take_sublist _ _)
  refine⟨u,rv,?_⟩;rcases S.par y (Qj hp) with k|k
  ·exact .inl ⟨k,kS OE hp hu k⟩
  ·obtain⟨c,e⟩:=nr (n:=s.heap.objs.size+1) k;refine .inr ⟨.inl k,c,e,?_⟩;have q:=x.cell y c e;rw[kU OE hp hu (by show scope.names.lookup y≠_;rw[k];decide)]at q;exact q
 ·exact e0.hok.fresh (RW (x.above y c (QK h)))
 ·unfold start;show _=N.length;rw[Qo,PQ,List.length_replicate];lia
theorem Bs{CX:CXT}{P:Program}{w:World}{K:W.Frag}{mg:Str->Option Value}{base:Heap}{k:Nat}{f:Addr}{name qual:Str}{params:Arguments}{body:List Stmt}{scope:Scope}{dV kV doc pm Er ct oc:Value}{an od:Option Addr}
  {JD:Array (Option Value)}{N ps:List Str}{sp:Sp}(lk:K.lookup f=some ⟨oc,od,.func (PySem.W.fnOf name qual params body scope dV kV doc pm an Er ct),JD⟩) (Hu:PySem.W.codeIn K Er qual=true) (S:FnScope N ps scope)
  (len:∀vs H Q E,sp vs H Q E->vs.length=ps.length)
  (IW:∀(A:Around) (outer:List Env) (s:Shared) (H:Hp) (vs:List V) (Q:VK) (E:XK),Room k (A.deeper (envOfC qual scope s.heap.objs.size f Er))->sp vs H Q E->
   ∃t,PSs (tH CX P w K mg base N qual scope f Er A outer s H E) body t/\t {nx:=fun _ H'=>Q .non H',rt:=Q} (start N vs) H):
  FnOk P w K mg base CX (k+1) f (PySem.W.fnOf name qual params body scope dV kV doc pm an Er ct) ps sp:=by
 refine⟨len,fun A outer s H args us vs Q E hr e0 hb r Kz=>?_⟩;have hl:=len _ _ _ _ Kz;have KX:K.In s.heap:=e0.mod.kin.keeps fun b o e=>(e0.bs b o e).1
 have lim:s.heap.NoLimit:=e0.mod.nolimit.keeps fun b o e=>(e0.bs b o e).1
 have Mk:∀y∈ps.zip us,scope.names.lookup y.1=some .local\/(scope.names.lookup y.1=some .cell/\((cellsFrom (s.heap.objs.size+1) scope.names []).lookup y.1).isSome=true):=fun D8 hy=>by
  obtain⟨n,v⟩:=D8;rcases S.par n (Rw hy).1 with q|q
  ·exact .inl q
  ·exact .inr ⟨q,Tf _ _ _ (.inl q)⟩
 refine codeAny_call_function hr.depth (KX _ _ lk) rfl S.co S.gen rfl (PySem.W.codeRec_of KX Hu) (hb _ _ _ _ ?_);refine wpAny_newFunctionEnv_cells S.kind Mk fun env he s1 x=>?_
 subst he;refine⟨lim.keeps x.toInCall.keep,codeAny_func ?_⟩;obtain⟨t,ht,hq⟩:=IW A outer s H vs Q E (hr.deeper _) Kz;have I:Inv (tH CX P w K mg base N qual scope f Er A outer s H E) [] (start N vs) H s1:=pZ S hr.hd e0 hl r x;refine RX (ht [] s1 (start N vs) H _ I hq) (fun fl s' hs=>?_) fun e s' hs=>hs
 have fin:∀{σ':St}{H':Hp}{v:V}{u:Value},Inv (tH CX P w K mg base N qual scope f Er A outer s H E) [] σ' H' s'->RelV v u->Q v H'->CE outer P w H s Q u s':=
  fun{σ' H' v u} J rv q=>⟨v,H',J.os,J.bare,J.base,J.hok,rv,q⟩
 cases fl with
 |ret u=>
  obtain⟨v,σ',H',J,rv,q⟩:=hs;exact fin J rv q
 |next=>
  obtain⟨σ',H',J,q⟩:=hs;exact fin (v:=V.non) (u:=Value.none) J rfl q
 |brk=>
  obtain⟨_,_,_,q⟩:=hs;exact False.elim q
 |cont=>
  obtain⟨_,_,_,q⟩:=hs;exact False.elim q
section
variable{X:Cx}{x:Str}{p pos:Pos}{e:Expr}{es:List Expr}{t:TA}{id T:String}{r:List V->Hp->VK->Prop}
def NR(r:List V->Hp->VK->Prop)(t:TA):TE:=fun σ H Q=>t σ H fun vs H1=>r vs H1 Q
theorem nv(hc:eO X (.builtin id) r)(hg:Gl X x)(hm:X.mg x=none)(hv:bootBuiltins x=some (.builtin id))(ha:PA X (e::es) t)(hn:x≠"__name__":=by decide)(GA:(x==("__debug__" : Str))=false:=by decide)
  (he:starEach (e::es) X.env=(false,eval e X.env)::starEach es X.env:=by rfl) (FE:(backTo pos (starEach es X.env)).any (·.1)=false:=by rfl):PE X (.Call (.Name x p) (e::es) [] pos) (NR r t):=by
 intro pr s σ H Q I h;refine Rb (gQ I hg hm hv ?_ hn GA);exact PyProof.Rows.callWith_builtin1 (Eg (ha pos pr s σ H _ I h) fun us s1 ⟨vs,H1,I1,r1,q1⟩=>hc pr s1 σ H1 vs us Q I1 r1 q1) he FE
theorem p0(hc:eO X (.type T) r)(hg:Gl X x)(hm:X.mg x=none)(hv:bootBuiltins x=some (.type T))(ha:PA X (e::es) t)(hn:x≠"__name__":=by decide)(GA:(x==("__debug__" : Str))=false:=by decide)
  (he:starEach (e::es) X.env=(false,eval e X.env)::starEach es X.env:=by rfl) (FE:(backTo pos (starEach es X.env)).any (·.1)=false:=by rfl):PE X (.Call (.Name x p) (e::es) [] pos) (NR r t):=by
 intro pr s σ H Q I h;refine Rb (gQ I hg hm hv ?_ hn GA);exact Qv (Eg (ha pos pr s σ H _ I h) fun us s1 ⟨vs,H1,I1,r1,q1⟩=>hc pr s1 σ H1 vs us Q I1 r1 q1) he FE
end
end L2
namespace HT
open PySem PyProof.Rows
section
open PySem.SeqAt
open PySem.AutoSeq1 (wpAny_loadPart')
open PySem.MeetsSeq PySem.MeetsSeq2 PySem.MeetsSeq3
end
section
variable{prog:Program}{w:World}{A:Around}{E:Value->Shared->Prop}{s:Shared}
theorem wI{t b:Addr}{vs ws:List Value}{Q:Value->Shared->Prop}(ht:IsTup s.heap t vs.toArray)(hb:IsTup s.heap b ws.toArray)(hv:vs≠[])
  (h1:ws=[]->Q (.ref t) s) (h2:ws≠[]->Q (.ref s.heap.objs.size) {s with heap:=s.heap.push {cls:=.type "tuple",data:=.seq (vs++ws).toArray}})
  (hsz:vs.length+ws.length<=sizeLine):wpAny (model prog w) A (binaryOp .Add (.ref t) (.ref b)) Q E s:=by
 obtain⟨⟨cls,dd,data,sl⟩,ho,hc,n,hd⟩:=id ht;obtain⟨⟨K1,JE,data2,JF⟩,FJ,Ih,n2,hd2⟩:=id hb;simp only at hc hd Ih hd2;subst hc hd Ih hd2;have e:vs.toArray++ws.toArray=(vs++ws).toArray:=by simp
 by_cases hw:ws=[]
 ·exact Tt ⟨_,ho,rfl⟩ ⟨_,FJ,rfl⟩ Tc Uk Sd R3 (RY _ _)
   (tuple_addW1 t b vs.toArray ws.toArray n n2 dd JE sl JF (by simpa using hv) (by simp[hw])) ⟨ho,FJ,h1 hw⟩
 ·refine Tt ⟨_,ho,rfl⟩ ⟨_,FJ,rfl⟩ Tc Uk Sd R3 (RY _ _)
   (tuple_addW2 t b vs.toArray ws.toArray n n2 dd JE sl JF (by simpa using hv) (by simpa using hw) (by rw[Pl,Pl];exact hsz)) ⟨ho,FJ,?_⟩
  rw[e];exact h2 hw
def sIx(n d:Nat):Option Int->Nat
 |none=>d
 |some v=>if v<0 then(v+(n:Int)).toNat else min v.toNat n
theorem ny(n d:Nat):sIx n d none=d:=rfl
theorem wJ(n d k:Nat):sIx n d (some (k:Int))=min k n:=by
 show(if(k:Int)<0 then((k:Int)+(n:Int)).toNat else min (k:Int).toNat n)=min k n;rw[PJ (by lia),Qu]
theorem p3(n d:Nat)(hd:d<=n)(o:Option Int):sIx n d o<=n:=by
 cases o with
 |none=>exact hd
 |some v=>
  show(if v<0 then(v+(n:Int)).toNat else min v.toNat n)<=n;by_cases hv:v<0
  ·rw[Px hv];lia
  ·rw[PJ hv];exact Nat.min_le_right _ _
theorem p4(v:Int)(n d:Nat):(if v<0 then max (v+(n:Int)) 0 else min v (n:Int))=((sIx n d (some v):Nat):Int):=by
 show(if v<0 then max (v+(n:Int)) 0 else min v (n:Int))=(((if v<0 then(v+(n:Int)).toNat else min v.toNat n):Nat):Int)
 by_cases hv:v<0
 ·simp only[Px hv];lia
 ·simp only[PJ hv];lia
theorem oY(lo hi:Option Int)(n:Nat):Builtin.Slice.sliceAdjust lo hi 1 (n:Int)=(((sIx n 0 lo:Nat):Int),((sIx n n hi:Nat):Int)):=by
 have h1:¬ ((1:Int)<0):=by lia
 unfold Builtin.Slice.sliceAdjust;simp only[h1,Ul];refine Prod.ext ?_ ?_
 ·cases lo with
  |none=>rfl
  |some v=>exact p4 v n 0
 ·cases hi with
  |none=>rfl
  |some v=>exact p4 v n n
theorem oZ(i j:Nat):Builtin.Slice.slicePlaces (i:Int) (j:Int) 1=j-i:=by
 unfold Builtin.Slice.slicePlaces;have h1:(1:Int)>0:=by lia
 simp only[h1,Q1,Int.ediv_one];split <;> lia
theorem jh{v:Value}{o:Option Int}{Q:Option Int->Shared->Prop}(p:IsPart v o)(h:Q o s):wpAny (model prog w) A (Builtin.Slice.slicePartIndex v) Q E s:=by
 cases p with
 |none=>exact slicePart_none h
 |int i t=>exact slicePart_int h
theorem eD{sl:Addr}{vl vu:Value}{lo hi:Option Int}{n:Nat}{Q:Int×Int×Nat->Shared->Prop}(hs:s.heap.IsSliceOf sl vl vu .none)(pl:IsPart vl lo)(pu:IsPart vu hi)
  (h:Q (((sIx n 0 lo:Nat):Int),1,sIx n n hi-sIx n 0 lo) s):wpAny (model prog w) A (Builtin.Slice.sliceApplied (.ref sl) (pure (n:Int))) Q E s:=by
 obtain⟨os,K2,Nk,IX⟩:=id hs;unfold Builtin.Slice.sliceApplied Builtin.Slice.sliceFields;refine Ph (Ph (QU K2 IX (x:=vl) rfl (Ph (QU K2 IX (x:=vu) rfl (Ph (QU K2 IX (x:=.none) rfl (Py ?_)))))));refine Ph (slicePart_none ?_);show wpAny _ _ (if((1:Int)==0)=true then _ else _) _ _ s;rw[PJ (by decide)];refine Ph (jh pl (Ph (jh pu (Ph (Py ?_)))));show wpAny _ _ (match Builtin.Slice.sliceAdjust lo hi 1 (n:Int) with|(lo,hi)=>pure (lo,(1:Int),Builtin.Slice.slicePlaces lo hi 1)) _ _ s;rw[oY lo hi n];show wpAny _ _ (pure (((sIx n 0 lo:Nat):Int),(1:Int),Builtin.Slice.slicePlaces ((sIx n 0 lo:Nat):Int) ((sIx n n hi:Nat):Int) 1)) _ _ s;rw[oZ];exact Py h
theorem tJ(xs:Array Value)(i k:Nat):((List.range k).filterMap fun(m:Nat)=>xs[((i:Int)+(m:Int)*1).toNat]?).toArray=((xs.toList.drop i).take k).toArray:=by
 have e:(fun(m:Nat)=>xs[((i:Int)+(m:Int)*1).toNat]?)=fun m=>xs[i+m]?:=by
  funext m
  have:((i:Int)+(m:Int)*1).toNat=i+m:=by lia
  rw[this]
 rw[e];have:=pick_run xs i k;rw[List.filterMap_map]at this;have e2:((fun x=>xs[x]?)∘fun x=>i+x)=fun m=>xs[i+m]?:=rfl
 rw[e2]at this;rw[this]
theorem gF{t sl:Addr}{items:Array Value}{vl vu:Value}{lo hi:Option Int}{Q:Value->Shared->Prop}(ht:IsTup s.heap t items)(hs:s.heap.IsSliceOf sl vl vu .none)(pl:IsPart vl lo)(pu:IsPart vu hi)
  (hw:¬ (sIx items.size 0 lo=0/\sIx items.size items.size hi=items.size))
  (h:Q (.ref s.heap.objs.size) {s with heap:=s.heap.push {cls:=.type "tuple",data:=.seq ((items.toList.drop (sIx items.size 0 lo)).take (sIx items.size items.size hi-sIx items.size 0 lo)).toArray}})
  (hsz:items.size<=sizeLine):wpAny (model prog w) A (getItem (.ref t) (.ref sl)) Q E s:=by
 have Ii:sizeOk (.seq ((items.toList.drop (sIx items.size 0 lo)).take (sIx items.size items.size hi-sIx items.size 0 lo)).toArray):=by
  show((items.toList.drop (sIx items.size 0 lo)).take (sIx items.size items.size hi-sIx items.size 0 lo)).toArray.size<=sizeLine;rw[Pl,Qs,Td,Q2];lia
 have hj:sIx items.size items.size hi<=items.size:=p3 _ _ (Pt _) hi;obtain⟨os,K2,Nk,IX⟩:=id hs;have NS:s.TypeIs (.ref sl) "slice":=⟨os,K2,Nk⟩
 unfold getItem;try with_reducible refine S4 ?_
 first|refine Ph (Py ?_)|skip
 refine Ph (wpAny_sequenceKey ht.typeIs (by decide) ?_);refine Ph (Qz (name:=Str.ofString "__getitem__") ht.typeIs Q4
  (RA Q4 ht.typeIs entry_tuple_getitem ?_ (args_tuple_getitem _ _)))
 show wpAny _ _ (Builtin.Tuple.tupleItemsOf (.ref t) >>= _) _ _ s;refine Ph (tupleItemsOf_ ht ?_);refine Ph (Tu NS ?_);rw[Px (by decide)];refine Ph (eD hs pl pu ?_);have K3:¬ ((((sIx items.size 0 lo:Nat):Int)==0&&(1:Int)==1&&(sIx items.size items.size hi-sIx items.size 0 lo)==items.size)=true):=by
  intro q;rw[PD,PD]at q;have q1:((sIx items.size 0 lo:Nat):Int)=0:=eq_of_beq q.1.1;have q2:sIx items.size items.size hi-sIx items.size 0 lo=items.size:=eq_of_beq q.2;exact hw ⟨by lia,by lia⟩
 show wpAny _ _ (if(((sIx items.size 0 lo:Nat):Int)==0&&(1:Int)==1&&(sIx items.size items.size hi-sIx items.size 0 lo)==items.size)=true then _ else _) _ _ s;rw[PJ K3,tJ];first
  |exact Ph (m:=Builtin.Tuple.tupleExact _) (Q5 (Py ⟨_,rfl,Py h⟩) Ii)
  |exact Ph (m:=Builtin.Tuple.tupleExact _) (Q5 (Ph (Py (Py ⟨_,rfl,Py h⟩))) Ii)
  |exact Ph (Ph (m:=Builtin.Tuple.tupleExact _) (Q5 (Py (Py ⟨_,rfl,Py h⟩)) Ii))
  |exact Ph (Ph (m:=Builtin.Tuple.tupleExact _) (Q5 (Py ⟨_,rfl,Py h⟩) Ii))
end
end HT
namespace L2
open PySem PySem.Spec PyProof.Rows
abbrev TO:=St->Hp->(Option Int->Hp->Prop)->Prop
def PO(X:Cx)(e:Option Expr)(t:TO):Prop:=
 ∀(pr:List (Addr×Obj)) (s:Shared) (σ:St) (H:Hp) (Q:Option Int->Hp->Prop),Inv X pr σ H s->t σ H Q->
  wpAny (model X.prog X.w) X.A (evalPart e X.env) (fun u s'=>∃o H',Inv X pr σ H' s'/\IsPart u o/\Q o H') X.xe s
def wK:TO:=fun _ H Q=>Q none H
def Bt(t:TE):TO:=fun σ H Q=>t σ H fun x H1=>∃i,x=.int i/\Q (some i) H1
section
variable{X:Cx}{e:Expr}{te:TE}{lo hi:Option Expr}{tl th:TO}{pos p2:Pos}
theorem wL:PO X none wK:=by
 intro pr s σ H Q I h;rw[evalPart_none];exact Py ⟨none,H,I,.none,h⟩
theorem wM(h:PE X e te):PO X (some e) (Bt te):=by
 intro pr s σ H Q I hw;rw[evalPart_some];refine Eg (h pr s σ H _ I hw) fun u s1 Ee=>?_
 obtain⟨x,H1,I1,r1,q1⟩:=Ee;obtain⟨i,rfl,q⟩:=q1;obtain⟨t,rfl⟩:=r1;exact⟨some i,H1,I1,.int i t,q⟩
def K4(X:Cx)(r:V->Option Int->Option Int->Hp->VK->Prop):Prop:=
 ∀(pr:List (Addr×Obj)) (s:Shared) (σ:St) (H:Hp) (x:V) (v vl vu:Value) (lo hi:Option Int) (sl:Addr) (Q:VK),Inv X pr σ H s->RelV x v->s.heap.IsSliceOf sl vl vu .none->IsPart vl lo->IsPart vu hi->r x lo hi H Q->
  ∃T id,typeLookup (.type T) "__getitem__" = pure (some (.builtin id))/\s.TypeIs v T/\wpAny (model X.prog X.w) X.A (getItem v (.ref sl)) (EP X pr σ Q) X.xe s
def tSl(r:V->Option Int->Option Int->Hp->VK->Prop)(te:TE)(tl th:TO):TE:=fun σ H Q=>te σ H fun x H1=>tl σ H1 fun l H2=>th σ H2 fun u H3=>r x l u H3 Q
theorem tL{r:V->Option Int->Option Int->Hp->VK->Prop}(hr:K4 X r)(he:PE X e te)(hl:PO X lo tl)(hu:PO X hi th):PE X (.Subscript e (.Slice lo hi none p2) pos) (tSl r te tl th):=by
 intro pr s σ H Q I h;refine Subscript_ (Eg (he pr s σ H _ I h) fun v s1 Ee=>?_);obtain⟨x,H1,I1,r1,q1⟩:=Ee;refine wpAny_Slice (Eg (hl pr s1 σ H1 _ I1 q1) fun vl s2 ⟨l,H2,I2,pl,q2⟩=>Eg (hu pr s2 σ H2 _ I2 q2) fun vu s3 Ee=>?_);obtain⟨u,H3,I3,pu,q3⟩:=Ee;rw[evalPart_none];refine Py ?_;have I4:Inv X pr σ H3 {s3 with heap:=s3.heap.push {cls:=.type "slice",data:=.fields #[vl,vu,.none]}}:=I3.kept (t':=s3.toks) fun b ob q=>Pm _ q
 obtain⟨T,id,hT,ht,hg⟩:=hr pr {s3 with heap:=s3.heap.push {cls:=.type "slice",data:=.fields #[vl,vu,.none]}} σ H3 x v vl vu l u s3.heap.objs.size Q I4 r1 (Heap.IsSliceOf.new ..) pl pu q3;show wpAny (model X.prog X.w) X.A (subscriptTail e (.Slice lo hi none p2) v (.ref s3.heap.objs.size)) (EP X pr σ Q) X.xe {s3 with heap:=s3.heap.push {cls:=.type "slice",data:=.fields #[vl,vu,.none]}};exact tail_any (ops:=[.ref s3.heap.objs.size,v]) ht hT hg (by with_unfolding_all rfl)
def vv(xs:List V)(lo hi:Option Int):List V:=(xs.drop (HT.sIx xs.length 0 lo)).take (HT.sIx xs.length xs.length hi-HT.sIx xs.length 0 lo)
theorem ij(xs:List V)(lo hi:Option Int):(vv xs lo hi).length<=xs.length:=by
 unfold vv;rw[Qs,Td];lia
def C7(K:W.Frag):V->Option Int->Option Int->Hp->VK->Prop:=fun x lo hi H Q=>∃a xs,x=.ref a/\SqT K H a xs/\
 ¬ (HT.sIx xs.length 0 lo=0/\HT.sIx xs.length xs.length hi=xs.length)/\∀p,H p=none->Q (.ref p) (upd H p (.tup (vv xs lo hi)))
theorem y9:K4 X (C7 X.K):=by
 intro pr s σ H x v vl vu lo hi sl Q I rx hs pl pu h;obtain⟨a,xs,rfl,hx,hw,q⟩:=h;cases rx;obtain⟨DY,r,ht,hz⟩:=I.tuple hx;have hlen:DY.toArray.size=xs.length:=by rw[Pl];exact r.length.symm
 refine⟨"tuple",_,PyProof.Rows.slot_tuple_getitem.lookup,ht.typeIs,?_⟩;refine HT.gF ht hs pl pu (by rw[hlen];exact hw) ?_ (by rw[hlen];exact hz);rw[hlen];refine⟨.ref s.heap.objs.size,_,I.laid (t':=s.toks) (o:=.tup (vv xs lo hi)) (fun b ob q=>Pm _ q) (Pt _) ?_,rfl,q _ (I.hok.fresh (Pt _))⟩;exact⟨PN (ij xs lo hi) hz,_,(r.drop (HT.sIx xs.length 0 lo)).take (HT.sIx xs.length xs.length hi-HT.sIx xs.length 0 lo),IsTupN.new _ _⟩
def Bu(K:W.Frag):R2:=fun x y H Q=>∃a b xs ys,x=.ref a/\y=.ref b/\SqT K H a xs/\SqT K H b ys/\xs≠[]/\xs.length+ys.length<=sizeLine/\
 (ys=[]->Q (.ref a) H)/\(ys≠[]->∀p,H p=none->Q (.ref p) (upd H p (.tup (xs++ys))))
theorem Vals.nil_iff{xs:List V}{us:List Value}(r:Vals xs us):us=[]<->xs=[]:=by
 cases r with
 |nil=>simp
 |cons _ _=>simp
theorem wN:EG X (binaryOp .Add) (Bu X.K):=by
 intro pr s σ H x y v u Q I rx ry h;obtain⟨a,b,xs,ys,rfl,rfl,ha,hb,hx,hz,q1,q2⟩:=h;cases rx;cases ry;obtain⟨DY,r1,p1,_⟩:=I.tuple ha;obtain⟨Ir,r2,p2,_⟩:=I.tuple hb;refine HT.wI p1 p2 (fun z=>hx (r1.nil_iff.mp z)) (fun z=>⟨.ref a,H,I,rfl,q1 (r2.nil_iff.mp z)⟩) (fun z=>?_) (by rw[<-r1.length,<-r2.length];exact hz);refine⟨.ref s.heap.objs.size,_,I.laid (t':=s.toks) (o:=.tup (xs++ys)) (fun b ob q=>Pm _ q) (Pt _) ?_,rfl,q2 (fun w=>z (r2.nil_iff.mpr w)) _ (I.hok.fresh (Pt _))⟩;exact⟨by rw[Qo];exact hz,_,r1.append r2,IsTupN.new _ _⟩
end
def ixN(n:Nat)(i:Int):Option Nat:=if 0<=i then(if i<n then some i.toNat else none) else if -(n:Int)<=i then some (i+n).toNat else none
def GU{α:Type}(xs:List α)(i:Int):Option α:=(ixN xs.length i).bind fun j=>xs[j]?
theorem p5{n:Nat}{i:Int}{j:Nat}(h:ixN n i=some j):seqIndex? i n=some j/\j<n/\-(n:Int)<=i/\i<n:=by
 unfold ixN at h;by_cases h0:0<=i
 ·rw[Px h0]at h;by_cases h1:i<n
  ·rw[Px h1]at h;have e:i.toNat=j:=P0 h;exact⟨by rw[seqIndex_of h0 h1,e],by lia,by lia,h1⟩
  ·rw[PJ h1]at h;cases h
 ·rw[PJ h0]at h;by_cases h1:-(n:Int)<=i
  ·rw[Px h1]at h;have e:(i+n).toNat=j:=P0 h;exact⟨by rw[seqIndex_neg (by lia) h1,e],by lia,h1,by lia⟩
  ·rw[PJ h1]at h;cases h
theorem mq{α:Type}{xs:List α}{i:Int}{v:α}(h:GU xs i=some v):∃j,seqIndex? i xs.length=some j/\xs[j]?=some v/\j<xs.length/\-(xs.length:Int)<=i/\i<xs.length:=by
 unfold GU at h;cases e:ixN xs.length i with
 |none=>rw[e]at h;cases h
 |some j=>
  rw[e]at h;obtain⟨h1,h2,h3,h4⟩:=p5 e;exact⟨j,h1,h,h2,h3,h4⟩
theorem jH{α:Type}{xs:List α}{j:Nat}{v:α}(h:xs[j]?=some v):GU xs (j:Int)=some v:=by
 have hj:j<xs.length:=(Pn.mp h).1;have e:ixN xs.length (j:Int)=some j:=by
  unfold ixN;rw[Px (by lia),Px (by lia)];simp
 unfold GU;rw[e];exact h
def p6(b:Expr):Prop:=∀o i,subscripted b false o i=operate [o,i] (getItem o i)
def Ml(X:Cx)(r:R2):Prop:=
 ∀(value slice:Expr) (pr:List (Addr×Obj)) (s:Shared) (σ:St) (H:Hp) (x y:V) (v u:Value) (Q:VK),Inv X pr σ H s->RelV x v->RelV y u->r x y H Q->
  subscripted slice false v u=operate [v,u] (getItem v u)->wpAny (model X.prog X.w) X.A (subscriptTail value slice v u) (EP X pr σ Q) X.xe s
def OF(X:Cx)(id:String)(r:V->List V->Hp->VK->Prop):Prop:=
 ∀(pr:List (Addr×Obj)) (s:Shared) (σ:St) (H:Hp) (x:V) (xs:List V) (v:Value) (us:List Value) (Q:VK),Inv X pr σ H s->RelV x v->Vals xs us->r x xs H Q->
  wpAny (model X.prog X.w) X.A (call (.builtin id) (v::us)) (EP X pr σ Q) X.xe s
section
variable{X:Cx}{a b:Expr}{ta tb:TE}{pos:Pos}
theorem za{r:R2}(hr:Ml X r)(ha:PE X a ta)(hb:PE X b tb)(hs:p6 b):PE X (.Subscript a b pos) (LZ r ta tb):=by
 intro pr s σ H Q I h;exact Subscript_ (Bl ha hb I h fun v u s2 x y H2 I2 rx ry q=>hr a b pr s2 σ H2 x y v u Q I2 rx ry q (hs _ _))
def C8(K:W.Frag):R2:=fun x y H Q=>∃p xs i v,x=.ref p/\y=.int i/\SqL K H p xs/\GU xs i=some v/\Q v H
def C9(K:W.Frag):R2:=fun x y H Q=>∃p xs i v,x=.ref p/\y=.int i/\SqT K H p xs/\GU xs i=some v/\Q v H
def Dc:R2:=fun x y H Q=>∃z i c,x=.str z/\y=.int i/\z.length<=sizeLine/\GU z.cps.toList i=some c/\Q (.str ⟨#[c]⟩) H
theorem wO:Ml X (C8 X.K):=by
 intro value slice pr s σ H x y v u Q I rx ry h hs;obtain⟨p,xs,i,z,rfl,rfl,hq,he,q⟩:=h;cases rx;obtain⟨t,rfl⟩:=ry;obtain⟨DY,r,pl,hz⟩:=I.list hq;obtain⟨j,h1,h2,h3,h4,h5⟩:=mq he;obtain⟨w,ew,HS⟩:=r.get h2;have hl:=r.length;have hn:=jg;have fin:EP X pr σ Q w s:=⟨z,H,I,HS,q⟩
 by_cases h0:0<=i
 ·have hj:i.toNat=j:=by
   rw[seqIndex_of h0 h5]at h1;exact P0 h1
  exact item_listR pl.isList h0 (by lia) (by rw[hj];simpa using ew) fin hs
 ·have hj:(i+(DY.toArray.size:Int)).toNat=j:=by
   rw[seqIndex_neg (by lia) h4]at h1;rw[Pl,<-hl];exact P0 h1
  exact subscriptTail_builtinR (x:=w) pl.isList.typeIs slot_list_getitem.lookup
   (wpAny_getItem_list_neg (Q:=fun r s'=>r=w/\EP X pr σ Q r s') pl.isList (by lia) (by rw[Pl] <;> lia) (by lia) (by rw[hj];simpa using ew) ⟨rfl,fin⟩) hs
theorem vx:Ml X (C9 X.K):=by
 intro value slice pr s σ H x y v u Q I rx ry h hs;obtain⟨p,xs,i,z,rfl,rfl,hq,he,q⟩:=h;cases rx;obtain⟨t,rfl⟩:=ry;obtain⟨DY,r,pl,hz⟩:=I.tuple hq;obtain⟨j,h1,h2,h3,h4,h5⟩:=mq he;obtain⟨w,ew,HS⟩:=r.get h2;have hl:=r.length;have hn:=jg;have fin:EP X pr σ Q w s:=⟨z,H,I,HS,q⟩
 exact subscriptTail_builtinR (x:=w) pl.typeIs slot_tuple_getitem.lookup
  (getItem_tuple (j:=j) (Q:=fun r s'=>r=w/\EP X pr σ Q r s') pl (by lia) (by lia) (by rw[Pl,<-hl];exact h1) (by simpa using ew) ⟨rfl,fin⟩) hs
theorem zb:Ml X Dc:=by
 intro value slice pr s σ H x y v u Q I rx ry h hs;obtain⟨z,i,c,rfl,rfl,hz,he,q⟩:=h;obtain⟨t,rfl⟩:=rx;obtain⟨t',rfl⟩:=ry;obtain⟨j,h1,h2,h3,h4,h5⟩:=mq he;have hl:z.cps.toList.length=z.length:=by simp[Str.length]
 rw[hl]at h1 h4 h5;have hn:=jg;exact tail_any (typeIs_str s z t) slot_str_getitem.lookup (getItem_str (c:=c) (by
  have e1:decide (i < -(2 ^ 63:Int))=false:=Qa (by lia);have e2:decide (i>=2 ^ 63)=false:=Qa (by lia);rw[e1,e2,Bool.or_false]) (by rw[h1];simpa using h2) ⟨.str ⟨#[c]⟩,H,I.tok _,⟨_,rfl⟩,q⟩) hs
theorem o6(DY:List Value)(n j:Nat)(u:Value):Obj.mapSeq (·.setIfInBounds j u) {cls:=.type "list",data:=.seq DY.toArray n}={cls:=.type "list",data:=.seq (DY.set j u).toArray n}:=by
 simp[Obj.mapSeq]
theorem Inv.lst{pr:List (Addr×Obj)}{σ:St}{H:Hp}{s:Shared}{p:Addr}{xs:List V}(I:Inv X pr σ H s)(h:H p=some (.lst xs)):
  ∃(DY:List Value) (n:Nat),Vals xs DY/\s.heap.get? p=some {cls:=.type "list",data:=.seq DY.toArray n}/\xs.length<=sizeLine:=by
 obtain⟨z,DY,n,r,e⟩:=I.hok p _ h;exact⟨DY,n,r,e,z⟩
theorem Inv.lstUpd{pr:List (Addr×Obj)}{σ:St}{H:Hp}{s:Shared}{p:Addr}{xs ys:List V}{DY its':List Value}{n n':Nat}{f:Obj->Obj}(I:Inv X pr σ H s)(h:H p=some (.lst xs))
  (ho:s.heap.get? p=some {cls:=.type "list",data:=.seq DY.toArray n}) (hf:f {cls:=.type "list",data:=.seq DY.toArray n}={cls:=.type "list",data:=.seq its'.toArray n'}) (r:Vals ys its') (hz:ys.length<=sizeLine) (t:Nat):
  Inv X pr σ (upd H p (.lst ys)) {s with heap:=s.heap.update p f,toks:=t}:=by
 have e:(s.heap.update p f).get? p=some {cls:=.type "list",data:=.seq its'.toArray n'}:=by
  rw[Si f ho (by rw[hf] <;> rfl),hf]
 refine I.write (x:=p) (e:=p) (by rw[h];trivial) (.inl rfl) (fun b u hb q=>(Se _ _ (Rj hb)).trans q) ⟨_,e⟩ ?_;exact⟨hz,its',n',r,e⟩
def zc:V->V->V->Hp->(Hp->Prop)->Prop:=fun o i v H Q=>∃p xs k j,o=.ref p/\i=.int k/\H p=some (.lst xs)/\ixN xs.length k=some j/\Q (upd H p (.lst (xs.set j v)))
theorem tM:CU X zc:=by
 intro pr s σ H o i v ov iv u Q I ro ri rv h;obtain⟨p,xs,k,j,rfl,rfl,hp,hj,q⟩:=h;cases ro;obtain⟨t,rfl⟩:=ri;obtain⟨DY,n,r,ho,hz⟩:=I.lst hp;obtain⟨h1,h2,h3,h4⟩:=p5 hj;have hl:=r.length;have hn:=jg;have I':Inv X pr σ (upd H p (.lst (xs.set j v))) {s with heap:=s.heap.update p (Obj.mapSeq (·.setIfInBounds j u))}:=
  I.lstUpd hp ho (o6 DY n j u) (r.set rv j) (by rw[Qb];exact hz) s.toks
 by_cases h0:0<=k
 ·have hk:k.toNat=j:=by
   rw[seqIndex_of h0 h4]at h1;exact P0 h1
  exact PySem.W.ki_setAt ho h0 (by lia) (by rw[Pl,<-hl];exact h4) (by rw[hk];exact⟨_,I',q⟩)
 ·have hk:(k+(DY.toArray.size:Int)).toNat=j:=by
   rw[seqIndex_neg (by lia) h3]at h1;rw[Pl,<-hl];exact P0 h1
  exact PySem.W.ki_setBack ho (by lia) (by rw[Pl,<-hl];exact h3) (by lia) (by rw[hk];exact⟨_,I',q⟩)
theorem kW(lo hi:Option Int)(n:Nat):(sliceBounds lo hi none n).1=((HT.sIx n 0 lo:Nat):Int)/\(sliceBounds lo hi none n).2.1=((HT.sIx n n hi:Nat):Int)/\(sliceBounds lo hi none n).2.2=1:=by
 refine⟨?_,?_,rfl⟩
 ·cases lo with
  |none=>simp[sliceBounds,HT.sIx]
  |some i=>
   simp only[sliceBounds,HT.sIx,Option.getD_none,show(1:Int)>0 by decide,Q1];by_cases h:i<0
   ·simp only[h,Q1] <;> lia
   ·simp only[h,Ul] <;> lia
 ·cases hi with
  |none=>simp[sliceBounds,HT.sIx]
  |some i=>
   simp only[sliceBounds,HT.sIx,Option.getD_none,show(1:Int)>0 by decide,Q1];by_cases h:i<0
   ·simp only[h,Q1] <;> lia
   ·simp only[h,Ul] <;> lia
theorem jI(DY:List Value)(lo hi:Option Int):slicePick DY.toArray lo hi none=((DY.drop (HT.sIx DY.length 0 lo)).take (HT.sIx DY.length DY.length hi-HT.sIx DY.length 0 lo)).toArray:=by
 obtain⟨h1,h2,h3⟩:=kW lo hi DY.toArray.size;unfold slicePick;rw[h1,h2,h3];simp only[sliceRange_one,pick_run,Pl] <;> rfl
def De(K:W.Frag):V->Option Int->Option Int->Hp->VK->Prop:=fun x lo hi H Q=>∃a xs,x=.ref a/\SqL K H a xs/\∀p,H p=none->Q (.ref p) (upd H p (.lst (vv xs lo hi)))
theorem wQ:K4 X (De X.K):=by
 intro pr s σ H x v vl vu lo hi sl Q I rx hs pl pu h;obtain⟨a,xs,rfl,hx,q⟩:=h;cases rx;obtain⟨DY,r,ht,hz⟩:=I.list hx;have hlen:=r.length;refine⟨"list",_,slot_list_getitem.lookup,ht.isList.typeIs,?_⟩;refine wpAny_getItem_list_slice ht.isList hs pl pu .none (by simp) ?_ (by rw[Pl] <;> lia);rw[jI,<-hlen];refine⟨.ref s.heap.objs.size,_,I.laid (t':=s.toks) (o:=.lst (vv xs lo hi)) (fun b ob q=>Pm _ q) (Pt _) ?_,rfl,q _ (I.hok.fresh (Pt _))⟩;exact⟨PN (ij xs lo hi) hz,_,0,(r.drop (HT.sIx xs.length 0 lo)).take (HT.sIx xs.length xs.length hi-HT.sIx xs.length 0 lo),Pz _ rfl⟩
def o7:V->Bool
 | .non=>true
 | .bl _=>true
 | .int _=>true
 | .str _=>true
 |_=>false
def Nl:V->V->Bool
 | .non,.non=>true
 | .bl a,.bl b=>a==b
 | .bl a,.int b=>(if a then 1 else 0)==b
 | .int a,.bl b=>a==(if b then 1 else 0)
 | .int a,.int b=>a==b
 | .str a,.str b=>a==b
 |_,_=>false
theorem vy{A:Around}{s:Shared}{y x:V}{u v:Value}(ry:RelV y u)(rx:RelV x v)(fy:o7 y=true)(fx:o7 x=true):SeqAt.EqAt A s u v (Nl y x):=by
 cases y with
 |non=>
  cases ry;cases x with
  |non=>cases rx;exact SeqAt.EqAt.same _
  |bl b=>cases rx;exact SeqAt.EqAt.none_bool b
  |int b=>obtain⟨t,rfl⟩:=rx;exact SeqAt.EqAt.none_int b t
  |str b=>obtain⟨t,rfl⟩:=rx;exact SeqAt.EqAt.none_str b t
  |_=>exact absurd (show false=true from fx) PF
 |bl a=>
  cases ry;cases x with
  |non=>cases rx;exact SeqAt.EqAt.bool_none a
  |bl b=>cases rx;exact SeqAt.EqAt.bool_bool a b
  |int b=>obtain⟨t,rfl⟩:=rx;exact SeqAt.EqAt.bool_int a b t
  |str b=>obtain⟨t,rfl⟩:=rx;exact SeqAt.EqAt.bool_str a b t
  |_=>exact absurd (show false=true from fx) PF
 |int a=>
  obtain⟨t',rfl⟩:=ry;cases x with
  |non=>cases rx;exact SeqAt.EqAt.int_none a t'
  |bl b=>cases rx;exact SeqAt.EqAt.int_bool a t' b
  |int b=>obtain⟨t,rfl⟩:=rx;exact SeqAt.EqAt.int_int a t' b t
  |str b=>obtain⟨t,rfl⟩:=rx;exact SeqAt.EqAt.int_str a t' b t
  |_=>exact absurd (show false=true from fx) PF
 |str a=>
  obtain⟨t',rfl⟩:=ry;cases x with
  |non=>cases rx;exact SeqAt.EqAt.str_none a t'
  |bl b=>cases rx;exact SeqAt.EqAt.str_bool a t' b
  |int b=>obtain⟨t,rfl⟩:=rx;exact SeqAt.EqAt.str_int a t' b t
  |str b=>obtain⟨t,rfl⟩:=rx;exact SeqAt.EqAt.str_str a t' b t
  |_=>exact absurd (show false=true from fx) PF
 |_=>exact absurd (show false=true from fy) PF
theorem gR:eO X (.builtin "len") (fun xs H Q=>∃p ys,xs=[.ref p]/\(SqL X.K H p ys\/SqT X.K H p ys)/\Q (.int ys.length) H):=by
 intro pr s σ H xs us Q I r h;obtain⟨p,ys,rfl,hq,q⟩:=h;obtain⟨u,rfl,rx⟩:=kP r;cases rx;have hn:=jg;rcases hq with hq|hq
 ·obtain⟨DY,r',pl,hz⟩:=I.list hq;have hlen:=r'.length;exact Calls.call_len_list pl.isList (by simp only[Pl] <;> lia) ⟨.int ys.length,H,I.tok _,⟨s.toks+1,by rw[Pl,hlen]⟩,q⟩
 ·obtain⟨DY,r',pl,hz⟩:=I.tuple hq;have hlen:=r'.length;exact len_tuple pl (by simp only[Pl] <;> lia) ⟨.int ys.length,H,I.tok _,⟨s.toks+1,by rw[Pl,hlen]⟩,q⟩
theorem kX:eO X (.builtin "len") (fun xs H Q=>∃z,xs=[.str z]/\z.length<=sizeLine/\Q (.int z.length) H):=by
 intro pr s σ H xs us Q I r h;obtain⟨z,rfl,hz,q⟩:=h;obtain⟨u,rfl,t,rfl⟩:=kP r;have hn:=jg;exact len_str (by lia) ⟨.int z.length,H,I.tok _,⟨_,rfl⟩,q⟩
theorem gS:eO X (.type "list") (fun xs H Q=>∃p ys,xs=[.ref p]/\(SqL X.K H p ys\/SqT X.K H p ys)/\∀l,H l=none->Q (.ref l) (upd H l (.lst ys))):=by
 intro pr s σ H xs us Q I r h;obtain⟨p,ys,rfl,hq,q⟩:=h;obtain⟨u,rfl,rx⟩:=kP r;cases rx;have fin:∀(DY:List Value),Vals ys DY->ys.length<=sizeLine->∀(h':Heap) (c':Nat),(∀b o',s.heap.get? b=some o'->h'.get? b=some o')->
   h'.get? s.heap.objs.size=some {cls:=.type "list",dict:=none,data:=.seq DY.toArray c',slots:=#[]}->EP X pr σ Q (.ref s.heap.objs.size) {s with heap:=h'}:=fun DY r' hz h' c' kp e=>
  ⟨.ref s.heap.objs.size,_,I.laid (t':=s.toks) kp (Pt _) (show ObjOk X.prog X.w _ h' _ (.lst ys) from⟨hz,DY,c',r',e⟩),rfl,q _ (I.hok.fresh (Pt _))⟩
 rcases hq with hq|hq
 ·obtain⟨DY,r',pl,hz⟩:=I.list hq;have hlen:=r'.length;obtain⟨o,ho,hc,n,hd⟩:=pl.isList;exact call_list_seq p (.inl rfl) ho hc hd (fun h' c' kp e=>fin DY r' hz h' c' kp e) (by simp only[Pl] <;> lia)
 ·obtain⟨DY,r',pl,hz⟩:=I.tuple hq;have hlen:=r'.length;obtain⟨o,ho,hc,n,hd⟩:=pl;exact call_list_seq p (.inr rfl) ho hc hd (fun h' c' kp e=>fin DY r' hz h' c' kp e) (by simp only[Pl] <;> lia)
theorem gf:eO X (.type "tuple") (fun xs H Q=>∃p ys,xs=[.ref p]/\((SqL X.K H p ys/\∀l,H l=none->Q (.ref l) (upd H l (.tup ys)))\/(SqT X.K H p ys/\Q (.ref p) H))):=by
 intro pr s σ H xs us Q I r h;obtain⟨p,ys,rfl,h⟩:=h;obtain⟨u,rfl,rx⟩:=kP r;cases rx;rcases h with⟨hq,q⟩|⟨hq,q⟩
 ·obtain⟨DY,r',pl,hz⟩:=I.list hq;have hlen:=r'.length;refine call_tuple_list pl.isList (fun h' kp=>?_) (by simp only[Pl] <;> lia);have I1:Inv X pr σ H {s with heap:=h'}:=I.kept (t':=s.toks) kp;have I2:Inv X pr σ (upd H h'.objs.size (.tup ys)) {s with heap:=h'.push {cls:=.type "tuple",data:=.seq DY.toArray}}:=
   I1.laid (t':=s.toks) (fun b o e=>Pm _ e) (Pt _) (show ObjOk X.prog X.w _ _ _ (.tup ys) from⟨hz,DY,r',IsTupN.new _ _⟩)
  exact⟨.ref h'.objs.size,_,I2,rfl,q _ (I1.hok.fresh (Pt _))⟩
 ·obtain⟨DY,r',pl,hz⟩:=I.tuple hq;exact call_tuple_same pl ⟨.ref p,H,I,rfl,q⟩
def Nm(K:W.Frag)(T:String)(x:V)(H:Hp):Prop:=match x with
 | .str _=>T = "str"
 | .int _=>T = "int"
 | .ref p=>(T = "list"/\∃xs,SqL K H p xs)\/(T = "tuple"/\∃o,K.lookup p=some o/\o.cls=.type "tuple"/\o.dict=none)\/
   (T = "dict"/\((∃DS,H p=some (.dK DS))\/∃DS,H p=some (.dT DS)))\/(T = "set"/\∃S n,H p=some (.set S n))
 |_=>False
theorem vz{pr:List (Addr×Obj)}{σ:St}{H:Hp}{s:Shared}{T:String}{x:V}{v:Value}(I:Inv X pr σ H s)(r:RelV x v)(ty:Nm X.K T x H):
  s.TypeIs v T/\∀a,v=.ref a->∃ob,s.heap.get? a=some ob/\ob.dict=none:=by
 cases x with
 |str z=>
  obtain⟨t,rfl⟩:=r;cases(show T = "str" from ty);exact⟨typeIs_str s z t,fun _ e=>nomatch e⟩
 |int i=>
  obtain⟨t,rfl⟩:=r;cases(show T = "int" from ty);exact⟨typeIs_int s i t,fun _ e=>nomatch e⟩
 |ref p=>
  cases r;rcases ty with⟨rfl,xs,hq⟩|⟨rfl,o,hk,hc,hd⟩|⟨rfl,hk⟩|⟨rfl,S,n,hk⟩
  ·obtain⟨DY,_,pl,_⟩:=I.list hq;refine⟨pl.isList.typeIs,fun a e=>?_⟩;cases e;obtain⟨o,n,e,c,hd,_⟩:=pl;exact⟨o,e,hd⟩
  ·refine⟨⟨o,I.kIn p o hk,hc⟩,fun a e=>?_⟩;cases e;exact⟨o,I.kIn _ o hk,hd⟩
  ·have z:∃o,s.heap.get? p=some o/\o.ExactDict:=by
    rcases hk with⟨DS,hk⟩|⟨DS,hk⟩
    ·obtain⟨_,_,_,_,o,_,_,e,ex,_⟩:=I.hok p _ hk;exact⟨o,e,ex⟩
    ·obtain⟨_,_,_,_,o,_,_,e,ex,_⟩:=I.hok p _ hk;exact⟨o,e,ex⟩
   obtain⟨o,e,ex⟩:=z;refine⟨⟨o,e,ex.1⟩,fun a e2=>?_⟩;cases e2;exact⟨o,e,ex.2.1⟩
  ·obtain⟨o,_,_,_,e,ex,_⟩:=I.hok p _ hk;refine⟨⟨o,e,ex.1⟩,fun a e2=>?_⟩;cases e2;exact⟨o,e,ex.2.1⟩
 |_=>exact False.elim ty
def Dg(K:W.Frag)(T:String)(r:V->List V->Hp->VK->Prop)(to:TE):TE:=fun σ H Q=>to σ H fun x H1=>Nm K T x H1/\r x [] H1 Q
def tBM(K:W.Frag)(T:String)(r:V->List V->Hp->VK->Prop)(to:TE)(t:TA):TE:=fun σ H Q=>to σ H fun x H1=>Nm K T x H1/\t σ H1 fun xs H2=>r x xs H2 Q
variable{o e:Expr}{es:List Expr}{to:TE}{t:TA}{name:Str}{apos Eu:Pos}{T id:String}{r:V->List V->Hp->VK->Prop}
theorem zd(pa:PlainAttrs T)(slot:Slot T name id)(Mm:typeOf (.builtin id)=pure (.type "method_descriptor"))(hm:OF X id r)(ho:PE X o to)
  (F4:attributeBase o name X.env (eval o X.env)=eval o X.env:=by rfl) (F5:(apos.endLine==Eu.line)=true:=by rfl):PE X (.Call (.Attribute o name apos) [] [] Eu) (Dg X.K T r to):=by
 intro pr s σ H Q I h;refine wpAny_Call_method0_late F4 F5 (Eg (ho pr s σ H _ I h) fun v s1 Ee=>?_);obtain⟨x,H1,I1,r1,ty,q1⟩:=Ee;obtain⟨h1,h2⟩:=vz I1 r1 ty;exact⟨T,id,pa,slot,Mm,h1,h2,Calls.callWith_builtin rfl (PySem.evalArgs_none (hm pr s1 σ H1 x [] v [] Q I1 r1 .nil q1))⟩
theorem ze(pa:PlainAttrs T)(slot:Slot T name id)(Mm:typeOf (.builtin id)=pure (.type "method_descriptor"))(hm:OF X id r)(ho:PE X o to)(ha:PA X (e::es) t)
  (F4:attributeBase o name X.env (eval o X.env)=eval o X.env:=by rfl)
  (IY:((backTo Eu (starEach (e::es) X.env)).all (fun x=>!x.1)&&(backToKw Eu (keywordEach [] X.env)).all (fun x=>x.1.isSome)
   && decide ((e::es).length+([]:List Keyword).length+(if([]:List Keyword).isEmpty then 0 else 1)<30))=true:=by rfl)
  (F5:(apos.endLine==Eu.line)=true:=by rfl) (hs:starEach (e::es) X.env=(false,eval e X.env)::starEach es X.env:=by rfl) (GC:(backTo Eu (starEach es X.env)).any (·.1)=false:=by rfl):
  PE X (.Call (.Attribute o name apos) (e::es) [] Eu) (tBM X.K T r to t):=by
 intro pr s σ H Q I h;refine wpAny_Call_method_late F4 IY F5 rfl (Eg (ho pr s σ H _ I h) fun v s1 Ee=>?_);obtain⟨x,H1,I1,r1,ty,q1⟩:=Ee;obtain⟨h1,h2⟩:=vz I1 r1 ty;refine⟨T,id,pa,slot,Mm,h1,h2,?_⟩;have hA:=ha Eu pr s1 σ H1 _ I1 q1;rw[hs]at hA ⊢;refine Calls.callWith_builtin (by show(false||(backTo Eu (starEach es X.env)).any (·.1))=false;rw[GC] <;> rfl) (Calls.evalArgs_plain ?_);exact Eg hA fun us s2 ⟨vs,H2,I2,r2,q2⟩=>hm pr s2 σ H2 x vs v us Q I2 r1 r2 q2
end
def MtM(X:Cx)(id:String)(r:V->List V->Hp->VK->Prop):Prop:=
 ∀(pr:List (Addr×Obj)) (s:Shared) (σ:St) (H:Hp) (x:V) (xs:List V) (v:Value) (us:List Value) (Q:VK),Inv X pr σ H s->RelV x v->Vals xs us->r x xs H Q->
  wpAny (model X.prog X.w) X.A (call (.builtin id) (v::us)) (EP X pr σ Q) X.xe s
theorem Vals.one:∀{x:V}{us:List Value},Vals [x] us->∃u,us=[u]/\RelV x u
 |_,_,.cons r .nil=>⟨_,rfl,r⟩
theorem Vals.zero:∀{us:List Value},Vals [] us->us=[]
 |_,.nil=>rfl
theorem Vals.dropLast{xs:List V}{us:List Value}(h:Vals xs us):Vals xs.dropLast us.dropLast:=by
 induction h with
 |nil=>exact .nil
 |cons r t ih=>
  cases t with
  |nil=>exact .nil
  |cons q t'=>exact .cons r ih
theorem Vals.rep{xs:List V}{us:List Value}(h:Vals xs us):∀k:Nat,Vals (List.replicate k xs).flatten (List.replicate k us).flatten
 | 0=>.nil
 |k+1=>by
  rw[Qw,Qw,Q6,Q6];exact Vals.append h (Vals.rep h k)
theorem o8{α:Type}(l:List α):l.eraseIdx (l.length-1)=l.dropLast:=by
 induction l with
 |nil=>rfl
 |cons a r ih=>
  cases r with
  |nil=>rfl
  |cons b r=>
   have e:(a::b::r).length-1=((b::r).length-1)+1:=by
    have h1:(a::b::r).length=r.length+2:=rfl;have h2:(b::r).length=r.length+1:=rfl;lia
   rw[e,List.eraseIdx_cons_succ,ih];all_goals rfl
theorem kY(DY:List Value):∀(k:Nat) (acc:List Value),
  List.foldl (fun x1 x2=>x1++x2) acc.toArray (List.replicate k DY.toArray)=(acc++(List.replicate k DY).flatten).toArray
 | 0,acc=>by simp
 |k+1,acc=>by
  have e:acc.toArray++DY.toArray=(acc++DY).toArray:=by simp
  have e2:(acc++DY)++(List.replicate k DY).flatten=acc++(List.replicate (k+1) DY).flatten:=by
   rw[Qw,Q6,Ql]
  rw[<-e2,<-kY DY k (acc++DY),<-e,Qw,R4]
section
variable{X:Cx}{pr:List (Addr×Obj)}{σ:St}{H:Hp}{s:Shared}{l b:Addr}{xs ys zs:List V}
theorem Inv.lset{DY its':List Value}{n:Nat}{f:Array Value->Array Value}{t':Nat}(I:Inv X pr σ H s)(hH:H l=some (.lst xs))
  (e:s.heap.get? l=some {cls:=.type "list",data:=.seq DY.toArray n}) (hf:f DY.toArray=its'.toArray) (hv:Vals ys its') (hz:ys.length<=sizeLine):
  Inv X pr σ (upd H l (.lst ys)) {s with heap:=s.heap.update l (Obj.mapSeq f),toks:=t'}:=by
 have q:=PySem.IsL.update e f;rw[hf]at q;refine I.write (x:=l) (e:=l) (by rw[hH];exact trivial) (.inl rfl) (fun b' u hb hu=>(Se s.heap (Obj.mapSeq f) (Rj hb)).trans hu) ⟨_,q⟩ ?_;exact⟨hz,its',_,hv,q⟩
theorem Inv.lnew{DY:List Value}{t':Nat}(I:Inv X pr σ H s)(hv:Vals ys DY)(hz:ys.length<=sizeLine):
  Inv X pr σ (upd H s.heap.objs.size (.lst ys)) {s with heap:=s.heap.push {cls:=.type "list",data:=.seq DY.toArray},toks:=t'}:=
 I.laid (fun _ _ q=>Pm _ q) (Pt _) ⟨hz,DY,0,hv,Pz _ rfl⟩
theorem Inv.fresh(I:Inv X pr σ H s):H s.heap.objs.size=none:=I.hok.fresh (Pt _)
theorem Inv.lstM(I:Inv X pr σ H s)(hH:H l=some (.lst xs)):xs.length<=sizeLine/\∃(DY:List Value) (n:Nat),Vals xs DY/\xs.length=DY.length/\s.heap.get? l=some {cls:=.type "list",data:=.seq DY.toArray n}:=by
 obtain⟨z,DY,n,r,e⟩:=I.hok l _ hH;exact⟨z,DY,n,r,r.length,e⟩
theorem tN{n:Nat}(h:n<=sizeLine):Builtin.List.listTooLong n=false:=by
 unfold Builtin.List.listTooLong;exact Qa (by lia)
end
section
variable{X:Cx}
def wR:V->List V->Hp->VK->Prop:=fun x vs H Q=>∃l xs y,x=.ref l/\vs=[y]/\H l=some (.lst xs)/\xs.length<sizeLine/\Q .non (upd H l (.lst (xs++[y])))
theorem gj:MtM X "list.append" wR:=by
 intro pr s σ H x vs v us Q I rx rv h;obtain⟨l,xs,y,rfl,rfl,hH,hz,q⟩:=h;cases rx;obtain⟨u,rfl,ru⟩:=rv.one;obtain⟨z,DY,n,r,hl,e⟩:=I.lstM hH;refine Uz F.slot_list_append ⟨_,e,rfl⟩ F.entry_list_append (F.args_list_append_2 _ _) (PySem.list_append l DY.toArray n u (by rw[Pl];lia)) ⟨e,?_⟩;refine⟨.non,_,I.lset (its':=DY++[u]) hH e (by simp) (r.append (.cons ru .nil)) ?_,rfl,q⟩;rw[Qo,Ro];lia
def Dh:V->List V->Hp->VK->Prop:=fun x vs H Q=>∃l xs y,x=.ref l/\vs=[]/\H l=some (.lst xs)/\xs[xs.length-1]?=some y/\Q y (upd H l (.lst xs.dropLast))
theorem zf:MtM X "list.pop" Dh:=by
 intro pr s σ H x vs v us Q I rx rv h;obtain⟨l,xs,y,rfl,rfl,hH,hy,q⟩:=h;cases rx;have hus:=rv.zero;subst hus;obtain⟨z,DY,n,r,hl,e⟩:=I.lstM hH;obtain⟨u,hu,ru⟩:=r.get hy;have hy':DY.toArray[DY.toArray.size-1]?=some u:=by
  show DY.toArray[DY.length-1]?=some u;rw[<-Tv,<-hl];exact hu
 refine Uz F.slot_list_pop ⟨_,e,rfl⟩ F.entry_list_pop (F.args_list_pop_1 _) (MeetsSeq.list_pop_last l DY.toArray n u hy' (by rw[Pl];lia)) ⟨e,?_⟩;refine⟨y,_,I.lset (its':=DY.dropLast) hH e ?_ r.dropLast ?_,ru,q⟩
 ·show DY.toArray.eraseIdxIfInBounds (DY.toArray.size-1)=DY.dropLast.toArray;rw[Pl,List.eraseIdxIfInBounds_toArray,o8]
 ·rw[List.length_dropLast];lia
theorem jJ{α:Type}(xs:List α)(k:Nat):(List.replicate k xs).flatten.length=k*xs.length:=by
 induction k with
 |zero=>simp
 |succ k ih=>rw[Qw,Q6,Qo,ih,Tw,Nat.add_comm]
end
section
variable{prog:Program}{w:World}{A:Around}{E:Value->Shared->Prop}{s:Shared}
end
section
variable{X:Cx}
end
end L2
namespace Att
open PySem PySem.W PySem.Calls PyProof.Rows
theorem ik{P:Params}{h:Heap}:∀(ns:List Int) (vs:List Value),WellAll P h vs (ns.map WData.int)->IntsAre vs ns:=by
 intro ns;induction ns with
 |nil=>
  intro vs w;rw[Ry]at w;cases w;exact .nil
 |cons n ns ih=>
  intro vs w;rw[PL]at w;cases w with
  |cons a b=>
   cases a;exact .cons _ _ (ih _ b)
theorem p7{l:OpenLaw}{n:Nat}(hn:l.most=some n){P:Params}{h:Heap}{args:List WData}{gd:List Value}
  (JK:l.row.toRowW.claim.pre args=true) (K5:WellAll P h gd args):
  ∃a vs ns,gd=[Value.ref a]/\args=[WData.list (ns.map WData.int)]/\h.get? a=some {cls:=.type "list",data:=.seq vs.toArray}/\IntsAre vs ns/\ns.length<=n:=by
 have hsh:WShape.hasAll [] args [.list .int]=true:=(pre_splitW JK).1;have hc:l.pre.holds [] {args:=args}=true:=(pre_splitW JK).2;obtain⟨d,r,rfl,h1,h2⟩:=hasAllW_cons hsh;obtain rfl:=hasAllW_nil h2;obtain⟨xs,rfl,h3⟩:=hasW_list h1;obtain⟨ns,rfl⟩:=items_int h3;have hlen:ns.length<=n:=by
  unfold OpenLaw.pre at hc;have h4:(WTm.not (.lt (.lit (.int (n:Int))) (.len (.arg 0)))).holds [] {args:=[.list (ns.map .int)]}=true:=by
   have h4:=(holds_andW hc).1;rw[hn]at h4;exact h4
  have h5:=condW_of h4 (w_not (w_lt w_lit (w_len_list (w_arg rfl))));rw[PQ]at h5;refine Nat.le_of_not_lt fun q=>?_
  have q':(n:Int)<((ns.length:Nat):Int):=by lia
  first
   |(rw[Qi q']at h5;exact absurd h5 (by decide))
   |(simp at h5;lia)
 cases K5 with
 |cons w1 w2=>
  cases w2;cases w1 with
  |list ho hall=>exact⟨_,_,ns,rfl,rfl,ho,ik ns _ hall,hlen⟩
theorem p8(l:OpenLaw)(args:List WData):l.row.toRowW.claim.post args (.bool true) args=true:=
 postW_of (r:=l.row.toRowW) (X:=(true==true))
  (show WShape.has [] (.bool true) .bool=true by first|rfl|decide|simp[WShape.has,WShape.arms,WShape.armsAll])
  (show(WTm.eq .res (.lit (.bool true))).value [] {args:=args,res:=some (.bool true),after:=args}=some (.bool (true==true)) from w_eq_bool (w_res rfl) w_lit) rfl
theorem attach_call{l:OpenLaw}{n:Nat}{q:Program}{loose:List Str}{XP:(Str->Option Value)->Heap->Prop}{YP:World->Heap->Prop}{d:DefRec}
  (hn:l.most=some n) (Mn:d.params.defaults=[])
  (call:∀(w:World) (s₀ s₁:Shared) (mg mb:Str->Option Value) (fa:Addr) (o:Obj) (pm cd doc:Value) (a:Addr) (vs:List Value) (ns:List Int),
   Ground q loose [] XP w s₀ mg mb s₁.heap->YP w s₁.heap->
   s₁.heap.get? fa=some o->o.data=.func (docDef d.name d.params d.body d.scope pm cd doc)->s₁.heap.CodeRec cd d.name->mg d.name=some (.ref fa)->
   s₁.heap.get? a=some {cls:=.type "list",data:=.seq vs.toArray}->IntsAre vs ns->ns.length<=n->s₁.gens = #[]->
   codeAny (model l.prog w) callerA (.call (.ref fa) ⟨[.ref a],[]⟩) (fun r s'=>r=.ok (.ret (.bool true))/\OldK s₁.heap s'.heap/\s'.os=s₁.os/\AllBare s'.gens) s₁):
  WalkO q loose XP YP l.row.toRowW d [] (fun f vs=>PySem.call f vs):=by
 intro w s₀ s₁ mg mb G Y fa o pm cd doc dV kV ho hd Hu hD Mo hg args gd as JK hlay hrd K5 Hv;obtain rfl:dV=.none:=Dflts.none hD Mn;obtain rfl:kV=.none:=Dflts.noKw hD;obtain⟨a,vs,ns,rfl,rfl,K6,hints,hlen⟩:=p7 hn JK K5;refine enter_call (codeAny_mono (call w s₀ s₁ mg mb fa o pm cd doc a vs ns G Y ho (fd_plain hd) Hu Mo K6 hints hlen hg) fun r s' hq=>?_);obtain⟨rfl,h2,h3,h4⟩:=hq;exact⟨.inl ⟨.bool true,.bool true,[],rfl,fun _=>rfl,.bool true,p8 l _,fun _=>⟨List.Pairwise.nil,fun _ hm=>(nomatch hm)⟩⟩,h2,h3,h4⟩
section
variable{prog:Program}{w:World}{A:Around}{E:Value->Shared->Prop}{s:Shared}{K:Frag}
end
end Att
namespace L2
open PySem PySem.Spec PyProof.Rows
theorem kZ:∀{vs:List Value}{ns:List Int},IntsAre vs ns->Vals (ns.map V.int) vs
 |_,_,.nil=>.nil
 |_,_,.cons n t h=>.cons ⟨t,rfl⟩ (kZ h)
def Bv(H:Hp):Prop:=∀b,H b=none\/∃o xs,H b=some (.frz o (.lst xs))
theorem tP{P:Program}{w:World}{K:W.Frag}{mg mb:Str->Option Value}{CX:CXT}{k:Nat}{fa a:Addr}{fd:FuncData}{x:Str}{sp:Sp}{s₁:Shared}{vs:List Value}{ns:List Int}
  (KX:K.In s₁.heap) (OG:s₁.heap.Ns mainGlobals mg) (hb:s₁.heap.Ns builtinsNs mb) (hbb:∀x:Str,x≠"__name__"->mb x=bootBuiltins x) (hlim:s₁.heap.NoLimit) (hg:s₁.gens = #[])
  (ha:s₁.heap.get? a=some {cls:=.type "list",data:=.seq vs.toArray}) (hi:IntsAre vs ns) (hl:ns.length<=sizeLine) (hr:Room k callerA)
  (F:∀base:Heap,K.In base->base.Ns mainGlobals mg->FnOk P w K mg base CX k fa fd [x] sp) (Mp:∀(s:Shared) (u:Value),BindsTo s fd ⟨[u],[]⟩ [(x,u)])
  (Kz:∀H:Hp,Bv H->SqL K H a (ns.map V.int)->sp [.ref a] H (fun v _=>v=.bl true) fun _ _ _=>False)
  (NT:∀H e s',CX [] H s₁ (fun _ _ _=>False) e s'->False):
  codeAny (model P w) callerA (.call (.ref fa) ⟨[.ref a],[]⟩) (fun r s'=>r=.ok (.ret (.bool true))/\OldK s₁.heap s'.heap/\s'.os=s₁.os/\AllBare s'.gens) s₁:=by
 have rv:=kZ hi;have lenV:=hi.length;have core:∀H:Hp,Bv H->SqL K H a (ns.map V.int)->HOk P w H s₁.heap->(∀b,H b≠none->b=a)->(H a≠none->K.lookup a=none)->
   codeAny (model P w) callerA (.call (.ref fa) ⟨[.ref a],[]⟩) (fun r s'=>r=.ok (.ret (.bool true))/\OldK s₁.heap s'.heap/\s'.os=s₁.os/\AllBare s'.gens) s₁:=by
  intro H hO hS hok hA hK;have Ij:∀{b:Addr}{o:Obj},s₁.heap.get? b=some o->H b=none->(ti s₁.heap H).get? b=some o:=fun e n=>tj e n
  have Mj:∀{b:Addr}{o:Obj}{es:Array DictEntry}{ep:Nat},s₁.heap.get? b=some o->o.data=.dict es ep->H b=none:=fun{b o es ep} e d=>by
   cases q:H b with
   |none=>rfl
   |some u=>
    have e':b=a:=hA b (by rw[q];simp);subst e';rw[ha]at e;cases e;have d':Data.seq vs.toArray _=Data.dict es ep:=d;cases d'
  have Nn:∀{b:Addr}{m:Str->Option Value},s₁.heap.Ns b m->(ti s₁.heap H).Ns b m:=fun{b m} ⟨o,es,ep,e,d,r⟩=>⟨o,es,ep,Ij e (Mj e d),d,r⟩
  have OH:K.In (ti s₁.heap H):=fun b o e=>Ij (KX b o e) (by
   cases q:H b with
   |none=>rfl
   |some u=>
    have e':b=a:=hA b (by rw[q];simp);subst e';rw[hK (by rw[q];simp)]at e;cases e)
  have hM:Mod K mg (ti s₁.heap H):=⟨OH,Nn OG,⟨mb,Nn hb,hbb⟩,let⟨mc,h1,h2⟩:=hlim;⟨mc,Nn h1,h2⟩⟩
  have e0:Env0 P w K mg (ti s₁.heap H) callerA [] s₁ H:=⟨rfl,hM,fun b o e=>wo e,Tx (pN _ _),trivial,fun b hb=>absurd (show b∈([]:List Addr) from hb) (by simp),hok,.of_eq hg⟩
  refine codeAny_mono ((F _ OH (Nn OG)).run callerA [] s₁ H ⟨[.ref a],[]⟩ [.ref a] [.ref a] _ _ hr e0 (Mp s₁ (.ref a)) (.cons rfl .nil) (Kz H hO hS)) fun r s' h=>?_
  cases r with
  |error e=>exact(NT H e s' h).elim
  |ok fl=>
   cases fl with
   |next=>exact False.elim h
   |brk=>exact False.elim h
   |cont=>exact False.elim h
   |ret u=>
    obtain⟨v,H',os,bare,un,hok',r',q⟩:=h;have q':v=.bl true:=q;subst q';obtain rfl:u=Value.bool true:=r';refine⟨rfl,OldK.of_keep fun b o e=>?_,os,bare⟩;cases q:H b with
    |none=>exact un.keep b o e q (by intro z;exact absurd (show b∈([]:List Addr) from z) (by simp)) (by simp)
    |some u=>
     rcases hO b with z|⟨ob,xs,z⟩
     ·rw[q]at z;cases z
     ·have z2:=un.frzs b ob _ z;obtain⟨e1,_⟩:=hok b _ z;obtain⟨e2,_⟩:=hok' b _ z2;rw[e]at e1;cases e1;exact e2
 cases hk:K.lookup a with
 |some o=>
  have e:=KX a o hk;rw[ha]at e;cases e;refine core (fun _=>none) (fun _=>.inl rfl) (.inr ⟨_,vs.toArray,_,hk,rfl,rfl,rfl,by rw[Pl,lenV];exact hl,by simpa using rv⟩) (fun b u z=>by have z':(none:Option HO)=some u:=z;cases z') (fun b z=>absurd rfl z) fun z=>absurd rfl z
 |none=>
  refine core (fun b=>if b=a then some (.frz {cls:=.type "list",data:=.seq vs.toArray} (.lst (ns.map V.int))) else none) (fun b=>?_) (.inl (.inr ⟨{cls:=.type "list",data:=.seq vs.toArray},Px rfl⟩)) (fun b u z=>?_) (fun b z=>?_) fun _=>hk
  ·by_cases hb:b=a
   ·exact .inr ⟨_,_,Px hb⟩
   ·exact .inl (PJ hb)
  ·by_cases hb:b=a
   ·have z':=(Px hb).symm.trans z;cases z';subst hb;exact⟨ha,by rw[PQ];exact hl,vs,_,rv,ha⟩
   ·have z':=(PJ hb).symm.trans z;cases z'
  ·by_cases hb:b=a
   ·exact hb
   ·exact absurd (PJ hb) z
theorem wU{l:PySem.W.OpenLaw}{n k:Nat}{q:Program}{loose:List Str}{XP:(Str->Option Value)->Heap->Prop}{YP:World->Heap->Prop}{d:DefRec}{K:Params->W.Frag}{CX:World->CXT}{sp:World->Sp}{x:Str}
  (hn:l.most=some n) (hn2:n<=sizeLine) (Mn:d.params.defaults=[]) (hr:Room k callerA)
  (hY:∀(w:World) (h:Heap),YP w h->(K w.params).In h)
  (F:∀(w:World) (mg:Str->Option Value) (fa:Addr) (h:Heap),(K w.params).In h->h.Ns mainGlobals mg->mg d.name=some (.ref fa)->
   ∃fd:FuncData,(∀(s:Shared) (u:Value),BindsTo s fd ⟨[u],[]⟩ [(x,u)])/\
    ∀base:Heap,(K w.params).In base->base.Ns mainGlobals mg->FnOk l.prog w (K w.params) mg base (CX w) k fa fd [x] (sp w))
  (Kz:∀(w:World) (H:Hp) (a:Addr) (ns:List Int),ns.length<=n->Bv H->SqL (K w.params) H a (ns.map V.int)->sp w [.ref a] H (fun v _=>v=.bl true) fun _ _ _=>False)
  (NT:∀(w:World) (H:Hp) (s:Shared) (e:Value) (s':Shared),CX w [] H s (fun _ _ _=>False) e s'->False):
  PySem.W.WalkO q loose XP YP l.row.toRowW d [] (fun f vs=>PySem.call f vs):=by
 refine Att.attach_call hn Mn fun w s₀ s₁ mg mb fa o pm cd doc a vs ns G Y ho hd Hu Mo K6 hints hlen hg=>?_
 have KX:=hY w _ Y;obtain⟨fd,hb,hF⟩:=F w mg fa _ KX G.T.g Mo;exact tP KX G.T.g G.T.b G.T.builtins G.T.nolimit hg K6 hints (PN hlen hn2) hr hF hb (fun H hO hS=>Kz w H a ns hlen hO hS) fun H e s'=>NT w H s₁ e s'
def dN(s:Stmt):Arguments:=match s with
 | .FunctionDef _ a _ _ _ _ _ _ _ _=>a
 |_=>{posonlyargs:=[],args:=[],vararg:=none,kwonlyargs:=[],kw_defaults:=[],kwarg:=none,defaults:=[]}
def cy(s:Stmt):List Stmt:=match s with
 | .FunctionDef _ _ b _ _ _ _ _ _ _=>b
 |_=>[]
def defScope(s:Stmt):Scope:=match s with
 | .FunctionDef _ _ _ _ _ _ sc _ _ _=>sc
 |_=>{kind:=.function,names:=[],isGenerator:=false,isCoroutine:=false}
abbrev IL:CXT:=fun _ _ _ _ _ _=>False
abbrev E0:XK:=fun _ _ _=>False
theorem Bw{X:Cx}:pY IL X E0:=fun _ _ _ _ _ _ _ h=>h.elim
structure Fun(K:W.Frag)(x qual:Str)(st:Stmt)(f:Addr)(fd:FuncData):Prop where
 ex:∃(oc:Value) (od:Option Addr) (kV doc pm:Value) (an:Option Addr) (Er ct:Value) (JD:Array (Option Value)),
  fd=PySem.W.fnOf x qual (dN st) (cy st) (defScope st) .none kV doc pm an Er ct/\K.lookup f=some ⟨oc,od,.func fd,JD⟩/\PySem.W.codeIn K Er qual=true
 kp:PySem.W.keepIn K (.ref f)=true
section
variable{P:Program}{w:World}{K:W.Frag}{mg:Str->Option Value}{base:Heap}
theorem Fun.ok{x qual:Str}{st:Stmt}{f:Addr}{fd:FuncData}{N ps:List Str}{k:Nat}{sp:Sp}(F:Fun K x qual st f fd)(S:FnScope N ps (defScope st))(len:∀vs H Q E,sp vs H Q E->vs.length=ps.length)
  (IW:∀(Er:Value) (A:Around) (outer:List Env) (s:Shared) (H:Hp) (vs:List V) (Q:VK) (E:XK),Room k (A.deeper (envOfC qual (defScope st) s.heap.objs.size f Er))->sp vs H Q E->
   ∃t,PSs (tH IL P w K mg base N qual (defScope st) f Er A outer s H E).nox (cy st) t/\t {nx:=fun _ H'=>Q .non H',rt:=Q} (start N vs) H):FnOk P w K mg base IL (k+1) f fd ps sp:=by
 obtain⟨oc,od,kV,doc,pm,an,Er,ct,JD,rfl,lk,Hu⟩:=F.ex;refine Bs lk Hu S len fun A outer s H vs Q E hr Kz=>?_
 obtain⟨t,h,q⟩:=IW Er A outer s H vs Q E hr Kz;exact⟨t,h.nox,q⟩
theorem Fun.binds{x qual:Str}{st:Stmt}{f:Addr}{fd:FuncData}{ps:List Str}(F:Fun K x qual st f fd)
  (h:∀(kV doc pm:Value) (an:Option Addr) (Er ct:Value) (us:List Value),us.length=ps.length->bindArgs (PySem.W.fnOf x qual (dN st) (cy st) (defScope st) .none kV doc pm an Er ct) ⟨us,[]⟩=pure (ps.zip us)):Binds K fd ps []:=by
 obtain⟨oc,od,kV,doc,pm,an,Er,ct,JD,rfl,lk,Hu⟩:=F.ex;exact .all (h kV doc pm an Er ct)
theorem vA{x qual:Str}{st:Stmt}{f:Addr}{oc:Value}{od an:Option Addr}{JD:Array (Option Value)}{kV doc pm Er ct:Value}(l:K.lookup f=some ⟨oc,od,.func (PySem.W.fnOf x qual (dN st) (cy st) (defScope st) .none kV doc pm an Er ct),JD⟩)
  (c:PySem.W.codeIn K Er qual=true) (k:PySem.W.keepIn K (.ref f)=true):Fun K x qual st f (PySem.W.fnOf x qual (dN st) (cy st) (defScope st) .none kV doc pm an Er ct):=⟨⟨oc,od,kV,doc,pm,an,Er,ct,JD,rfl,l,c⟩,k⟩
end
theorem hu_of{A:Around}{k:Nat}(hr:Room k A):A.units+1<cLine:=Qp (Nat.add_le_add_left (by decide:1<=64) _) hr.units
section
variable{X:Cx}
theorem pv(i:Nat){x:Str}{pos:Pos}(hN:X.N[i]?=some x:=by rfl)(hv:NM X.env.scope x:=by first|exact Or.inl rfl|exact Or.inr (Or.inl rfl)|exact Or.inr (Or.inr rfl))(hd:(x==("__debug__" : Str))=false:=by decide)
  (Hu:(x==("__classdict__" : Str))=false:=by decide):PE X (.Name x pos) (oU i):=yG hN hv hd Hu
end
theorem iteF{A B:Prop}(h:B):if false=true then A else B:=by
 rw[PJ PF];exact h
theorem yt{A B:Prop}(h:A):if true=true then A else B:=by
 rw[Px rfl];exact h
def Same(H H':Hp):Prop:=∀b o,H b=some o->H' b=some o
theorem Same.refl(H:Hp):Same H H:=fun _ _ h=>h
theorem Same.trans{H H1 H2:Hp}(a:Same H H1)(b:Same H1 H2):Same H H2:=fun c o h=>b c o (a c o h)
end L2
set_option maxHeartbeats 4000000
namespace NX
open PySem PySem.Spec PyProof.Rows L2
section
variable{X:Cx}
theorem tR(v:Int)(n:Nat):max (0:Int) (min (if v<0 then v+(n:Int) else v) (n:Int))=((HT.sIx n 0 (some v):Nat):Int):=by
 show _=(((if v<0 then(v+(n:Int)).toNat else min v.toNat n):Nat):Int)
 split <;> lia
theorem zg(a b:Nat):sliceRange (a:Int) (b:Int) 1=(List.range (b-a)).map (fun k=>a+k):=by
 unfold sliceRange;rw[Px (by decide:(1:Int)>0)];by_cases ED:(a:Int)<b
 ·have e3:(((b:Int)-a+1-1) / 1).toNat=b-a:=by first|lia|(simp;done)|(simp;lia)
  simp only[ED,Q1,e3];refine Qx fun k _=>?_
  lia
 ·have:b-a=0:=by lia
  simp[ED,this]
theorem Di(lo hi:Option Int)(n:Nat):Builtin.Str.strSliceIndices lo hi 1 n=(List.range (HT.sIx n n hi-HT.sIx n 0 lo)).map (fun k=>HT.sIx n 0 lo+k):=by
 rw[<-zg];unfold Builtin.Str.strSliceIndices;simp only[show(1:Int)>0 from by decide,Q1];cases lo with
 |none=>
  cases hi with
  |none=>rfl
  |some v=>exact QN (fun z=>sliceRange 0 z 1) (tR v n)
 |some u=>
  cases hi with
  |none=>exact QN (fun z=>sliceRange z (n:Int) 1) (tR u n)
  |some v=>exact(QN (fun z=>sliceRange z _ 1) (tR u n)).trans (QN (fun z=>sliceRange _ z 1) (tR v n))
def zh(xs:List Nat)(lo hi:Option Int):List Nat:=(xs.drop (HT.sIx xs.length 0 lo)).take (HT.sIx xs.length xs.length hi-HT.sIx xs.length 0 lo)
theorem vB{α:Type}(l:List α):∀(n a:Nat),a+n<=l.length->((List.range n).map (fun k=>a+k)).filterMap (l[·]?)=(l.drop a).take n
 | 0,_,_=>by simp
 |n+1,a,h=>by
  have ED:a+n<l.length:=by lia
  rw[SF,Qm,List.filterMap_append,vB l n a (by lia),List.take_add_one,List.getElem?_drop];simp[Pk ED]
theorem p9(x:Str)(lo hi:Option Int):(Txt.slice x lo hi).cps.toList=zh x.cps.toList lo hi:=by
 have hl:x.cps.toList.length=x.length:=Q2;have ha:=HT.p3 x.length 0 (QA _) lo;have hb:=HT.p3 x.length x.length (Pt _) hi;unfold Txt.slice zh;rw[Di,hl];split
 ·rename_i h;have h2:HT.sIx x.length x.length hi-HT.sIx x.length 0 lo=x.length:=by simpa using h
  have ez:HT.sIx x.length 0 lo=0\/x.length=0:=by lia
  rcases ez with e|e
  ·rw[h2,e,SQ,QC (by lia)]
  ·have:x.cps.toList=[]:=QJ (by lia);rw[this];simp
 ·have hk:∀(f:List Nat),f.filterMap (x.cps[·]?)=f.filterMap (x.cps.toList[·]?):=fun f=>by
   congr 1
   funext i
   simp
  show(List.filterMap _ _).toArray.toList=_;rw[List.toList_toArray,hk];by_cases hle:HT.sIx x.length 0 lo<=HT.sIx x.length x.length hi
  ·rw[vB _ _ _ (by lia)]
  ·have e0:HT.sIx x.length x.length hi-HT.sIx x.length 0 lo=0:=by lia
   rw[e0];rfl
abbrev S(l:List Nat):Str:=⟨l.toArray⟩
theorem mr(x:Str):S x.cps.toList=x:=by cases x;simp[S]
theorem wV{a b:List Nat}(h:S a=S b):a=b:=by
 have:=QN (fun z:Str=>z.cps.toList) h;simpa[S] using this
theorem k6(l:List Nat):(S l).length=l.length:=by simp[S,Str.length]
theorem fJ(l:List Nat):(S l).cps.toList=l:=by simp[S]
theorem Bx(a b:List Nat):S a++S b=S (a++b):=by
 rw[<-mr (S a++S b),PySem.W.KT.app_list,fJ,fJ]
def Dj:V->Option Int->Option Int->Hp->VK->Prop:=fun x lo hi H Q=>∃l,x=.str (S l)/\l.length<=sizeLine/\Q (.str (S (zh l lo hi))) H
theorem zi:K4 X Dj:=by
 intro pr s σ H x v vl vu lo hi sl Q I rx hs pl pu h;obtain⟨l,rfl,hz,q⟩:=h;obtain⟨t,rfl⟩:=rx;have hz':(S l).length<=sizeLine:=by rw[k6];exact hz
 have e:∀t' k,EP X pr σ Q (.str (Txt.slice (S l) lo hi) t') {s with toks:=k}:=fun t' k=>by
  refine⟨.str (S (zh l lo hi)),H,I.tok _,⟨t',?_⟩,q⟩;have e1:=p9 (S l) lo hi;rw[fJ]at e1;rw[<-e1,mr]
 refine⟨"str",_,PySem.F.slot_str_getitem.lookup,typeIs_str _ _ _,?_⟩;have key:∀(K7 Np:Option (Int×Tok)),partValue K7=vl->partValue Np=vu->K7.map (·.1)=lo->Np.map (·.1)=hi->
   wpAny (model X.prog X.w) X.A (getItem (.str (S l) t) (.ref sl)) (EP X pr σ Q) X.xe s:=by
  rintro K7 Np rfl rfl rfl rfl;exact wpAny_getItem_str_slice (l:=K7) (u:=Np) (st:=none) hs rfl (post_val_or_str ⟨PN (Txt.slice_le (S l) _ _) hz',fun t' k=>e t' k⟩)
 cases pl with
 |none=>
  cases pu with
  |none=>exact key none none rfl rfl rfl rfl
  |int j uj=>exact key none (some (j,uj)) rfl rfl rfl rfl
 |int i ui=>
  cases pu with
  |none=>exact key (some (i,ui)) none rfl rfl rfl rfl
  |int j uj=>exact key (some (i,ui)) (some (j,uj)) rfl rfl rfl rfl
theorem qc{xs:List V}{j:Nat}{x:V}(h:xs[j]?=some x):xs.getD j .non=x:=by rw[Pg,h];rfl
theorem vals_at{A:Around}{s:Shared}{xs ys:List V}{us ws:List Value}(r:Vals xs us)(r':Vals ys ws)(f:xs.all o7=true)(f':ys.all o7=true)(j:Nat)(h1:j<us.toArray.size)(h2:j<ws.toArray.size):
  SeqAt.EqAt A s us.toArray[j] ws.toArray[j] (Nl (xs.getD j .non) (ys.getD j .non)):=by
 have l1:=r.length;have l2:=r'.length;simp only[Pl]at h1 h2;have e1:xs[j]?=some (xs[j]'(by lia)):=Pk _;have e2:ys[j]?=some (ys[j]'(by lia)):=Pk _;obtain⟨u,hu,ru⟩:=r.get e1;obtain⟨w',hw,HS⟩:=r'.get e2;have q1:us.toArray[j]=u:=by
  rw[Pk h1]at hu;simpa using hu
 have q2:ws.toArray[j]=w':=by
  rw[Pk h2]at hw;simpa using hw
 rw[q1,q2,qc e1,qc e2];exact vy ru HS (P8.mp f _ (Qj e1)) (P8.mp f' _ (Qj e2))
end
def Def(K:W.Frag)(mg:Str->Option Value)(x:Str)(st:Stmt):Prop:=∃f fd,Fun K x x st f fd/\mg x=some (.ref f)
def Ct(P:Program)(w:World)(K:W.Frag)(mg:Str->Option Value)(base:Heap)(x:Str)(k:Nat)(sp:Sp):Prop:=
 ∃f fd ps,FnOk P w K mg base IL k f fd ps sp/\mg x=some (.ref f)/\PySem.W.keepIn K (.ref f)=true/\Binds K fd ps []
section
variable{X:Cx}{e:Expr}{es:List Expr}{t:TA}{x:Str}{p pos:Pos}{k:Nat}{sp:Sp}
theorem zj(C:Ct X.prog X.w X.K X.mg X.base x k sp)(hr:Room k X.A)(hg:Gl X x)(ha:PA X (e::es) t)(GA:(x==("__debug__" : Str))=false:=by decide)
  (he:starEach (e::es) X.env=(false,eval e X.env)::starEach es X.env:=by rfl) (FE:(backTo pos (starEach es X.env)).any (·.1)=false:=by rfl):
  PE X (.Call (.Name x p) (e::es) [] pos) (tCall sp [] E0 t):=by
 obtain⟨f,fd,ps,G,m,kp,b⟩:=C;exact wH G hr hg m kp b .nil Bw ha GA he FE
end
theorem bt_len:bootBuiltins "len" = some (.builtin "len"):=by decide +kernel
theorem jK:bootBuiltins "isinstance" = some (.builtin "isinstance"):=by decide +kernel
theorem jL:bootBuiltins "list" = some (.type "list"):=by decide +kernel
theorem zk:bootBuiltins "int" = some (.type "int"):=by decide +kernel
theorem dj:bootBuiltins "tuple" = some (.type "tuple"):=by decide +kernel
theorem wW:bootBuiltins "bool" = some (.type "bool"):=by decide +kernel
theorem line_eq:sizeLine=16777216:=S3
theorem flat_strs(a:List (List Nat)):(a.map fun l=>V.str (S l)).all o7=true:=by
 rw[P8];intro v hv;obtain⟨l,_,rfl⟩:=SK.mp hv;rfl
section
variable{X:Cx}{e:Expr}{st:Stmt}
end
def clOf(scope:Scope)(env:Env):List (Str×Addr):=scope.names.foldl (fun cs y=>if y.2==NameKind.free then(y.1,(env.cells.lookup y.1).getD 0)::cs else cs) []
def cp(scope:Scope)(env:Env):Bool:=scope.names.all fun y=>y.2 != NameKind.free||env.kindOf y.1==some .cell||env.kindOf y.1==some .free
theorem cW(env:Env):∀(l:List (Str×NameKind)) (cs:List (Str×Addr)),(∀y∈l,y.2=.free->∃c,env.cells.lookup y.1=some c)->
  (forIn l cs fun(y:Str×NameKind) (r:List (Str×Addr))=>(do
   if y.2==NameKind.free then
    let a <-cellOf env y.1
    pure (ForInStep.yield ((y.1,a)::r))
   else pure (ForInStep.yield r):Sem (ForInStep (List (Str×Addr)))))=pure (l.foldl (fun cs y=>if y.2==NameKind.free then(y.1,(env.cells.lookup y.1).getD 0)::cs else cs) cs)
 |[],cs,_=>by simp
 |y::l,cs,h=>by
  rw[Tz,R4];by_cases k:y.2=.free
  ·obtain⟨c,e⟩:=h y Pq k;have e2:cellOf env y.1=pure c:=by unfold cellOf;rw[e]
   simp only[k,Qc,Q1,e2,e,Option.getD_some,pure_bind];exact cW env l _ fun z hz=>h z (Pu _ hz)
  ·have kb:(y.2==NameKind.free)=false:=by simpa using k
   simp only[kb,SM,Ul,pure_bind];exact cW env l _ fun z hz=>h z (Pu _ hz)
theorem fK(env:Env)(x:Str)(c:Addr):∀(l:List (Str×NameKind)) (cs:List (Str×Addr)),(∀y∈l,y.2=.free->∃c,env.cells.lookup y.1=some c)->(cs.lookup x=some c->env.cells.lookup x=some c)->
  (l.foldl (fun cs y=>if y.2==NameKind.free then(y.1,(env.cells.lookup y.1).getD 0)::cs else cs) cs).lookup x=some c->env.cells.lookup x=some c
 |[],_,_,h,e=>h e
 |y::l,cs,hf,h,e=>by
  rw[R4]at e;refine fK env x c l _ (fun z hz=>hf z (Pu _ hz)) (fun q=>?_) e;split at q
  ·rename_i k;have k:y.2=.free:=by simpa using k
   obtain⟨d,ed⟩:=hf y Pq k;rw[PZ]at q;cases hx:x==y.1 with
   |true=>
    rw[hx]at q;have exy:x=y.1:=by simpa using hx
    rw[ed,Option.getD_some]at q;rw[exy,ed];exact q
   |false=>
    rw[hx]at q;exact h q
  ·exact h q
theorem il(env:Env)(x:Str):∀(l:List (Str×NameKind)) (cs:List (Str×Addr)),((∃d,cs.lookup x=some d)\/(x,NameKind.free)∈l)->
  ∃d,(l.foldl (fun cs y=>if y.2==NameKind.free then(y.1,(env.cells.lookup y.1).getD 0)::cs else cs) cs).lookup x=some d
 |[],_,h=>by
  rcases h with h|h
  ·exact h
  ·cases h
 |y::l,cs,h=>by
  rw[R4];refine il env x l _ ?_;rcases h with⟨d,h⟩|h
  ·refine .inl ?_;split
   ·rw[PZ];cases hx:x==y.1 with
    |true=>exact⟨_,rfl⟩
    |false=>exact⟨d,h⟩
   ·exact⟨d,h⟩
  ·rcases Pw.mp h with h|h
   ·refine .inl ?_;rw[<-h];refine⟨(env.cells.lookup x).getD 0,?_⟩;show List.lookup x ((x,_)::cs)=_;rw[PZ,Qc]
   ·exact .inr h
noncomputable def aU(X:Cx)(scope:Scope)(N:List Str)(C:Addr)(s:Shared)(H:Hp)(fp:List Addr)(pn:List (Addr×Obj)):Cx:=
 {X with N:=N,s₀:=s,H₀:=H,env:=compEnvC scope (clOf scope X.env) C X.env,outer:=X.stack,ex:=fp,fn:=fun _=>false,pn:=pn,xe:=fun _ _=>False}
def dk(ix:List (Option Nat))(σ:L2.St):L2.St:=ix.map fun i=>i.bind fun i=>(σ[i]?).bind id
noncomputable def mv(wi:TI)(ix:List (Option Nat))(g:TG)(tc:TT)(te:TE):TE:=fun σ H Q=>wi σ H fun J H1=>∀D,H1 D=none->∃W:Nat->Nat->L2.St->Hp->Prop,(∃m,W 0 m (dk ix σ) (upd H1 D (.lst [])))/\
 ∀i m σ1 H2,W i m σ1 H2->(J.stop i H2/\Q (.ref D) H2)\/(J.go i H2/\∀x H3,J.yld i H2 x H3->g x σ1 H3 fun σ2 H4=>tc σ2 H4 fun b H5=>if b=true then te σ2 H5 fun v H6=>
  ∃ys,H6 D=some (.lst ys)/\ys.length<sizeLine/\∃m',m'<m/\W (i+1) m' σ2 (upd H6 D (.lst (ys++[v]))) else ∃m',m'<m/\W (i+1) m' σ2 H5)
abbrev IZ:Value->Shared->Prop:=fun _ _=>False
theorem L1{α:Type}{M:Model}{A:Around}{t:Sem α}{Q Q':α->Shared->Prop}{E:Value->Shared->Prop}{s:Shared}(h:wpAny M A t Q IZ s)(k:∀a s,Q a s->Q' a s):wpAny M A t Q' E s:=RX h k fun _ _ z=>z.elim
theorem k7{prog:Program}{w:World}{A:Around}{R:Result->Shared->Prop}{s:Shared}{elt target iter:Expr}{ifs:List Expr}{scope:Scope}{pos:Pos}{it acc:Value}{env:Env}(I:Nat->Shared->Prop)
  (turn:∀n s,I n s->wpAny (model prog w) A (pyNext it) (fun r s₁=>match r with
   |none=>R (.ok .next) s₁
   |some v=>wpAny (model prog w) A (letOwnedTupleGo target it v) (fun _ s₂=>wpAny (model prog w) A (assign target env v) (fun _ s₃=>
     wpAny (model prog w) A (forIn ifs true fun c r=>if r=true then do let ok <-isTrue c env (eval c env);pure (ForInStep.yield ok) else pure (ForInStep.yield r)) (fun ok s₄=>
      if ok=true then wpAny (model prog w) A (eval elt env) (fun x s₅=>
       wpAny (model prog w) A (call (.builtin "list.append") [acc,x]) (fun _ s₆=>∃m,m<n/\I m s₆) IZ s₅) IZ s₄
      else ∃m,m<n/\I m s₄) IZ s₃) IZ s₂) IZ s₁) IZ s)
  (n:Nat) (h:I n s):codeAny (model prog w) A (.compLoop (.ListComp elt [⟨target,iter,ifs,0⟩] scope pos) 0 it acc env) R s:=by
 refine codeAny_loop rfl I (fun n s hI=>?_) n h;show wpAny _ A ((compTurn (.ListComp elt [⟨target,iter,ifs,0⟩] scope pos) 0 it acc env).onRaise (fun x=>do noteFrame x env;theTreesLotGoes x)) _ _ s;refine wpAny_noted ?_;rw[compTurn_list];refine Ph (Uo (Ph (L1 (turn n s hI) fun r s₁ h₁=>?_)));cases r with
 |none=>exact Py h₁
 |some v=>
  refine Ph (L1 h₁ fun _ s₂ h₂=>Ph (L1 h₂ fun _ s₃ h₃=>Ph (L1 h₃ fun ok s₄ h₄=>?_)));cases ok with
  |false=>exact Py ⟨rfl,h₄⟩
  |true=>exact Ph (Ph (L1 h₄ fun x s₅ h₅=>Ph (L1 h₅ fun _ s₆ h₆=>Py (Py ⟨rfl,h₆⟩))))
def JL(X:Cx)(ifs:List Expr)(t:TT):Prop:=
 ∀(pr:List (Addr×Obj)) (s:Shared) (σ:L2.St) (H:Hp) (Q:Bool->Hp->Prop),Inv X pr σ H s->t σ H Q->
  wpAny (model X.prog X.w) X.A (forIn ifs true fun c r=>if r=true then do let ok <-isTrue c X.env (eval c X.env);pure (ForInStep.yield ok) else pure (ForInStep.yield r)) (TP X pr σ Q) X.xe s
def Dk:TT:=fun _ H Q=>Q true H
theorem wX{X:Cx}:JL X [] Dk:=fun _ _ _ H _ I h=>wpAny_tests_nil ⟨H,I,h⟩
theorem wY{X:Cx}{c:Expr}{t:TT}(h:PT X c t):JL X [c] t:=fun pr s σ H Q I k=>wpAny_tests_one (h pr s σ H Q I k)
def jM(X:Cx)(scope:Scope)(N:List Str)(ix:List (Option Nat)):Bool:=
 N.length==ix.length&&(N.zip ix).all fun y=>match y.2 with
  |none=>true
  |some j=>X.N[j]?==some y.1&&scope.names.lookup y.1==some .free
theorem gT{scope:Scope}{env:Env}{x:Str}(h:scope.names.lookup x=some .free):(relabel scope env).names.lookup x=some .cell\/(relabel scope env).names.lookup x=some .free:=by
 unfold relabel;dsimp only;generalize scope.names=l at h;induction l with
 |nil=>cases h
 |cons y l ih=>
  obtain⟨n,k⟩:=y;rw[PZ]at h;rw[PL];cases hx:x==n with
  |true=>
   rw[hx]at h;have hk:k=.free:=P0 h;subst hk;dsimp only;split
   ·exact .inl (by rw[PZ,hx])
   ·exact .inr (by rw[PZ,hx])
  |false=>
   rw[hx]at h;dsimp only;split
   ·rw[PZ,hx];exact ih h
   ·rw[PZ,hx];exact ih h
theorem k8{scope:Scope}{env:Env}{x:Str}(hc:∀y∈scope.names,y.2≠.cell)(h:(relabel scope env).names.lookup x=some .cell\/(relabel scope env).names.lookup x=some .free):(x,NameKind.free)∈scope.names:=by
 unfold relabel at h;dsimp only at h;generalize scope.names=l at h hc;induction l with
 |nil=>rcases h with h|h <;> cases h
 |cons y l ih=>
  obtain⟨n,k⟩:=y;rw[PL]at h;dsimp only at h;have nk:k≠.cell:=hc (n,k) Pq;have OI:=ih (hc:=fun z hz=>hc z (Pu _ hz));by_cases cnd:(k==NameKind.free&&env.scope.kind==.function&&env.kindOf n==some .cell)=true
  ·rw[Px cnd,PZ]at h;have kf:k=.free:=by
    have:(k==NameKind.free)=true:=by
     simp only[PD]at cnd;exact cnd.1.1
    simpa using this
   cases hx:x==n with
   |true=>
    have:x=n:=by simpa using hx
    rw[this,kf];exact Pq
   |false=>
    rw[hx]at h;exact Pu _ (OI h)
  ·rw[PJ cnd,PZ]at h;cases hx:x==n with
   |true=>
    rw[hx]at h;have:x=n:=by simpa using hx
    rcases h with h|h
    ·exact absurd (P0 h) nk
    ·rw[this,<-P0 h];exact Pq
   |false=>
    rw[hx]at h;exact Pu _ (OI h)
section
variable{X:Cx}{pr:List (Addr×Obj)}{σ:L2.St}{H:Hp}{s:Shared}{scope:Scope}{N:List Str}{ix:List (Option Nat)}{fp:List Addr}
theorem gm(ok:X.Ok)(hf:cp scope X.env=true):∀y∈scope.names,y.2=.free->∃c,X.env.cells.lookup y.1=some c:=fun y hy k=>by
 have:=P8.mp hf y hy;rw[k]at this;simp only[bne_self_eq_false,Up,TB,P5]at this;exact ok.has y.1 this
theorem eE(ok:X.Ok)(hf:cp scope X.env=true){x:Str}{c:Addr}(h:(clOf scope X.env).lookup x=some c):X.env.cells.lookup x=some c:=
 fK X.env x c scope.names [] (gm ok hf) (fun z=>nomatch z) h
theorem jN(ok:X.Ok)(hf:cp scope X.env=true){x:Str}(h:(x,NameKind.free)∈scope.names):∃c,(clOf scope X.env).lookup x=some c/\X.env.cells.lookup x=some c:=by
 obtain⟨c,e⟩:=il X.env x scope.names [] (.inr h);exact⟨c,e,eE ok hf e⟩
theorem _root_.L2.Inv.block(I:Inv X pr σ H s)(hf:cp scope X.env=true)(hk:scope.kind=.function)(Eb:∀y∈scope.names,y.2≠.cell)(E7:jM X scope N ix=true)(fo:∀b∈fp,kN X pr H b)(fin:∀b∈fp,∃o,s.heap.get? b=some o)
  {h1:Heap}{t1:Nat}{D C:Addr}(hD:D=s.heap.objs.size) (hC:C=s.heap.objs.size+1) (old:∀b o,s.heap.get? b=some o->h1.get? b=some o) {n:Nat}(acc:h1.get? D=some {cls:=.type "list",data:=.seq #[] n})
  {m:Str->Option Value}(ns:h1.Ns C m):Inv (aU X scope N C s H fp (X.pn++pr)) [] (dk ix σ) (upd H D (.lst [])) {s with heap:=h1,toks:=t1}:=by
 have EM:s.heap.objs.size<=C:=by rw[hC];exact RU _
 have freshD:s.heap.objs.size<=D:=by rw[hD];exact Pt _
 have nD:H D=none:=I.hok.fresh freshD;have DC:D≠C:=by rw[hD,hC];exact PB (P9 _)
 have Hw:∀b,H b=none->b≠D->upd H D (.lst []) b=none:=fun b n z=>by rw[ai z];exact n
 have JM:∀b o,s.heap.get? b=some o->b≠D:=fun b o e=>PB (Po (Pr e) freshD)
 have Hr:∀b o,s.heap.get? b=some o->b≠C:=fun b o e=>PB (Po (Pr e) EM)
 have cellAt:∀x c,(clOf scope X.env).lookup x=some c->∃v o,s.heap.get? c=some o/\o.data=.cell v:=fun x c e=>by
  obtain⟨v,o,ho,hd⟩:=I.cell x c (eE I.ok hf e);exact⟨v,o,ho,hd⟩
 have NU:(aU X scope N C s H fp (X.pn++pr)).Ok:=by
  refine⟨I.ok.mod,hk,I.ok.glob,I.ok.blt,EM,fun x y c e1 e2=>?_,fun x hx=>?_,fun x c z _=>?_,I.ok.hd,I.ok.frames,.inl rfl,fun b hb=>?_,I.bs,?_,fun b o e hb=>?_,fun b hb hs=>?_,I.stack,I.stkFree⟩
  ·exact I.ok.inj x y c (eE I.ok hf e1) (eE I.ok hf e2)
  ·obtain⟨c,e,_⟩:=jN I.ok hf (k8 Eb hx);exact⟨c,e⟩
  ·exact absurd (show false=true from z) PF
  ·obtain⟨f0,f1,f2,f3,f4,f5⟩:=fo b hb;refine⟨?_,fun x c e=>f4 x c (eE I.ok hf e)⟩;intro z;have z:b=C:=z;obtain⟨o,ho⟩:=fin b hb;exact Hr b o ho z
  ·exact PN I.ok.bsz I.sz
  ·obtain⟨f0,f1,f2,f3,f4,f5⟩:=fo b hb;rcases f3 with q|q
   ·exact I.ok.noex b o e q
   ·exact absurd (Po (Pr e) (PN I.ok.bsz q)) (QH _)
  ·obtain⟨f0,f1,f2,_⟩:=fo b hb;exact(Pw.mp (I.stkSub b hs)).elim f1 f2
 refine⟨NU,rfl,I.bare,Un.laid old freshD nD,⟨m,ns,fun i x v e1 e2 e3=>?_⟩,fun x c e=>?_,?_,fun x c e=>?_,fun p hp=>?_,I.hok.laid old freshD ⟨QA _,[],n,.nil,acc⟩,?_⟩
 ·
  have e2:(ix.map fun i=>i.bind fun i=>(σ[i]?).bind id)[i]?=some (some v):=e2;have e1:N[i]?=some x:=e1;unfold jM at E7;rw[PD]at E7;rw[PK]at e2;cases q:ix[i]? with
  |none=>rw[q]at e2;cases e2
  |some o=>
   rw[q]at e2;have e2:(o.bind fun i=>(σ[i]?).bind id)=some v:=P0 e2;cases o with
   |none=>cases e2
   |some j=>
    have e2:(σ[j]?).bind id=some v:=e2;have hσ:σ[j]?=some (some v):=by
     cases w':σ[j]? with
     |none=>rw[w']at e2;cases e2
     |some y=>rw[w']at e2;exact QN some e2
    have hz:(N.zip ix)[i]?=some (x,some j):=by
     rw[Rr];exact⟨e1,q⟩
    have hy:=P8.mp E7.2 _ (Qj hz);simp only[PD,P5]at hy;have Mq:(x,NameKind.free)∈scope.names:=QK hy.2;obtain⟨c,c1,c2⟩:=jN I.ok hf Mq;have Mr:X.env.kindOf x=some .cell\/X.env.kindOf x=some .free:=by
     have:=P8.mp hf _ Mq;simpa using this
    obtain⟨mo,K3,Hv⟩:=I.loc;obtain⟨u,r,l⟩:=Hv j x v hy.1 hσ (.inr Mr);refine⟨u,r,.inr ⟨gT hy.2,c,c1,?_⟩⟩;rcases l with⟨k1,_⟩|⟨_,c',e',IV⟩
    ·rcases Mr with k2|k2 <;> (rw[k1]at k2;cases k2)
    ·rw[c2]at e';cases e';obtain⟨o,ho,hd⟩:=IV;exact⟨o,old c o ho,hd⟩
 ·obtain⟨v,o,ho,hd⟩:=cellAt x c e;exact⟨v,o,old c o ho,hd⟩
 ·exact Hw C (I.hok.fresh EM) (Rj DC)
 ·obtain⟨v,o,ho,hd⟩:=cellAt x c e;exact Hw c (I.freeC x c (eE I.ok hf e)) (JM c o ho)
 ·have hp:p∈X.pn++pr:=by
   have:p∈(X.pn++pr)++[]:=hp
   rwa [PU]at this
  obtain⟨e,nn,ne,nf,d⟩:=I.pin p hp;refine⟨old _ _ e,Hw _ nn (JM _ _ e),Hr _ _ e,fun z=>?_,d⟩;exact(Pw.mp (I.stkSub p.1 z)).elim ne nf
 ·unfold jM at E7;rw[PD]at E7;have:N.length=ix.length:=by simpa using E7.1
  show(ix.map _).length=N.length;rw[PQ,this]
theorem _root_.L2.Inv.unblock{C:Addr}{σ1:L2.St}{H1:Hp}{s1:Shared}{h2:Heap}(I:Inv X pr σ H s)(fo:∀b∈fp,kN X pr H b)(hC:s.heap.objs.size<=C)(J:Inv (aU X scope N C s H fp (X.pn++pr)) [] σ1 H1 s1)(hs:Heap.SameBut C s1.heap h2):
  Inv X pr σ H1 {s1 with heap:=h2}:=by
 have Hr:∀b o,s.heap.get? b=some o->b≠C:=fun b o e=>PB (Po (Pr e) hC)
 have bb:Un (HR X.stack) fp H H1 s.heap s1.heap:=J.base;have jf:H1 C=none:=J.free;refine I.call' (s':={s1 with heap:=h2}) (ch:=fp) J.os ⟨fun b o e n hb hx=>?_,fun b o e n hb hx=>?_,bb.free,fun b o e hx=>?_,bb.tups,bb.frzs,bb.tbls⟩ (fun b ob e=>?_) J.bare fun b hb=>?_
 ·exact(hs.2 b (Hr b o e)).trans (bb.keep b o e n hb hx)
 ·obtain⟨sl,q⟩:=bb.slot b o e n hb hx;exact⟨sl,(hs.2 b (Hr b o e)).trans q⟩
 ·obtain⟨o',q⟩:=bb.there b o e hx;exact⟨o',(hs.2 b (Hr b o e)).trans q⟩
 ·refine(J.hok b ob e).stay (fun c w' hc q=>(hs.2 c ?_).trans q) (fun _ q=>q) fun _ _ q=>q
  rintro rfl;rcases hc with rfl|hc
  ·rw[jf]at e;cases e
  ·rw[jf]at hc;cases hc
 ·obtain⟨f0,f1,f2,f3,f4,f5⟩:=fo b hb;exact⟨f3,f1,f4,f5⟩
end
section
variable{X:Cx}{scope:Scope}{N:List Str}{ix:List (Option Nat)}{tg iter elt:Expr}{ifs:List Expr}{pos:Pos}{wi:TI}{g:TG}{tc:TT}{te:TE}
theorem ji{pr:List (Addr×Obj)}{σ:L2.St}{H2:Hp}{s2:Shared}{J:It}{fp:List Addr}{it:Addr}{tn:Nat->Heap->Prop}{Q:VK}{RR:Value->Addr->Result->Shared->Prop}{E:Value->Shared->Prop}
  (hc:X.calm=true) (I2:Inv X pr σ H2 s2) (T:Turn X.prog X.w X.K tg J fp it tn) (D5:tn 0 s2.heap) (f2:∀b∈fp,kN X pr H2 b)
  (hg:∀C s H fp pn,PG (aU X scope N C s H fp pn) tg g) (ht:∀C s H fp pn,JL (aU X scope N C s H fp pn) ifs tc) (he:∀C s H fp pn,PE (aU X scope N C s H fp pn) elt te)
  (hf:cp scope X.env=true) (hk:scope.kind=.function) (Eb:∀y∈scope.names,y.2≠.cell) (E7:jM X scope N ix=true)
  (q:∀D,H2 D=none->∃W:Nat->Nat->L2.St->Hp->Prop,(∃m,W 0 m (dk ix σ) (upd H2 D (.lst [])))/\
   ∀i m σ1 H3,W i m σ1 H3->(J.stop i H3/\Q (.ref D) H3)\/(J.go i H3/\∀x H4,J.yld i H3 x H4->g x σ1 H4 fun σ2 H5=>tc σ2 H5 fun b H6=>if b=true then te σ2 H6 fun v H7=>
    ∃ys,H7 D=some (.lst ys)/\ys.length<sizeLine/\∃m',m'<m/\W (i+1) m' σ2 (upd H7 D (.lst (ys++[v]))) else ∃m',m'<m/\W (i+1) m' σ2 H6))
  (NW:∀(D C:Addr) (σ1:L2.St) (H1:Hp) (s1:Shared),s2.heap.objs.size<=C->Inv (aU X scope N C s2 H2 fp (X.pn++pr)) [] σ1 H1 s1->Q (.ref D) H1->RR (.ref D) C (.ok .next) s1):
  wpAny (model X.prog X.w) X.A (newList []) (fun acc s₃=>wpAny (model X.prog X.w) X.A (newFunctionEnv scope X.env.globals (clOf scope X.env) [] X.env.qual none .none (some X.env)) (fun I0 s₄=>
   codeAny (model X.prog X.w) X.A (.compStart (.ListComp elt [⟨tg,iter,ifs,0⟩] scope pos) 0 (.ref it) acc {I0 with scope:=relabel scope X.env}) (RR acc I0.locals) s₄) E s₃) E s2:=by
 refine Q5 (wpAny_newFunctionEnv Eb (by intro y hy;simp at hy) (fun h₁ hns₁ hsb₁=>?_) hk);dsimp only at hns₁ hsb₁ ⊢;generalize hH2:s2.heap.push {cls:=.type "list",dict:=none,data:=.seq ([]:List Value).toArray}=HH at hns₁ hsb₁ ⊢;have hC:HH.objs.size=s2.heap.objs.size+1:=by rw[<-hH2,Qq]
 have OJ:s2.heap.objs.size≠HH.objs.size:=by rw[hC];exact PB (P9 _)
 have Iu:s2.heap.objs.size<=HH.objs.size:=by rw[hC];exact RU _
 have Hr:∀b o,s2.heap.get? b=some o->b≠HH.objs.size:=fun b o e=>PB (Po (Pr e) Iu)
 have old:∀b o,s2.heap.get? b=some o->h₁.get? b=some o:=fun b o e=>hsb₁.extBut b o (Hr b o e) (Pm _ (hH2▸Pm _ e))
 have GV:h₁.get? s2.heap.objs.size=some {cls:=.type "list",data:=.seq #[] 0}:=hsb₁.extBut _ _ OJ (Pm _ (hH2▸Pz _ rfl));obtain⟨W,⟨m0,w0⟩,turn⟩:=q s2.heap.objs.size (I2.hok.fresh (Pt _));have fin:∀b∈fp,∃o,s2.heap.get? b=some o:=fun b hb=>let⟨o,e,_⟩:=T.obj 0 _ D5 b hb;⟨o,e⟩
 have Gz:∀{H':Hp},(∀b∈fp,H' b=none)->∀b∈fp,kN (aU X scope N HH.objs.size s2 H2 fp (X.pn++pr)) [] H' b:=fun{H'} hn b hb=>by
  obtain⟨f0,f1,ff,f3,f4,f5⟩:=f2 b hb;refine⟨hn b hb,?_,fun z=>?_,.inl hb,fun x c e=>f4 x c (eE I2.ok hf e),fun p hp=>?_⟩
  ·intro z;have z:b=HH.objs.size:=z;obtain⟨o,ho⟩:=fin b hb;exact Hr b o ho z
  ·exact(Pw.mp (I2.stkSub b z)).elim f1 ff
  ·have hp:p∈X.pn++pr:=by
    have:p∈(X.pn++pr)++[]:=hp
    rwa [PU]at this
   exact f5 p hp
 have loop:∀s₃:Shared,s₃={s2 with heap:=h₁,toks:=s2.toks+([]:List (Str×Value)).length}->
   codeAny (model X.prog X.w) X.A (.compLoop (.ListComp elt [⟨tg,iter,ifs,0⟩] scope pos) 0 (.ref it) (.ref s2.heap.objs.size) (compEnvC scope (clOf scope X.env) HH.objs.size X.env)) (RR (.ref s2.heap.objs.size) HH.objs.size) s₃:=by
  rintro s₃ rfl;refine k7 (fun n s'=>∃i σ' H',Inv (aU X scope N HH.objs.size s2 H2 fp (X.pn++pr)) [] σ' H' s'/\tn i s'.heap/\(∀b∈fp,H' b=none)/\W i n σ' H') ?_ m0
   ⟨0,_,_,I2.block hf hk Eb E7 f2 fin rfl hC old GV hns₁,T.keep 0 _ _ D5 fun b _ o e=>old b o e,fun b hb=>?_,w0⟩
  ·rintro n s3 ⟨i,σ3,H3,I3,En,Kw,w3⟩;rcases turn i n σ3 H3 w3 with⟨stop,qn⟩|⟨go,step⟩
   ·refine Eg (T.done (aU X scope N HH.objs.size s2 H2 fp (X.pn++pr)) rfl rfl rfl hc i [] s3 σ3 H3 IZ I3 (Gz Kw) En stop) fun r s4 Ee=>?_
    obtain⟨hr,I4⟩:=Ee;subst hr;exact NW _ _ σ3 H3 s4 Iu I4 qn
   ·refine Eg (T.item (aU X scope N HH.objs.size s2 H2 fp (X.pn++pr)) rfl rfl rfl hc i [] s3 σ3 H3 IZ I3 (Gz Kw) En go) fun r s4 Ee=>?_
    obtain⟨u,hr,h4⟩:=Ee;subst hr;refine Eg h4 fun _ s5 Ee=>?_
    obtain⟨x,H5,I5,r5,y5,Fo,Mg⟩:=Ee;have Mh:=I5.pinned (Gz Mg) (T.obj _ _ Fo);refine Eg (hg _ _ _ _ _ _ s5 σ3 H5 x u _ Mh r5 (step x H5 y5)) fun _ s6 Ee=>?_
    obtain⟨σ6,H6,I6,q6⟩:=Ee;refine Eg (ht _ _ _ _ _ _ s6 σ6 H6 _ I6 q6) fun ok s7 Ee=>?_
    obtain⟨H7,I7,q7⟩:=Ee;have again:∀{H8:Hp}{s8:Shared},Inv (aU X scope N HH.objs.size s2 H2 fp (X.pn++pr)) ([]++je fp s5.heap) σ6 H8 s8->(∃m',m'<n/\W (i+1) m' σ6 H8)->
      ∃m,m<n/\∃i σ' H',Inv (aU X scope N HH.objs.size s2 H2 fp (X.pn++pr)) [] σ' H' s8/\tn i s8.heap/\(∀b∈fp,H' b=none)/\W i m σ' H':=fun{H8 s8} I8 ⟨m',hm,w8⟩=>by
     refine⟨m',hm,i+1,σ6,H8,I8.unpinned,T.keep _ _ _ Fo fun b hb o e=>(I8.pin (b,o) (Pj _ (Pj _ (cV hb e)))).1,fun b hb=>?_,w8⟩;obtain⟨o,e,d⟩:=T.obj _ _ Fo b hb;exact(I8.pin (b,o) (Pj _ (Pj _ (cV hb e)))).2.1
    cases ok with
    |false=>exact again I7 q7
    |true=>
     show wpAny _ _ _ _ _ _;refine Eg (he _ _ _ _ _ _ s7 σ6 H7 _ I7 q7) fun x8 s8 Ee=>?_
     obtain⟨v8,H8,I8,r8,ys,NY,ED,q8⟩:=Ee;refine Eg (gj _ s8 σ6 H8 (.ref s2.heap.objs.size) [v8] (.ref s2.heap.objs.size) [x8] (fun _ H9=>∃m',m'<n/\W (i+1) m' σ6 H9) I8 rfl (.cons r8 .nil) ⟨_,ys,v8,rfl,rfl,NY,ED,q8⟩) fun _ s9 Ee=>?_
     obtain⟨_,H9,I9,_,q9⟩:=Ee;exact again I9 q9
  ·rw[ai (fun z=>by
    obtain⟨o,ho⟩:=fin b hb;exact absurd z (PB (Pr ho)))]
   exact(f2 b hb).1
 exact codeAny_compStart_list (loop _ rfl) (T.self _ 0 _ _ _ (T.keep 0 _ _ D5 fun b _ o e=>old b o e) (loop _ rfl))
theorem mw(ix:List (Option Nat))(N:List Str)(hc:X.calm=true)(hi:PI X tg iter wi)(hg:∀C s H fp pn,PG (aU X scope N C s H fp pn) tg g)(ht:∀C s H fp pn,JL (aU X scope N C s H fp pn) ifs tc)(he:∀C s H fp pn,PE (aU X scope N C s H fp pn) elt te)
  (hf:cp scope X.env=true:=by rfl) (hk:scope.kind=.function:=by rfl) (Eb:∀y∈scope.names,y.2≠.cell:=by decide +kernel) (Eh:∀y∈scope.names,y.2=.local->scope.names.lookup y.1=some .local:=by decide +kernel) (E7:jM X scope N ix=true:=by rfl)
  (hs:∀x,foldedSetIterable iter X.env x=pure x:=by intro _;rfl):PE X (.ListComp elt [⟨tg,iter,ifs,0⟩] scope pos) (mv wi ix g tc te):=by
 intro pr s σ H Q I h;rw[eval_ListComp];have GD:closureFor scope X.env=pure (clOf scope X.env):=by
  unfold closureFor clOf;have:=cW X.env scope.names [] (gm I.ok hf);simpa using this
 refine Rx (use:=none) rfl hs GD hk Eh (Eg (hi pr s σ H _ I h) fun v s1 h1=>Eg h1 fun LX s2 h2=>?_);obtain⟨it,fp,tn,J,H2,e,I2,T,D5,f2,q⟩:=h2;subst e;refine ji (RR:=fun acc C=>compPost (model X.prog X.w) X.A X.xe none (EP X pr σ Q) acc C) (Q:=Q) (iter:=iter) hc I2 T D5 f2 hg ht he hf hk Eb E7 q fun D C σ1 H1 s1 hC J1 q1=>?_
 obtain⟨m,ns,_⟩:=J1.loc;exact⟨m,ns,fun h' K8=>⟨.ref D,H1,I2.unblock f2 hC J1 K8,rfl,q1⟩⟩
end
section
variable{X:Cx}{scope:Scope}{N:List Str}{ix:List (Option Nat)}{tg iter elt:Expr}{ifs:List Expr}{pos:Pos}{wi:TI}{g:TG}{tc:TT}{te:TE}
theorem qe{i:Nat}{y:Str}{py Fe:Pos}(ix:List (Option Nat))(N:List Str)(hN:X.N.Nodup)(JN:X.N[i]?=some y)(hy:Loc X.env.scope y)(hc:X.calm=true)(hi:PI X tg iter wi)(hg:∀C s H fp pn,PG (aU X scope N C s H fp pn) tg g)(ht:∀C s H fp pn,JL (aU X scope N C s H fp pn) ifs tc)
  (he:∀C s H fp pn,PE (aU X scope N C s H fp pn) elt te) (Ja:swapsWith (.ListComp elt [⟨tg,iter,ifs,0⟩] scope pos) (some (.Name y py)) Fe.line X.env=pure true:=by rfl)
  (hf:cp scope X.env=true:=by rfl) (hk:scope.kind=.function:=by rfl) (Eb:∀y∈scope.names,y.2≠.cell:=by decide +kernel) (Eh:∀y∈scope.names,y.2=.local->scope.names.lookup y.1=some .local:=by decide +kernel) (E7:jM X scope N ix=true:=by rfl)
  (hs:∀x,foldedSetIterable iter X.env x=pure x:=by intro _;rfl) (Iq:X.fn y=true\/X.env.scope.names.lookup y=some .local:=by first|exact .inl rfl|exact .inr rfl):
  PS X (.Assign [.Name y py] (.ListComp elt [⟨tg,iter,ifs,0⟩] scope pos) Fe) (fun D σ H=>mv wi ix g tc te σ H fun v H'=>D.nx (σ.set i (some v)) H'):=by
 intro pr s σ H Dd I h;rw[exec_Assign_Name_used _ _ _ _ Ja];have GD:closureFor scope X.env=pure (clOf scope X.env):=by
  unfold closureFor clOf;have:=cW X.env scope.names [] (gm I.ok hf);simpa using this
 refine Ph (Uo (Ph ?_));show wpAny _ X.A (do let _ <-comprehension (.ListComp elt [⟨tg,iter,ifs,0⟩] scope pos) scope X.env _ (newList []) false (eval iter X.env) (some (assign (.Name y py) X.env))) _ _ s;refine Ph (RX (Rx (use:=some (assign (.Name y py) X.env)) (Q:=fun _ s'=>SP X pr Dd .next s') rfl hs GD hk Eh
  (Eg (hi pr s σ H _ I h) fun v s1 h1=>Eg h1 fun LX s2 h2=>?_)) (fun _ s' hq=>Py (Py hq)) fun _ _ e=>e)
 obtain⟨it,fp,tn,J,H2,e,I2,T,D5,f2,q⟩:=h2;subst e;refine ji (RR:=fun acc C=>compPost (model X.prog X.w) X.A X.xe (some (assign (.Name y py) X.env)) (fun _ s'=>SP X pr Dd .next s') acc C) (Q:=fun v H'=>Dd.nx (σ.set i (some v)) H') (iter:=iter) hc I2 T D5 f2 hg ht he hf hk Eb E7 q fun D C σ1 H1 s1 hC J1 q1=>?_
 obtain⟨m,ns,_⟩:=id J1.loc;have ns:s1.heap.Ns C m:=ns;have I3:Inv X pr σ H1 s1:=I2.unblock f2 hC J1 (.refl ..);show wpAny _ X.A (assign (.Name y py) X.env (.ref D)) _ _ s1;refine SV (ig I3 hN JN hy (v:=.ref D) rfl (fun s4 I4 ⟨a,sb,ha⟩=>?_) Iq);have aC:C≠a:=by
  intro z;rcases ha with ha|ha
  ·exact PB (Po I2.lt hC) (ha▸z.symm)
  ·obtain⟨v,o,ho,_⟩:=I2.cell y a ha;exact PB (Po (Pr ho) hC) z.symm
 refine⟨m,ns.sameBut sb aC,fun h' K8=>?_⟩;have jf:H1 C=none:=J1.free;have kk:∀b o,b≠C->s4.heap.get? b=some o->h'.get? b=some o:=fun b o hb e=>(K8.2 b hb).trans e
 refine⟨σ.set i (some (.ref D)),H1,?_,q1⟩;have z:=I4.turned (t':=s4.toks) kk jf (fun z=>PB (Po I2.lt hC) z.symm) (.inr (PN I2.sz hC)) (fun x c e z=>by
  obtain⟨v,o,ho,_⟩:=I2.cell x c e;exact PB (Po (Pr ho) hC) z) (fun p hp z=>PB (Po (Pr (I2.pin p hp).1) hC) z)
 exact z
end
def Itv(val:Nat->V)(n:Nat):It:=⟨fun i _=>i<n,fun i H x H'=>H'=H/\x=val i,fun i _=>i=n⟩
theorem nE{P:Program}{w:World}{K:W.Frag}{tg:Expr}(ty:String)(Mm:["enumerate","zip","dict_itemiterator","dict_reverseitemiterator","odict_iterator","itertools.zip_longest","itertools.pairwise"].contains ty=false)(l:List Nat)(t:Tok)(it:Addr)
  (Wk:∀A:Around,A.handled=none->Walks P w A it [it] [it] (S l).cps.size (SignAt (S l)) (fun i h=>h.IsStrIter it ty (S l) t i))
  (self:∀(A:Around) (i:Nat) (s:Shared) (Q:Value->Shared->Prop) (E:Value->Shared->Prop),s.heap.IsStrIter it ty (S l) t i->Q (.ref it) s->wpAny (model P w) A (pyIter (.ref it)) Q E s):
  Turn P w K tg (Itv (fun i=>.str (S [l.getD i 0])) l.length) [it] it (fun i h=>h.IsStrIter it ty (S l) t i) where
 mem:=by simp
 obj:=fun i h st b hb=>by
  have e:b=it:=by simpa using hb
  subst e;obtain⟨o,e,c,d⟩:=st;exact⟨o,e,fun v z=>by rw[d]at z;cases z⟩
 keep:=fun i h h' st k=>by
  obtain⟨o,e,r⟩:=st;exact⟨o,k it (by simp) o e,r⟩
 item:=by
  intro X hP hw hK hc i pr s σ H E I hf st hg;subst hP hw hK;obtain⟨f0,f1,f2,f3,f4,f5⟩:=hf it (by simp);have hg:i<l.length:=hg;refine(Wk X.A (I.ok.hd hc)).item i s _ _ (by simpa[S] using hg) st fun v h' tk hv Hq kk=>?_
  obtain⟨c,u,LV,rfl⟩:=hv;have I1:Inv X pr σ H {s with heap:=h',toks:=tk}:=I.turned (fun b o hb e=>kk b o (by simpa using hb) e) f0 f1 f3 f4 f5;obtain⟨o,e,cc,d⟩:=id Hq;have Ft:l.getD i 0=c:=by
   have:l[i]?=some c:=by simpa[S] using LV
   rw[Pg,this];rfl
  refine⟨_,rfl,pO (s:={s with heap:=h',toks:=tk}) e cc d Mm ⟨.str (S [l.getD i 0]),H,I1,⟨u,?_⟩,⟨rfl,rfl⟩,Hq,fun b hb=>(hf b hb).1⟩⟩;rw[Ft]
 done:=by
  intro X hP hw hK hc i pr s σ H E I hf st hg;subst hP hw hK;obtain⟨f0,f1,f2,f3,f4,f5⟩:=hf it (by simp);have hg:i=l.length:=hg;have hn:(S l).cps.size=i:=by rw[hg];simp[S]
  refine(Wk X.A (I.ok.hd hc)).done s _ _ (by rw[hn];exact st) fun h' tk kk=>⟨rfl,I.turned (fun b o hb e=>kk b o (by simpa using hb) e) f0 f1 f3 f4 f5⟩
 self:=self
def Dl(tl:TE):TI:=fun σ H R=>tl σ H fun x H1=>∃l,x=.str (S l)/\R (Itv (fun i=>.str (S [l.getD i 0])) l.length) H1
section
variable{X:Cx}{tg:Expr}
theorem zm{l:Expr}{tl:TE}(hl:PE X l tl):PI X tg l (Dl tl):=by
 intro pr s σ H R I h;refine Eg (hl pr s σ H _ I h) fun v s1 Ee=>?_
 obtain⟨x,H1,I1,r1,l,e,q⟩:=Ee;subst e;obtain⟨t,rfl⟩:=r1;cases ha:(S l).cps.all (·< 128)
 ·refine wpAny_pyIter_wide ha ?_;refine⟨s1.heap.objs.size,[s1.heap.objs.size],_,_,H1,rfl,I1.kept (t':=s1.toks) fun b o e=>Pm _ e,
   nE "str_iterator" (by decide) l t _ (fun A hA=>Walks.strWide hA _ _ _) (fun _ _ _ _ _ st h=>wpAny_pyIter_striter_wide st h),⟨_,Pz _ rfl,rfl,rfl⟩,fun b hb=>?_,q⟩
  have e:b=s1.heap.objs.size:=by simpa using hb
  subst e;exact I1.fpOk (Pt _) (I1.hok.fresh (Pt _))
 ·refine wpAny_pyIter_ascii ha ?_;refine⟨s1.heap.objs.size,[s1.heap.objs.size],_,_,H1,rfl,I1.kept (t':=s1.toks) fun b o e=>Pm _ e,
   nE "str_ascii_iterator" (by decide) l t _ (fun A hA=>Walks.strAscii hA _ _ _) (fun _ _ _ _ _ st h=>wpAny_pyIter_striter_ascii st h),⟨_,Pz _ rfl,rfl,rfl⟩,fun b hb=>?_,q⟩
  have e:b=s1.heap.objs.size:=by simpa using hb
  subst e;exact I1.fpOk (Pt _) (I1.hok.fresh (Pt _))
theorem tS{pr:List (Addr×Obj)}{s:Shared}{σ:L2.St}{H:Hp}{p:Addr}{xs:List V}{E:Value->Shared->Prop}{R:Value->Shared->Prop}(hc:X.calm=true)(I:Inv X pr σ H s)(h:SqL X.K H p xs\/SqT X.K H p xs)
  (k:∀(it:Addr) (fp:List Addr) (o:Obj) (us:List Value) (Sx:Nat->Heap->Prop),Vals xs us->Walks X.prog X.w X.A.in1 it fp [it] us.length (fun i v=>us[i]?=some v) Sx->Sx 0 (s.heap.push o)->(∀b∈fp,b<(s.heap.push o).objs.size)->it=s.heap.objs.size->R (.ref it) {s with heap:=s.heap.push o}):
  wpAny (model X.prog X.w) X.A.in1 (pyIter (.ref p)) R E s:=by
 have hh:X.A.in1.handled=none:=I.ok.hd hc;rcases h with h|h
 ·obtain⟨us,r,pl,hz⟩:=I.list h;have ED:p<s.heap.objs.size:=by obtain⟨o,ho,_⟩:=pl.isList;exact Pr ho
  refine Q3 pl.isList (k s.heap.objs.size [s.heap.objs.size,p] _ us (fun i h=>h.IsListIter s.heap.objs.size p i/\h.IsList p us.toArray) r (by
   have W:=Walks.list (prog:=X.prog) (w:=X.w) hh s.heap.objs.size p (PB ED) us.toArray;simpa using W) ⟨⟨_,Pz _ rfl,rfl,rfl⟩,pl.isList.at fun o e=>Pm _ e⟩ (fun b hb=>?_) rfl)
  rw[Qq];rcases Pw.mp hb with rfl|hb
  ·exact P9 _
  ·rw[Qf]at hb;rw[hb];exact SW ED
 ·obtain⟨us,r,pl,hz⟩:=I.tuple h;have K7:s.heap.IsTuple p us.toArray:=pl;have ED:p<s.heap.objs.size:=by obtain⟨o,ho,_⟩:=pl;exact Pr ho
  refine QR K7 (k s.heap.objs.size [s.heap.objs.size,p] _ us (fun i h=>h.IsTupleIter s.heap.objs.size p i/\h.IsTuple p us.toArray) r (by
   have W:=Walks.tuple (prog:=X.prog) (w:=X.w) hh s.heap.objs.size p (PB ED) us.toArray;simpa using W) ⟨⟨_,Pz _ rfl,rfl,rfl⟩,K7.at fun o e=>Pm _ e⟩ (fun b hb=>?_) rfl)
  rw[Qq];rcases Pw.mp hb with rfl|hb
  ·exact P9 _
  ·rw[Qf]at hb;rw[hb];exact SW ED
theorem o9{pr:List (Addr×Obj)}{s:Shared}{σ:L2.St}{H:Hp}{o:Obj}{h':Heap}{tk:Nat}(I:Inv X pr σ H s)(kk:∀b ob,b∉[s.heap.objs.size]->(s.heap.push o).get? b=some ob->h'.get? b=some ob):
  Inv X pr σ H {s with heap:=h',toks:=tk}:=I.kept fun b ob e=>kk b ob (fun z=>PB (Pr e) (by simpa using z)) (Pm _ e)
theorem qf{α:Type}(l:List α)(i:Nat)(d:α)(h:i<l.length):l.getD i d=l[i]:=by
 rw[Pg,Pk h];rfl
theorem wZ{ns:List Int}{us:List Value}(r:Vals (ns.map V.int) us){i:Nat}{v:Value}(h:us[i]?=some v):∃t,v=.int (ns.getD i 0) t:=by
 have hl:=r.length;rw[PQ]at hl;obtain⟨hi,_⟩:=Pn.mp h;have e1:(ns.map V.int)[i]?=some (.int (ns.getD i 0)):=by
  rw[PK,Pk (by lia),qf _ _ _ (by lia)];rfl
 obtain⟨u,hu,t,rfl⟩:=r.get e1;rw[h]at hu;exact⟨t,P0 hu⟩
def zo(ns:List Int):Int:=ns.foldl max (ns.headD 0)
def By(ns:List Int):Int:=ns.foldl min (ns.headD 0)
theorem k9(ns:List Int):∀k,k<=ns.length->preSum (fun i=>ns.getD i 0) k=(ns.take k).sum
 | 0,_=>by simp[preSum]
 |k+1,h=>by
  have et:ns.take (k+1)=ns.take k++[ns.getD k 0]:=by
   rw[List.take_add_one,Pk (by lia),qf _ _ _ (by lia)];rfl
  rw[et,List.sum_append,<-k9 ns k (by lia)];simp[preSum]
theorem qg(hc:X.calm=true):eO X (.builtin "sum") (fun vs H Q=>∃(p:Addr) (ns:List Int),vs=[.ref p]/\(SqL X.K H p (ns.map V.int)\/SqT X.K H p (ns.map V.int))/\Q (.int ns.sum) H):=by
 intro pr s σ H vs us Q I r h;obtain⟨p,ns,rfl,hp,q⟩:=h;obtain⟨u,rfl,r1⟩:=kP r;cases r1;refine call_sum_walkG (tS hc I hp fun it fp o ws Sx rv W st hf hit=>?_);have hl:=rv.length;rw[PQ]at hl;refine⟨it,fp,[it],_,_,Sx,fun i=>ns.getD i 0,rfl,W,st,hf,fun i v hv=>wZ rv hv,fun h' tk t' kk=>?_⟩;subst hit;refine⟨.int ns.sum,H,o9 (s:=s) I kk,⟨t',?_⟩,q⟩;rw[<-hl,k9 ns _ (Pt _),List.take_length]
end
section
variable{prog:Program}{w:World}{A:Around}{R:Result->Shared->Prop}{it:Addr}{fp wr:List Addr}{n:Nat}{Pv:Nat->Value->Prop}{Sx:Nat->Heap->Prop}{kw:List (Str×Value)}
end
section
variable{X:Cx}{e k:Expr}{te tk:TE}{p pos Mi:Pos}
def maxD(ns:List Int)(d:Int):Int:=if ns=[] then d else zo ns
end
section
variable{prog:Program}{w:World}{A:Around}{E:Value->Shared->Prop}{s:Shared}
theorem tU{it t:Addr}{i:Nat}{items:Array Value}{x:Value}{Q:Value->Shared->Prop}(hi:s.heap.IsTupleIter it t i)(ht:s.heap.IsTuple t items)(hx:items[i]?=some x)
  (k:∀h',h'.IsTupleIter it t (i+1)->Heap.SameBut it s.heap h'->Q x {s with heap:=h'}):wpAny (model prog w) A (Builtin.SmallTypes.nextOf (.ref it)) Q E s:=by
 obtain⟨o,ho,oc,od⟩:=id hi;obtain⟨q,hq,_,n,qd⟩:=ht;unfold Builtin.SmallTypes.nextOf;refine Ph (Qz (name:=Str.ofString "__next__") hi.typeIs Rn (RA Rn hi.typeIs SG ?_ (Sy _)));show wpAny _ _ (field (.ref it) 0 >>= _) _ _ s;refine Ph (QU ho od (x:=.ref t) rfl ?_);show wpAny _ _ (if(Value.ref t==Value.none)=true then _ else _) _ _ s;rw[PJ (fun z:(Value.ref t==Value.none)=true=>PF z)];show wpAny _ _ (field (.ref it) 1 >>= _) _ _ s;refine Ph (QU ho od (x:=.int i 0) rfl (Ph (Rg hq qd ?_)));simp only[Qu,hx];refine Ph (wpAny_setField ho od (by simp) (Py ⟨x,rfl,Py (k _ ⟨_,Si _ ho (Obj.isFreed_of_fields (Obj.data_mapFields od _)),(Obj.cls_mapFields ..).trans oc,?_⟩ (Heap.SameBut.update ..))⟩));rw[Obj.data_mapFields od];simp[rawInt]
theorem w4{it t:Addr}{i:Nat}{items:Array Value}{Q:Value->Shared->Prop}(hh:A.handled=none)(hi:s.heap.IsTupleIter it t i)(ht:s.heap.IsTuple t items)(hx:items[i]?=none)
  (k:∀h' e,Heap.ExtBut it s.heap h'->(∃o,h'.get? e=some o/\o.cls=.type "StopIteration")->E (.ref e) {s with heap:=h'}):wpAny (model prog w) A (Builtin.SmallTypes.nextOf (.ref it)) Q E s:=by
 obtain⟨o,ho,oc,od⟩:=id hi;obtain⟨q,hq,_,n,qd⟩:=ht;unfold Builtin.SmallTypes.nextOf;refine Ph (Qz (name:=Str.ofString "__next__") hi.typeIs Rn (RA Rn hi.typeIs SG ?_ (Sy _)));show wpAny _ _ (field (.ref it) 0 >>= _) _ _ s;refine Ph (QU ho od (x:=.ref t) rfl ?_);show wpAny _ _ (if(Value.ref t==Value.none)=true then _ else _) _ _ s;rw[PJ (fun z:(Value.ref t==Value.none)=true=>PF z)];show wpAny _ _ (field (.ref it) 1 >>= _) _ _ s;refine Ph (QU ho od (x:=.int i 0) rfl (Ph (Rg hq qd ?_)));simp only[Qu,hx];refine Ph (UC (Ph (wpAny_setField ho od (by simp) ?_)));show wpAny _ _ (newExc (.type "StopIteration") [] >>= _) _ _ _;refine Ph ?_;simp only[newExc,newTuple];refine Ph (Q5 (Ph (m:=firstArgMember _ _) (wpAny_of_eq (a:=Value.none) (by first|rfl|(simp only[firstArgMember];rfl)) (Q5 ?_ (by size_fits)))) (by size_fits));simp only[raiseNew];refine Ph (wpAny_handled ?_);first
  |rw[show A.in1.handled=none from hh]
  |rw[hh]
 exact Ph (Py (wpAny_throw (k _ _ (((Heap.SameBut.update ..).extBut.push _).push _) ⟨_,Pz _ rfl,rfl⟩)))
def IsIt(k:Bool)(h:Heap)(it l:Addr)(i:Nat):Prop:=match k with
 |true=>h.IsListIter it l i
 |false=>h.IsTupleIter it l i
def IsSq(k:Bool)(h:Heap)(l:Addr)(xs:Array Value):Prop:=match k with
 |true=>h.IsList l xs
 |false=>h.IsTuple l xs
theorem IsIt.at{k:Bool}{h h':Heap}{it l:Addr}{i:Nat}(x:IsIt k h it l i)(e:∀o,h.get? it=some o->h'.get? it=some o):IsIt k h' it l i:=by
 cases k with
 |true=>obtain⟨o,ho,r⟩:=(show h.IsListIter it l i from x);exact(show h'.IsListIter it l i from⟨o,e o ho,r⟩)
 |false=>obtain⟨o,ho,r⟩:=(show h.IsTupleIter it l i from x);exact(show h'.IsTupleIter it l i from⟨o,e o ho,r⟩)
theorem IsSq.at{k:Bool}{h h':Heap}{l:Addr}{xs:Array Value}(x:IsSq k h l xs)(e:∀o,h.get? l=some o->h'.get? l=some o):IsSq k h' l xs:=by
 cases k with
 |true=>obtain⟨o,ho,r⟩:=(show h.IsList l xs from x);exact(show h'.IsList l xs from⟨o,e o ho,r⟩)
 |false=>obtain⟨o,ho,r⟩:=(show h.IsTuple l xs from x);exact(show h'.IsTuple l xs from⟨o,e o ho,r⟩)
theorem IsIt.obj{k:Bool}{h:Heap}{it l:Addr}{i:Nat}(x:IsIt k h it l i):∃o,h.get? it=some o/\∀v,o.data≠.cell v:=by
 cases k with
 |true=>obtain⟨o,ho,_,d⟩:=(show h.IsListIter it l i from x);exact⟨o,ho,fun v z=>by rw[d]at z;cases z⟩
 |false=>obtain⟨o,ho,_,d⟩:=(show h.IsTupleIter it l i from x);exact⟨o,ho,fun v z=>by rw[d]at z;cases z⟩
theorem IsSq.get{k:Bool}{h:Heap}{l:Addr}{xs:Array Value}(x:IsSq k h l xs):∃o,h.get? l=some o:=by
 cases k with
 |true=>obtain⟨o,ho,_⟩:=(show h.IsList l xs from x);exact⟨o,ho⟩
 |false=>obtain⟨o,ho,_⟩:=(show h.IsTuple l xs from x);exact⟨o,ho⟩
theorem jO{k:Bool}{it l:Addr}{i:Nat}{xs:Array Value}{x:Value}{Q:Value->Shared->Prop}(hi:IsIt k s.heap it l i)(hl:IsSq k s.heap l xs)(hx:xs[i]?=some x)
  (q:∀h',IsIt k h' it l (i+1)->Heap.SameBut it s.heap h'->Q x {s with heap:=h'}):wpAny (model prog w) A (Builtin.SmallTypes.nextOf (.ref it)) Q E s:=by
 cases k with
 |true=>exact wpAny_nextOf_list_item hi hl hx q
 |false=>exact tU hi hl hx q
theorem qh{k:Bool}{it l:Addr}{i:Nat}{xs:Array Value}{Q:Value->Shared->Prop}(hh:A.handled=none)(hi:IsIt k s.heap it l i)(hl:IsSq k s.heap l xs)(hx:xs[i]?=none)
  (q:∀h' e,Heap.ExtBut it s.heap h'->(∃o,h'.get? e=some o/\o.cls=.type "StopIteration")->E (.ref e) {s with heap:=h'}):wpAny (model prog w) A (Builtin.SmallTypes.nextOf (.ref it)) Q E s:=by
 cases k with
 |true=>exact wpAny_nextOf_list_end hh hi hl hx q
 |false=>exact w4 hh hi hl hx q
theorem w5{k1 k2:Bool}{z TI TO i1 i2 l1 l2:Addr}{i:Nat}{xs ys:Array Value}{x y a b:Value}{Q:Value->Shared->Prop}(D:ZipApart z TI TO i1 i2 l1 l2)(hz:IsZip s.heap z TI TO .none)(HU:IsPair s.heap TI (.ref i1) (.ref i2))(Iv:IsPair s.heap TO a b)
  (h1:IsIt k1 s.heap i1 l1 i) (h2:IsIt k2 s.heap i2 l2 i) (g1:IsSq k1 s.heap l1 xs) (g2:IsSq k2 s.heap l2 ys) (hx:xs[i]?=some x) (hy:ys[i]?=some y)
  (q:∀h',IsZip h' z TI TO (rawInt s.heap.objs.size)->IsPair h' TO x y->IsIt k1 h' i1 l1 (i+1)->IsIt k2 h' i2 l2 (i+1)->IsPair h' s.heap.objs.size x y->
   (∀c o,c≠z->c≠TO->c≠i1->c≠i2->s.heap.get? c=some o->h'.get? c=some o)->Q (.ref s.heap.objs.size) {s with heap:=h'}):
  wpAny (model prog w) A (Builtin.«zip.__next__» ⟨[.ref z],[]⟩) (fun fin s'=>∃v,fin=.done (.ret v)/\Q v s') E s:=by
 show wpAny _ _ (field (.ref z) 2 >>= _) _ _ _;refine Ph (QU hz rfl (x:=.bool false) rfl ?_);show wpAny _ _ (field (.ref z) 3 >>= _) _ _ _;refine Ph (QU hz rfl (x:=.ref TI) rfl (Ph (Rg HU rfl ?_)));show wpAny _ _ (Builtin.SmallTypes.ownedTupleIsFree (.ref z) >>= _) _ _ _;refine Ph ?_;unfold Builtin.SmallTypes.ownedTupleIsFree;refine Ph (QU hz rfl (x:=.none) rfl (Py ?_));rw[Px (by rfl)];refine Ph (UC (Ph (QU hz rfl (x:=.ref TO) rfl (Ph (Rp hz (by simp) fun hA zA sA=>?_)))));have zA:IsZip hA z TI TO .ellipsis:=zA;refine Ph ?_;simp only[So,List.zipIdx_nil,Tz,T2];refine Ph (Ph (S5 ?_));show wpAny _ _ (Builtin.SmallTypes.nextOf (.ref i1) >>= _) _ _ _;refine Ph (jO (h1.at fun o e=>sA.extBut _ _ D.i1z e) (g1.at fun o e=>sA.extBut _ _ D.l1z e) hx fun hB iB sB=>Py ?_);have tB:IsPair hB TO a b:=sB.extBut _ _ D.TOi1 (sA.extBut _ _ D.TOz Iv);refine Ph (Rg tB rfl (Ph (Su tB fun hC tC sC=>Ph (S6 (Py ?_)))));have tC:IsPair hC TO x b:=tC;refine Ph (Ph (S5 ?_));show wpAny _ _ (Builtin.SmallTypes.nextOf (.ref i2) >>= _) _ _ _;refine Ph (jO (h2.at fun o e=>sC.extBut _ _ D.TOi2.symm (sB.extBut _ _ D.i12.symm (sA.extBut _ _ D.i2z e))) (g2.at fun o e=>sC.extBut _ _ D.l2TO (sB.extBut _ _ D.l2i1 (sA.extBut _ _ D.l2z e))) hy fun hD iD sD=>Py ?_);have tD:IsPair hD TO x b:=sD.extBut _ _ D.TOi2 tC;refine Ph (Rg tD rfl (Ph (Su tD fun hE tE sE=>Ph (S6 (Py (Py ?_))))));have tE:IsPair hE TO x y:=tE;refine Ph (Rg tE rfl (Ph (wpAny_newTuple ?_)));have ez:hE.objs.size=s.heap.objs.size:=by rw[sE.1,sD.1,sC.1,sB.1,sA.1]
 have zE:IsZip hE z TI TO .ellipsis:=sE.extBut _ _ D.TOz.symm (sD.extBut _ _ D.i2z.symm (sC.extBut _ _ D.TOz.symm (sB.extBut _ _ D.i1z.symm zA)));have kE:∀c o,c≠z->c≠TO->c≠i1->c≠i2->s.heap.get? c=some o->hE.get? c=some o:=fun c o c1 c2 c3 c4 e=>sE.extBut _ _ c2 (sD.extBut _ _ c4 (sC.extBut _ _ c2 (sB.extBut _ _ c3 (sA.extBut _ _ c1 e))))
 have i1E:IsIt k1 hE i1 l1 (i+1):=iB.at fun o e=>sE.extBut _ _ D.TOi1.symm (sD.extBut _ _ D.i12 (sC.extBut _ _ D.TOi1.symm e))
 have i2E:IsIt k2 hE i2 l2 (i+1):=iD.at fun o e=>sE.extBut _ _ D.TOi2.symm e
 show wpAny _ _ (Builtin.SmallTypes.ownedTupleHandOut (.ref z) (.ref hE.objs.size) >>= _) _ _ _;refine Ph ?_;unfold Builtin.SmallTypes.ownedTupleHandOut;have zF:IsZip (hE.push {cls:=.type "tuple",data:=.seq #[x,y]}) z TI TO .ellipsis:=Pm _ zE;refine Ph (Rp zF (by simp) fun hG zG sG=>?_);have zG:IsZip hG z TI TO (rawInt hE.objs.size):=zG;refine Rp zG (by simp) fun hK zK sK=>?_
 have zK:IsZip hK z TI TO (rawInt hE.objs.size):=zK;have up:∀c o,c≠z->hE.get? c=some o->hK.get? c=some o:=fun c o c1 e=>sK.extBut _ _ c1 (sG.extBut _ _ c1 (Pm _ e))
 have nz:hE.objs.size≠z:=RI (Pr zE);have tK:IsPair hK hE.objs.size x y:=sK.extBut _ _ nz (sG.extBut _ _ nz (Pz _ rfl));rw[ez]at zK tK;refine Py ⟨_,rfl,?_⟩;show Q (.ref hE.objs.size) _;rw[ez];exact q hK zK (up _ _ D.TOz tE) (i1E.at fun o e=>up _ o D.i1z e) (i2E.at fun o e=>up _ o D.i2z e) tK fun c o c1 c2 c3 c4 e=>up c o c1 (kE c o c1 c2 c3 c4 e)
theorem zp{k1 k2:Bool}{z TI TO i1 i2 l1 l2:Addr}{i:Nat}{xs ys:Array Value}{a b:Value}{Q:Fin->Shared->Prop}(hh:A.handled=none)(D:ZipApart z TI TO i1 i2 l1 l2)(hz:IsZip s.heap z TI TO .none)(HU:IsPair s.heap TI (.ref i1) (.ref i2))(Iv:IsPair s.heap TO a b)
  (h1:IsIt k1 s.heap i1 l1 i) (h2:IsIt k2 s.heap i2 l2 i) (g1:IsSq k1 s.heap l1 xs) (g2:IsSq k2 s.heap l2 ys) (he:xs[i]?=none\/ys[i]?=none)
  (q:∀h' e,(∀c o,c≠z->c≠TO->c≠i1->c≠i2->s.heap.get? c=some o->h'.get? c=some o)->(∃o,h'.get? e=some o/\o.cls=.type "StopIteration")->E (.ref e) {s with heap:=h'}):
  wpAny (model prog w) A (Builtin.«zip.__next__» ⟨[.ref z],[]⟩) Q E s:=by
 show wpAny _ _ (field (.ref z) 2 >>= _) _ _ _;refine Ph (QU hz rfl (x:=.bool false) rfl ?_);show wpAny _ _ (field (.ref z) 3 >>= _) _ _ _;refine Ph (QU hz rfl (x:=.ref TI) rfl (Ph (Rg HU rfl ?_)));show wpAny _ _ (Builtin.SmallTypes.ownedTupleIsFree (.ref z) >>= _) _ _ _;refine Ph ?_;unfold Builtin.SmallTypes.ownedTupleIsFree;refine Ph (QU hz rfl (x:=.none) rfl (Py ?_));rw[Px (by rfl)];refine Ph (UC (Ph (QU hz rfl (x:=.ref TO) rfl (Ph (Rp hz (by simp) fun hA zA sA=>?_)))));have zA:IsZip hA z TI TO .ellipsis:=zA;refine Ph ?_;simp only[So,List.zipIdx_nil,Tz,T2];refine Ph (Ph (S5 ?_));show wpAny _ _ (Builtin.SmallTypes.nextOf (.ref i1) >>= _) _ _ _;cases hx:xs[i]? with
 |none=>
  refine Ph (qh hh (h1.at fun o e=>sA.extBut _ _ D.i1z e) (g1.at fun o e=>sA.extBut _ _ D.l1z e) hx fun hB e sB Ee=>?_);obtain⟨oe,ge,ce⟩:=Ee;have zB:IsZip hB z TI TO .ellipsis:=sB _ _ D.i1z.symm zA;have ne:e≠z:=fun x=>by subst x;rw[zB]at ge;cases ge;simp at ce
  exact Rp zB (by simp) fun hC _ sC=>q hC e (fun c o c1 _ c3 _ x=>sC.extBut _ _ c1 (sB _ _ c3 (sA.extBut _ _ c1 x))) ⟨oe,sC.extBut _ _ ne ge,ce⟩
 |some x=>
  have hy:ys[i]?=none:=by
   rcases he with z|z
   ·rw[hx]at z;cases z
   ·exact z
  refine Ph (jO (h1.at fun o e=>sA.extBut _ _ D.i1z e) (g1.at fun o e=>sA.extBut _ _ D.l1z e) hx fun hB iB sB=>Py ?_);have tB:IsPair hB TO a b:=sB.extBut _ _ D.TOi1 (sA.extBut _ _ D.TOz Iv);refine Ph (Rg tB rfl (Ph (Su tB fun hC tC sC=>Ph (S6 (Py ?_)))));refine Ph (Ph (S5 ?_));show wpAny _ _ (Builtin.SmallTypes.nextOf (.ref i2) >>= _) _ _ _;refine Ph (qh hh (h2.at fun o e=>sC.extBut _ _ D.TOi2.symm (sB.extBut _ _ D.i12.symm (sA.extBut _ _ D.i2z e))) (g2.at fun o e=>sC.extBut _ _ D.l2TO (sB.extBut _ _ D.l2i1 (sA.extBut _ _ D.l2z e))) hy fun hD e sD Ee=>?_);obtain⟨oe,ge,ce⟩:=Ee;have zD:IsZip hD z TI TO .ellipsis:=sD _ _ D.i2z.symm (sC.extBut _ _ D.TOz.symm (sB.extBut _ _ D.i1z.symm zA));have ne:e≠z:=fun x=>by subst x;rw[zD]at ge;cases ge;simp at ce
  exact Rp zD (by simp) fun hF _ sF=>q hF e (fun c o c1 c2 c3 c4 x=>sF.extBut _ _ c1 (sD _ _ c4 (sC.extBut _ _ c2 (sB.extBut _ _ c3 (sA.extBut _ _ c1 x))))) ⟨oe,sF.extBut _ _ ne ge,ce⟩
end
def itObj(k:Bool)(l:Addr):Obj:=match k with
 |true=>{cls:=.type "list_iterator",data:=.fields #[.ref l,.int 0 0]}
 |false=>{cls:=.type "tuple_iterator",data:=.fields #[.ref l,.int 0 0]}
theorem jP(k:Bool)(h:Heap)(l:Addr):IsIt k (h.push (itObj k l)) h.objs.size l 0:=by
 cases k with
 |true=>exact⟨_,Pz _ rfl,rfl,rfl⟩
 |false=>exact⟨_,Pz _ rfl,rfl,rfl⟩
abbrev zA(h:Heap)(k1:Bool)(l1:Addr):Heap:=h.push (itObj k1 l1)
abbrev zB(h:Heap)(k1 k2:Bool)(l1 l2:Addr):Heap:=(zA h k1 l1).push (itObj k2 l2)
abbrev zC(h:Heap)(k1 k2:Bool)(l1 l2:Addr):Heap:=(zB h k1 k2 l1 l2).push {cls:=.type "tuple",data:=.seq #[.ref h.objs.size,.ref (zA h k1 l1).objs.size]}
abbrev zD(h:Heap)(k1 k2:Bool)(l1 l2:Addr):Heap:=(zC h k1 k2 l1 l2).push {cls:=.type "tuple",data:=.seq #[.none,.none]}
abbrev zE(h:Heap)(k1 k2:Bool)(l1 l2:Addr):Heap:=(zD h k1 k2 l1 l2).push {cls:=.type "zip",data:=.fields #[.none,.bool false,.bool false,.ref (zB h k1 k2 l1 l2).objs.size,.ref (zC h k1 k2 l1 l2).objs.size]}
set_option maxHeartbeats 8000000 in
theorem zq(k1 k2:Bool)(l1 l2:Addr)(xs ys:Array Value):
  Meets (Builtin.«zip.__new__» ⟨[.type "zip",.ref l1,.ref l2],[]⟩) (fun _ R s=>IsSq k1 s.heap l1 xs/\IsSq k2 s.heap l2 ys/\R (.ok (.ret (.ref (zD s.heap k1 k2 l1 l2).objs.size))) {s with heap:=zE s.heap k1 k2 l1 l2}):=
 .of_wp fun prog w A R s h=>by
  obtain⟨hp,g,d,tk,os⟩:=s;obtain⟨g1,g2,q⟩:=h;have hsub:=sub_zip;cases k1 with
  |true=>
   have e1:Heap.IsList (Shared.heap ⟨hp,g,d,tk,os⟩) l1 xs:=g1;cases k2 with
   |true=>
    have e2:Heap.IsList (Shared.heap ⟨hp.push {cls:=.type "list_iterator",data:=.fields #[.ref l1,.int 0 0]},g,d,tk,os⟩) l2 ys:=Heap.IsList.push g2 _
    wp_walk using Q3 e1,Q3 e2
    exact⟨_,rfl,q⟩
   |false=>
    have e2:Heap.IsTuple (Shared.heap ⟨hp.push {cls:=.type "list_iterator",data:=.fields #[.ref l1,.int 0 0]},g,d,tk,os⟩) l2 ys:=Heap.IsTuple.push g2 _
    wp_walk using Q3 e1,QR e2
    exact⟨_,rfl,q⟩
  |false=>
   have e1:Heap.IsTuple (Shared.heap ⟨hp,g,d,tk,os⟩) l1 xs:=g1;cases k2 with
   |true=>
    have e2:Heap.IsList (Shared.heap ⟨hp.push {cls:=.type "tuple_iterator",data:=.fields #[.ref l1,.int 0 0]},g,d,tk,os⟩) l2 ys:=Heap.IsList.push g2 _
    wp_walk using QR e1,Q3 e2
    exact⟨_,rfl,q⟩
   |false=>
    have e2:Heap.IsTuple (Shared.heap ⟨hp.push {cls:=.type "tuple_iterator",data:=.fields #[.ref l1,.int 0 0]},g,d,tk,os⟩) l2 ys:=Heap.IsTuple.push g2 _
    wp_walk using QR e1,QR e2
    exact⟨_,rfl,q⟩
def ZS(k1 k2:Bool)(z TI TO i1 i2 l1 l2:Addr)(i:Nat)(h:Heap):Prop:=IsZip h z TI TO .none/\IsPair h TI (.ref i1) (.ref i2)/\(∃a b,IsPair h TO a b)/\IsIt k1 h i1 l1 i/\IsIt k2 h i2 l2 i
theorem w6{prog:Program}{w:World}{A:Around}{E:Value->Shared->Prop}{s:Shared}{k1 k2:Bool}{l1 l2:Addr}{xs ys:Array Value}{Q:Value->Shared->Prop}(g1:IsSq k1 s.heap l1 xs)(g2:IsSq k2 s.heap l2 ys)
  (q:∀h',ZS k1 k2 (s.heap.objs.size+4) (s.heap.objs.size+2) (s.heap.objs.size+3) s.heap.objs.size (s.heap.objs.size+1) l1 l2 0 h'->(∀c o,s.heap.get? c=some o->h'.get? c=some o)->Q (.ref (s.heap.objs.size+4)) {s with heap:=h'}):
  wpAny (model prog w) A (call (.type "zip") [.ref l1,.ref l2]) Q E s:=by
 refine callType_new F.called_zip (by decide) (F.typeCall_zip_2 _ _) (F.newCall_zip_2 _ _) (fun obj=>F.args_object_init_3 obj _ _) F.entry_zip_new (zq k1 k2 l1 l2 xs ys) ⟨g1,g2,?_⟩;have nA:(zA s.heap k1 l1).objs.size=s.heap.objs.size+1:=Qq ..;have nB:(zB s.heap k1 k2 l1 l2).objs.size=s.heap.objs.size+2:=by rw[Qq,nA]
 have nC:(zC s.heap k1 k2 l1 l2).objs.size=s.heap.objs.size+3:=by rw[Qq,nB]
 have nD:(zD s.heap k1 k2 l1 l2).objs.size=s.heap.objs.size+4:=by rw[Qq,nC]
 have pu:∀{h:Heap}{o:Obj}{c:Addr}{v:Obj},h.get? c=some v->(h.push o).get? c=some v:=fun e=>Pm _ e
 have gz:(zE s.heap k1 k2 l1 l2).get? (zD s.heap k1 k2 l1 l2).objs.size=some _:=Pz _ rfl;have go:(zE s.heap k1 k2 l1 l2).get? (zC s.heap k1 k2 l1 l2).objs.size=some _:=pu (Pz _ rfl);have gi:(zE s.heap k1 k2 l1 l2).get? (zB s.heap k1 k2 l1 l2).objs.size=some _:=pu (pu (Pz _ rfl));have j2:IsIt k2 (zE s.heap k1 k2 l1 l2) (zA s.heap k1 l1).objs.size l2 0:=(jP k2 (zA s.heap k1 l1) l2).at fun o e=>pu (pu (pu e))
 have j1:IsIt k1 (zE s.heap k1 k2 l1 l2) s.heap.objs.size l1 0:=(jP k1 s.heap l1).at fun o e=>pu (pu (pu (pu e)))
 show _/\_;rw[nB,nC,nD]at gz;rw[nA,nB]at gi;rw[nC]at go;rw[nA]at j2;rw[nD];exact⟨⟨_,gz,rfl⟩,q _ ⟨gz,gi,⟨_,_,go⟩,j1,j2⟩ fun c o x=>pu (pu (pu (pu (pu x))))⟩
noncomputable def NZ(K:W.Frag)(k1 k2:Bool)(a b:Addr):It:=
 ⟨fun i H=>∃xs ys x y,(if k1 then SqL K H a xs else SqT K H a xs)/\(if k2 then SqL K H b ys else SqT K H b ys)/\xs[i]?=some x/\ys[i]?=some y,
  fun i H v H'=>∃T,H T=none/\v=.ref T/\∀xs ys x y,(if k1 then SqL K H a xs else SqT K H a xs)->(if k2 then SqL K H b ys else SqT K H b ys)->xs[i]?=some x->ys[i]?=some y->H'=upd H T (.tup [x,y]),
  fun i H=>∃xs ys,(if k1 then SqL K H a xs else SqT K H a xs)/\(if k2 then SqL K H b ys else SqT K H b ys)/\i=min xs.length ys.length⟩
section
variable{X:Cx}{pr:List (Addr×Obj)}{σ:L2.St}{H:Hp}{s:Shared}
theorem jQ(I:Inv X pr σ H s){k:Bool}{a:Addr}{xs:List V}(h:if k then SqL X.K H a xs else SqT X.K H a xs):∃us:List Value,Vals xs us/\IsSq k s.heap a us.toArray:=by
 cases k with
 |true=>
  obtain⟨us,r,p,_⟩:=I.list (show SqL X.K H a xs from h);exact⟨us,r,p.isList⟩
 |false=>
  obtain⟨us,r,p,_⟩:=I.tuple (show SqT X.K H a xs from h);exact⟨us,r,(show s.heap.IsTuple a us.toArray from p)⟩
theorem qi(I:Inv X pr σ H s){k:Bool}{a:Addr}{xs ys:List V}(h:if k then SqL X.K H a xs else SqT X.K H a xs)(h':if k then SqL X.K H a ys else SqT X.K H a ys):xs=ys:=by
 cases k with
 |true=>exact I.list_inj (show SqL X.K H a xs from h) (show SqL X.K H a ys from h')
 |false=>exact I.tuple_inj (show SqT X.K H a xs from h) (show SqT X.K H a ys from h')
theorem dO(I:Inv X pr σ H s){k:Bool}{a b:Addr}{xs:List V}(h:if k then SqL X.K H a xs else SqT X.K H a xs)(f:kN X pr H b):a≠b:=by
 rintro rfl;obtain⟨f0,_,_,f3,_⟩:=f;have nb:∀o,X.K.lookup a=some o->False:=fun o hk=>by
  have e:=I.ok.mod.kin a o hk;rcases f3 with z|z
  ·exact I.ok.noex a o e z
  ·exact absurd (Po (Pr e) (PN I.ok.bsz z)) (QH _)
 cases k with
 |true=>
  rcases(show SqL X.K H a xs from h) with(h|⟨o,h⟩)|⟨o,DY,n,hk,_⟩
  ·rw[f0]at h;cases h
  ·rw[f0]at h;cases h
  ·exact nb o hk
 |false=>
  rcases(show SqT X.K H a xs from h) with(h|⟨o,h⟩)|⟨o,DY,n,hk,_⟩
  ·rw[f0]at h;cases h
  ·rw[f0]at h;cases h
  ·exact nb o hk
end
theorem nx_zip_item{prog:Program}{w:World}{A:Around}{E:Value->Shared->Prop}{s:Shared}{k1 k2:Bool}{z TI TO i1 i2 l1 l2:Addr}{i:Nat}{xs ys:Array Value}{x y:Value}{Q:Option Value->Shared->Prop}(D:ZipApart z TI TO i1 i2 l1 l2)(st:ZS k1 k2 z TI TO i1 i2 l1 l2 i s.heap)
  (g1:IsSq k1 s.heap l1 xs) (g2:IsSq k2 s.heap l2 ys) (hx:xs[i]?=some x) (hy:ys[i]?=some y)
  (q:∀h',IsZip h' z TI TO (rawInt s.heap.objs.size)->IsPair h' TO x y->IsIt k1 h' i1 l1 (i+1)->IsIt k2 h' i2 l2 (i+1)->IsPair h' s.heap.objs.size x y->
   (∀c o,c≠z->c≠TO->c≠i1->c≠i2->s.heap.get? c=some o->h'.get? c=some o)->Q (some (.ref s.heap.objs.size)) {s with heap:=h'}):wpAny (model prog w) A (pyNext (.ref z)) Q E s:=by
 obtain⟨hz,HU,⟨a,b,Iv⟩,h1,h2⟩:=st;have ty:s.TypeIs (.ref z) "zip":=⟨_,hz,rfl⟩
 unfold pyNext;exact Ph (wpAny_attempt (Qz (name:=Str.ofString "__next__") ty SH (RA SH ty F.entry_zip_next (w5 D hz HU Iv h1 h2 g1 g2 hx hy fun h' a1 a2 a3 a4 a5 a6=>Py (q h' a1 a2 a3 a4 a5 a6)) (F.args_zip_next_1 _))))
theorem pb{prog:Program}{w:World}{A:Around}{E:Value->Shared->Prop}{s:Shared}{k1 k2:Bool}{z TI TO i1 i2 l1 l2:Addr}{i:Nat}{xs ys:Array Value}{Q:Option Value->Shared->Prop}(hh:A.handled=none)(D:ZipApart z TI TO i1 i2 l1 l2)(st:ZS k1 k2 z TI TO i1 i2 l1 l2 i s.heap)
  (g1:IsSq k1 s.heap l1 xs) (g2:IsSq k2 s.heap l2 ys) (he:xs[i]?=none\/ys[i]?=none) (q:∀h',(∀c o,c≠z->c≠TO->c≠i1->c≠i2->s.heap.get? c=some o->h'.get? c=some o)->Q none {s with heap:=h'}):wpAny (model prog w) A (pyNext (.ref z)) Q E s:=by
 obtain⟨hz,HU,⟨a,b,Iv⟩,h1,h2⟩:=st;have ty:s.TypeIs (.ref z) "zip":=⟨_,hz,rfl⟩
 unfold pyNext;refine Ph (wpAny_attempt (Qz (name:=Str.ofString "__next__") ty SH (RA SH ty F.entry_zip_next (zp hh D hz HU Iv h1 h2 g1 g2 he fun h' e kk ⟨o,ho,oc⟩=>?_) (F.args_zip_next_1 _))));exact Ph (wpAny_isInstance (T:="StopIteration") (b:=true) ⟨o,ho,oc⟩ isSubtype_stop (Py (q _ kk)))
theorem tV{P:Program}{w:World}{K:W.Frag}{es:List Expr}{kt:Nat}{pt:Pos}(k1 k2:Bool)(a b z TI TO i1 i2:Addr)(ne:z≠TI/\z≠TO/\z≠i1/\z≠i2/\TI≠TO/\TI≠i1/\TI≠i2/\TO≠i1/\TO≠i2/\i1≠i2):
  Turn P w K (.Tuple es kt pt) (NZ K k1 k2 a b) [z,TI,TO,i1,i2] z (ZS k1 k2 z TI TO i1 i2 a b) where
 mem:=by simp
 obj:=fun i h st c hc=>by
  obtain⟨hz,HU,⟨x,y,Iv⟩,h1,h2⟩:=st;simp only[Pw,Qt,Sz]at hc;rcases hc with rfl|rfl|rfl|rfl|rfl
  ·exact⟨_,hz,fun v q=>by cases q⟩
  ·exact⟨_,HU,fun v q=>by cases q⟩
  ·exact⟨_,Iv,fun v q=>by cases q⟩
  ·exact h1.obj
  ·exact h2.obj
 keep:=fun i h h' st k=>by
  obtain⟨hz,HU,⟨x,y,Iv⟩,h1,h2⟩:=st;exact⟨k z (by simp) _ hz,k TI (by simp) _ HU,⟨x,y,k TO (by simp) _ Iv⟩,h1.at fun o e=>k i1 (by simp) o e,h2.at fun o e=>k i2 (by simp) o e⟩
 item:=by
  intro X hP hw hK hc i pr s σ H E I hf st hg;subst hP hw hK;obtain⟨xs,ys,x,y,s1,s2,hx,hy⟩:=hg;obtain⟨us,r1,q1⟩:=jQ I s1;obtain⟨ws,r2,q2⟩:=jQ I s2;obtain⟨u,hu,ru⟩:=r1.get hx;obtain⟨v,hv,rv⟩:=r2.get hy;obtain⟨n1,n2,n3,n4,n5,n6,n7,n8,n9,N1⟩:=ne;have f:=fun c hc=>hf c hc
  have D:ZipApart z TI TO i1 i2 a b:=⟨n1.symm,n2.symm,n3.symm,n4.symm,n5,n6,n7,n8,n9,N1,dO I s1 (f z (by simp)),dO I s1 (f TO (by simp)),dO I s1 (f i1 (by simp)),dO I s1 (f i2 (by simp)),
   dO I s2 (f z (by simp)),dO I s2 (f TO (by simp)),dO I s2 (f i1 (by simp)),dO I s2 (f i2 (by simp))⟩
  have HU:=st.2.1;refine nx_zip_item D st q1 q2 (by simpa using hu) (by simpa using hv) fun h' z1 t1 j1 j2 tp kk=>⟨_,rfl,?_⟩
  refine wpAny_letOwnedTupleGo_zip z1 fun h2 z2 sb=>?_
  have nT:H s.heap.objs.size=none:=I.hok.fresh (Pt _);have tT:s.heap.objs.size≠z:=RI (Pr st.1);have all:∀c o,c≠z->c≠TO->c≠i1->c≠i2->s.heap.get? c=some o->h2.get? c=some o:=fun c o c1 c2 c3 c4 e=>(sb.2 c c1).trans (kk c o c1 c2 c3 c4 e)
  have fz:=f z (by simp);have fo:=f TO (by simp);have f1:=f i1 (by simp);have f2:=f i2 (by simp);have HV:∀c ob,H c=some ob->c≠z/\c≠TO/\c≠i1/\c≠i2:=fun c ob e=>⟨(fun q=>by rw[q,fz.1]at e;cases e),(fun q=>by rw[q,fo.1]at e;cases e),(fun q=>by rw[q,f1.1]at e;cases e),(fun q=>by rw[q,f2.1]at e;cases e)⟩
  refine⟨.ref s.heap.objs.size,upd H s.heap.objs.size (.tup [x,y]),?_,rfl,⟨_,nT,rfl,fun EZ ys' x' y' a1 a2 a3 a4=>?_⟩,⟨z2,?_,⟨u,v,(sb.2 TO n2.symm).trans t1⟩,j1.at fun o e=>(sb.2 i1 n3.symm).trans e,j2.at fun o e=>(sb.2 i2 n4.symm).trans e⟩,fun c hc=>?_⟩
  ·have K9:h2.get? s.heap.objs.size=some {cls:=.type "tuple",data:=.seq #[u,v]}:=(sb.2 _ tT).trans tp;have S0:Inv X pr σ (upd H s.heap.objs.size (.tup [x,y])) {s with heap:=h2,gens:=s.gens,drawn:=s.drawn,toks:=s.toks}:=by
    refine I.step (ch:=[z,TO,i1,i2]) (fun c hc=>?_) (fun c o _ _ nc e _=>all c o (fun q=>nc (by simp[q])) (fun q=>nc (by simp[q])) (fun q=>nc (by simp[q])) (fun q=>nc (by simp[q])) e)
     (fun c o _ _ nc e _=>⟨o.slots,all c o (fun q=>nc (by simp[q])) (fun q=>nc (by simp[q])) (fun q=>nc (by simp[q])) (fun q=>nc (by simp[q])) e⟩) (fun c o _ e n=>by rw[ai (PB (Pr e))];exact n)
     (fun c o nc e=>⟨o,all c o (fun q=>nc (by simp[q])) (fun q=>nc (by simp[q])) (fun q=>nc (by simp[q])) (fun q=>nc (by simp[q])) e⟩) (fun c l e=>by rw[ai (aA e nT)];exact e) (fun c o u' e=>by rw[ai (aA e nT)];exact e)
     (fun c ps e=>⟨#[],by rw[ai (aA e nT),e];simp⟩) (fun m hm=>?_) (fun c ob e=>?_) I.bare
    ·simp only[Pw,Qt,Sz]at hc;rcases hc with rfl|rfl|rfl|rfl
     ·exact⟨fz.2.2.2.1,fz.2.1,fz.2.2.2.2.1,fz.2.2.2.2.2⟩
     ·exact⟨fo.2.2.2.1,fo.2.1,fo.2.2.2.2.1,fo.2.2.2.2.2⟩
     ·exact⟨f1.2.2.2.1,f1.2.1,f1.2.2.2.2.1,f1.2.2.2.2.2⟩
     ·exact⟨f2.2.2.2.1,f2.2.1,f2.2.2.2.2.1,f2.2.2.2.2.2⟩
    ·obtain⟨o,es,ep,ho,r⟩:=hm;exact⟨o,es,ep,all _ o (Rj fz.2.1) (Rj fo.2.1) (Rj f1.2.1) (Rj f2.2.1) ho,r⟩
    ·by_cases ec:c=s.heap.objs.size
     ·subst ec;rw[ay]at e;cases e;exact⟨by simp only[PH,Q7];rw[S3];decide,[u,v],.cons ru (.cons rv .nil),⟨_,K9,rfl,⟨0,rfl⟩,rfl⟩⟩
     ·rw[ai ec]at e;refine(I.hok c ob e).stay (fun d w' hd q=>?_) (fun d q=>by rw[ai (aA q nT)];exact q) fun d l q=>by rw[ai (aA q nT)];exact q
      have JI:∃oo,H d=some oo:=by
       rcases hd with rfl|hd
       ·exact⟨_,e⟩
       ·exact⟨_,hd⟩
      obtain⟨oo,La⟩:=JI;obtain⟨m1,m2,m3,m4⟩:=HV d oo La;exact all d w' m1 m2 m3 m4 q
   exact S0
  ·have e1:=qi I a1 s1;have e2:=qi I a2 s2;subst e1 e2;rw[hx]at a3;rw[hy]at a4;cases a3;cases a4;rfl
  ·exact(sb.2 TI n1.symm).trans (kk TI _ n1.symm n5 n6 n7 HU)
  ·have hc0:=(f c hc).1;have cs:c≠s.heap.objs.size:=by
    have:=(fun i h st=>by
     exact(by
      obtain⟨hz,HU,⟨x,y,Iv⟩,h1,h2⟩:=st;simp only[Pw,Qt,Sz]at hc;rcases hc with rfl|rfl|rfl|rfl|rfl
      ·exact⟨_,hz⟩
      ·exact⟨_,HU⟩
      ·exact⟨_,Iv⟩
      ·obtain⟨o,e,_⟩:=h1.obj;exact⟨o,e⟩
      ·obtain⟨o,e,_⟩:=h2.obj;exact⟨o,e⟩:∃o,h.get? c=some o):∀i h,ZS k1 k2 z TI TO i1 i2 a b i h->∃o,h.get? c=some o) i s.heap st
    obtain⟨o,e⟩:=this;exact PB (Pr e)
   rw[ai cs];exact hc0
 done:=by
  intro X hP hw hK hc i pr s σ H E I hf st hg;subst hP hw hK;obtain⟨xs,ys,s1,s2,hi⟩:=hg;obtain⟨us,r1,q1⟩:=jQ I s1;obtain⟨ws,r2,q2⟩:=jQ I s2;have l1:=r1.length;have l2:=r2.length;obtain⟨n1,n2,n3,n4,n5,n6,n7,n8,n9,N1⟩:=ne;have f:=fun c hc=>hf c hc
  have D:ZipApart z TI TO i1 i2 a b:=⟨n1.symm,n2.symm,n3.symm,n4.symm,n5,n6,n7,n8,n9,N1,dO I s1 (f z (by simp)),dO I s1 (f TO (by simp)),dO I s1 (f i1 (by simp)),dO I s1 (f i2 (by simp)),
   dO I s2 (f z (by simp)),dO I s2 (f TO (by simp)),dO I s2 (f i1 (by simp)),dO I s2 (f i2 (by simp))⟩
  have fz:=f z (by simp);have fo:=f TO (by simp);have f1:=f i1 (by simp);have f2:=f i2 (by simp);refine pb (I.ok.hd hc) D st q1 q2 (by
   rcases Nat.le_total us.length ws.length with q|q
   ·exact .inl (by simp;lia)
   ·exact .inr (by simp;lia)) fun h' kk=>⟨rfl,?_⟩
  have HV:∀c ob,H c=some ob->c≠z/\c≠TO/\c≠i1/\c≠i2:=fun c ob e=>⟨(fun q=>by rw[q,fz.1]at e;cases e),(fun q=>by rw[q,fo.1]at e;cases e),(fun q=>by rw[q,f1.1]at e;cases e),(fun q=>by rw[q,f2.1]at e;cases e)⟩
  have S0:Inv X pr σ H {s with heap:=h',gens:=s.gens,drawn:=s.drawn,toks:=s.toks}:=by
   refine I.step (ch:=[z,TO,i1,i2]) (fun c hc=>?_) (fun c o _ _ nc e _=>kk c o (fun q=>nc (by simp[q])) (fun q=>nc (by simp[q])) (fun q=>nc (by simp[q])) (fun q=>nc (by simp[q])) e)
    (fun c o _ _ nc e _=>⟨o.slots,kk c o (fun q=>nc (by simp[q])) (fun q=>nc (by simp[q])) (fun q=>nc (by simp[q])) (fun q=>nc (by simp[q])) e⟩) (fun c o _ e n=>n)
    (fun c o nc e=>⟨o,kk c o (fun q=>nc (by simp[q])) (fun q=>nc (by simp[q])) (fun q=>nc (by simp[q])) (fun q=>nc (by simp[q])) e⟩) (fun c l e=>e) (fun c o u' e=>e)
    (fun c ps e=>⟨#[],by rw[e];simp⟩) (fun m hm=>?_) (fun c ob e=>?_) I.bare
   ·simp only[Pw,Qt,Sz]at hc;rcases hc with rfl|rfl|rfl|rfl
    ·exact⟨fz.2.2.2.1,fz.2.1,fz.2.2.2.2.1,fz.2.2.2.2.2⟩
    ·exact⟨fo.2.2.2.1,fo.2.1,fo.2.2.2.2.1,fo.2.2.2.2.2⟩
    ·exact⟨f1.2.2.2.1,f1.2.1,f1.2.2.2.2.1,f1.2.2.2.2.2⟩
    ·exact⟨f2.2.2.2.1,f2.2.1,f2.2.2.2.2.1,f2.2.2.2.2.2⟩
   ·obtain⟨o,es,ep,ho,r⟩:=hm;exact⟨o,es,ep,kk _ o (Rj fz.2.1) (Rj fo.2.1) (Rj f1.2.1) (Rj f2.2.1) ho,r⟩
   ·refine(I.hok c ob e).stay (fun d w' hd q=>?_) (fun d q=>q) fun d l q=>q
    have JI:∃oo,H d=some oo:=by
     rcases hd with rfl|hd
     ·exact⟨_,e⟩
     ·exact⟨_,hd⟩
    obtain⟨oo,La⟩:=JI;obtain⟨m1,m2,m3,m4⟩:=HV d oo La;exact kk d w' m1 m2 m3 m4 q
  exact S0
 self:=fun _ _ _ _ _ st h=>wpAny_pyIter_zip st.1 h
section
variable{X:Cx}{es:List Expr}{kt:Nat}{pt:Pos}
def Dm(K:W.Frag)(k1 k2:Bool)(ta:TA):TI:=fun σ H R=>ta σ H fun vs H1=>∃a b xs ys,vs=[.ref a,.ref b]/\(if k1 then SqL K H1 a xs else SqT K H1 a xs)/\(if k2 then SqL K H1 b ys else SqT K H1 b ys)/\R (NZ K k1 k2 a b) H1
theorem zr(k1 k2:Bool){e1 e2:Expr}{ta:TA}{p pos:Pos}(hg:Gl X "zip")(hm:X.mg "zip" = none)(ha:PA X [e1,e2] ta)(he:starEach [e1,e2] X.env=(false,eval e1 X.env)::starEach [e2] X.env:=by rfl)(FE:(backTo pos (starEach [e2] X.env)).any (·.1)=false:=by rfl):
  PI X (.Tuple es kt pt) (.Call (.Name "zip" p) [e1,e2] [] pos) (Dm X.K k1 k2 ta):=by
 intro pr s σ H R I h;refine Rb (gQ I hg hm (by decide +kernel:bootBuiltins "zip" = some (.type "zip")) ?_ (by decide) (by decide));refine Qv (Eg (ha pos pr s σ H _ I h) fun us s1 ⟨vs,H1,I1,r1,a,b,xs,ys,e,N2,s2',q⟩=>?_) he FE;subst e;obtain⟨u,w',rfl,ra,rb⟩:=y6 r1;cases ra;cases rb;obtain⟨us,v1,q1⟩:=jQ I1 N2;obtain⟨ws,v2,q2⟩:=jQ I1 s2';refine w6 q1 q2 fun h' st kk=>?_
 refine wpAny_pyIter_zip st.1 ?_;have fr:∀j,kN X pr H1 (s1.heap.objs.size+j):=fun j=>I1.fpOk (Sq _ _) (I1.hok.fresh (Sq _ _))
 have nn:∀i j:Nat,i≠j->s1.heap.objs.size+i≠s1.heap.objs.size+j:=fun i j h z=>h (T8 z)
 refine⟨_,_,_,_,H1,rfl,I1.kept (t':=s1.toks) kk,tV k1 k2 a b (s1.heap.objs.size+4) (s1.heap.objs.size+2) (s1.heap.objs.size+3) (s1.heap.objs.size+0) (s1.heap.objs.size+1)
  ⟨nn 4 2 (by decide),nn 4 3 (by decide),nn 4 0 (by decide),nn 4 1 (by decide),nn 2 3 (by decide),nn 2 0 (by decide),nn 2 1 (by decide),nn 3 0 (by decide),nn 3 1 (by decide),nn 0 1 (by decide)⟩,st,fun c hc=>?_,q⟩
 simp only[Pw,Qt,Sz]at hc;rcases hc with rfl|rfl|rfl|rfl|rfl
 ·exact fr 4
 ·exact fr 2
 ·exact fr 3
 ·exact fr 0
 ·exact fr 1
end
end NX
namespace NX
open PySem PySem.W PyProof.Rows
section
variable{n:Nat}{O:KeyOrd}{κ:Nat->O.α}{cmp:Nat->Nat->(Bool->Shared->Prop)->Shared->Prop}{Good:Shared->Prop}
def kk(κ:Nat->O.α)(p:Array Nat)(i:Nat):O.α:=κ (p.getD i 0)
structure POk(n:Nat)(p:Array Nat):Prop where
 perm:p.toList.Perm (List.range n)
theorem POk.size{p:Array Nat}(h:POk n p):p.size=n:=by
 have:=h.perm.length_eq;simpa using this
theorem POk.lt{p:Array Nat}(h:POk n p){i:Nat}(hi:i<n):p.getD i 0<n:=by
 have hs:=h.size;have OK:i<p.size:=by lia
 have e:p.getD i 0=p[i]:=by simp[Array.getD,OK]
 rw[e];exact QM.mp (h.perm.mem_iff.mp (Array.getElem_mem_toList OK))
variable(hc:∀i j,i<n->j<n->∀(Q:Bool->Shared->Prop) s,Good s->(∀s',Good s'->Q (O.blt (κ i) (κ j)) s')->cmp i j Q s)
include hc
end
end NX
namespace NX
open PySem PySem.W PySem.Spec PyProof.Rows L2
section
variable{prog:Program}{w:World}{A:Around}{E:Value->Shared->Prop}{s:Shared}
end
def intO:KeyOrd where
 α:=Int
 blt a b:=decide (a<b)
 irrefl a:=by simp
 trans a b c h1 h2:=by simp only[Qd] at *;lia
 negTrans a b c h:=by simp only[Qd] at *;lia
 total a b h1 h2:=by simp only[S7] at *;lia
noncomputable def Bz:KeyOrd where
 α:=Key
 blt a b:=match a,b with
  | .inl i,.inl j=>decide (i<j)
  | .inr x,.inr y=>decide (x.cps.toList<y.cps.toList)
  | .inl _,.inr _=>true
  | .inr _,.inl _=>false
 irrefl a:=by
  cases a with
  |inl i=>simp
  |inr x=>simpa using List.lt_irrefl x.cps.toList
 trans a b c h1 h2:=by
  cases a <;> cases b <;> cases c <;> simp_all
  ·lia
  ·exact List.lt_trans h1 h2
 negTrans a b c h:=by
  cases a <;> cases b <;> cases c <;> simp_all
  ·lia
  ·rename_i x y z;by_cases q:x.cps.toList<y.cps.toList
   ·exact .inl q
   ·exact .inr (List.lt_of_le_of_lt (Va.mp q) h)
 total a b h1 h2:=by
  cases a <;> cases b <;> simp_all
  ·lia
  ·rename_i x y;have e:x.cps.toList=y.cps.toList:=List.le_antisymm (by first|exact h2|exact Va.mp h2) (by first|exact h1|exact Va.mp h1);rw[<-mr x,<-mr y,e]
def nF:List Key->List Key->Bool
 |[],[]=>false
 |[],_::_=>true
 |_::_,[]=>false
 |a::r,b::t=>if a=b then nF r t else Bz.blt a b
section
variable{O:KeyOrd}
end
section
variable{X:Cx}
end
def kinds(k:List Key):List Bool:=k.map fun x=>x.isLeft
section
variable{prog:Program}{w:World}{A:Around}{s:Shared}
theorem w9(a b:Key):Nl (kV a) (kV b)=decide (a=b):=by
 cases a <;> cases b <;> (rw[Qn];simp[kV,Nl])
theorem nG(a:Key):o7 (kV a)=true:=by cases a <;> rfl
end
section
variable{X:Cx}{pr:List (Addr×Obj)}{σ:L2.St}{H:Hp}{s:Shared}
end
section
variable{X:Cx}
end
end NX
namespace L2
open PySem PySem.Spec PyProof.Rows
section
variable{κ:Type}[DecidableEq κ]
def la(DS:List (κ×V))(k:κ):Option V:=(DS.find? fun kv=>decide (kv.1=k)).map (·.2)
def iX(DS:List (κ×V))(k:κ)(v:V):List (κ×V):=
 if(DS.any fun kv=>decide (kv.1=k))=true then DS.map (fun kv=>if kv.1=k then(kv.1,v) else kv) else DS++[(k,v)]
theorem jR{p:κ×V}{r:List (κ×V)}{k:κ}(e:p.1=k):la (p::r) k=some p.2:=by simp[la,RJ,e]
theorem jS{p:κ×V}{r:List (κ×V)}{k:κ}(e:¬ p.1=k):la (p::r) k=la r k:=by simp[la,RJ,e]
theorem nH(k:κ):∀DS:List (κ×V),(DS.any fun kv=>decide (kv.1=k))=(la DS k).isSome
 |[]=>rfl
 |p::r=>by
  rw[S8];by_cases e:p.1=k
  ·simp only[jR e,Qi e,Bool.true_or,Ur]
  ·rw[jS e,Qa e,Up];exact nH k r
theorem iq(DS:List (κ×V))(k:κ)(v:V):(iX DS k v).length<=DS.length+1:=by
 unfold iX;split
 ·rw[PQ];lia
 ·rw[Qo,PH,Q7];lia
theorem RelO.isSome_eq{o:Option V}{u:Option Value}(r:RelO o u):o.isSome=u.isSome:=by
 cases o with
 |none=>cases u with
  |none=>rfl
  |some _=>exact(show False from r).elim
 |some _=>cases u with
  |none=>exact(show False from r).elim
  |some _=>rfl
theorem RelO.getD{o:Option V}{u:Option Value}{d:V}{d':Value}(r:RelO o u)(rd:RelV d d'):RelV (o.getD d) (u.getD d'):=by
 cases o with
 |none=>cases u with
  |none=>exact rd
  |some _=>exact(show False from r).elim
 |some _=>cases u with
  |none=>exact(show False from r).elim
  |some _=>exact r
theorem KV.val{DS:List (κ×V)}{vs:List (κ×Value)}(r:KV DS vs)(k:κ):RelO (la DS k) (valueAt vs k):=by
 unfold KV at r;induction r with
 |nil=>exact True.intro
 | @cons p q ps qs h t ih=>
  obtain⟨h1,h2⟩:=h;by_cases e:p.1=k
  ·have e':q.1=k:=h1.symm.trans e;have b:valueAt (q::qs) k=some q.2:=by simp[valueAt,RJ,e']
   rw[jR e,b];exact h2
  ·have e':¬ q.1=k:=fun z=>e (h1.trans z)
   have b:valueAt (q::qs) k=valueAt qs k:=by simp[valueAt,RJ,e']
   rw[jS e,b];exact ih
theorem KV.any{DS:List (κ×V)}{vs:List (κ×Value)}(r:KV DS vs)(k:κ):(DS.any fun kv=>decide (kv.1=k))=vs.any fun kv=>decide (kv.1=k):=by
 unfold KV at r;induction r with
 |nil=>rfl
 |cons h t ih=>rw[S8,S8,ih,h.1]
theorem KV.repl{DS:List (κ×V)}{vs:List (κ×Value)}(r:KV DS vs)(k:κ){y:V}{u:Value}(ry:RelV y u):
  KV (DS.map fun kv=>if kv.1=k then(kv.1,y) else kv) (vs.map fun kv=>if kv.1=k then(kv.1,u) else kv):=by
 unfold KV at r ⊢;induction r with
 |nil=>exact .nil
 | @cons p q ps qs h t ih=>
  rw[PL,PL];refine .cons ?_ ih;obtain⟨h1,h2⟩:=h;by_cases e:p.1=k
  ·rw[Px e,Px (h1.symm.trans e)];exact⟨h1,ry⟩
  ·rw[PJ e,PJ (fun z=>e (h1.trans z))];exact⟨h1,h2⟩
theorem KV.put{DS:List (κ×V)}{vs:List (κ×Value)}(r:KV DS vs)(k:κ){y:V}{u:Value}(ry:RelV y u):KV (iX DS k y) (stored vs k u):=by
 unfold iX stored;rw[r.any k];by_cases e:(vs.any fun kv=>decide (kv.1=k))=true
 ·rw[Px e,Px e];exact r.repl k ry
 ·rw[PJ e,PJ e];exact Paired.snoc r ⟨rfl,ry⟩
theorem KV.length{DS:List (κ×V)}{vs:List (κ×Value)}(r:KV DS vs):DS.length=vs.length:=Sw r
end
theorem kV_is{P:Program}{w:World}{k:Key}{u:Value}(r:RelV (kV k) u):(mixKind P w).is k u=true:=by
 cases k with
 |inl i=>obtain⟨t,e⟩:=(show ∃t,u=Value.int i t from r);subst e;exact mm P w i t
 |inr x=>obtain⟨t,e⟩:=(show ∃t,u=Value.str x t from r);subst e;exact mn P w x t
theorem lb{P:Program}{w:World}:∀{ks:List Key}{us:List Value},Vals (ks.map kV) us->ItemsAre (mixKind P w) ks us
 |[],_,r=>by rw[Ry]at r;cases r;exact .nil
 |k::ks,_,r=>by
  rw[PL]at r;cases r with
  |cons h t=>exact .cons (kV_is h) (lb t)
abbrev KT(H:Hp):List (List Key×V)->List (List Key×Addr×Value)->Prop:=Paired fun p q=>p.1=q.1/\H q.2.1=some (.tup (p.1.map kV))/\RelV p.2 q.2.2
theorem KT.val{H:Hp}{DS:List (List Key×V)}{xs:List (List Key×Addr×Value)}(r:KT H DS xs)(k:List Key):RelO (la DS k) ((atKey xs k).map (·.2)):=by
 induction r with
 |nil=>exact True.intro
 | @cons p q ps qs h t ih=>
  obtain⟨h1,_,h2⟩:=h;by_cases e:p.1=k
  ·have e':q.1=k:=h1.symm.trans e;have b:atKey (q::qs) k=some q.2:=by simp[atKey,RJ,e']
   rw[jR e,b];exact h2
  ·have e':¬ q.1=k:=fun z=>e (h1.trans z)
   have b:atKey (q::qs) k=atKey qs k:=by simp[atKey,RJ,e']
   rw[jS e,b];exact ih
theorem KT.repl{H:Hp}{DS:List (List Key×V)}{xs:List (List Key×Addr×Value)}(r:KT H DS xs)(k:List Key){y:V}{u:Value}(ry:RelV y u):
  KT H (DS.map fun kv=>if kv.1=k then(kv.1,y) else kv) (xs.map (putAt k u)):=by
 induction r with
 |nil=>exact .nil
 | @cons p q ps qs h t ih=>
  rw[PL,PL];refine .cons ?_ ih;obtain⟨h1,h2,h3⟩:=h;unfold putAt;by_cases e:p.1=k
  ·rw[Px e,Px (h1.symm.trans e)];exact⟨h1,h2,ry⟩
  ·rw[PJ e,PJ (fun z=>e (h1.trans z))];exact⟨h1,h2,h3⟩
theorem KT.put{H:Hp}{DS:List (List Key×V)}{xs:List (List Key×Addr×Value)}(r:KT H DS xs)(k:List Key){b:Addr}{y:V}{u:Value}(hb:H b=some (.tup (k.map kV)))(ry:RelV y u):
  KT H (iX DS k y) (storedH xs k b u):=by
 have e:(DS.any fun kv=>decide (kv.1=k))=(atKey xs k).isSome:=by
  rw[nH,(r.val k).isSome_eq,SX]
 unfold iX storedH;rw[e];by_cases q:(atKey xs k).isSome=true
 ·rw[Px q,Px q];exact r.repl k ry
 ·rw[PJ q,PJ q];exact Paired.snoc r ⟨rfl,hb,ry⟩
theorem KT.keeps{H H':Hp}{DS:List (List Key×V)}{xs:List (List Key×Addr×Value)}(r:KT H DS xs)(ht:∀b ys,H b=some (.tup ys)->H' b=some (.tup ys)):KT H' DS xs:=
 Paired.mapP r fun _ _ z=>⟨z.1,ht _ _ z.2.1,z.2.2⟩
section
variable{P:Program}{w:World}{H:Hp}{h:Heap}{a:Addr}
theorem zt{u:HO}(ok:HOk P w H h)(e:Rd H a u):ObjOk P w H h a u:=e.ok ok
theorem qj{DS:List (Key×V)}(ok:HOk P w H h)(e:Rd H a (.dK DS)):DS.length<=sizeLine/\(a==sysModules)=false/\∃vs,KV DS vs/\h.DictOf (mixKind P w) a vs:=
 show ObjOk P w H h a (.dK DS) from zt ok e
theorem BA{DS:List (Key×V)}(ok:HOk P w H h)(e:H a=some (.dK DS)):DS.length<=sizeLine/\(a==sysModules)=false/\∃vs,KV DS vs/\h.DictOf (mixKind P w) a vs:=qj ok (.inl e)
theorem lg{ks:List Key}(ok:HOk P w H h)(e:H a=some (.tup (ks.map kV))):(tupleKind (mixKind P w)).is h ks a:=by
 obtain⟨_,DY,r,o,h1,h2,⟨n,h3⟩,_⟩:=(show ObjOk P w H h a (.tup (ks.map kV)) from ok a _ e)
 exact⟨o,DY.toArray,n,h1,h2,h3,by simpa using lb r⟩
theorem ql{DS:List (List Key×V)}(ok:HOk P w H h)(e:Rd H a (.dT DS)):DS.length<=sizeLine/\(a==sysModules)=false/\
  ∃xs,KT H DS xs/\h.DictOfH (tupleKind (mixKind P w)) a xs:=by
 obtain⟨z,y,xs,r,o,es,ep,h1,h2,h3,h4,h5⟩:=(show ObjOk P w H h a (.dT DS) from zt ok e)
 refine⟨z,y,xs,r,o,es,ep,h1,h2,h3,h4,fun x hx=>?_,h5⟩;have all:∀{l:List (List Key×V)}{m:List (List Key×Addr×Value)},KT H l m->∀x∈m,(tupleKind (mixKind P w)).is h x.1 x.2.1:=by
  intro l m q;induction q with
  |nil=>intro x hx;exact nomatch hx
  | @cons p q ps qs hq t ih=>
   intro x hx;rcases Pw.mp hx with e|hx
   ·subst e;exact lg ok (by rw[<-hq.1];exact hq.2.1)
   ·exact ih x hx
 exact all r x hx
theorem BC{DS:List (List Key×V)}(ok:HOk P w H h)(e:H a=some (.dT DS)):DS.length<=sizeLine/\(a==sysModules)=false/\
  ∃xs,KT H DS xs/\h.DictOfH (tupleKind (mixKind P w)) a xs:=ql ok (.inl e)
end
def DGet(H:Hp)(a:Addr)(y:V)(r:Option V):Prop:=
 (∃DS k,Rd H a (.dK DS)/\y=kV k/\r=la DS k)\/∃DS k b,Rd H a (.dT DS)/\y=.ref b/\H b=some (.tup (k.map kV))/\r=la DS k
def DPut(H:Hp)(a:Addr)(y v:V)(H':Hp):Prop:=
 (∃DS k,H a=some (.dK DS)/\y=kV k/\DS.length<sizeLine/\H'=upd H a (.dK (iX DS k v)))\/
 ∃DS k b,H a=some (.dT DS)/\y=.ref b/\H b=some (.tup (k.map kV))/\DS.length<sizeLine/\H'=upd H a (.dT (iX DS k v))
theorem DGet.k{H:Hp}{a:Addr}{DS:List (Key×V)}{k:Key}(e:H a=some (.dK DS)):DGet H a (kV k) (la DS k):=.inl ⟨DS,k,.inl e,rfl,rfl⟩
theorem DGet.t{H:Hp}{a b:Addr}{DS:List (List Key×V)}{k:List Key}(e:H a=some (.dT DS))(eb:H b=some (.tup (k.map kV))):DGet H a (.ref b) (la DS k):=.inr ⟨DS,k,b,.inl e,rfl,eb,rfl⟩
theorem DPut.k{H:Hp}{a:Addr}{DS:List (Key×V)}{k:Key}{v:V}(e:H a=some (.dK DS))(hl:DS.length<sizeLine):DPut H a (kV k) v (upd H a (.dK (iX DS k v))):=.inl ⟨DS,k,e,rfl,hl,rfl⟩
theorem DPut.t{H:Hp}{a b:Addr}{DS:List (List Key×V)}{k:List Key}{v:V}(e:H a=some (.dT DS))(eb:H b=some (.tup (k.map kV)))(hl:DS.length<sizeLine):
  DPut H a (.ref b) v (upd H a (.dT (iX DS k v))):=.inr ⟨DS,k,b,e,rfl,eb,hl,rfl⟩
section
variable{X:Cx}{pr:List (Addr×Obj)}{σ:St}{H:Hp}{s:Shared}{a:Addr}{y v:V}{u r:Value}{o:Option V}{A:Around}{E:Value->Shared->Prop}
theorem Inv.big(I:Inv X pr σ H s):sysModules<s.heap.objs.size:=by
 have h:mainGlobals<s.heap.objs.size:=(I.mod.glob.keeps I.bk).lt;exact Nat.lt_trans (by decide) h
theorem qm{Q:Value->Shared->Prop}(hu:A.units+1<cLine)(I:Inv X pr σ H s)(g:DGet H a y (some v))(ry:RelV y u)(h:∀w' s',Inv X pr σ H s'->RelV v w'->Q w' s'):
  wpAny (model X.prog X.w) A (getItem (.ref a) u) Q E s:=by
 rcases g with⟨DS,k,e,ey,l⟩|⟨DS,k,b,e,ey,eb,l⟩
 ·subst ey;obtain⟨z,hd,vs,rel,dd⟩:=qj I.hok e;obtain⟨w',hw,HS⟩:=RelO.some_of (v:=v) (o:=valueAt vs k) (by rw[l];exact rel.val k);exact wpAny_getItem_of (kV_is ry) dd.mapOf hw (h w' _ (I.tok _) HS)
 ·subst ey;cases(show u=Value.ref b from ry);obtain⟨z,hd,xs,rel,dd⟩:=ql I.hok e;obtain⟨w',hw,HS⟩:=RelO.some_of (v:=v) (o:=(atKey xs k).map (·.2)) (by rw[l];exact rel.val k);obtain⟨p,hp,hp2⟩:=Rm.mp hw;refine wpAny_getItem_heap (R5 hu) (lg I.hok eb) dd hp ?_;rw[hp2];exact h w' _ (I.tok _) HS
theorem Dn{Q:Value->Shared->Prop}(hu:A.units+1<cLine)(I:Inv X pr σ H s)(g:DGet H a y o)(ry:RelV y u)(h:∀s',Inv X pr σ H s'->Q (.bool o.isSome) s'):
  wpAny (model X.prog X.w) A (compareOp .In u (.ref a)) Q E s:=by
 rcases g with⟨DS,k,e,ey,l⟩|⟨DS,k,b,e,ey,eb,l⟩
 ·subst ey;obtain⟨z,hd,vs,rel,dd⟩:=qj I.hok e;refine wpAny_in_of (kV_is ry) hd dd.mapOf ?_;rw[<-(rel.val k).isSome_eq,<-l];exact h _ (I.tok _)
 ·subst ey;cases(show u=Value.ref b from ry);obtain⟨z,hd,xs,rel,dd⟩:=ql I.hok e;refine wpAny_in_heap (R5 hu) (lg I.hok eb) hd dd ?_;have q:=(rel.val k).isSome_eq;rw[SX]at q;rw[<-q,<-l];exact h _ (I.tok _)
theorem xa{Q:Value->Shared->Prop}(hu:A.units+1<cLine)(I:Inv X pr σ H s)(g:DGet H a y o)(ry:RelV y u)(h:∀s',Inv X pr σ H s'->Q (.bool (!o.isSome)) s'):
  wpAny (model X.prog X.w) A (compareOp .NotIn u (.ref a)) Q E s:=by
 rcases g with⟨DS,k,e,ey,l⟩|⟨DS,k,b,e,ey,eb,l⟩
 ·subst ey;obtain⟨z,hd,vs,rel,dd⟩:=qj I.hok e;refine wpAny_notIn_of (kV_is ry) hd dd.mapOf ?_;rw[<-(rel.val k).isSome_eq,<-l];exact h _ (I.tok _)
 ·subst ey;cases(show u=Value.ref b from ry);obtain⟨z,hd,xs,rel,dd⟩:=ql I.hok e;refine wpAny_notIn_heap (R5 hu) (lg I.hok eb) hd dd ?_;have q:=(rel.val k).isSome_eq;rw[SX]at q;rw[<-q,<-l];exact h _ (I.tok _)
theorem qo{h':Heap}{t':Nat}{ob:HO}(I:Inv X pr σ H s)(mu:Md (H a))(hs:Heap.SameBut a s.heap h')(he:∃q,h'.get? a=some q)(new:ObjOk X.prog X.w (upd H a ob) h' a ob):
  Inv X pr σ (upd H a ob) {s with heap:=h',toks:=t'}:=
 I.write (x:=a) (e:=a) mu (.inl rfl) (fun b q hb z=>(hs.2 b hb).trans z) he new
theorem zu{P:Program}{w:World}{H':Hp}{h':Heap}{DS:List (Key×V)}{vs:List (Key×Value)}(z:DS.length<=sizeLine)(hd:(a==sysModules)=false)(rel:KV DS vs)(dd:h'.DictOf (mixKind P w) a vs):
  ObjOk P w H' h' a (.dK DS):=⟨z,hd,vs,rel,dd⟩
theorem qp{H':Hp}{Q:Unit->Shared->Prop}(hu:A.units+1<cLine)(I:Inv X pr σ H s)(g:DPut H a y v H')(ry:RelV y u)(rv:RelV v r)(h:∀s',Inv X pr σ H' s'->Q () s'):
  wpAny (model X.prog X.w) A (setItem (.ref a) u r) Q E s:=by
 rcases g with⟨DS,k,e,ey,l,eH⟩|⟨DS,k,b,e,ey,eb,l,eH⟩
 ·subst ey eH;obtain⟨z,hd,vs,rel,dd⟩:=BA I.hok e;have hz:vs.length<=sizeLine:=by rw[<-rel.length];exact z
  have hl:(iX DS k v).length<=sizeLine:=by have:=iq DS k v;lia
  refine wpAny_setItem_pairs (hsz:=hz) (kV_is ry) dd fun h' L3 hs=>h _ ?_
  have he:∃q,h'.get? a=some q:=let⟨q,_,_,hq,_⟩:=L3;⟨q,hq⟩
  exact qo I (by rw[e];exact True.intro) hs he (zu hl hd (rel.put k rv) L3)
 ·subst ey eH;cases(show u=Value.ref b from ry);obtain⟨z,hd,xs,rel,dd⟩:=BC I.hok e;have hz:xs.length<=sizeLine:=by rw[<-Sw rel];exact z
  have hl:(iX DS k v).length<=sizeLine:=by have:=iq DS k v;lia
  refine wpAny_setItem_heap (hsz:=hz) (R5 hu) (lg I.hok eb) dd fun h' L3 hs=>h _ ?_
  obtain⟨q,es,ep,hq,h2,h3,h4,_,h5⟩:=L3;refine qo I (by rw[e];exact True.intro) hs ⟨q,hq⟩ ⟨hl,hd,_,(rel.put k eb rv).keeps fun c ys ec=>?_,q,es,ep,hq,h2,h3,h4,h5⟩;rw[ai (A9 ec e (fun z=>nomatch z))];exact ec
end
section
variable{X:Cx}{pr:List (Addr×Obj)}{σ:St}{H:Hp}{s:Shared}{a:Addr}{DS:List (Key×V)}{k:Key}{u:Value}{A:Around}{E:Value->Shared->Prop}
end
def NoSl(i:Expr):Prop:=∀ov iv,subscripted i false ov iv=operate [ov,iv] (getItem ov iv)
theorem xb{prog:Program}{w:World}{A:Around}{E:Value->Shared->Prop}{s:Shared}{env:Env}{value slice:Expr}{pos:Pos}{T id:String}{Q:Value->Shared->Prop}
  (hl:typeLookup (.type T) "__getitem__" = pure (some (.builtin id))) (hs:NoSl slice)
  (h:wpAny (model prog w) A (eval value env) (fun o s₁=>wpAny (model prog w) A (eval slice env) (fun i s₂=>s₂.TypeIs o T/\wpAny (model prog w) A (getItem o i) Q E s₂) E s₁) E s):
  wpAny (model prog w) A (eval (.Subscript value slice pos) env) Q E s:=by
 refine Subscript_ (RX h (fun o s₁ h₁=>RX h₁ (fun i s₂ h₂=>?_) fun _ _ x=>x) fun _ _ x=>x);obtain⟨hT,h₂⟩:=h₂;unfold subscriptTail;refine Ph ?_;rw[getitemInPython_of_ne hT.not_modules];refine Ph (TF hT hl ?_);have fin:wpAny (model prog w) A (subscripted slice false o i) (fun r s₃=>wpAny (model prog w) A (letTemporaryGo value o r >>= fun _=>pure r) Q E s₃) E s₂:=by
  rw[hs o i];exact wpAny_operating (RX h₂ (fun r s₃ h₃=>Ph (wpAny_letTemporaryGo (Py h₃))) fun _ _ x=>x)
 first
  |exact Py (Ph fin)
  |exact Ph (Py (Ph fin))
  |exact Ph fin
theorem mx{X:Cx}{pr:List (Addr×Obj)}{σ:St}{H:Hp}{s:Shared}{a:Addr}{y:V}{o:Option V}(I:Inv X pr σ H s)(g:DGet H a y o):s.TypeIs (.ref a) "dict":=by
 rcases g with⟨DS,k,e,_,_⟩|⟨DS,k,b,e,_,_,_⟩
 ·obtain⟨_,_,vs,_,dd⟩:=qj I.hok e;exact dd.typeIs
 ·obtain⟨_,_,xs,_,dd⟩:=ql I.hok e;exact dd.typeIs
def BD(td ty:TE):TE:=fun σ H Q=>td σ H fun x H1=>ty σ H1 fun y H2=>∃a v,x=.ref a/\DGet H2 a y (some v)/\Q v H2
def BE(td ty tv:TE):TS:=fun D σ H=>tv σ H fun v H1=>td σ H1 fun x H2=>ty σ H2 fun y H3=>∃a H4,x=.ref a/\DPut H3 a y v H4/\D.nx σ H4
section
variable{X:Cx}{o i e value:Expr}{pos pos' K0:Pos}{td ty tv:TE}
theorem xc(hu:X.A.units+1<cLine)(ho:PE X o td)(hi:PE X i ty)(hs:NoSl i):PE X (.Subscript o i pos) (BD td ty):=by
 intro pr s σ H Q I h;refine xb PySem.F.slot_dict_getitem.lookup hs (Eg (ho pr s σ H _ I h) fun u s1 ⟨x,H1,I1,rx,q1⟩=>Eg (hi pr s1 σ H1 _ I1 q1) fun iv s2 Ee=>?_);obtain⟨y,H2,I2,ry,a,v,ex,g,q2⟩:=Ee;subst ex;obtain rfl:u=Value.ref a:=rx;exact⟨mx I2 g,qm hu I2 g ry fun w' s3 I3 HS=>⟨v,H2,I3,HS,q2⟩⟩
theorem xf(hu:X.A.units+1<cLine)(ho:PE X o td)(hi:PE X i ty)(hv:PE X value tv)(hs:swapsWith value (some (.Subscript o i pos')) pos.line X.env=pure false):
  PS X (.Assign [.Subscript o i pos'] value pos) (BE td ty tv):=by
 intro pr s σ H D I h;refine wpAny_Assign_Subscript (Eg (hv pr s σ H _ I h) fun r s1 ⟨v,H1,I1,rv,q1⟩=>Eg (ho pr s1 σ H1 _ I1 q1) fun u s2 ⟨x,H2,I2,rx,q2⟩=>Eg (hi pr s2 σ H2 _ I2 q2) fun iv s3 ⟨y,H3,I3,ry,a,H4,ex,g,q3⟩=>?_) hs;subst ex;obtain rfl:u=Value.ref a:=rx;exact qp hu I3 g ry rv fun s4 I4=>⟨σ,H4,I4,q3⟩
end
theorem dk_empty{P:Program}{w:World}{H:Hp}(h:Heap)(hb:sysModules<h.objs.size):ObjOk P w H (h.push {cls:=.type "dict",data:=.dict #[]}) h.objs.size (.dK []):=
 ⟨QA _,P6.mpr (Rj (PB hb)),[],.nil,Heap.DictOf.new h⟩
def zv:TE:=fun _ H Q=>∀p,H p=none->Q (.ref p) (upd H p (.dK []))
section
variable{X:Cx}{pos:Pos}
theorem tW:PE X (.Dict [] [] pos) zv:=fun pr s σ H Q I h=>
 wpAny_Dict_empty ⟨.ref s.heap.objs.size,_,I.laid (a:=s.heap.objs.size) (o:=.dK []) (t':=s.toks) (fun _ _ q=>Pm _ q) (Pt _) (dk_empty s.heap I.big),rfl,h _ (I.hok.fresh (Pt _))⟩
end
section
variable{X:Cx}{pr:List (Addr×Obj)}{σ:St}{H:Hp}{s:Shared}{a:Addr}{y d:V}{u r:Value}{o:Option V}{A:Around}{E:Value->Shared->Prop}
end
section
variable{X:Cx}{o e f:Expr}{apos Eu:Pos}{td ty tx:TE}
end
section
variable{X:Cx}{pr:List (Addr×Obj)}{σ:St}{H:Hp}{s:Shared}{a:Addr}{DS:List (Key×V)}{A:Around}{E:Value->Shared->Prop}
end
section
variable{X:Cx}{pr:List (Addr×Obj)}{σ:St}{H:Hp}{s:Shared}{a:Addr}{y:V}{u:Value}{A:Around}{E:Value->Shared->Prop}
end
section
variable{κ:Type}[DecidableEq κ]
end
end L2
namespace NX
open PySem PySem.Spec PyProof.Rows L2
def RawD(h:Heap)(d:Addr)(es:Array DictEntry)(ep:Nat):Prop:=∃o,h.get? d=some o/\o.ExactDict/\o.data=.dict es ep
theorem RawD.at{h h':Heap}{d:Addr}{es:Array DictEntry}{ep:Nat}(x:RawD h d es ep)(e:∀o,h.get? d=some o->h'.get? d=some o):RawD h' d es ep:=by
 obtain⟨o,g,r⟩:=x;exact⟨o,e o g,r⟩
section
variable{prog:Program}{w:World}{A:Around}{E:Value->Shared->Prop}{s:Shared}{d it:Addr}{es:Array DictEntry}{ep i:Nat}
theorem tX(x:RawD s.heap d es ep):s.TypeIs (.ref d) "dict":=by
 obtain⟨o,g,ex,_⟩:=x;exact⟨o,g,ex.1⟩
end
end NX
namespace NX
open PySem PySem.W PySem.Spec PyProof.Rows L2
section
variable{prog:Program}{w:World}{A:Around}{E:Value->Shared->Prop}{s:Shared}
end
section
variable{X:Cx}{pr:List (Addr×Obj)}{σ:L2.St}{H:Hp}{s:Shared}
end
end NX
namespace NX
open PySem PySem.Spec PyProof.Rows L2
section
open PySem.SeqAt
open PySem.AutoSeq1 (wpAny_loadPart')
open PySem.MeetsSeq PySem.MeetsSeq2 PySem.MeetsSeq3
theorem tY{A:Around}{s:Shared}{a c:Key}{u v:Value}(ra:RelV (kV a) u)(rc:RelV (kV c) v):EqAt A s u v (decide (a=c)):=by
 have h:=vy (A:=A) (s:=s) ra rc (nG a) (nG c);rw[w9]at h;exact h
theorem tZ{prog:Program}{w:World}{A:Around}{E:Value->Shared->Prop}{s:Shared}{Q:Value->Shared->Prop}{a c:Key}{u v:Value}(ra:RelV (kV a) u)(rc:RelV (kV c) v)(hk:a.isLeft=c.isLeft)(h:Q (.bool (Bz.blt a c)) s):
  wpAny (model prog w) A (richCompare .Lt u v) Q E s:=by
 cases a with
 |inl i=>
  cases c with
  |inr _=>cases hk
  |inl j=>
   obtain⟨t,rfl⟩:=ra;obtain⟨t',rfl⟩:=rc;exact(PyProof.Rows.lt_int h:wpAny (model prog w) A (compareOp .Lt (.int i t) (.int j t')) Q E s)
 |inr x=>
  cases c with
  |inl _=>cases hk
  |inr y=>
   obtain⟨t,rfl⟩:=ra;obtain⟨t',rfl⟩:=rc;exact(PyProof.Rows.lt_str h:wpAny (model prog w) A (compareOp .Lt (.str x t) (.str y t')) Q E s)
theorem qq(a c:Key)(r t:List Key):nF (a::r) (c::t)=if a=c then nF r t else Bz.blt a c:=rfl
theorem jT(l b:Addr)(items GF:Array Value)(n n2:Nat)(dd JE:Option Addr)(sl JF:Array (Option Value))(ks js:List Key)(hi:Vals (ks.map kV) items.toList)(hj:Vals (js.map kV) GF.toList)(hk:kinds ks=kinds js):
  Meets (Builtin.«tuple.__lt__» ⟨[.ref l,.ref b],[]⟩)
   (fun _ R s=>s.heap.get? l=some {cls:=.type "tuple",dict:=dd,data:=.seq items n,slots:=sl}/\s.heap.get? b=some {cls:=.type "tuple",dict:=JE,data:=.seq GF n2,slots:=JF}/\R (.ok (.ret (.bool (nF ks js)))) s):=
 .of_wp fun prog w A R s h=>by
  obtain⟨hp,g,d,tk,os⟩:=s;obtain⟨hl,hb,h⟩:=h;have f2:=AutoSeq1.sub_tuple_tuple;have z1:items.size=ks.length:=by have:=hi.length;simp at this;lia
  have z2:GF.size=js.length:=by have:=hj.length;simp at this;lia
  have z3:ks.length=js.length:=by have:=QN List.length hk;simpa[kinds] using this
  wp_walk using wpAny_loadPart' hl,wpAny_loadPart' hb,wpAny_forIn_list _ (fun aO b s'=>b.1=none/\s'=⟨hp,g,d,tk,os⟩/\∃(vs ws:List Value) (HK Iw:List Key),aO=vs.zip ws/\
   Vals (HK.map kV) vs/\Vals (Iw.map kV) ws/\kinds HK=kinds Iw/\R (.ok (.ret (.bool (nF HK Iw)))) ⟨hp,g,d,tk,os⟩) _
  case turn=>
   rintro⟨y,x⟩ aO b s' ⟨N3,rfl,vs,ws,HK,Iw,hz,Nq,N4,Ik,hR⟩;cases HK with
   |nil=>
    cases Nq;rw[List.zip_nil_left]at hz;cases hz
   |cons a HK=>
    cases Iw with
    |nil=>cases Ik
    |cons c Iw=>
     cases Nq with
     | @cons _ va _ Hs ra hvi'=>
      cases N4 with
      | @cons _ vc _ Ms rc hwi'=>
       rw[R6]at hz;injection hz with hyx hrest;injection hyx with hy hx;subst hy hx;have Mt:a.isLeft=c.isLeft:=(List.cons.inj Ik).1;have GH:kinds HK=kinds Iw:=(List.cons.inj Ik).2;rw[qq]at hR;have he:=tY (A:=A.in1) (s:=⟨hp,g,d,tk,os⟩) ra rc;refine Ph (he prog w _ _ ?_);by_cases hac:a=c
       ·rw[Px hac]at hR;rw[Qi hac]
        wp_walk
        exact⟨rfl,rfl,_,_,_,_,hrest,hvi',hwi',GH,hR⟩
       ·rw[PJ hac]at hR;rw[Qa hac];have hri:=fun E Q=>tZ (prog:=prog) (w:=w) (A:=A.in1) (E:=E) (s:=⟨hp,g,d,tk,os⟩) (Q:=Q) ra rc Mt
        wp_walk using hri
        exact⟨_,rfl,by simpa using hR⟩
  case fin=>
   rintro⟨b1,b2⟩ s' ⟨N3,rfl,vs,ws,HK,Iw,hz,Nq,N4,Ik,hR⟩;simp only at N3;subst N3;have hv:nF HK Iw=decide (items.size<GF.size):=by
    cases HK with
    |nil=>
     cases Iw with
     |nil=>exact(Qa (by lia)).symm
     |cons c Iw=>cases Ik
    |cons a HK=>
     cases Iw with
     |nil=>cases Ik
     |cons c Iw=>
      cases Nq;cases N4;rw[R6]at hz;cases hz
   rw[hv]at hR
   wp_walk
   exact⟨_,rfl,by simpa[Builtin.Tuple.tupleCompareSizes] using hR⟩
  case h=>
   exact⟨rfl,rfl,items.toList,GF.toList,ks,js,rfl,hi,hj,hk,h⟩
end
section
variable{X:Cx}
def Dp(K:W.Frag)(neg:Bool):R2:=fun x y H Q=>∃a b ks js,x=.ref a/\y=.ref b/\SqT K H a (ks.map kV)/\SqT K H b (js.map kV)/\kinds ks=kinds js/\Q (.bl (if neg then !nF ks js else nF ks js)) H
theorem zw(hu:X.A.units<cLine):EG X (compareOp .Lt) (Dp X.K false):=by
 intro pr s σ H x y v u Q I rx ry h;obtain⟨a,b,ks,js,rfl,rfl,ha,hb,hk,q⟩:=h;cases rx;cases ry;obtain⟨DY,r1,p1,_⟩:=I.tuple ha;obtain⟨Ir,r2,p2,_⟩:=I.tuple hb;obtain⟨⟨cls,dd,data,sl⟩,ho,hc,n,hd⟩:=id p1;obtain⟨⟨K1,JE,data2,JF⟩,FJ,Ih,n2,hd2⟩:=id p2;simp only at hc hd Ih hd2;subst hc hd Ih hd2;exact richCompare_meets_room (op:=.Lt) ⟨_,ho,rfl⟩ ⟨_,FJ,rfl⟩ PySem.F.slot_tuple_lt PySem.F.entry_tuple_lt (PySem.F.args_tuple_lt_2 _ _) (jT a b _ _ n n2 dd JE sl JF ks js (by simpa using r1) (by simpa using r2) hk)
  ⟨ho,FJ,show Value.bool (nF ks js)≠Value.notImplemented/\EP X pr σ Q (.bool (nF ks js)) s from⟨(fun x=>nomatch x),⟨.bl (nF ks js),H,I,rfl,q⟩⟩⟩ hu
end
section
variable{prog:Program}{w:World}{A:Around}{E:Value->Shared->Prop}{s:Shared}
end
theorem wp_blockEnv{M:Model}{A:Around}{E:Value->Shared->Prop}{s:Shared}{scope:Scope}{globals:Addr}{cl:List (Str×Addr)}{qual:Str}{outer:Env}{Q:Env->Shared->Prop}
  (hQ:Q (newEnv scope s.heap.objs.size globals (cellsFrom (s.heap.objs.size+1) scope.names cl) qual none .none (some outer) builtinsNs) {s with heap:=pushCells (s.heap.push {cls:=.type "dict",data:=.dict #[]}) scope.names}):
  wpAny M A (newFunctionEnv scope globals cl [] qual none .none (some outer)) Q E s:=by
 simp only[newFunctionEnv,Ur,Q1];refine Ph (wpAny_alloc ?_);refine Ph (wpAny_layCells _ (fun name kind cells=>by cases Lb:kind==NameKind.cell <;> simp[Lb]) _ _ _ _ ?_);rw[show({s with heap:=s.heap.push {cls:=.type "dict",data:=.dict #[]}}:Shared).heap.objs.size=s.heap.objs.size+1 from Qq ..];refine Ph ?_;rw[T2];exact Py (Py hQ)
theorem h8{x:Str}{c:Addr}:∀(nY:List (Str×NameKind)) (h:Heap) (acc:List (Str×Addr)),(cellsFrom h.objs.size nY acc).lookup x=some c->acc.lookup x=some c\/(h.objs.size<=c/\(pushCells h nY).IsCell c none)
 |[],_,_,e=>.inl e
 |(name,kind)::r,h,acc,e=>by
  unfold cellsFrom at e;unfold pushCells;split at e
  ·rename_i hk;rw[Px hk];have sz:h.objs.size+1=(h.push {cls:=.type "cell",data:=.cell none}).objs.size:=(Qq ..).symm;rw[sz]at e;rcases h8 r _ _ e with e|⟨e1,e2⟩
   ·rw[PZ]at e;cases hx:x==name with
    |true=>
     rw[hx]at e;cases e;exact .inr ⟨Pt _,_,TH r _ _ _ (Pz _ rfl),rfl⟩
    |false=>
     rw[hx]at e;exact .inl e
   ·rw[<-sz]at e1;exact .inr ⟨RN e1,e2⟩
  ·rename_i hk;rw[PJ hk];exact h8 r h acc e
theorem qr:∀(nY:List (Str×NameKind)) (n:Nat) (acc:List (Str×Addr)),(∀x y c,acc.lookup x=some c->acc.lookup y=some c->x=y)->(∀x c,acc.lookup x=some c->c<n)->
  ∀x y c,(cellsFrom n nY acc).lookup x=some c->(cellsFrom n nY acc).lookup y=some c->x=y
 |[],_,_,h,_=>h
 |(name,kind)::r,n,acc,h,hl=>by
  unfold cellsFrom;split
  ·refine qr r (n+1) ((name,n)::acc) (fun x y c e1 e2=>?_) (fun x c e=>?_)
   ·rw[PZ]at e1 e2;cases hx:x==name with
    |true=>
     rw[hx]at e1;cases e1;cases hy:y==name with
     |true=>exact(P5.mp hx).trans (P5.mp hy).symm
     |false=>
      rw[hy]at e2;exact absurd (hl y _ e2) (QH _)
    |false=>
     rw[hx]at e1;cases hy:y==name with
     |true=>
      rw[hy]at e2;cases e2;exact absurd (hl x _ e1) (QH _)
     |false=>
      rw[hy]at e2;exact h x y c e1 e2
   ·rw[PZ]at e;cases hx:x==name with
    |true=>rw[hx]at e;cases e;exact P9 _
    |false=>rw[hx]at e;exact SW (hl x c e)
  ·exact qr r n acc h hl
theorem qu{x:Str}:∀(nY:List (Str×NameKind)) (n:Nat) (acc:List (Str×Addr)),((∃d,acc.lookup x=some d)\/(x,NameKind.cell)∈nY)->∃d,(cellsFrom n nY acc).lookup x=some d
 |[],_,_,h=>h.elim id fun z=>nomatch z
 |(name,kind)::r,n,acc,h=>by
  unfold cellsFrom;split
  ·rename_i hk;refine qu r _ _ ?_;rw[PZ];cases hx:x==name with
   |true=>exact .inl ⟨_,rfl⟩
   |false=>
    rcases h with h|h
    ·exact .inl h
    ·rcases Pw.mp h with h|h
     ·cases h;rw[Qc]at hx;cases hx
     ·exact .inr h
  ·rename_i hk;refine qu r _ _ ?_;rcases h with h|h
   ·exact .inl h
   ·rcases Pw.mp h with h|h
    ·cases h;exact absurd rfl hk
    ·exact .inr h
theorem qw{x:Str}{c:Addr}{lo:Nat}:∀(nY:List (Str×NameKind)) (n:Nat) (acc:List (Str×Addr)),((∀c,acc.lookup x=some c->lo<=c)\/(x,NameKind.cell)∈nY)->lo<=n->(cellsFrom n nY acc).lookup x=some c->lo<=c
 |[],_,_,h,_,e=>h.elim (fun h=>h c e) fun z=>nomatch z
 |(name,kind)::r,n,acc,h,hn,e=>by
  unfold cellsFrom at e;split at e
  ·refine qw r _ _ ?_ (Nat.le_succ_of_le hn) e;cases hx:x==name with
   |true=>exact .inl fun c e=>by rw[PZ,hx]at e;cases e;exact hn
   |false=>
    rcases h with h|h
    ·exact .inl fun c e=>by rw[PZ,hx]at e;exact h c e
    ·rcases Pw.mp h with h|h
     ·cases h;rw[Qc]at hx;cases hx
     ·exact .inr h
  ·rename_i hk;refine qw r _ _ ?_ hn e;rcases h with h|h
   ·exact .inl h
   ·rcases Pw.mp h with h|h
    ·cases h;exact absurd rfl hk
    ·exact .inr h
theorem qx{x:Str}:∀(nY:List (Str×NameKind)) (n:Nat) (acc:List (Str×Addr)),(x,NameKind.cell)∉nY->(cellsFrom n nY acc).lookup x=acc.lookup x
 |[],_,_,_=>rfl
 |(name,kind)::r,n,acc,h=>by
  unfold cellsFrom;split
  ·rename_i hk;rw[qx r _ _ fun z=>h (Pu _ z),PZ];cases hx:x==name with
   |true=>
    refine absurd ?_ h;rw[P5.mp hx,<-P5.mp hk];exact Pq
   |false=>rfl
  ·exact qx r _ _ fun z=>h (Pu _ z)
theorem jU{scope:Scope}{env:Env}{x:Str}(h:(relabel scope env).names.lookup x=some .cell\/(relabel scope env).names.lookup x=some .free):(x,NameKind.free)∈scope.names\/(x,NameKind.cell)∈scope.names:=by
 unfold relabel at h;dsimp only at h;generalize scope.names=l at h;induction l with
 |nil=>rcases h with h|h <;> cases h
 |cons y l ih=>
  obtain⟨n,k⟩:=y;rw[PL]at h;dsimp only at h;have up:((x,NameKind.free)∈l\/(x,NameKind.cell)∈l)->(x,NameKind.free)∈(n,k)::l\/(x,NameKind.cell)∈(n,k)::l:=fun z=>z.imp (Pu _) (Pu _)
  by_cases cnd:(k==NameKind.free&&env.scope.kind==.function&&env.kindOf n==some .cell)=true
  ·rw[Px cnd,PZ]at h;have kf:k=.free:=by
    have:(k==NameKind.free)=true:=by
     simp only[PD]at cnd;exact cnd.1.1
    simpa using this
   cases hx:x==n with
   |true=>
    have:x=n:=by simpa using hx
    rw[this,kf];exact .inl Pq
   |false=>
    rw[hx]at h;exact up (ih h)
  ·rw[PJ cnd,PZ]at h;cases hx:x==n with
   |true=>
    rw[hx]at h;have:x=n:=by simpa using hx
    rw[this];rcases h with h|h
    ·rw[<-P0 h];exact .inr Pq
    ·rw[<-P0 h];exact .inl Pq
   |false=>
    rw[hx]at h;exact up (ih h)
noncomputable def aY(X:Cx)(scope:Scope)(N:List Str)(C:Addr)(s:Shared)(H:Hp)(fp:List Addr)(pn:List (Addr×Obj)):Cx:=
 {X with N:=N,s₀:=s,H₀:=H,env:=compEnvC scope (cellsFrom (C+1) scope.names (clOf scope X.env)) C X.env,outer:=X.stack,ex:=fp,fn:=fun x=>scope.names.lookup x==some .cell,pn:=pn,xe:=fun _ _=>False}
section
variable{X:Cx}{pr:List (Addr×Obj)}{σ:L2.St}{H:Hp}{s:Shared}{scope:Scope}{N:List Str}{ix:List (Option Nat)}{fp:List Addr}
theorem _root_.L2.Inv.blockK(I:Inv X pr σ H s)(hf:cp scope X.env=true)(hk:scope.kind=.function)(Eb:∀y∈scope.names,y.2=.cell->scope.names.lookup y.1=some .cell)(E7:jM X scope N ix=true)(fo:∀b∈fp,kN X pr H b)(fin:∀b∈fp,∃o,s.heap.get? b=some o)
  {h0:Heap}{t1:Nat}{D C:Addr}(hD:D=s.heap.objs.size) (hC:C=s.heap.objs.size+1) (hsz:h0.objs.size=C+1) (JO:∀b o,s.heap.get? b=some o->h0.get? b=some o) {n:Nat}(acc0:h0.get? D=some {cls:=.type "list",data:=.seq #[] n})
  {m:Str->Option Value}(ns0:h0.Ns C m):Inv (aY X scope N C s H fp (X.pn++pr)) [] (dk ix σ) (upd H D (.lst [])) {s with heap:=pushCells h0 scope.names,toks:=t1}:=by
 have kp:=TH scope.names h0;have old:∀b o,s.heap.get? b=some o->(pushCells h0 scope.names).get? b=some o:=fun b o e=>kp b o (JO b o e)
 have EM:s.heap.objs.size<=C:=by rw[hC];exact RU _
 have freshD:s.heap.objs.size<=D:=by rw[hD];exact Pt _
 have nD:H D=none:=I.hok.fresh freshD;have DC:D≠C:=by rw[hD,hC];exact PB (P9 _)
 have Hw:∀b,H b=none->b≠D->upd H D (.lst []) b=none:=fun b n z=>by rw[ai z];exact n
 have JM:∀b o,s.heap.get? b=some o->b≠D:=fun b o e=>PB (Po (Pr e) freshD)
 have Hr:∀b o,s.heap.get? b=some o->b≠C:=fun b o e=>PB (Po (Pr e) EM)
 have cs:∀{x c},(cellsFrom (C+1) scope.names (clOf scope X.env)).lookup x=some c->X.env.cells.lookup x=some c\/(C+1<=c/\(pushCells h0 scope.names).IsCell c none):=fun{x c} e=>by
  rw[<-hsz]at e;rcases h8 scope.names h0 _ e with e|⟨e1,e2⟩
  ·exact .inl (eE I.ok hf e)
  ·exact .inr ⟨hsz▸e1,e2⟩
 have NU:(aY X scope N C s H fp (X.pn++pr)).Ok:=by
  refine⟨I.ok.mod,hk,I.ok.glob,I.ok.blt,EM,fun x y c e1 e2=>?_,fun x hx=>?_,fun x c z e=>?_,I.ok.hd,I.ok.frames,.inl rfl,fun b hb=>?_,I.bs,?_,fun b o e hb=>?_,fun b hb hs=>?_,I.stack,I.stkFree⟩
  ·refine qr scope.names (C+1) (clOf scope X.env) (fun x y c e1 e2=>I.ok.inj x y c (eE I.ok hf e1) (eE I.ok hf e2)) (fun x c e=>?_) x y c e1 e2;obtain⟨v,q⟩:=I.cell x c (eE I.ok hf e);exact Po q.lt (PN EM (RU _))
  ·refine qu scope.names (C+1) _ ?_;rcases jU hx with h|h
   ·obtain⟨c,e,_⟩:=jN I.ok hf h;exact .inl ⟨c,e⟩
   ·exact .inr h
  ·have z:(scope.names.lookup x==some NameKind.cell)=true:=z;have z:scope.names.lookup x=some .cell:=by simpa using z
   have:=qw (lo:=C+1) scope.names (C+1) _ (.inr (QK z)) (Pt _) e;exact PN EM (RN this)
  ·obtain⟨f0,f1,f2,f3,f4,f5⟩:=fo b hb;obtain⟨o,ho⟩:=fin b hb;refine⟨?_,fun x c e=>?_⟩
   ·intro z;exact Hr b o ho z
   ·rcases cs e with e|⟨e1,_⟩
    ·exact f4 x c e
    ·intro z;subst z;exact absurd (Po (Pr ho) (PN EM (RN e1))) (QH _)
  ·exact PN I.ok.bsz I.sz
  ·obtain⟨f0,f1,f2,f3,f4,f5⟩:=fo b hb;rcases f3 with q|q
   ·exact I.ok.noex b o e q
   ·exact absurd (Po (Pr e) (PN I.ok.bsz q)) (QH _)
  ·obtain⟨f0,f1,f2,_⟩:=fo b hb;exact(Pw.mp (I.stkSub b hs)).elim f1 f2
 refine⟨NU,rfl,I.bare,Un.laid old freshD nD,⟨m,ns0.keeps kp,fun i x v e1 e2 e3=>?_⟩,fun x c e=>?_,?_,fun x c e=>?_,fun p hp=>?_,I.hok.laid old freshD ⟨QA _,[],n,.nil,kp _ _ acc0⟩,?_⟩
 ·have e2:(ix.map fun i=>i.bind fun i=>(σ[i]?).bind id)[i]?=some (some v):=e2;have e1:N[i]?=some x:=e1;unfold jM at E7;rw[PD]at E7;rw[PK]at e2;cases q:ix[i]? with
  |none=>rw[q]at e2;cases e2
  |some o=>
   rw[q]at e2;have e2:(o.bind fun i=>(σ[i]?).bind id)=some v:=P0 e2;cases o with
   |none=>cases e2
   |some j=>
    have e2:(σ[j]?).bind id=some v:=e2;have hσ:σ[j]?=some (some v):=by
     cases w':σ[j]? with
     |none=>rw[w']at e2;cases e2
     |some y=>rw[w']at e2;exact QN some e2
    have hz:(N.zip ix)[i]?=some (x,some j):=by
     rw[Rr];exact⟨e1,q⟩
    have hy:=P8.mp E7.2 _ (Qj hz);simp only[PD,P5]at hy;have Mq:(x,NameKind.free)∈scope.names:=QK hy.2;obtain⟨c,c1,c2⟩:=jN I.ok hf Mq;have nc:(x,NameKind.cell)∉scope.names:=fun z=>by
     have:=(Eb _ z rfl).symm.trans hy.2;cases this
    have c1:(cellsFrom (C+1) scope.names (clOf scope X.env)).lookup x=some c:=(qx _ _ _ nc).trans c1;have Mr:X.env.kindOf x=some .cell\/X.env.kindOf x=some .free:=by
     have:=P8.mp hf _ Mq;simpa using this
    obtain⟨mo,K3,Hv⟩:=I.loc;obtain⟨u,r,l⟩:=Hv j x v hy.1 hσ (.inr Mr);refine⟨u,r,.inr ⟨gT hy.2,c,c1,?_⟩⟩;rcases l with⟨k1,_⟩|⟨_,c',e',IV⟩
    ·rcases Mr with k2|k2 <;> (rw[k1]at k2;cases k2)
    ·rw[c2]at e';cases e';obtain⟨o,ho,hd⟩:=IV;exact⟨o,old c o ho,hd⟩
 ·rcases cs e with e|⟨_,e2⟩
  ·obtain⟨v,q⟩:=I.cell x c e;exact⟨v,q.keeps old⟩
  ·exact⟨none,e2⟩
 ·exact Hw C (I.hok.fresh EM) (Rj DC)
 ·rcases cs e with e|⟨e1,_⟩
  ·obtain⟨v,o,ho,hd⟩:=I.cell x c e;exact Hw c (I.freeC x c e) (JM c o ho)
  ·refine Hw c (I.hok.fresh (PN EM (RN e1))) fun z=>?_
   subst z;rw[hD,hC]at e1;exact absurd (PN (RU _) e1) (Nat.not_succ_le_self _)
 ·have hp:p∈X.pn++pr:=by
   have:p∈(X.pn++pr)++[]:=hp
   rwa [PU]at this
  obtain⟨e,nn,ne,nf,d⟩:=I.pin p hp;refine⟨old _ _ e,Hw _ nn (JM _ _ e),Hr _ _ e,fun z=>?_,d⟩;exact(Pw.mp (I.stkSub p.1 z)).elim ne nf
 ·unfold jM at E7;rw[PD]at E7;have:N.length=ix.length:=by simpa using E7.1
  show(ix.map _).length=N.length;rw[PQ,this]
theorem _root_.L2.Inv.unblockK{C:Addr}{σ1:L2.St}{H1:Hp}{s1:Shared}{h2:Heap}(I:Inv X pr σ H s)(fo:∀b∈fp,kN X pr H b)(hC:s.heap.objs.size<=C)(J:Inv (aY X scope N C s H fp (X.pn++pr)) [] σ1 H1 s1)(hs:Heap.SameBut C s1.heap h2):
  Inv X pr σ H1 {s1 with heap:=h2}:=by
 have Hr:∀b o,s.heap.get? b=some o->b≠C:=fun b o e=>PB (Po (Pr e) hC)
 have bb:Un (HR X.stack) fp H H1 s.heap s1.heap:=J.base;have jf:H1 C=none:=J.free;refine I.call' (s':={s1 with heap:=h2}) (ch:=fp) J.os ⟨fun b o e n hb hx=>?_,fun b o e n hb hx=>?_,bb.free,fun b o e hx=>?_,bb.tups,bb.frzs,bb.tbls⟩ (fun b ob e=>?_) J.bare fun b hb=>?_
 ·exact(hs.2 b (Hr b o e)).trans (bb.keep b o e n hb hx)
 ·obtain⟨sl,q⟩:=bb.slot b o e n hb hx;exact⟨sl,(hs.2 b (Hr b o e)).trans q⟩
 ·obtain⟨o',q⟩:=bb.there b o e hx;exact⟨o',(hs.2 b (Hr b o e)).trans q⟩
 ·refine(J.hok b ob e).stay (fun c w' hc q=>(hs.2 c ?_).trans q) (fun _ q=>q) fun _ _ q=>q
  rintro rfl;rcases hc with rfl|hc
  ·rw[jf]at e;cases e
  ·rw[jf]at hc;cases hc
 ·obtain⟨f0,f1,f2,f3,f4,f5⟩:=fo b hb;exact⟨f3,f1,f4,f5⟩
end
section
variable{X:Cx}{scope:Scope}{N:List Str}{ix:List (Option Nat)}{tg iter elt:Expr}{ifs:List Expr}{pos:Pos}{wi:TI}{g:TG}{tc:TT}{te:TE}
theorem ir{pr:List (Addr×Obj)}{σ:L2.St}{H2:Hp}{s2:Shared}{J:It}{fp:List Addr}{it:Addr}{tn:Nat->Heap->Prop}{Q:VK}{RR:Value->Addr->Result->Shared->Prop}{E:Value->Shared->Prop}
  (hc:X.calm=true) (I2:Inv X pr σ H2 s2) (T:Turn X.prog X.w X.K tg J fp it tn) (D5:tn 0 s2.heap) (f2:∀b∈fp,kN X pr H2 b)
  (hg:∀C s H fp pn,PG (aY X scope N C s H fp pn) tg g) (ht:∀C s H fp pn,JL (aY X scope N C s H fp pn) ifs tc) (he:∀C s H fp pn,PE (aY X scope N C s H fp pn) elt te)
  (hf:cp scope X.env=true) (hk:scope.kind=.function) (Eb:∀y∈scope.names,y.2=.cell->scope.names.lookup y.1=some .cell) (E7:jM X scope N ix=true)
  (q:∀D,H2 D=none->∃W:Nat->Nat->L2.St->Hp->Prop,(∃m,W 0 m (dk ix σ) (upd H2 D (.lst [])))/\
   ∀i m σ1 H3,W i m σ1 H3->(J.stop i H3/\Q (.ref D) H3)\/(J.go i H3/\∀x H4,J.yld i H3 x H4->g x σ1 H4 fun σ2 H5=>tc σ2 H5 fun b H6=>if b=true then te σ2 H6 fun v H7=>
    ∃ys,H7 D=some (.lst ys)/\ys.length<sizeLine/\∃m',m'<m/\W (i+1) m' σ2 (upd H7 D (.lst (ys++[v]))) else ∃m',m'<m/\W (i+1) m' σ2 H6))
  (NW:∀(D C:Addr) (σ1:L2.St) (H1:Hp) (s1:Shared),s2.heap.objs.size<=C->Inv (aY X scope N C s2 H2 fp (X.pn++pr)) [] σ1 H1 s1->Q (.ref D) H1->RR (.ref D) C (.ok .next) s1):
  wpAny (model X.prog X.w) X.A (newList []) (fun acc s₃=>wpAny (model X.prog X.w) X.A (newFunctionEnv scope X.env.globals (clOf scope X.env) [] X.env.qual none .none (some X.env)) (fun I0 s₄=>
   codeAny (model X.prog X.w) X.A (.compStart (.ListComp elt [⟨tg,iter,ifs,0⟩] scope pos) 0 (.ref it) acc {I0 with scope:=relabel scope X.env}) (RR acc I0.locals) s₄) E s₃) E s2:=by
 refine Q5 (wp_blockEnv ?_);dsimp only;generalize hH2:s2.heap.push {cls:=.type "list",dict:=none,data:=.seq ([]:List Value).toArray}=HH;have hC:HH.objs.size=s2.heap.objs.size+1:=by rw[<-hH2,Qq]
 have OJ:s2.heap.objs.size≠HH.objs.size:=by rw[hC];exact PB (P9 _)
 have Iu:s2.heap.objs.size<=HH.objs.size:=by rw[hC];exact RU _
 have Hr:∀b o,s2.heap.get? b=some o->b≠HH.objs.size:=fun b o e=>PB (Po (Pr e) Iu)
 have JO:∀b o,s2.heap.get? b=some o->(HH.push {cls:=.type "dict",data:=.dict #[]}).get? b=some o:=fun b o e=>Pm _ (hH2▸Pm _ e)
 have old:∀b o,s2.heap.get? b=some o->(pushCells (HH.push {cls:=.type "dict",data:=.dict #[]}) scope.names).get? b=some o:=fun b o e=>TH _ _ b o (JO b o e)
 have GV:(HH.push {cls:=.type "dict",data:=.dict #[]}).get? s2.heap.objs.size=some {cls:=.type "list",data:=.seq #[] 0}:=Pm _ (hH2▸Pz _ rfl);obtain⟨W,⟨m0,w0⟩,turn⟩:=q s2.heap.objs.size (I2.hok.fresh (Pt _));have fin:∀b∈fp,∃o,s2.heap.get? b=some o:=fun b hb=>let⟨o,e,_⟩:=T.obj 0 _ D5 b hb;⟨o,e⟩
 have Gz:∀{H':Hp},(∀b∈fp,H' b=none)->∀b∈fp,kN (aY X scope N HH.objs.size s2 H2 fp (X.pn++pr)) [] H' b:=fun{H'} hn b hb=>by
  obtain⟨f0,f1,ff,f3,f4,f5⟩:=f2 b hb;refine⟨hn b hb,?_,fun z=>?_,.inl hb,fun x c e=>?_,fun p hp=>?_⟩
  ·intro z;have z:b=HH.objs.size:=z;obtain⟨o,ho⟩:=fin b hb;exact Hr b o ho z
  ·exact(Pw.mp (I2.stkSub b z)).elim f1 ff
  ·have e:(cellsFrom (HH.objs.size+1) scope.names (clOf scope X.env)).lookup x=some c:=e;have sz:(HH.push {cls:=.type "dict",data:=.dict #[]}).objs.size=HH.objs.size+1:=Qq ..;rw[<-sz]at e;rcases h8 scope.names _ _ e with e|⟨e1,_⟩
   ·exact f4 x c (eE I2.ok hf e)
   ·intro z;subst z;obtain⟨o,ho⟩:=fin c hb;rw[sz]at e1;exact absurd (Po (Pr ho) (PN Iu (RN e1))) (QH _)
  ·have hp:p∈X.pn++pr:=by
    have:p∈(X.pn++pr)++[]:=hp
    rwa [PU]at this
   exact f5 p hp
 have loop:∀s₃:Shared,s₃={s2 with heap:=pushCells (HH.push {cls:=.type "dict",data:=.dict #[]}) scope.names}->
   codeAny (model X.prog X.w) X.A (.compLoop (.ListComp elt [⟨tg,iter,ifs,0⟩] scope pos) 0 (.ref it) (.ref s2.heap.objs.size) (compEnvC scope (cellsFrom (HH.objs.size+1) scope.names (clOf scope X.env)) HH.objs.size X.env)) (RR (.ref s2.heap.objs.size) HH.objs.size) s₃:=by
  rintro s₃ rfl;refine k7 (fun n s'=>∃i σ' H',Inv (aY X scope N HH.objs.size s2 H2 fp (X.pn++pr)) [] σ' H' s'/\tn i s'.heap/\(∀b∈fp,H' b=none)/\W i n σ' H') ?_ m0
   ⟨0,_,_,I2.blockK hf hk Eb E7 f2 fin rfl hC (Qq ..) JO GV (Heap.Ns.new ..),T.keep 0 _ _ D5 fun b _ o e=>old b o e,fun b hb=>?_,w0⟩
  ·rintro n s3 ⟨i,σ3,H3,I3,En,Kw,w3⟩;rcases turn i n σ3 H3 w3 with⟨stop,qn⟩|⟨go,step⟩
   ·refine Eg (T.done (aY X scope N HH.objs.size s2 H2 fp (X.pn++pr)) rfl rfl rfl hc i [] s3 σ3 H3 IZ I3 (Gz Kw) En stop) fun r s4 Ee=>?_
    obtain⟨hr,I4⟩:=Ee;subst hr;exact NW _ _ σ3 H3 s4 Iu I4 qn
   ·refine Eg (T.item (aY X scope N HH.objs.size s2 H2 fp (X.pn++pr)) rfl rfl rfl hc i [] s3 σ3 H3 IZ I3 (Gz Kw) En go) fun r s4 Ee=>?_
    obtain⟨u,hr,h4⟩:=Ee;subst hr;refine Eg h4 fun _ s5 Ee=>?_
    obtain⟨x,H5,I5,r5,y5,Fo,Mg⟩:=Ee;have Mh:=I5.pinned (Gz Mg) (T.obj _ _ Fo);refine Eg (hg _ _ _ _ _ _ s5 σ3 H5 x u _ Mh r5 (step x H5 y5)) fun _ s6 Ee=>?_
    obtain⟨σ6,H6,I6,q6⟩:=Ee;refine Eg (ht _ _ _ _ _ _ s6 σ6 H6 _ I6 q6) fun ok s7 Ee=>?_
    obtain⟨H7,I7,q7⟩:=Ee;have again:∀{H8:Hp}{s8:Shared},Inv (aY X scope N HH.objs.size s2 H2 fp (X.pn++pr)) ([]++je fp s5.heap) σ6 H8 s8->(∃m',m'<n/\W (i+1) m' σ6 H8)->
      ∃m,m<n/\∃i σ' H',Inv (aY X scope N HH.objs.size s2 H2 fp (X.pn++pr)) [] σ' H' s8/\tn i s8.heap/\(∀b∈fp,H' b=none)/\W i m σ' H':=fun{H8 s8} I8 ⟨m',hm,w8⟩=>by
     refine⟨m',hm,i+1,σ6,H8,I8.unpinned,T.keep _ _ _ Fo fun b hb o e=>(I8.pin (b,o) (Pj _ (Pj _ (cV hb e)))).1,fun b hb=>?_,w8⟩;obtain⟨o,e,d⟩:=T.obj _ _ Fo b hb;exact(I8.pin (b,o) (Pj _ (Pj _ (cV hb e)))).2.1
    cases ok with
    |false=>exact again I7 q7
    |true=>
     show wpAny _ _ _ _ _ _;refine Eg (he _ _ _ _ _ _ s7 σ6 H7 _ I7 q7) fun x8 s8 Ee=>?_
     obtain⟨v8,H8,I8,r8,ys,NY,ED,q8⟩:=Ee;refine Eg (gj _ s8 σ6 H8 (.ref s2.heap.objs.size) [v8] (.ref s2.heap.objs.size) [x8] (fun _ H9=>∃m',m'<n/\W (i+1) m' σ6 H9) I8 rfl (.cons r8 .nil) ⟨_,ys,v8,rfl,rfl,NY,ED,q8⟩) fun _ s9 Ee=>?_
     obtain⟨_,H9,I9,_,q9⟩:=Ee;exact again I9 q9
  ·rw[ai (fun z=>by
    obtain⟨o,ho⟩:=fin b hb;exact absurd z (PB (Pr ho)))]
   exact(f2 b hb).1
 exact codeAny_compStart_list (loop _ rfl) (T.self _ 0 _ _ _ (T.keep 0 _ _ D5 fun b _ o e=>old b o e) (loop _ rfl))
theorem t6(ix:List (Option Nat))(N:List Str)(hc:X.calm=true)(hi:PI X tg iter wi)(hg:∀C s H fp pn,PG (aY X scope N C s H fp pn) tg g)(ht:∀C s H fp pn,JL (aY X scope N C s H fp pn) ifs tc)(he:∀C s H fp pn,PE (aY X scope N C s H fp pn) elt te)
  (hf:cp scope X.env=true:=by rfl) (hk:scope.kind=.function:=by rfl) (Eb:∀y∈scope.names,y.2=.cell->scope.names.lookup y.1=some .cell:=by decide +kernel) (Eh:∀y∈scope.names,y.2=.local->scope.names.lookup y.1=some .local:=by decide +kernel) (E7:jM X scope N ix=true:=by rfl)
  (hs:∀x,foldedSetIterable iter X.env x=pure x:=by intro _;rfl):PE X (.ListComp elt [⟨tg,iter,ifs,0⟩] scope pos) (mv wi ix g tc te):=by
 intro pr s σ H Q I h;rw[eval_ListComp];have GD:closureFor scope X.env=pure (clOf scope X.env):=by
  unfold closureFor clOf;have:=cW X.env scope.names [] (gm I.ok hf);simpa using this
 refine Rx (use:=none) rfl hs GD hk Eh (Eg (hi pr s σ H _ I h) fun v s1 h1=>Eg h1 fun LX s2 h2=>?_);obtain⟨it,fp,tn,J,H2,e,I2,T,D5,f2,q⟩:=h2;subst e;refine ir (RR:=fun acc C=>compPost (model X.prog X.w) X.A X.xe none (EP X pr σ Q) acc C) (Q:=Q) (iter:=iter) hc I2 T D5 f2 hg ht he hf hk Eb E7 q fun D C σ1 H1 s1 hC J1 q1=>?_
 obtain⟨m,ns,_⟩:=J1.loc;exact⟨m,ns,fun h' K8=>⟨.ref D,H1,I2.unblockK f2 hC J1 K8,rfl,q1⟩⟩
end
noncomputable def CXC(P:Program)(w:World)(base:Heap)(C:Addr):CXT:=fun outer H s E e s'=>
 ∃(a t:Addr) (B:Heap) (H':Hp),e=.ref a/\s'.os=s.os/\AllBare s'.gens/\Un (HR outer) [] H H' s.heap s'.heap/\HOk P w H' s'.heap/\Heap.FlyingW B outer a (.ref C) (.ref t) s'.heap/\
  (∀b u,s'.heap.get? b=some u->(H' b≠none\/∃o,s.heap.get? b=some o)->b∉HR outer->B.get? b=some u)/\E (.ref C) none H'
section
variable{X:Cx}{st:Stmt}{aO:List Stmt}{t:TS}{u u':L2.St->Hp->Prop}{e:Expr}{es:List Expr}{x:Str}{C:Addr}{Ww:Hp->Prop}{np Eu pos:Pos}
end
def XP(X:Cx)(pr:List (Addr×Obj))(σ:L2.St)(C:Addr)(Ww:Hp->Prop)(e:Value)(s':Shared):Prop:=∃(s1:Shared) (H1:Hp),Inv X pr σ H1 s1/\CXC X.prog X.w X.base C X.stack H1 s1 (fun _ _ H'=>Ww H') e s'
abbrev TX:=L2.St->Hp->(Hp->Prop)->Prop
section
variable{X:Cx}{st:Stmt}{aO:List Stmt}{tx:TX}{e a b:Expr}{es:List Expr}{x:Str}{C:Addr}{k:Nat}{sp:Sp}{p pos:Pos}
end
open PySem.Builtin.ObjectAttr PySem.Builtin.Getset_descriptor
section
variable{prog:Program}{w:World}{A:Around}{E:Value->Shared->Prop}{s:Shared}{K:W.Frag}{x D:Addr}
end
section
variable{X:Cx}{pr:List (Addr×Obj)}{σ:L2.St}{H:Hp}{s:Shared}{a:Addr}{o:Obj}
end
end NX
namespace NX
open PySem PySem.W PySem.Spec PyProof.Rows L2
section
variable{prog:Program}{w:World}{A:Around}{E:Value->Shared->Prop}{s:Shared}
end
section
variable{X:Cx}
end
end NX
namespace NX
open PySem PySem.Spec PyProof.Rows L2
abbrev eB(h:Heap)(k:Bool)(l:Addr):Heap:=(zA h k l).push {cls:=.type "enumerate",data:=.fields #[.none,.bool false,.ref h.objs.size,rawInt 0,.none,.none]}
set_option maxHeartbeats 8000000 in
theorem zx(k:Bool)(l:Addr)(xs:Array Value):
  Meets (Builtin.«enumerate.__new__» ⟨[.type "enumerate",.ref l],[]⟩) (fun _ R s=>IsSq k s.heap l xs/\R (.ok (.ret (.ref (zA s.heap k l).objs.size))) {s with heap:=eB s.heap k l}):=
 .of_wp fun prog w A R s h=>by
  obtain⟨hp,g,d,tk,os⟩:=s;obtain⟨g1,q⟩:=h;have hsub:=sub_enumerate;cases k with
  |true=>
   obtain⟨o,ho,_⟩:=id (show Heap.IsList hp l xs from g1);have e1:Heap.IsList (Shared.heap ⟨hp,g,d,tk,os⟩) l xs:=g1;have hl:(Shared.heap ⟨hp,g,d,tk,os⟩).get? l=some o:=ho
   wp_walk using QL hl
   refine wpAny_stack_any fun sk=>Py ?_
   split
   ·rename_i c _ _ _ _ _;cases(c==Value.type "enumerate") <;> (wp_walk using QL hl,Q3 e1;exact⟨_,rfl,q⟩)
   ·wp_walk using QL hl,Q3 e1
    exact⟨_,rfl,q⟩
  |false=>
   obtain⟨o,ho,_⟩:=id (show Heap.IsTuple hp l xs from g1);have e1:Heap.IsTuple (Shared.heap ⟨hp,g,d,tk,os⟩) l xs:=g1;have hl:(Shared.heap ⟨hp,g,d,tk,os⟩).get? l=some o:=ho
   wp_walk using QL hl
   refine wpAny_stack_any fun sk=>Py ?_
   split
   ·rename_i c _ _ _ _ _;cases(c==Value.type "enumerate") <;> (wp_walk using QL hl,QR e1;exact⟨_,rfl,q⟩)
   ·wp_walk using QL hl,QR e1
    exact⟨_,rfl,q⟩
def ES(k:Bool)(e it l:Addr)(i:Nat)(h:Heap):Prop:=(∃old,IsEnum h e it i old)/\IsIt k h it l i
theorem xg{prog:Program}{w:World}{A:Around}{E:Value->Shared->Prop}{s:Shared}{k:Bool}{l:Addr}{xs:Array Value}{Q:Value->Shared->Prop}(g1:IsSq k s.heap l xs)
  (q:∀h',ES k (s.heap.objs.size+1) (s.heap.objs.size+0) l 0 h'->(∀c o,s.heap.get? c=some o->h'.get? c=some o)->Q (.ref (s.heap.objs.size+1)) {s with heap:=h'}):
  wpAny (model prog w) A (call (.type "enumerate") [.ref l]) Q E s:=by
 refine callType_new F.called_enumerate (by decide) (F.typeCall_enumerate_1 _) (F.newCall_enumerate_1 _) (fun obj=>F.args_object_init_2 obj _) F.entry_enumerate_new (zx k l xs) ⟨g1,?_⟩;have nA:(zA s.heap k l).objs.size=s.heap.objs.size+1:=Qq ..;have gz:(eB s.heap k l).get? (zA s.heap k l).objs.size=some _:=Pz _ rfl;have j1:IsIt k (eB s.heap k l) s.heap.objs.size l 0:=(jP k s.heap l).at fun o e=>Pm _ e
 show _/\_;rw[nA]at gz ⊢;exact⟨⟨_,gz,rfl⟩,q _ ⟨⟨_,gz⟩,j1⟩ fun c o x=>Pm _ (Pm _ x)⟩
theorem nJ{prog:Program}{w:World}{A:Around}(k:Bool)(hh:A.handled=none)(it l:Addr)(ne:l≠it)(xs:Array Value):
  Draws prog w A it [it,l] xs.size (fun i v=>xs[i]?=some v) (fun i h=>IsIt k h it l i/\IsSq k h l xs) where
 live:=fun i h st=>by obtain⟨o,e,_⟩:=st.1.obj;exact⟨o,e⟩
 frame:=fun i h h' st kk=>⟨st.1.at fun o e=>kk it (by simp) o e,st.2.at fun o e=>kk l (by simp) o e⟩
 item:=fun i s Q E hi st q=>jO st.1 st.2 (x:=xs[i]) (by simp[hi]) fun h' j sb=>q _ h' s.toks (by simp[hi]) ⟨j,st.2.at fun o e=>sb.extBut _ _ ne e⟩ sb
 done:=fun s Q E st q=>qh hh st.1 st.2 (by simp) q
noncomputable def N5(K:W.Frag)(k:Bool)(a:Addr):It:=
 ⟨fun i H=>∃xs x,(if k then SqL K H a xs else SqT K H a xs)/\xs[i]?=some x,
  fun i H v H'=>∃T,H T=none/\v=.ref T/\∀xs x,(if k then SqL K H a xs else SqT K H a xs)->xs[i]?=some x->H'=upd H T (.tup [.int (i:Int),x]),
  fun i H=>∃xs,(if k then SqL K H a xs else SqT K H a xs)/\i=xs.length⟩
theorem qy{P:Program}{w:World}{K:W.Frag}{es:List Expr}{kt:Nat}{pt:Pos}(k:Bool)(a e it:Addr)(ne:e≠it):
  Turn P w K (.Tuple es kt pt) (N5 K k a) [e,it] e (ES k e it a) where
 mem:=by simp
 obj:=fun i h st c hc=>by
  obtain⟨⟨old,he⟩,h1⟩:=st;simp only[Pw,Qt,Sz]at hc;rcases hc with rfl|rfl
  ·exact⟨_,he,fun v q=>by cases q⟩
  ·exact h1.obj
 keep:=fun i h h' st k=>by
  obtain⟨⟨old,he⟩,h1⟩:=st;exact⟨⟨old,k e (by simp) _ he⟩,h1.at fun o x=>k it (by simp) o x⟩
 item:=by
  intro X hP hw hK hc i pr s σ H E I hf st hg;subst hP hw hK;obtain⟨xs,x,s1,hx⟩:=hg;obtain⟨us,r1,q1⟩:=jQ I s1;obtain⟨u,hu,ru⟩:=r1.get hx;have fe:=hf e (by simp);have fi:=hf it (by simp);have na:a≠it:=dO I s1 fi;have nb:a≠e:=dO I s1 fe;obtain⟨⟨old,he⟩,h1⟩:=st;have lt:i<us.toArray.size:=by
   rw[Pl];exact(Pn.mp hu).1
  have dr:Draws X.prog X.w X.A.in1 it [it,a] us.toArray.size (fun i v=>us.toArray[i]?=some v) (fun i h=>IsIt k h it a i/\IsSq k h a us.toArray):=nJ k (show X.A.in1.handled=none from I.ok.hd hc) it a na us.toArray;refine wpAny_pyNext_enum_itemD dr he ⟨h1,q1⟩ lt ne (by simp[ne,nb.symm]) fun v h' tk hv z1 j1 tp sz kk=>⟨_,rfl,?_⟩
  have hv:v=u:=by
   have Nr:us[i]?=some v:=by simpa using hv
   rw[hu]at Nr;cases Nr;rfl
  subst hv;refine wpAny_letOwnedTupleGo_enum z1 fun h2 z2 sb=>?_
  have nT:H s.heap.objs.size=none:=I.hok.fresh (Pt _);have tT:s.heap.objs.size≠e:=RI (Pr he);have tI:s.heap.objs.size≠it:=by
   obtain⟨o,x,_⟩:=h1.obj;exact RI (Pr x)
  have all:∀c o,c≠e->c≠it->s.heap.get? c=some o->h2.get? c=some o:=fun c o c1 c2 x=>(sb.2 c c1).trans (kk c o c1 c2 x)
  have HV:∀c ob,H c=some ob->c≠e/\c≠it:=fun c ob x=>⟨(fun q=>by rw[q,fe.1]at x;cases x),fun q=>by rw[q,fi.1]at x;cases x⟩
  refine⟨.ref s.heap.objs.size,upd H s.heap.objs.size (.tup [.int (i:Int),x]),?_,rfl,⟨_,nT,rfl,fun EZ x' a1 a2=>?_⟩,⟨⟨v,z2⟩,j1.1.at fun o y=>(sb.2 it ne.symm).trans y⟩,fun c hc=>?_⟩
  ·have K9:h2.get? s.heap.objs.size=some {cls:=.type "tuple",data:=.seq #[.int i tk,v]}:=(sb.2 _ tT).trans tp;have S0:Inv X pr σ (upd H s.heap.objs.size (.tup [.int (i:Int),x])) {s with heap:=h2,gens:=s.gens,drawn:=s.drawn,toks:=tk+1}:=by
    refine I.step (ch:=[e,it]) (fun c hc=>?_) (fun c o _ _ nc y _=>all c o (fun q=>nc (by simp[q])) (fun q=>nc (by simp[q])) y)
     (fun c o _ _ nc y _=>⟨o.slots,all c o (fun q=>nc (by simp[q])) (fun q=>nc (by simp[q])) y⟩) (fun c o _ y n=>by rw[ai (PB (Pr y))];exact n)
     (fun c o nc y=>⟨o,all c o (fun q=>nc (by simp[q])) (fun q=>nc (by simp[q])) y⟩) (fun c l y=>by rw[ai (aA y nT)];exact y) (fun c o u' y=>by rw[ai (aA y nT)];exact y)
     (fun c ps y=>⟨#[],by rw[ai (aA y nT),y];simp⟩) (fun m hm=>?_) (fun c ob y=>?_) I.bare
    ·simp only[Pw,Qt,Sz]at hc;rcases hc with rfl|rfl
     ·exact⟨fe.2.2.2.1,fe.2.1,fe.2.2.2.2.1,fe.2.2.2.2.2⟩
     ·exact⟨fi.2.2.2.1,fi.2.1,fi.2.2.2.2.1,fi.2.2.2.2.2⟩
    ·obtain⟨o,es,ep,ho,r⟩:=hm;exact⟨o,es,ep,all _ o (Rj fe.2.1) (Rj fi.2.1) ho,r⟩
    ·by_cases ec:c=s.heap.objs.size
     ·subst ec;rw[ay]at y;cases y;exact⟨by simp only[PH,Q7];rw[S3];decide,[.int i tk,v],.cons ⟨tk,rfl⟩ (.cons ru .nil),⟨_,K9,rfl,⟨0,rfl⟩,rfl⟩⟩
     ·rw[ai ec]at y;refine(I.hok c ob y).stay (fun d w' hd q=>?_) (fun d q=>by rw[ai (aA q nT)];exact q) fun d l q=>by rw[ai (aA q nT)];exact q
      have JI:∃oo,H d=some oo:=by
       rcases hd with rfl|hd
       ·exact⟨_,y⟩
       ·exact⟨_,hd⟩
      obtain⟨oo,La⟩:=JI;obtain⟨m1,m2⟩:=HV d oo La;exact all d w' m1 m2 q
   exact S0
  ·have e1:=qi I a1 s1;subst e1;rw[hx]at a2;cases a2;rfl
  ·have cs:c≠s.heap.objs.size:=by
    simp only[Pw,Qt,Sz]at hc;rcases hc with rfl|rfl
    ·exact tT.symm
    ·exact tI.symm
   rw[ai cs];exact(hf c hc).1
 done:=by
  intro X hP hw hK hc i pr s σ H E I hf st hg;subst hP hw hK;obtain⟨xs,s1,hi⟩:=hg;obtain⟨us,r1,q1⟩:=jQ I s1;have l1:=r1.length;have fe:=hf e (by simp);have fi:=hf it (by simp);have na:a≠it:=dO I s1 fi;obtain⟨⟨old,he⟩,h1⟩:=st;have hn:i=us.toArray.size:=by rw[Pl,hi,l1]
  subst hn;have dr:Draws X.prog X.w X.A.in1 it [it,a] us.toArray.size (fun i v=>us.toArray[i]?=some v) (fun i h=>IsIt k h it a i/\IsSq k h a us.toArray):=nJ k (show X.A.in1.handled=none from I.ok.hd hc) it a na us.toArray;refine wpAny_pyNext_enum_endD dr he ⟨h1,q1⟩ fun h' kk=>⟨rfl,?_⟩
  have HV:∀c ob,H c=some ob->c≠it:=fun c ob x q=>by rw[q,fi.1]at x;cases x
  have S0:Inv X pr σ H {s with heap:=h',gens:=s.gens,drawn:=s.drawn,toks:=s.toks}:=by
   refine I.step (ch:=[it]) (fun c hc=>?_) (fun c o _ _ nc y _=>kk c o (fun q=>nc (by simp[q])) y)
    (fun c o _ _ nc y _=>⟨o.slots,kk c o (fun q=>nc (by simp[q])) y⟩) (fun c o _ y n=>n)
    (fun c o nc y=>⟨o,kk c o (fun q=>nc (by simp[q])) y⟩) (fun c l y=>y) (fun c o u' y=>y)
    (fun c ps y=>⟨#[],by rw[y];simp⟩) (fun m hm=>?_) (fun c ob y=>?_) I.bare
   ·rw[Qf.mp hc];exact⟨fi.2.2.2.1,fi.2.1,fi.2.2.2.2.1,fi.2.2.2.2.2⟩
   ·obtain⟨o,es,ep,ho,r⟩:=hm;exact⟨o,es,ep,kk _ o (Rj fi.2.1) ho,r⟩
   ·refine(I.hok c ob y).stay (fun d w' hd q=>?_) (fun d q=>q) fun d l q=>q
    have JI:∃oo,H d=some oo:=by
     rcases hd with rfl|hd
     ·exact⟨_,y⟩
     ·exact⟨_,hd⟩
    obtain⟨oo,La⟩:=JI;exact kk d w' (HV d oo La) q
  exact S0
 self:=fun _ _ _ _ _ st h=>by
  obtain⟨⟨old,he⟩,_⟩:=st;exact wpAny_pyIter_enum he h
section
variable{X:Cx}{es:List Expr}{kt:Nat}{pt:Pos}
def BF(K:W.Frag)(k:Bool)(ta:TA):TI:=fun σ H R=>ta σ H fun vs H1=>∃a xs,vs=[.ref a]/\(if k then SqL K H1 a xs else SqT K H1 a xs)/\R (N5 K k a) H1
theorem xh(k:Bool){e1:Expr}{ta:TA}{p pos:Pos}(hg:Gl X "enumerate")(hm:X.mg "enumerate" = none)(ha:PA X [e1] ta)(he:starEach [e1] X.env=[(false,eval e1 X.env)]:=by rfl):
  PI X (.Tuple es kt pt) (.Call (.Name "enumerate" p) [e1] [] pos) (BF X.K k ta):=by
 intro pr s σ H R I h;refine Rb (gQ I hg hm (by decide +kernel:bootBuiltins "enumerate" = some (.type "enumerate")) ?_ (by decide) (by decide));refine Qv (Eg (ha pos pr s σ H _ I h) fun us s1 ⟨vs,H1,I1,r1,a,xs,e,N2,q⟩=>?_) he rfl;subst e;cases r1 with
 |cons r rr=>
  cases rr;cases r;obtain⟨us,v1,q1⟩:=jQ I1 N2;refine xg q1 fun h' st kk=>?_
  obtain⟨⟨old,ho⟩,hi⟩:=id st;refine wpAny_pyIter_enum ho ?_;have fr:∀j,kN X pr H1 (s1.heap.objs.size+j):=fun j=>I1.fpOk (Sq _ _) (I1.hok.fresh (Sq _ _))
  refine⟨_,_,_,_,H1,rfl,I1.kept (t':=s1.toks) kk,qy k a (s1.heap.objs.size+1) (s1.heap.objs.size+0) (fun z=>by have:=T8 z;cases this),st,fun c hc=>?_,q⟩;simp only[Pw,Qt,Sz]at hc;rcases hc with rfl|rfl
  ·exact fr 1
  ·exact fr 0
end
section
variable{X:Cx}{scope:Scope}{N:List Str}{ix:List (Option Nat)}{tg iter elt:Expr}{ifs:List Expr}{pos:Pos}{wi:TI}{g:TG}{tc:TT}{te:TE}
theorem t7{i:Nat}{y:Str}{py Fe:Pos}(ix:List (Option Nat))(N:List Str)(hN:X.N.Nodup)(JN:X.N[i]?=some y)(hy:Loc X.env.scope y)(hc:X.calm=true)(hi:PI X tg iter wi)(hg:∀C s H fp pn,PG (aY X scope N C s H fp pn) tg g)(ht:∀C s H fp pn,JL (aY X scope N C s H fp pn) ifs tc)
  (he:∀C s H fp pn,PE (aY X scope N C s H fp pn) elt te) (Ja:swapsWith (.ListComp elt [⟨tg,iter,ifs,0⟩] scope pos) (some (.Name y py)) Fe.line X.env=pure true:=by rfl)
  (hf:cp scope X.env=true:=by rfl) (hk:scope.kind=.function:=by rfl) (Eb:∀y∈scope.names,y.2=.cell->scope.names.lookup y.1=some .cell:=by decide +kernel) (Eh:∀y∈scope.names,y.2=.local->scope.names.lookup y.1=some .local:=by decide +kernel) (E7:jM X scope N ix=true:=by rfl)
  (hs:∀x,foldedSetIterable iter X.env x=pure x:=by intro _;rfl) (Iq:X.fn y=true\/X.env.scope.names.lookup y=some .local:=by first|exact .inl rfl|exact .inr rfl):
  PS X (.Assign [.Name y py] (.ListComp elt [⟨tg,iter,ifs,0⟩] scope pos) Fe) (fun D σ H=>mv wi ix g tc te σ H fun v H'=>D.nx (σ.set i (some v)) H'):=by
 intro pr s σ H Dd I h;rw[exec_Assign_Name_used _ _ _ _ Ja];have GD:closureFor scope X.env=pure (clOf scope X.env):=by
  unfold closureFor clOf;have:=cW X.env scope.names [] (gm I.ok hf);simpa using this
 refine Ph (Uo (Ph ?_));show wpAny _ X.A (do let _ <-comprehension (.ListComp elt [⟨tg,iter,ifs,0⟩] scope pos) scope X.env _ (newList []) false (eval iter X.env) (some (assign (.Name y py) X.env))) _ _ s;refine Ph (RX (Rx (use:=some (assign (.Name y py) X.env)) (Q:=fun _ s'=>SP X pr Dd .next s') rfl hs GD hk Eh
  (Eg (hi pr s σ H _ I h) fun v s1 h1=>Eg h1 fun LX s2 h2=>?_)) (fun _ s' hq=>Py (Py hq)) fun _ _ e=>e)
 obtain⟨it,fp,tn,J,H2,e,I2,T,D5,f2,q⟩:=h2;subst e;refine ir (RR:=fun acc C=>compPost (model X.prog X.w) X.A X.xe (some (assign (.Name y py) X.env)) (fun _ s'=>SP X pr Dd .next s') acc C) (Q:=fun v H'=>Dd.nx (σ.set i (some v)) H') (iter:=iter) hc I2 T D5 f2 hg ht he hf hk Eb E7 q fun D C σ1 H1 s1 hC J1 q1=>?_
 obtain⟨m,ns,_⟩:=id J1.loc;have ns:s1.heap.Ns C m:=ns;have I3:Inv X pr σ H1 s1:=I2.unblockK f2 hC J1 (.refl ..);show wpAny _ X.A (assign (.Name y py) X.env (.ref D)) _ _ s1;refine SV (ig I3 hN JN hy (v:=.ref D) rfl (fun s4 I4 ⟨a,sb,ha⟩=>?_) Iq);have aC:C≠a:=by
  intro z;rcases ha with ha|ha
  ·exact PB (Po I2.lt hC) (ha▸z.symm)
  ·obtain⟨v,o,ho,_⟩:=I2.cell y a ha;exact PB (Po (Pr ho) hC) z.symm
 refine⟨m,ns.sameBut sb aC,fun h' K8=>?_⟩;have jf:H1 C=none:=J1.free;have kk:∀b o,b≠C->s4.heap.get? b=some o->h'.get? b=some o:=fun b o hb e=>(K8.2 b hb).trans e
 refine⟨σ.set i (some (.ref D)),H1,?_,q1⟩;have z:=I4.turned (t':=s4.toks) kk jf (fun z=>PB (Po I2.lt hC) z.symm) (.inr (PN I2.sz hC)) (fun x c e z=>by
  obtain⟨v,o,ho,_⟩:=I2.cell x c e;exact PB (Po (Pr ho) hC) z) (fun p hp z=>PB (Po (Pr (I2.pin p hp).1) hC) z)
 exact z
end
end NX
namespace PV
open PySem L2 NX
inductive D where
 |non|bl (b:Bool)|int (i:Int)|str (l:List Nat)|tup (ds:List D)|lst (ds:List D)|dct (tk:Bool) (ks vs:List D)
inductive O where
 |f|l (c:O)|t (cs:List O)|d|pin (p:Addr) (c:O)
abbrev R:=O×D
abbrev Env:=List (Option R)
inductive Res(α:Type) where
 |ok (a:α)|exc (c:List Nat)|bad
def kD:Key->D
 | .inl i=>.int i
 | .inr x=>.str x.cps.toList
def isM:HO->Bool
 | .lst _=>true
 | .dK _=>true
 | .dT _=>true
 |_=>false
def isT:HO->Bool
 | .tup _=>true
 | .frz _ (.tup _)=>true
 |_=>false
def fitK:Key->Prop
 | .inl _=>True
 | .inr x=>x.cps.toList.length<=sizeLine
def DictO(o:HO)(tk:Bool)(ks:List D)(xs:List V):Prop:=match tk with
 |true=>∃DS:List (List Key×V),o=.dT DS/\ks=DS.map (fun kv=>D.tup (kv.1.map kD))/\xs=DS.map (·.2)/\∀kv∈DS,∀k∈kv.1,fitK k
 |false=>∃DS:List (Key×V),o=.dK DS/\ks=DS.map (fun kv=>kD kv.1)/\xs=DS.map (·.2)/\∀kv∈DS,fitK kv.1
mutual
noncomputable def Rep(K:W.Frag)(G:Hp):D->V->Prop
 | .non,v=>v=.non
 | .bl b,v=>v=.bl b
 | .int i,v=>v=.int i
 | .str l,v=>v=.str (S l)/\l.length<=sizeLine
 | .tup ds,v=>∃p xs,v=.ref p/\G p=some (.tup xs)/\Reps K G ds xs
 | .lst ds,v=>∃p xs,v=.ref p/\SqL K G p xs/\Reps K G ds xs
 | .dct tk ks vs,v=>∃p xs o,v=.ref p/\Rd G p o/\DictO o tk ks xs/\Reps K G vs xs
noncomputable def Reps(K:W.Frag)(G:Hp):List D->List V->Prop
 |[],xs=>xs=[]
 |d::ds,xs=>∃y ys,xs=y::ys/\Rep K G d y/\Reps K G ds ys
end
def AllO(P:D->V->List Addr->Prop):List D->List V->List Addr->Prop
 |[],xs,fp=>xs=[]/\fp=[]
 |d::ds,xs,fp=>∃y ys a b,xs=y::ys/\fp=a++b/\P d y a/\AllO P ds ys b
mutual
noncomputable def RepO(K:W.Frag)(G H:Hp):O->D->V->List Addr->Prop
 | .f,d,v,fp=>Rep K G d v/\fp=[]
 | .l c,.lst ds,v,fp=>∃p xs D2,v=.ref p/\H p=some (.lst xs)/\fp=p::D2/\AllO (RepO K G H c) ds xs D2
 | .t cs,.tup ds,v,fp=>∃p xs,v=.ref p/\G p=some (.tup xs)/\RepT K G H cs ds xs fp
 | .d,.dct tk ks vs,v,fp=>∃p xs o,v=.ref p/\H p=some o/\DictO o tk ks xs/\fp=[p]/\Reps K G vs xs
 | .pin p c,d,v,fp=>v=.ref p/\RepO K G H c d v fp
 |_,_,_,_=>False
noncomputable def RepT(K:W.Frag)(G H:Hp):List O->List D->List V->List Addr->Prop
 |[],[],xs,fp=>xs=[]/\fp=[]
 |c::cs,d::ds,xs,fp=>∃y ys a b,xs=y::ys/\fp=a++b/\RepO K G H c d y a/\RepT K G H cs ds ys b
 |_,_,_,_=>False
end
section
variable{K:W.Frag}{G G' H H':Hp}
theorem Rd.mono{p:Addr}{u:HO}(h:Same G G')(r:Rd G p u):Rd G' p u:=by
 rcases r with r|⟨o,r⟩
 ·exact .inl (h _ _ r)
 ·exact .inr ⟨o,h _ _ r⟩
theorem ft{p:Addr}{xs:List V}(h:Same G G')(r:SqL K G p xs):SqL K G' p xs:=r.elim (fun r=>.inl (Rd.mono h r)) .inr
theorem bA{p:Addr}{xs:List V}(h:Same G G')(r:SqT K G p xs):SqT K G' p xs:=r.elim (fun r=>.inl (Rd.mono h r)) .inr
mutual
theorem Rep.mono(h:Same G G'):∀{d:D}{v:V},Rep K G d v->Rep K G' d v
 | .non,_,r=>by simpa only[Rep] using r
 | .bl _,_,r=>by simpa only[Rep] using r
 | .int _,_,r=>by simpa only[Rep] using r
 | .str _,_,r=>by simpa only[Rep] using r
 | .tup ds,_,r=>by
  simp only[Rep]at r ⊢;obtain⟨p,xs,e,q,rs⟩:=r;exact⟨p,xs,e,h _ _ q,Reps.mono h rs⟩
 | .lst ds,_,r=>by
  simp only[Rep]at r ⊢;obtain⟨p,xs,e,q,rs⟩:=r;exact⟨p,xs,e,ft h q,Reps.mono h rs⟩
 | .dct tk ks vs,_,r=>by
  simp only[Rep]at r ⊢;obtain⟨p,xs,o,e,q,dd,rs⟩:=r;exact⟨p,xs,o,e,Rd.mono h q,dd,Reps.mono h rs⟩
theorem Reps.mono(h:Same G G'):∀{ds:List D}{xs:List V},Reps K G ds xs->Reps K G' ds xs
 |[],_,r=>by simpa only[Reps] using r
 |d::ds,_,r=>by
  simp only[Reps]at r ⊢;obtain⟨y,ys,e,r1,r2⟩:=r;exact⟨y,ys,e,Rep.mono h r1,Reps.mono h r2⟩
end
theorem AllO.imp{P P':D->V->List Addr->Prop}:∀{ds:List D}{xs:List V}{fp:List Addr},(∀d v a,(∀p∈a,p∈fp)->P d v a->P' d v a)->AllO P ds xs fp->AllO P' ds xs fp
 |[],_,_,_,r=>r
 |d::ds,xs,fp,h,r=>by
  obtain⟨y,ys,a,b,e1,e2,p,q⟩:=r;subst e2;exact⟨y,ys,a,b,e1,rfl,h _ _ _ (fun p hp=>Pp _ hp) p,AllO.imp (fun d v c hc=>h d v c fun p hp=>Pj _ (hc p hp)) q⟩
mutual
theorem RepO.step(h:Same G G'):∀{o:O}{d:D}{v:V}{fp:List Addr},(∀p∈fp,H' p=H p)->RepO K G H o d v fp->RepO K G' H' o d v fp
 | .f,d,v,fp,hk,r=>by
  simp only[RepO]at r ⊢;exact⟨Rep.mono h r.1,r.2⟩
 | .pin p c,d,v,fp,hk,r=>by
  simp only[RepO]at r ⊢;exact⟨r.1,RepO.step h hk r.2⟩
 | .l c,.lst ds,v,fp,hk,r=>by
  simp only[RepO]at r ⊢;obtain⟨p,xs,D2,e,q,e2,a⟩:=r;subst e2;exact⟨p,xs,D2,e,(hk p Pq).trans q,rfl,AllO.imp (fun d v c hc=>RepO.step h fun z hz=>hk z (Pu _ (hc z hz))) a⟩
 | .t cs,.tup ds,v,fp,hk,r=>by
  simp only[RepO]at r ⊢;obtain⟨p,xs,e,q,a⟩:=r;exact⟨p,xs,e,h _ _ q,RepT.step h hk a⟩
 | .d,.dct tk ks vs,v,fp,hk,r=>by
  simp only[RepO]at r ⊢;obtain⟨p,xs,o,e,q,dd,e2,rs⟩:=r;subst e2;exact⟨p,xs,o,e,(hk p Pq).trans q,dd,rfl,Reps.mono h rs⟩
 | .l _,.non,_,_,_,r | .l _,.bl _,_,_,_,r | .l _,.int _,_,_,_,r | .l _,.str _,_,_,_,r | .l _,.tup _,_,_,_,r | .l _,.dct _ _ _,_,_,_,r=>by simp only[RepO]at r
 | .t _,.non,_,_,_,r | .t _,.bl _,_,_,_,r | .t _,.int _,_,_,_,r | .t _,.str _,_,_,_,r | .t _,.lst _,_,_,_,r | .t _,.dct _ _ _,_,_,_,r=>by simp only[RepO]at r
 | .d,.non,_,_,_,r | .d,.bl _,_,_,_,r | .d,.int _,_,_,_,r | .d,.str _,_,_,_,r | .d,.tup _,_,_,_,r | .d,.lst _,_,_,_,r=>by simp only[RepO]at r
theorem RepT.step(h:Same G G'):∀{cs:List O}{ds:List D}{xs:List V}{fp:List Addr},(∀p∈fp,H' p=H p)->RepT K G H cs ds xs fp->RepT K G' H' cs ds xs fp
 |[],[],_,_,_,r=>by simpa only[RepT] using r
 |c::cs,d::ds,xs,fp,hk,r=>by
  simp only[RepT]at r ⊢;obtain⟨y,ys,a,b,e1,e2,r1,r2⟩:=r;subst e2;exact⟨y,ys,a,b,e1,rfl,RepO.step h (fun p hp=>hk p (Pp _ hp)) r1,RepT.step h (fun p hp=>hk p (Pj _ hp)) r2⟩
 |[],_::_,_,_,_,r=>by simp only[RepT]at r
 |_::_,[],_,_,_,r=>by simp only[RepT]at r
end
theorem AllO.frozen{P:D->V->List Addr->Prop}:∀{ds:List D}{xs:List V}{fp:List Addr},(∀d v a,(∀p∈a,p∈fp)->P d v a->Rep K G' d v)->AllO P ds xs fp->Reps K G' ds xs
 |[],_,_,_,r=>by simp only[Reps];exact r.1
 |d::ds,xs,fp,h,r=>by
  obtain⟨y,ys,a,b,e1,e2,p,q⟩:=r;subst e2;simp only[Reps];exact⟨y,ys,e1,h _ _ _ (fun p hp=>Pp _ hp) p,AllO.frozen (fun d v c hc=>h d v c fun p hp=>Pj _ (hc p hp)) q⟩
mutual
theorem RepO.frozen(h:Same G G'):∀{o:O}{d:D}{v:V}{fp:List Addr},(∀p∈fp,∀u,H p=some u->G' p=some u)->RepO K G H o d v fp->Rep K G' d v
 | .f,d,v,fp,hk,r=>by
  simp only[RepO]at r;exact Rep.mono h r.1
 | .pin p c,d,v,fp,hk,r=>by
  simp only[RepO]at r;exact RepO.frozen h hk r.2
 | .l c,.lst ds,v,fp,hk,r=>by
  simp only[RepO]at r;simp only[Rep];obtain⟨p,xs,D2,e,q,e2,a⟩:=r;subst e2;exact⟨p,xs,e,SqL.of (hk p Pq _ q),AllO.frozen (fun d v c hc=>RepO.frozen h fun z hz=>hk z (Pu _ (hc z hz))) a⟩
 | .t cs,.tup ds,v,fp,hk,r=>by
  simp only[RepO]at r;simp only[Rep];obtain⟨p,xs,e,q,a⟩:=r;exact⟨p,xs,e,h _ _ q,RepT.frozen h hk a⟩
 | .d,.dct tk ks vs,v,fp,hk,r=>by
  simp only[RepO]at r;simp only[Rep];obtain⟨p,xs,o,e,q,dd,e2,rs⟩:=r;subst e2;exact⟨p,xs,o,e,.inl (hk p Pq _ q),dd,Reps.mono h rs⟩
 | .l _,.non,_,_,_,r | .l _,.bl _,_,_,_,r | .l _,.int _,_,_,_,r | .l _,.str _,_,_,_,r | .l _,.tup _,_,_,_,r | .l _,.dct _ _ _,_,_,_,r=>by simp only[RepO]at r
 | .t _,.non,_,_,_,r | .t _,.bl _,_,_,_,r | .t _,.int _,_,_,_,r | .t _,.str _,_,_,_,r | .t _,.lst _,_,_,_,r | .t _,.dct _ _ _,_,_,_,r=>by simp only[RepO]at r
 | .d,.non,_,_,_,r | .d,.bl _,_,_,_,r | .d,.int _,_,_,_,r | .d,.str _,_,_,_,r | .d,.tup _,_,_,_,r | .d,.lst _,_,_,_,r=>by simp only[RepO]at r
theorem RepT.frozen(h:Same G G'):∀{cs:List O}{ds:List D}{xs:List V}{fp:List Addr},(∀p∈fp,∀u,H p=some u->G' p=some u)->RepT K G H cs ds xs fp->Reps K G' ds xs
 |[],[],_,_,_,r=>by simp only[RepT]at r;simp only[Reps];exact r.1
 |c::cs,d::ds,xs,fp,hk,r=>by
  simp only[RepT]at r;simp only[Reps];obtain⟨y,ys,a,b,e1,e2,r1,r2⟩:=r;subst e2;exact⟨y,ys,e1,RepO.frozen h (fun p hp=>hk p (Pp _ hp)) r1,RepT.frozen h (fun p hp=>hk p (Pj _ hp)) r2⟩
 |[],_::_,_,_,_,r=>by simp only[RepT]at r
 |_::_,[],_,_,_,r=>by simp only[RepT]at r
end
theorem AllO.live{P:D->V->List Addr->Prop}:∀{ds:List D}{xs:List V}{fp:List Addr},(∀d v a,P d v a->∀p∈a,∃u,H p=some u)->AllO P ds xs fp->∀p∈fp,∃u,H p=some u
 |[],_,_,_,r=>by rw[r.2];intro p hp;cases hp
 |d::ds,xs,fp,h,r=>by
  obtain⟨y,ys,a,b,e1,e2,p,q⟩:=r;subst e2;intro z hz;rcases PR.mp hz with hz|hz
  ·exact h _ _ _ p z hz
  ·exact AllO.live h q z hz
mutual
theorem RepO.live:∀{o:O}{d:D}{v:V}{fp:List Addr},RepO K G H o d v fp->∀p∈fp,∃u,H p=some u
 | .f,d,v,fp,r=>by
  simp only[RepO]at r;rw[r.2];intro p hp;cases hp
 | .pin p c,d,v,fp,r=>by
  simp only[RepO]at r;exact RepO.live r.2
 | .l c,.lst ds,v,fp,r=>by
  simp only[RepO]at r;obtain⟨p,xs,D2,e,q,e2,a⟩:=r;subst e2;intro z hz;rcases Pw.mp hz with rfl|hz
  ·exact⟨_,q⟩
  ·exact AllO.live (fun d v a=>RepO.live) a z hz
 | .t cs,.tup ds,v,fp,r=>by
  simp only[RepO]at r;obtain⟨p,xs,e,q,a⟩:=r;exact RepT.live a
 | .d,.dct tk ks vs,v,fp,r=>by
  simp only[RepO]at r;obtain⟨p,xs,o,e,q,dd,e2,rs⟩:=r;subst e2;intro z hz;rw[Qf]at hz;exact⟨_,hz▸q⟩
 | .l _,.non,_,_,r | .l _,.bl _,_,_,r | .l _,.int _,_,_,r | .l _,.str _,_,_,r | .l _,.tup _,_,_,r | .l _,.dct _ _ _,_,_,r=>by simp only[RepO]at r
 | .t _,.non,_,_,r | .t _,.bl _,_,_,r | .t _,.int _,_,_,r | .t _,.str _,_,_,r | .t _,.lst _,_,_,r | .t _,.dct _ _ _,_,_,r=>by simp only[RepO]at r
 | .d,.non,_,_,r | .d,.bl _,_,_,r | .d,.int _,_,_,r | .d,.str _,_,_,r | .d,.tup _,_,_,r | .d,.lst _,_,_,r=>by simp only[RepO]at r
theorem RepT.live:∀{cs:List O}{ds:List D}{xs:List V}{fp:List Addr},RepT K G H cs ds xs fp->∀p∈fp,∃u,H p=some u
 |[],[],_,_,r=>by
  simp only[RepT]at r;rw[r.2];intro p hp;cases hp
 |c::cs,d::ds,xs,fp,r=>by
  simp only[RepT]at r;obtain⟨y,ys,a,b,e1,e2,r1,r2⟩:=r;subst e2;intro z hz;rcases PR.mp hz with hz|hz
  ·exact RepO.live r1 z hz
  ·exact RepT.live r2 z hz
 |[],_::_,_,_,r=>by simp only[RepT]at r
 |_::_,[],_,_,r=>by simp only[RepT]at r
end
theorem DictO.isM{o:HO}{tk:Bool}{ks:List D}{xs:List V}(h:DictO o tk ks xs):PV.isM o=true:=by
 cases tk with
 |true=>
  obtain⟨DS,e,_⟩:=h;rw[e];rfl
 |false=>
  obtain⟨DS,e,_⟩:=h;rw[e];rfl
theorem AllO.mut{P:D->V->List Addr->Prop}:∀{ds:List D}{xs:List V}{fp:List Addr},(∀d v a,P d v a->∀p∈a,∃u,H p=some u/\isM u=true)->AllO P ds xs fp->∀p∈fp,∃u,H p=some u/\isM u=true
 |[],_,_,_,r=>by rw[r.2];intro p hp;cases hp
 |d::ds,xs,fp,h,r=>by
  obtain⟨y,ys,a,b,e1,e2,p,q⟩:=r;subst e2;intro z hz;rcases PR.mp hz with hz|hz
  ·exact h _ _ _ p z hz
  ·exact AllO.mut h q z hz
mutual
theorem RepO.mut:∀{o:O}{d:D}{v:V}{fp:List Addr},RepO K G H o d v fp->∀p∈fp,∃u,H p=some u/\isM u=true
 | .f,d,v,fp,r=>by
  simp only[RepO]at r;rw[r.2];intro p hp;cases hp
 | .pin p c,d,v,fp,r=>by
  simp only[RepO]at r;exact RepO.mut r.2
 | .l c,.lst ds,v,fp,r=>by
  simp only[RepO]at r;obtain⟨p,xs,D2,e,q,e2,a⟩:=r;subst e2;intro z hz;rcases Pw.mp hz with rfl|hz
  ·exact⟨_,q,rfl⟩
  ·exact AllO.mut (fun d v a=>RepO.mut) a z hz
 | .t cs,.tup ds,v,fp,r=>by
  simp only[RepO]at r;obtain⟨p,xs,e,q,a⟩:=r;exact RepT.mut a
 | .d,.dct tk ks vs,v,fp,r=>by
  simp only[RepO]at r;obtain⟨p,xs,o,e,q,dd,e2,rs⟩:=r;subst e2;intro z hz;rw[Qf]at hz;exact⟨_,hz▸q,dd.isM⟩
 | .l _,.non,_,_,r | .l _,.bl _,_,_,r | .l _,.int _,_,_,r | .l _,.str _,_,_,r | .l _,.tup _,_,_,r | .l _,.dct _ _ _,_,_,r=>by simp only[RepO]at r
 | .t _,.non,_,_,r | .t _,.bl _,_,_,r | .t _,.int _,_,_,r | .t _,.str _,_,_,r | .t _,.lst _,_,_,r | .t _,.dct _ _ _,_,_,r=>by simp only[RepO]at r
 | .d,.non,_,_,r | .d,.bl _,_,_,r | .d,.int _,_,_,r | .d,.str _,_,_,r | .d,.tup _,_,_,r | .d,.lst _,_,_,r=>by simp only[RepO]at r
theorem RepT.mut:∀{cs:List O}{ds:List D}{xs:List V}{fp:List Addr},RepT K G H cs ds xs fp->∀p∈fp,∃u,H p=some u/\isM u=true
 |[],[],_,_,r=>by
  simp only[RepT]at r;rw[r.2];intro p hp;cases hp
 |c::cs,d::ds,xs,fp,r=>by
  simp only[RepT]at r;obtain⟨y,ys,a,b,e1,e2,r1,r2⟩:=r;subst e2;intro z hz;rcases PR.mp hz with hz|hz
  ·exact RepO.mut r1 z hz
  ·exact RepT.mut r2 z hz
 |[],_::_,_,_,r=>by simp only[RepT]at r
 |_::_,[],_,_,r=>by simp only[RepT]at r
end
noncomputable def RepE(K:W.Frag)(G H:Hp):Env->List (Option V)->List Addr->Prop
 |[],vs,fp=>vs=[]/\fp=[]
 |e::es,vs,fp=>∃y ys,vs=y::ys/\match e with
  |none=>RepE K G H es ys fp
  |some r=>∃v a b,y=some v/\fp=a++b/\RepO K G H r.1 r.2 v a/\RepE K G H es ys b
theorem RepE.step(h:Same G G'):∀{es:Env}{vs:List (Option V)}{fp:List Addr},(∀p∈fp,H' p=H p)->RepE K G H es vs fp->RepE K G' H' es vs fp
 |[],_,_,_,r=>r
 |none::es,vs,fp,hk,r=>by
  obtain⟨y,ys,e,r⟩:=r;exact⟨y,ys,e,RepE.step h hk r⟩
 |some r::es,vs,fp,hk,q=>by
  obtain⟨y,ys,e,v,a,b,e1,e2,r1,r2⟩:=q;subst e2;exact⟨y,ys,e,v,a,b,e1,rfl,RepO.step h (fun p hp=>hk p (Pp _ hp)) r1,RepE.step h (fun p hp=>hk p (Pj _ hp)) r2⟩
theorem RepE.live:∀{es:Env}{vs:List (Option V)}{fp:List Addr},RepE K G H es vs fp->∀p∈fp,∃u,H p=some u
 |[],_,_,r=>by
  rw[r.2];intro p hp;cases hp
 |none::es,vs,fp,r=>by
  obtain⟨y,ys,e,r⟩:=r;exact RepE.live r
 |some r::es,vs,fp,q=>by
  obtain⟨y,ys,e,v,a,b,e1,e2,r1,r2⟩:=q;subst e2;intro z hz;rcases PR.mp hz with hz|hz
  ·exact r1.live z hz
  ·exact RepE.live r2 z hz
theorem RepE.mut:∀{es:Env}{vs:List (Option V)}{fp:List Addr},RepE K G H es vs fp->∀p∈fp,∃u,H p=some u/\isM u=true
 |[],_,_,r=>by
  rw[r.2];intro p hp;cases hp
 |none::es,vs,fp,r=>by
  obtain⟨y,ys,e,r⟩:=r;exact RepE.mut r
 |some r::es,vs,fp,q=>by
  obtain⟨y,ys,e,v,a,b,e1,e2,r1,r2⟩:=q;subst e2;intro z hz;rcases PR.mp hz with hz|hz
  ·exact r1.mut z hz
  ·exact RepE.mut r2 z hz
theorem RepE.length:∀{es:Env}{vs:List (Option V)}{fp:List Addr},RepE K G H es vs fp->vs.length=es.length
 |[],_,_,r=>by rw[r.1];rfl
 |none::es,vs,fp,r=>by
  obtain⟨y,ys,e,r⟩:=r;rw[e,PH,PH,RepE.length r]
 |some r::es,vs,fp,q=>by
  obtain⟨y,ys,e,v,a,b,e1,e2,r1,r2⟩:=q;rw[e,PH,PH,RepE.length r2]
theorem RepE.take:∀{es:Env}{vs:List (Option V)}{fp:List Addr}{i:Nat}{r:R},RepE K G H es vs fp->es[i]?=some (some r)->
  ∃v a b,vs[i]?=some (some v)/\RepO K G H r.1 r.2 v a/\RepE K G H (es.set i none) vs b/\fp.Perm (a++b)
 |[],_,_,_,_,_,e=>by simp at e
 |none::es,vs,fp,0,r,q,e=>by simp at e
 |some r'::es,vs,fp,0,r,q,e=>by
  obtain⟨y,ys,e0,v,a,b,e1,e2,r1,r2⟩:=q;simp at e;subst e;subst e0;subst e1;exact⟨v,a,b,rfl,r1,⟨some v,ys,rfl,r2⟩,by rw[e2]⟩
 |none::es,vs,fp,i+1,r,q,e=>by
  obtain⟨y,ys,e0,q⟩:=q;obtain⟨v,a,b,g1,g2,g3,g4⟩:=RepE.take q (i:=i) (r:=r) (by simpa using e);subst e0;exact⟨v,a,b,by simpa using g1,g2,⟨y,ys,rfl,g3⟩,g4⟩
 |some r'::es,vs,fp,i+1,r,q,e=>by
  obtain⟨y,ys,e0,v',a',b',e1,e2,r1,r2⟩:=q;obtain⟨v,a,b,g1,g2,g3,g4⟩:=RepE.take r2 (i:=i) (r:=r) (by simpa using e);subst e0;refine⟨v,a,a'++b,by simpa using g1,g2,⟨y,ys,rfl,v',a',b,e1,rfl,r1,g3⟩,?_⟩;rw[e2];refine(TJ a' g4).trans ?_;rw[<-Ql,<-Ql];exact Tn b TK
theorem RepE.put:∀{es:Env}{vs:List (Option V)}{b:List Addr}{i:Nat}{r:R}{v:V}{a:List Addr},RepE K G H es vs b->es[i]?=some none->RepO K G H r.1 r.2 v a->
  ∃fp,RepE K G H (es.set i (some r)) (vs.set i (some v)) fp/\fp.Perm (a++b)
 |[],_,_,_,_,_,_,_,e,_=>by simp at e
 |none::es,vs,b,0,r,v,a,q,e,ro=>by
  obtain⟨y,ys,e0,q⟩:=q;subst e0;exact⟨a++b,⟨some v,ys,rfl,v,a,b,rfl,rfl,ro,q⟩,.refl _⟩
 |some r'::es,vs,b,0,r,v,a,q,e,ro=>by simp at e
 |none::es,vs,b,i+1,r,v,a,q,e,ro=>by
  obtain⟨y,ys,e0,q⟩:=q;obtain⟨fp,g1,g2⟩:=RepE.put q (i:=i) (r:=r) (by simpa using e) ro;subst e0;exact⟨fp,⟨y,_,rfl,g1⟩,g2⟩
 |some r'::es,vs,b,i+1,r,v,a,q,e,ro=>by
  obtain⟨y,ys,e0,v',a',b',e1,e2,r1,r2⟩:=q;obtain⟨fp,g1,g2⟩:=RepE.put r2 (i:=i) (r:=r) (by simpa using e) ro;subst e0;refine⟨a'++fp,⟨y,_,rfl,v',a',fp,e1,rfl,r1,g1⟩,?_⟩;rw[e2];refine(TJ a' g2).trans ?_;rw[<-Ql,<-Ql];exact Tn b' TK
structure Rel(K:W.Frag)(G H:Hp)(es:Env)(vs:List (Option V))(fp:List Addr):Prop where
 rep:RepE K G H es vs fp
 nd:fp.Nodup
 gn:∀p∈fp,G p=none
 gh:Same G H
structure Step(G H:Hp)(fp:List Addr)(G' H':Hp)(D2:List Addr):Prop where
 gg:Same G G'
 keep:∀q u,H q=some u->q∉fp->H' q=some u
 fpn:∀q∈D2,q∈fp\/H q=none
 gnew:∀q u,G' q=some u->G q=some u\/q∈fp\/H q=none\/isT u=true/\H q=some u
 there:∀q u,H q=some u->∃u',H' q=some u'
theorem Step.refl{fp:List Addr}:Step G H fp G H fp:=⟨.refl _,fun _ _ h _=>h,fun _ h=>.inl h,fun _ _ h=>.inl h,fun _ u h=>⟨u,h⟩⟩
theorem Step.trans{G1 H1 G2 H2:Hp}{fp Ej Ew:List Addr}(a:Step G H fp G1 H1 Ej)(b:Step G1 H1 Ej G2 H2 Ew):Step G H fp G2 H2 Ew:=by
 refine⟨a.gg.trans b.gg,fun q u h n=>?_,fun q hq=>?_,fun q u hq=>?_,fun q u h=>?_⟩
 ·refine b.keep q u (a.keep q u h n) fun hq=>?_
  rcases a.fpn q hq with z|z
  ·exact n z
  ·rw[z]at h;cases h
 ·rcases b.fpn q hq with z|z
  ·exact a.fpn q z
  ·cases e:H q with
   |none=>exact .inr rfl
   |some u=>
    obtain⟨u',e'⟩:=a.there q u e;rw[z]at e';cases e'
 ·rcases b.gnew q u hq with z|z|z|⟨t,z⟩
  ·exact a.gnew q u z
  ·exact .inr ((a.fpn q z).imp_right .inl)
  ·cases e:H q with
   |none=>exact .inr (.inr (.inl rfl))
   |some u=>
    obtain⟨u',e'⟩:=a.there q u e;rw[z]at e';cases e'
  ·cases e:H q with
   |none=>exact .inr (.inr (.inl rfl))
   |some u2=>
    by_cases hf:q∈fp
    ·exact .inr (.inl hf)
    ·rw[a.keep q u2 e hf]at z;cases z;exact .inr (.inr (.inr ⟨t,rfl⟩))
 ·obtain⟨u',h'⟩:=a.there q u h;exact b.there q u' h'
theorem Step.perm{fp fq D2 Mu:List Addr}(a:Step G H fp G' H' D2)(h:∀q,q∈fp<->q∈fq)(h':∀q∈Mu,q∈D2):Step G H fq G' H' Mu:=
 ⟨a.gg,fun q u e n=>a.keep q u e fun z=>n ((h q).mp z),fun q hq=>(a.fpn q (h' q hq)).imp_left (h q).mp,fun q u e=>(a.gnew q u e).imp_right (Or.imp_left (h q).mp),a.there⟩
theorem Step.wide{fp fq D2 Mu:List Addr}(a:Step G H fp G' H' D2)(h:∀q∈fp,q∈fq)(h':∀q∈Mu,q∈D2\/q∈fq):Step G H fq G' H' Mu:=
 ⟨a.gg,fun q u e n=>a.keep q u e fun z=>n (h q z),fun q hq=>(h' q hq).elim (fun z=>(a.fpn q z).imp_left (h q)) .inl,fun q u e=>(a.gnew q u e).imp_right (Or.imp_left (h q)),a.there⟩
theorem Rel.perm{es:Env}{vs:List (Option V)}{fp fq:List Addr}(r:RepE K G H es vs fq)(nd:fp.Nodup)(gn:∀p∈fp,G p=none)(gh:Same G H)(h:fp.Perm fq):Rel K G H es vs fq:=
 ⟨r,h.nodup_iff.mp nd,fun p hp=>gn p (h.mem_iff.mpr hp),gh⟩
theorem Rel.frame{r:R}{v:V}{es:Env}{vs:List (Option V)}{fp:List Addr}(q:Rel K G H (some r::es) (some v::vs) fp):
  ∃a b,fp=a++b/\RepO K G H r.1 r.2 v a/\Rel K G H es vs b/\∀(G' H':Hp) (Ht:Env) (Hs:List (Option V)) (b':List Addr),Step G H b G' H' b'->Rel K G' H' Ht Hs b'->
   Rel K G' H' (some r::Ht) (some v::Hs) (a++b')/\Step G H (a++b) G' H' (a++b'):=by
 obtain⟨y,ys,e,v',a,b,e1,e2,r1,r2⟩:=q.rep;cases e;cases e1;subst e2;have nd:=PX.mp q.nd;refine⟨a,b,rfl,r1,⟨r2,nd.2.1,fun p hp=>q.gn p (Pj _ hp),q.gh⟩,fun G' H' Ht Hs b' st k=>?_⟩;have nb:∀p∈a,p∉b:=fun p hp hb=>nd.2.2 p hp p hb rfl
 have same:∀p∈a,H' p=H p:=fun p hp=>by
  obtain⟨u,hu⟩:=r1.live p hp;rw[hu];exact st.keep p u hu (nb p hp)
 refine⟨⟨⟨some v,Hs,rfl,v,a,b',rfl,rfl,r1.step st.gg same,k.rep⟩,?_,fun p hp=>?_,k.gh⟩,st.wide (fun p hp=>Pj _ hp) fun p hp=>?_⟩
 ·rw[PX];refine⟨nd.1,k.nd,fun p hp z hz e=>?_⟩;subst e;obtain⟨u,hu⟩:=r1.live p hp;rcases st.fpn p hz with z|z
  ·exact nb p hp z
  ·rw[z]at hu;cases hu
 ·rcases PR.mp hp with hp|hp
  ·cases e:G' p with
   |none=>rfl
   |some u=>
    exfalso;obtain⟨u',hu⟩:=r1.live p hp;rcases st.gnew p u e with z|z|z|⟨t,z⟩
    ·rw[q.gn p (Pp _ hp)]at z;cases z
    ·exact nb p hp z
    ·rw[z]at hu;cases hu
    ·obtain⟨u2,h2,hm⟩:=r1.mut p hp;rw[z]at h2;cases h2;cases u with
     |tup _=>cases hm
     |frz _ _=>cases hm
     |_=>cases t
  ·exact k.gn p hp
 ·rcases PR.mp hp with hp|hp
  ·exact .inr (Pp _ hp)
  ·exact .inl hp
theorem Rel.freeze{r:R}{v:V}{es:Env}{vs:List (Option V)}{fp:List Addr}(q:Rel K G H (some r::es) (some v::vs) fp):
  ∃G' b,Rep K G' r.2 v/\Rel K G' H es vs b/\Step G H fp G' H b:=by
 obtain⟨y,ys,e,v',a,b,e1,e2,r1,r2⟩:=q.rep;cases e;cases e1;subst e2;have nd:=PX.mp q.nd;have nb:∀p∈a,p∉b:=fun p hp hb=>nd.2.2 p hp p hb rfl
 have hg:Same G (fun p=>if p∈a then H p else G p):=fun p u e=>by
  show(if p∈a then H p else G p)=some u;by_cases hp:p∈a
  ·rw[Px hp];exact q.gh p u e
  ·rw[PJ hp];exact e
 refine⟨fun p=>if p∈a then H p else G p,b,r1.frozen hg fun p hp u e=>?_,⟨r2.step hg fun _ _=>rfl,nd.2.1,fun p hp=>?_,fun p u e=>?_⟩,⟨hg,fun _ _ e _=>e,fun p hp=>.inl (Pj _ hp),fun p u e=>?_,fun _ u e=>⟨u,e⟩⟩⟩
 ·show(if p∈a then H p else G p)=some u;rw[Px hp];exact e
 ·show(if p∈a then H p else G p)=none;rw[PJ (fun z=>nb p z hp)];exact q.gn p (Pj _ hp)
 ·have e:(if p∈a then H p else G p)=some u:=e;by_cases hp:p∈a
  ·rw[Px hp]at e;exact e
  ·rw[PJ hp]at e;exact q.gh p u e
 ·have e:(if p∈a then H p else G p)=some u:=e;by_cases hp:p∈a
  ·exact .inr (.inl (Pp _ hp))
  ·rw[PJ hp]at e;exact .inl e
end
section
variable{K:W.Frag}{G G' H H':Hp}{es:Env}{vs:List (Option V)}{fp:List Addr}
theorem nK:∀{ds:List D}{xs:List V}{fp:List Addr},AllO (RepO K G H .f) ds xs fp<->Reps K G ds xs/\fp=[]
 |[],xs,fp=>by simp only[AllO,Reps]
 |d::ds,xs,fp=>by
  simp only[AllO,Reps,RepO];constructor
  ·rintro⟨y,ys,a,b,e1,e2,⟨r,e3⟩,q⟩;obtain⟨q1,q2⟩:=nK.mp q;subst e3;subst q2;exact⟨⟨y,ys,e1,r,q1⟩,e2⟩
  ·rintro⟨⟨y,ys,e1,r,q1⟩,e⟩;exact⟨y,ys,[],[],e1,e,⟨r,rfl⟩,nK.mpr ⟨q1,rfl⟩⟩
theorem bX{d:D}{v:V}{a:List Addr}:RepO K G H .f d v a<->Rep K G d v/\a=[]:=by simp only[RepO]
theorem bN{ds:List D}{v:V}{a:List Addr}:RepO K G H (.l .f) (.lst ds) v a<->∃p xs,v=.ref p/\H p=some (.lst xs)/\a=[p]/\Reps K G ds xs:=by
 rw[RepO];constructor
 ·rintro⟨p,xs,b,e,q,e2,r⟩;obtain⟨r',eb⟩:=nK.mp r;subst eb;exact⟨p,xs,e,q,e2,r'⟩
 ·rintro⟨p,xs,e,q,e2,r⟩;exact⟨p,xs,[],e,q,e2,nK.mpr ⟨r,rfl⟩⟩
theorem Reps.length:∀{ds:List D}{xs:List V},Reps K G ds xs->xs.length=ds.length
 |[],xs,r=>by simp only[Reps]at r;rw[r];rfl
 |d::ds,xs,r=>by
  simp only[Reps]at r;obtain⟨y,ys,e,_,q⟩:=r;rw[e,PH,PH,Reps.length q]
theorem Reps.get:∀{ds:List D}{xs:List V}{i:Nat}{d:D},Reps K G ds xs->ds[i]?=some d->∃v,xs[i]?=some v/\Rep K G d v
 |[],_,_,_,_,e=>by simp at e
 |d'::ds,xs,0,d,r,e=>by
  simp only[Reps]at r;obtain⟨y,ys,e1,q,_⟩:=r;simp at e;subst e;exact⟨y,by rw[e1];rfl,q⟩
 |d'::ds,xs,i+1,d,r,e=>by
  simp only[Reps]at r;obtain⟨y,ys,e1,_,q⟩:=r;obtain⟨v,a,b⟩:=Reps.get q (i:=i) (d:=d) (by simpa using e);exact⟨v,by rw[e1];simpa using a,b⟩
theorem Reps.app:∀{ds es:List D}{xs ys:List V},Reps K G ds xs->Reps K G es ys->Reps K G (ds++es) (xs++ys)
 |[],_,_,_,r,q=>by simp only[Reps]at r;rw[r];exact q
 |d::ds,es,xs,ys,r,q=>by
  simp only[Reps]at r;obtain⟨z,zs,e,r1,r2⟩:=r;rw[e];simp only[RB,Reps];exact⟨z,_,rfl,r1,r2.app q⟩
theorem Reps.one{d:D}{v:V}(r:Rep K G d v):Reps K G [d] [v]:=by
 simp only[Reps];exact⟨v,[],rfl,r,rfl⟩
theorem Reps.nil:Reps K G [] []:=by simp only[Reps]
theorem Reps.cons{d:D}{v:V}{ds:List D}{xs:List V}(r:Rep K G d v)(q:Reps K G ds xs):Reps K G (d::ds) (v::xs):=by
 simp only[Reps];exact⟨v,xs,rfl,r,q⟩
theorem Reps.cons_iff{d:D}{v:V}{ds:List D}{xs:List V}:Reps K G (d::ds) (v::xs)<->Rep K G d v/\Reps K G ds xs:=by
 simp only[Reps];constructor
 ·rintro⟨y,ys,e,r,q⟩;cases e;exact⟨r,q⟩
 ·rintro⟨r,q⟩;exact⟨v,xs,rfl,r,q⟩
theorem Reps.take:∀{ds:List D}{xs:List V}(n:Nat),Reps K G ds xs->Reps K G (ds.take n) (xs.take n)
 |_,_,0,_=>by rw[SR,SR];exact Reps.nil
 |[],xs,n+1,r=>by simp only[Reps]at r;rw[r];exact Reps.nil
 |d::ds,xs,n+1,r=>by
  simp only[Reps]at r;obtain⟨y,ys,e,r1,r2⟩:=r;rw[e,T9,T9];exact .cons r1 (r2.take n)
theorem Reps.drop:∀{ds:List D}{xs:List V}(n:Nat),Reps K G ds xs->Reps K G (ds.drop n) (xs.drop n)
 |_,_,0,r=>r
 |[],xs,n+1,r=>by simp only[Reps]at r;rw[r];exact Reps.nil
 |d::ds,xs,n+1,r=>by
  simp only[Reps]at r;obtain⟨y,ys,e,r1,r2⟩:=r;rw[e,Ua,Ua];exact r2.drop n
theorem Reps.set:∀{ds:List D}{xs:List V}(n:Nat) {d:D}{v:V},Reps K G ds xs->Rep K G d v->Reps K G (ds.set n d) (xs.set n v)
 |[],xs,n,d,v,r,q=>by simp only[Reps]at r;rw[r];exact Reps.nil
 |d'::ds,xs,0,d,v,r,q=>by
  simp only[Reps]at r;obtain⟨y,ys,e,r1,r2⟩:=r;rw[e];exact .cons q r2
 |d'::ds,xs,n+1,d,v,r,q=>by
  simp only[Reps]at r;obtain⟨y,ys,e,r1,r2⟩:=r;rw[e];exact .cons r1 (r2.set n q)
theorem Step.cut{fq:List Addr}(h:∀q∈fq,q∈fp):Step G H fp G H fq:=⟨.refl _,fun _ _ e _=>e,fun q hq=>.inl (h q hq),fun _ _ e=>.inl e,fun _ u e=>⟨u,e⟩⟩
theorem Rel.drop{r:R}{y:Option V}(q:Rel K G H (some r::es) (y::vs) fp):∃b,Rel K G H es vs b/\Step G H fp G H b:=by
 obtain⟨y,ys,e,v',a,b,e1,e2,r1,r2⟩:=q.rep;cases e;cases e1;subst e2;have nd:=PX.mp q.nd;exact⟨b,⟨r2,nd.2.1,fun p hp=>q.gn p (Pj _ hp),q.gh⟩,Step.cut fun p hp=>Pj _ hp⟩
theorem Rel.top{r:R}{v:V}(q:Rel K G H (some r::es) (some v::vs) fp):Rep K H r.2 v:=by
 obtain⟨y,ys,e,v',a,b,e1,e2,r1,r2⟩:=q.rep;cases e;cases e1;exact r1.frozen q.gh fun p hp u e=>e
theorem Rel.out{i:Nat}{r:R}(q:Rel K G H es vs fp)(e:es[i]?=some (some r)):∃v fq,vs[i]?=some (some v)/\Rel K G H (some r::es.set i none) (some v::vs) fq/\Step G H fp G H fq/\Step G H fq G H fp:=by
 obtain⟨v,a,b,e1,r1,r2,pm⟩:=q.rep.take e;exact⟨v,a++b,e1,Rel.perm ⟨some v,vs,rfl,v,a,b,rfl,rfl,r1,r2⟩ q.nd q.gn q.gh pm,Step.cut fun p hp=>pm.mem_iff.mpr hp,Step.cut fun p hp=>pm.mem_iff.mp hp⟩
theorem Rel.view{i:Nat}{r:R}(q:Rel K G H es vs fp)(e:es[i]?=some (some r)):∃v,vs[i]?=some (some v)/\Rep K H r.2 v:=by
 obtain⟨v,fq,e1,r1,_⟩:=q.out e;exact⟨v,e1,r1.top⟩
theorem fu{α:Type}{l:List α}{i:Nat}{x:α}(h:l[i]?=some x):l.set i x=l:=by
 apply List.ext_getElem?;intro j;by_cases e:i=j
 ·subst e;rw[QB (Pn.mp h).1,h]
 ·rw[Ss e]
theorem Rel.store{i:Nat}{r:R}{v:V}(q:Rel K G H (some r::es) (some v::vs) fp)(hi:i<es.length):∃fq,Rel K G H (es.set i (some r)) (vs.set i (some v)) fq/\Step G H fp G H fq:=by
 obtain⟨y,ys,e,v',a,b,e1,e2,r1,r2⟩:=q.rep;cases e;cases e1;subst e2;obtain⟨c,hc⟩:∃c,es[i]?=some c:=⟨_,Pk hi⟩
 have nd:=PX.mp q.nd;have key:∃b',RepE K G H (es.set i none) vs b'/\(∀p∈b',p∈b)/\b'.Nodup:=by
  cases c with
  |none=>exact⟨b,by rw[fu hc];exact r2,fun _ h=>h,nd.2.1⟩
  |some r'=>
   obtain⟨v2,a2,b2,_,_,g,pm⟩:=r2.take hc;refine⟨b2,g,fun p hp=>pm.mem_iff.mpr (Pj _ hp),?_⟩;exact(PX.mp (pm.nodup_iff.mp nd.2.1)).2.1
 obtain⟨b',g,sub,ndb⟩:=key;obtain⟨fq,g2,pm⟩:=g.put (i:=i) (r:=r) (v:=v) (by rw[QB hi]) r1;rw[QY]at g2;have hnd:(a++b').Nodup:=by
  rw[PX];exact⟨nd.1,ndb,fun p hp z hz=>nd.2.2 p hp z (sub z hz)⟩
 refine⟨fq,Rel.perm g2 hnd (fun p hp=>?_) q.gh pm.symm,Step.cut fun p hp=>?_⟩
 ·refine q.gn p ?_;rcases PR.mp hp with hp|hp
  ·exact Pp _ hp
  ·exact Pj _ (sub p hp)
 ·rcases PR.mp (pm.mem_iff.mp hp) with hp|hp
  ·exact Pp _ hp
  ·exact Pj _ (sub p hp)
theorem Rel.back{i:Nat}{r:R}{v:V}(q:Rel K G H (some r::es) (some v::vs) fp)(hi:i<es.length)(hv:vs[i]?=some (some v)):∃fq,Rel K G H (es.set i (some r)) vs fq/\Step G H fp G H fq:=by
 obtain⟨fq,g,st⟩:=q.store hi;rw[fu hv]at g;exact⟨fq,g,st⟩
theorem Rel.freezeAt{i:Nat}{r:R}(q:Rel K G H es vs fp)(e:es[i]?=some (some r)):∃v G' fq,vs[i]?=some (some v)/\Rep K G' r.2 v/\Rel K G' H (es.set i (some (.f,r.2))) vs fq/\Step G H fp G' H fq:=by
 obtain⟨v,fq,ev,g,st,_⟩:=q.out e;obtain⟨G',b,rv,g2,D5⟩:=g.freeze;have g3:Rel K G' H (some (.f,r.2)::es.set i none) (some v::vs) b:=by
  refine⟨⟨some v,vs,rfl,v,[],b,rfl,rfl,?_,g2.rep⟩,g2.nd,g2.gn,g2.gh⟩;exact bX.mpr ⟨rv,rfl⟩
 obtain⟨fz,g4,EU⟩:=g3.back (i:=i) (by rw[Qb];exact(Pn.mp e).1) ev;rw[QY]at g4;exact⟨v,G',fz,ev,rv,g4,st.trans (D5.trans EU)⟩
theorem Rel.push{d:D}{v:V}(q:Rel K G H es vs fp)(r:Rep K G d v):Rel K G H (some (.f,d)::es) (some v::vs) fp:=by
 refine⟨⟨some v,vs,rfl,v,[],fp,rfl,rfl,?_,q.rep⟩,q.nd,q.gn,q.gh⟩;exact bX.mpr ⟨r,rfl⟩
theorem Rel.newF{p:Addr}{u:HO}(q:Rel K G H es vs fp)(hp:H p=none):Rel K (upd G p u) (upd H p u) es vs fp/\Step G H fp (upd G p u) (upd H p u) fp:=by
 have gp:G p=none:=by
  cases e:G p with
  |none=>rfl
  |some o=>rw[q.gh p o e]at hp;cases hp
 have np:p∉fp:=fun z=>by
  obtain⟨u,e⟩:=q.rep.live p z;rw[hp]at e;cases e
 have sg:Same G (upd G p u):=fun b o e=>by rw[ai (aA e gp)];exact e
 have sh:Same H (upd H p u):=fun b o e=>by rw[ai (aA e hp)];exact e
 refine⟨⟨q.rep.step sg fun z hz=>ai fun e=>np (e▸hz),q.nd,fun z hz=>?_,fun b o e=>?_⟩,⟨sg,fun b o e _=>sh b o e,fun _ h=>.inl h,fun b o e=>?_,fun b o e=>⟨o,sh b o e⟩⟩⟩
 ·have:z≠p:=fun e=>np (e▸hz)
  rw[ai this];exact q.gn z hz
 ·by_cases hb:b=p
  ·subst hb;rw[ay]at e ⊢;exact e
  ·rw[ai hb]at e ⊢;exact q.gh b o e
 ·by_cases hb:b=p
  ·subst hb;exact .inr (.inr (.inl hp))
  ·rw[ai hb]at e;exact .inl e
theorem Rel.newL{p:Addr}{ds:List D}{xs:List V}(q:Rel K G H es vs fp)(hp:H p=none)(r:Reps K G ds xs):
  Rel K G (upd H p (.lst xs)) (some (.l .f,.lst ds)::es) (some (.ref p)::vs) (p::fp)/\Step G H fp G (upd H p (.lst xs)) (p::fp):=by
 have gp:G p=none:=by
  cases e:G p with
  |none=>rfl
  |some o=>rw[q.gh p o e]at hp;cases hp
 have np:p∉fp:=fun z=>by
  obtain⟨u,e⟩:=q.rep.live p z;rw[hp]at e;cases e
 have sh:Same H (upd H p (.lst xs)):=fun b o e=>by rw[ai (aA e hp)];exact e
 refine⟨⟨⟨some (.ref p),vs,rfl,.ref p,[p],fp,rfl,rfl,bN.mpr ⟨p,xs,rfl,ay,rfl,r⟩,q.rep.step (.refl _) fun z hz=>ai fun e=>np (e▸hz)⟩,Qe.mpr ⟨np,q.nd⟩,fun z hz=>?_,fun b o e=>?_⟩,
  ⟨.refl _,fun b o e _=>sh b o e,fun b hb=>?_,fun b o e=>.inl e,fun b o e=>⟨o,sh b o e⟩⟩⟩
 ·rcases Pw.mp hz with rfl|hz
  ·exact gp
  ·exact q.gn z hz
 ·exact sh b o (q.gh b o e)
 ·rcases Pw.mp hb with rfl|hb
  ·exact .inr hp
  ·exact .inl hb
theorem Rel.chg{i:Nat}{ds ds':List D}(q:Rel K G H es vs fp)(e:es[i]?=some (some (.l .f,.lst ds))):∃p xs,vs[i]?=some (some (.ref p))/\H p=some (.lst xs)/\Reps K G ds xs/\
  ∀EZ,Reps K G ds' EZ->∃fq,Rel K G (upd H p (.lst EZ)) (es.set i (some (.l .f,.lst ds'))) vs fq/\Step G H fp G (upd H p (.lst EZ)) fq:=by
 obtain⟨v,fq,ev,g,st,Hq⟩:=q.out e;obtain⟨y,ys,e0,v',a,b,e1,e2,r1,r2⟩:=g.rep;cases e0;cases e1;obtain⟨p,xs,e3,hp,e4,rs⟩:=bN.mp r1;subst e3;subst e4;subst e2;have nd:=Qe.mp (show(p::b).Nodup from g.nd);refine⟨p,xs,ev,hp,rs,fun EZ FY=>?_⟩;have g2:Rel K G (upd H p (.lst EZ)) (some (.l .f,.lst ds')::es.set i none) (some (.ref p)::vs) (p::b):=by
  refine⟨⟨some (.ref p),vs,rfl,.ref p,[p],b,rfl,rfl,bN.mpr ⟨p,EZ,rfl,ay,rfl,FY⟩,r2.step (.refl _) fun z hz=>ai fun e=>nd.1 (e▸hz)⟩,g.nd,g.gn,fun z o ez=>?_⟩;have:z≠p:=fun w=>by
   subst w;rw[g.gn z Pq]at ez;cases ez
  rw[ai this];exact g.gh z o ez
 have Lc:Step G H (p::b) G (upd H p (.lst EZ)) (p::b):=by
  refine⟨.refl _,fun z o ez nz=>?_,fun z hz=>.inl hz,fun z o ez=>.inl ez,fun z o ez=>?_⟩
  ·have:z≠p:=fun w=>nz (by rw[w];exact Pq)
   rw[ai this];exact ez
  ·by_cases w:z=p
   ·subst w;exact⟨_,ay⟩
   ·exact⟨o,by rw[ai w];exact ez⟩
 obtain⟨fz,g3,En⟩:=g2.back (i:=i) (by rw[Qb];exact(Pn.mp e).1) ev;rw[QY]at g3;exact⟨fz,g3,st.trans (Lc.trans En)⟩
end
mutual
noncomputable def dw:D->Bool
 | .tup ds=>D6 ds
 | .lst _=>false
 | .dct _ _ _=>false
 |_=>true
noncomputable def D6:List D->Bool
 |[]=>true
 |d::ds=>dw d&&D6 ds
end
mutual
noncomputable def aB:O->D->Bool
 | .f,d=>dw d
 | .l c,.lst ds=>ds.all (aB c)
 | .t cs,.tup ds=>nL cs ds
 | .d,.dct _ _ vs=>D6 vs
 | .pin _ c,d=>aB c d
 |_,_=>false
noncomputable def nL:List O->List D->Bool
 |[],[]=>true
 |c::cs,d::ds=>aB c d&&nL cs ds
 |_,_=>false
end
def frz:Option R->Option R:=Option.map fun r=>(.f,r.2)
theorem cX:∀ds,D6 ds=ds.all dw
 |[]=>rfl
 |d::ds=>by rw[D6,Rz,cX ds]
section
variable{K:W.Frag}{G G' G2 G3 H H' H2:Hp}{es:Env}{vs:List (Option V)}{fp:List Addr}
mutual
theorem Rep.flat(h:∀p u,isT u=true->G2 p=some u->G3 p=some u):∀{d:D}{v:V},dw d=true->Rep K G2 d v->Rep K G3 d v
 | .non,_,_,r=>by simpa only[Rep] using r
 | .bl _,_,_,r=>by simpa only[Rep] using r
 | .int _,_,_,r=>by simpa only[Rep] using r
 | .str _,_,_,r=>by simpa only[Rep] using r
 | .tup ds,_,e,r=>by
  simp only[Rep]at r ⊢;simp only[dw]at e;obtain⟨p,xs,ev,q,rs⟩:=r;exact⟨p,xs,ev,h _ _ rfl q,Reps.flat h e rs⟩
 | .lst ds,_,e,r=>by simp only[dw]at e;cases e
 | .dct _ _ _,_,e,r=>by simp only[dw]at e;cases e
theorem Reps.flat(h:∀p u,isT u=true->G2 p=some u->G3 p=some u):∀{ds:List D}{xs:List V},D6 ds=true->Reps K G2 ds xs->Reps K G3 ds xs
 |[],_,_,r=>by simpa only[Reps] using r
 |d::ds,_,e,r=>by
  simp only[Reps]at r ⊢;simp only[D6,PD]at e;obtain⟨y,ys,ev,r1,r2⟩:=r;exact⟨y,ys,ev,Rep.flat h e.1 r1,Reps.flat h e.2 r2⟩
end
theorem AllO.clean{P P':D->V->List Addr->Prop}{c:D->Bool}:∀{ds:List D}{xs:List V}{fp:List Addr},(∀d v a,c d=true->P d v a->P' d v a)->ds.all c=true->AllO P ds xs fp->AllO P' ds xs fp
 |[],_,_,_,_,r=>r
 |d::ds,xs,fp,h,e,r=>by
  obtain⟨y,ys,a,b,e1,e2,p,q⟩:=r;rw[Rz,PD]at e;exact⟨y,ys,a,b,e1,e2,h _ _ _ e.1 p,AllO.clean h e.2 q⟩
mutual
theorem RepO.clean(h:∀p u,isT u=true->G2 p=some u->G3 p=some u):∀{o:O}{d:D}{v:V}{fp:List Addr},aB o d=true->RepO K G2 H o d v fp->RepO K G3 H o d v fp
 | .f,d,v,fp,e,r=>by
  simp only[RepO]at r ⊢;simp only[aB]at e;exact⟨r.1.flat h e,r.2⟩
 | .pin p c,d,v,fp,e,r=>by
  simp only[RepO]at r ⊢;simp only[aB]at e;exact⟨r.1,RepO.clean h e r.2⟩
 | .l c,.lst ds,v,fp,e,r=>by
  rw[RepO]at r ⊢;rw[aB]at e;obtain⟨p,xs,D2,ev,q,e2,a⟩:=r;exact⟨p,xs,D2,ev,q,e2,AllO.clean (fun d v a=>RepO.clean h) e a⟩
 | .t cs,.tup ds,v,fp,e,r=>by
  rw[RepO]at r ⊢;rw[aB]at e;obtain⟨p,xs,ev,q,a⟩:=r;exact⟨p,xs,ev,h _ _ rfl q,RepT.clean h e a⟩
 | .d,.dct tk ks vs,v,fp,e,r=>by
  rw[RepO]at r ⊢;rw[aB]at e;obtain⟨p,xs,o,ev,q,dd,e2,rs⟩:=r;exact⟨p,xs,o,ev,q,dd,e2,rs.flat h e⟩
 | .l _,.non,_,_,_,r | .l _,.bl _,_,_,_,r | .l _,.int _,_,_,_,r | .l _,.str _,_,_,_,r | .l _,.tup _,_,_,_,r | .l _,.dct _ _ _,_,_,_,r=>by simp only[RepO]at r
 | .t _,.non,_,_,_,r | .t _,.bl _,_,_,_,r | .t _,.int _,_,_,_,r | .t _,.str _,_,_,_,r | .t _,.lst _,_,_,_,r | .t _,.dct _ _ _,_,_,_,r=>by simp only[RepO]at r
 | .d,.non,_,_,_,r | .d,.bl _,_,_,_,r | .d,.int _,_,_,_,r | .d,.str _,_,_,_,r | .d,.tup _,_,_,_,r | .d,.lst _,_,_,_,r=>by simp only[RepO]at r
theorem RepT.clean(h:∀p u,isT u=true->G2 p=some u->G3 p=some u):∀{cs:List O}{ds:List D}{xs:List V}{fp:List Addr},nL cs ds=true->RepT K G2 H cs ds xs fp->RepT K G3 H cs ds xs fp
 |[],[],_,_,_,r=>by simpa only[RepT] using r
 |c::cs,d::ds,xs,fp,e,r=>by
  rw[RepT]at r ⊢;rw[nL,PD]at e;obtain⟨y,ys,a,b,e1,e2,r1,r2⟩:=r;exact⟨y,ys,a,b,e1,e2,RepO.clean h e.1 r1,RepT.clean h e.2 r2⟩
 |[],_::_,_,_,_,r=>by simp only[RepT]at r
 |_::_,[],_,_,_,r=>by simp only[RepT]at r
end
theorem RepE.frz(h:Same G G'):∀{es:Env}{vs:List (Option V)}{fp:List Addr},(∀p∈fp,∀u,H p=some u->G' p=some u)->RepE K G H es vs fp->RepE K G' H' (es.map PV.frz) vs []
 |[],_,_,_,r=>⟨r.1,rfl⟩
 |none::es,vs,fp,hk,r=>by
  obtain⟨y,ys,e,r⟩:=r;exact⟨y,ys,e,RepE.frz h hk r⟩
 |some r::es,vs,fp,hk,q=>by
  obtain⟨y,ys,e,v,a,b,e1,e2,r1,r2⟩:=q;subst e2;exact⟨y,ys,e,v,[],[],e1,rfl,bX.mpr ⟨r1.frozen h (fun p hp=>hk p (Pp _ hp)),rfl⟩,RepE.frz h (fun p hp=>hk p (Pj _ hp)) r2⟩
theorem RepE.rep(h:Same G G'):∀{es:Env}{vs:List (Option V)}{fp:List Addr}{i:Nat}{r:R}{v:V},(∀p∈fp,∀u,H p=some u->G' p=some u)->RepE K G H es vs fp->es[i]?=some (some r)->vs[i]?=some (some v)->Rep K G' r.2 v:=fun{es vs fp i r v} hk q e ev=>by
 obtain⟨v',a,b,e1,r1,_,pm⟩:=q.take e;rw[ev]at e1;cases e1;exact r1.frozen h fun p hp=>hk p (pm.mem_iff.mpr (Pp _ hp))
theorem Rel.lend(q:Rel K G H es vs fp):∃G1,Same G G1/\Same G1 H/\(∀(i:Nat) (r:R) (v:V),es[i]?=some (some r)->vs[i]?=some (some v)->Rep K G1 r.2 v)/\
  RepE K G1 H (es.map PV.frz) vs []/\
  ∀(H2 G2:Hp) (Ew:List Addr) (r:R) (v:V),Step G1 H [] G2 H2 Ew->Rel K G2 H2 [some r] [some v] Ew->
   (aB r.1 r.2=true->∃G3 FK,Step G H fp G3 H2 FK/\Rel K G3 H2 (some r::es) (some v::vs) FK)/\
   ∃G3 FK,Step G H fp G3 H2 FK/\Rel K G3 H2 (some r::es.map PV.frz) (some v::vs) FK:=by
 have hg:Same G (fun p=>if p∈fp then H p else G p):=fun p u e=>by
  show(if p∈fp then H p else G p)=some u;by_cases hp:p∈fp
  ·rw[Px hp];exact q.gh p u e
  ·rw[PJ hp];exact e
 have hh:Same (fun p=>if p∈fp then H p else G p) H:=fun p u e=>by
  have e:(if p∈fp then H p else G p)=some u:=e;by_cases hp:p∈fp
  ·rw[Px hp]at e;exact e
  ·rw[PJ hp]at e;exact q.gh p u e
 have hk:∀p∈fp,∀u,H p=some u->(fun p=>if p∈fp then H p else G p) p=some u:=fun p hp u e=>by
  show(if p∈fp then H p else G p)=some u;rw[Px hp];exact e
 refine⟨fun p=>if p∈fp then H p else G p,hg,hh,fun i r v e ev=>q.rep.rep hg hk e ev,q.rep.frz hg hk,fun H2 G2 Ew r v st k=>?_⟩;obtain⟨y,ys,e0,v',a,b,e1,e2,r1,r2⟩:=k.rep;cases e0;cases e1;obtain⟨_,e3⟩:=r2;subst e3;rw[PU]at e2;subst e2;have fresh:∀p∈Ew,H p=none:=fun p hp=>by
  rcases st.fpn p hp with z|z
  ·cases z
  ·exact z
 have kept:∀p∈fp,H2 p=H p:=fun p hp=>by
  obtain⟨u,hu⟩:=q.rep.live p hp;rw[hu];exact st.keep p u hu (by simp)
 refine⟨fun cl=>?_,⟨G2,Ew,⟨hg.trans st.gg,fun p u e n=>st.keep p u e (by simp),fun p hp=>.inr (fresh p hp),fun p u e=>?_,st.there⟩,?_⟩⟩
 ·have apart:∀p∈Ew,p∉fp:=fun p hp hf=>by
   obtain⟨u,hu⟩:=q.rep.live p hf;rw[fresh p hp]at hu;cases hu
  have g3:Same G (fun p=>if p∈fp then none else G2 p):=fun p u e=>by
   show(if p∈fp then none else G2 p)=some u;rw[PJ (fun z=>by rw[q.gn p z]at e;cases e)];exact st.gg p u (hg p u e)
  refine⟨fun p=>if p∈fp then none else G2 p,Ew++fp,⟨g3,fun p u e n=>st.keep p u e (by simp),fun p hp=>?_,fun p u e=>?_,st.there⟩,⟨⟨some v,vs,rfl,v,Ew,fp,rfl,rfl,r1.clean (fun p u t e=>?_) cl,q.rep.step g3 kept⟩,?_,fun p hp=>?_,fun p u e=>?_⟩⟩
  ·rcases PR.mp hp with hp|hp
   ·exact .inr (fresh p hp)
   ·exact .inl hp
  ·have e:(if p∈fp then none else G2 p)=some u:=e;by_cases hp:p∈fp
   ·rw[Px hp]at e;cases e
   ·rw[PJ hp]at e;rcases st.gnew p u e with z|z|z
    ·have z:(if p∈fp then H p else G p)=some u:=z;rw[PJ hp]at z;exact .inl z
    ·cases z
    ·exact .inr (.inr z)
  ·show(if p∈fp then none else G2 p)=some u;by_cases hp:p∈fp
   ·exfalso;obtain⟨u',hu,hm⟩:=q.rep.mut p hp;have:=st.gg p u' (hk p hp u' hu);rw[e]at this;cases this;cases u with
    |lst _=>cases t
    |dK _=>cases t
    |dT _=>cases t
    |_=>cases hm
   ·rw[PJ hp];exact e
  ·rw[PX];exact⟨k.nd,q.nd,fun p hp z hz e=>apart p hp (e▸hz)⟩
  ·show(if p∈fp then none else G2 p)=none;by_cases hf:p∈fp
   ·rw[Px hf]
   ·rw[PJ hf];rcases PR.mp hp with hp|hp
    ·exact k.gn p hp
    ·exact absurd hp hf
  ·have e:(if p∈fp then none else G2 p)=some u:=e;by_cases hp:p∈fp
   ·rw[Px hp]at e;cases e
   ·rw[PJ hp]at e;exact k.gh p u e
 ·rcases st.gnew p u e with z|z|z
  ·have z:(if p∈fp then H p else G p)=some u:=z;by_cases hp:p∈fp
   ·exact .inr (.inl hp)
   ·rw[PJ hp]at z;exact .inl z
  ·cases z
  ·exact .inr (.inr z)
 ·refine⟨⟨some v,vs,rfl,v,Ew,[],rfl,(PU _).symm,r1,q.rep.frz (hg.trans st.gg) fun p hp u e=>st.gg p u (hk p hp u e)⟩,k.nd,k.gn,k.gh⟩
end
end PV
namespace PV
open PySem PySem.Spec PyProof.Rows L2 NX
def Res.bind{α β:Type}:Res α->(α->Res β)->Res β
 | .ok a,f=>f a
 | .exc c,_=>.exc c
 | .bad,_=>.bad
inductive BindOk{α β:Type}(x:Res α)(f:α->Res β)(b:β):Prop
 |mk (a:α) (h:x=.ok a) (k:f a=.ok b):BindOk x f b
theorem ah{α β:Type}{x:Res α}{f:α->Res β}{b:β}(h:x.bind f=.ok b):BindOk x f b:=by
 cases x with
 |ok a=>exact⟨a,rfl,h⟩
 |exc c=>cases h
 |bad=>cases h
inductive Opd where
 |val (d:D)|var (i:Nat)
def OpdOk(K:W.Frag)(G:Hp)(σ:L2.St):Opd->V->Prop
 | .val d,v=>Rep K G d v
 | .var i,v=>σ[i]?=some (some v)
theorem OpdOk.mono{K:W.Frag}{G G':Hp}{σ:L2.St}{o:Opd}{v:V}(h:Same G G')(r:OpdOk K G σ o v):OpdOk K G' σ o v:=by
 cases o with
 |val d=>exact Rep.mono h r
 |var i=>exact r
def nM(K:W.Frag)(G:Hp)(σ:L2.St):List Opd->List V->Prop
 |[],vs=>vs=[]
 |o::os,vs=>∃y ys,vs=y::ys/\OpdOk K G σ o y/\nM K G σ os ys
def sX:O->Bool
 | .f=>true
 | .l .f=>true
 | .d=>true
 | .pin _ .f=>true
 | .pin _ (.l .f)=>true
 | .pin _ .d=>true
 |_=>false
def Gd(env:PV.Env):Opd->Res D
 | .val d=>.ok d
 | .var i=>match env[i]? with
  |some (some r)=>if sX r.1 then .ok r.2 else .bad
  |_=>.bad
def pd(env:PV.Env):Opd->Res D
 | .val d=>.ok d
 | .var i=>match env[i]? with
  |some (some r)=>.ok r.2
  |_=>.bad
def pK(env:PV.Env):List Opd->Res (List D)
 |[]=>.ok []
 |o::os=>(Gd env o).bind fun d=>(pK env os).bind fun ds=>.ok (d::ds)
def iY(env:PV.Env):List Opd->Res (List D)
 |[]=>.ok []
 |o::os=>(pd env o).bind fun d=>(iY env os).bind fun ds=>.ok (d::ds)
def Vw(K:W.Frag)(G H:Hp):D->V->Prop
 | .lst ds,v=>∃p xs,v=.ref p/\SqL K H p xs/\Reps K G ds xs
 | .dct tk ks vs,v=>∃p xs o,v=.ref p/\Rd H p o/\DictO o tk ks xs/\Reps K G vs xs
 |d,v=>Rep K G d v
def Nt(K:W.Frag)(G H:Hp):List D->List V->Prop
 |[],vs=>vs=[]
 |d::ds,vs=>∃y ys,vs=y::ys/\Vw K G H d y/\Nt K G H ds ys
section
variable{K:W.Frag}{G G' H H':Hp}{es:PV.Env}{σ:L2.St}{fp:List Addr}
theorem Vw.of{d:D}{v:V}(gh:Same G H)(r:Rep K G d v):Vw K G H d v:=by
 cases d with
 |lst ds=>
  rw[Rep]at r;obtain⟨p,xs,e,q,rs⟩:=r;exact⟨p,xs,e,ft gh q,rs⟩
 |dct tk ks vs=>
  rw[Rep]at r;obtain⟨p,xs,o,e,q,dd,rs⟩:=r;exact⟨p,xs,o,e,PV.Rd.mono gh q,dd,rs⟩
 |_=>exact r
theorem RepO.vw0{o:O}{d:D}{v:V}{a:List Addr}(gh:Same G H)(hs:o=.f\/o=.l .f\/o=.d)(r:RepO K G H o d v a):Vw K G H d v:=by
 rcases hs with rfl|rfl|rfl
 ·exact Vw.of gh (bX.mp r).1
 ·cases d with
  |lst ds=>
   obtain⟨p,xs,e,q,_,rs⟩:=bN.mp r;exact⟨p,xs,e,SqL.of q,rs⟩
  |_=>simp only[RepO]at r
 ·cases d with
  |dct tk ks vs=>
   rw[RepO]at r;obtain⟨p,xs,o,e,q,dd,_,rs⟩:=r;exact⟨p,xs,o,e,.inl q,dd,rs⟩
  |_=>simp only[RepO]at r
theorem RepO.vw{o:O}{d:D}{v:V}{a:List Addr}(gh:Same G H)(hs:sX o=true)(r:RepO K G H o d v a):Vw K G H d v:=by
 unfold sX at hs;split at hs
 ·exact r.vw0 gh (.inl rfl)
 ·exact r.vw0 gh (.inr (.inl rfl))
 ·exact r.vw0 gh (.inr (.inr rfl))
 ·rw[RepO]at r;exact r.2.vw0 gh (.inl rfl)
 ·rw[RepO]at r;exact r.2.vw0 gh (.inr (.inl rfl))
 ·rw[RepO]at r;exact r.2.vw0 gh (.inr (.inr rfl))
 ·cases hs
theorem Rel.vw{o:Opd}{v:V}{d:D}(q:Rel K G H es σ fp)(k:OpdOk K G σ o v)(e:Gd es o=.ok d):Vw K G H d v:=by
 cases o with
 |val d'=>
  cases e;exact Vw.of q.gh k
 |var i=>
  unfold Gd at e;dsimp only at e;split at e
  ·rename_i r hr;split at e
   ·rename_i hs;cases e;obtain⟨v',a,b,ev,r1,_⟩:=q.rep.take hr;have k:σ[i]?=some (some v):=k;rw[k]at ev;cases ev;exact r1.vw q.gh hs
   ·cases e
  ·cases e
theorem Rel.vwA{o:Opd}{v:V}{d:D}(q:Rel K G H es σ fp)(k:OpdOk K G σ o v)(e:pd es o=.ok d):Rep K H d v:=by
 cases o with
 |val d'=>
  cases e;exact Rep.mono q.gh k
 |var i=>
  unfold pd at e;dsimp only at e;split at e
  ·rename_i r hr;cases e;obtain⟨v',ev,r1⟩:=q.view hr;have k:σ[i]?=some (some v):=k;rw[k]at ev;cases ev;exact r1
  ·cases e
theorem Rel.vws(q:Rel K G H es σ fp):∀{os:List Opd}{vs:List V}{ds:List D},nM K G σ os vs->pK es os=.ok ds->Nt K G H ds vs
 |[],_,_,k,e=>by
  cases e;exact k
 |o::os,_,_,⟨y,ys,e0,k1,k2⟩,e=>by
  unfold pK at e;obtain⟨d,e1,e⟩:=ah e;obtain⟨ds,e2,e⟩:=ah e;cases e;exact⟨y,ys,e0,q.vw k1 e1,Rel.vws q k2 e2⟩
theorem iu{G1:Hp}(gg:Same G G1)(ht:∀(i:Nat) (r:R) (v:V),es[i]?=some (some r)->σ[i]?=some (some v)->Rep K G1 r.2 v):∀{os:List Opd}{vs:List V}{ds:List D},nM K G σ os vs->iY es os=.ok ds->Reps K G1 ds vs
 |[],_,_,k,e=>by
  cases e;have k:_=_:=k;rw[k];exact Reps.nil
 |o::os,_,_,⟨y,ys,e0,k1,k2⟩,e=>by
  unfold iY at e;obtain⟨d,e1,e⟩:=ah e;obtain⟨ds,e2,e⟩:=ah e;cases e;rw[e0];refine .cons ?_ (iu gg ht k2 e2);cases o with
  |val d'=>
   cases e1;exact Rep.mono gg k1
  |var i=>
   unfold pd at e1;dsimp only at e1;split at e1
   ·rename_i r hr;cases e1;exact ht i r y hr k1
   ·cases e1
end
abbrev FX:=PV.Env->Res (R×PV.Env)
abbrev FO:=PV.Env->Res (Opd×PV.Env)
abbrev FOs:=PV.Env->Res (List Opd×PV.Env)
abbrev FT:=PV.Env->Res (Bool×PV.Env)
inductive Out where
 |nx (env:PV.Env)|rt (r:R)|bk (env:PV.Env)|ct (env:PV.Env)
abbrev FS:=PV.Env->Res Out
inductive tQ(K:W.Frag)(f:FX)(σ:L2.St)(H:Hp)(Q:VK):Prop
 |mk:∀G env fp r env',Rel K G H env σ fp->f env=.ok (r,env')->(∀v H' G' D2,Step G H fp G' H' D2->Rel K G' H' (some r::env') (some v::σ) D2->Q v H')->tQ K f σ H Q
inductive tO(K:W.Frag)(f:FO)(σ:L2.St)(H:Hp)(Q:VK):Prop
 |mk:∀G env fp o env',Rel K G H env σ fp->f env=.ok (o,env')->(∀v H' G' D2,Step G H fp G' H' D2->Rel K G' H' env' σ D2->OpdOk K G' σ o v->Q v H')->tO K f σ H Q
inductive tOs(K:W.Frag)(f:FOs)(σ:L2.St)(H:Hp)(Q:List V->Hp->Prop):Prop
 |mk:∀G env fp o env',Rel K G H env σ fp->f env=.ok (o,env')->(∀v H' G' D2,Step G H fp G' H' D2->Rel K G' H' env' σ D2->nM K G' σ o v->Q v H')->tOs K f σ H Q
inductive tQT(K:W.Frag)(f:FT)(σ:L2.St)(H:Hp)(Q:Bool->Hp->Prop):Prop
 |mk:∀G env fp b env',Rel K G H env σ fp->f env=.ok (b,env')->(∀H' G' D2,Step G H fp G' H' D2->Rel K G' H' env' σ D2->Q b H')->tQT K f σ H Q
inductive Mode where
 |plain|mut
def Cy(md:Mode)(K:W.Frag)(G H:Hp)(r:R)(v:V)(fp:List Addr):Prop:=match md with
 | .plain=>Rel K G H [some r] [some v] fp
 | .mut=>∃o d p c d0,r=(.t [o,.pin p c],.tup [d,d0])/\Rel K G H [some (o,d),some (.pin p c,d0)] [some v,some (.ref p)] fp
noncomputable def OutOk{md:Mode}(K:W.Frag)(G H:Hp)(fp:List Addr)(Dd:Ends):Res Out->Prop
 | .ok (.nx env')=>∀σ' H' G' D2,Step G H fp G' H' D2->Rel K G' H' env' σ' D2->Dd.nx σ' H'
 | .ok (.bk env')=>∀σ' H' G' D2,Step G H fp G' H' D2->Rel K G' H' env' σ' D2->Dd.bk σ' H'
 | .ok (.ct env')=>∀σ' H' G' D2,Step G H fp G' H' D2->Rel K G' H' env' σ' D2->Dd.ct σ' H'
 | .ok (.rt r)=>∀v H' G' D2,Step G H fp G' H' D2->Cy md K G' H' r v D2->Dd.rt v H'
 |_=>False
inductive tQS{md:Mode}(K:W.Frag)(g:FS)(Dd:Ends)(σ:L2.St)(H:Hp):Prop
 |mk:∀G env fp,Rel K G H env σ fp->OutOk (md:=md) K G H fp Dd (g env)->tQS (md:=md) K g Dd σ H
def QE(X:Cx)(e:Expr)(f:FX):Prop:=PE X e (tQ X.K f)
def QO(X:Cx)(e:Expr)(f:FO):Prop:=PE X e (tO X.K f)
def IM(X:Cx)(es:List Expr)(f:FOs):Prop:=PA X es (tOs X.K f)
def QT(X:Cx)(e:Expr)(f:FT):Prop:=PT X e (tQT X.K f)
def QW(X:Cx)(e:Expr)(f:FT):Prop:=PW X e (tQT X.K f)
def QS{md:Mode}(X:Cx)(st:Stmt)(g:FS):Prop:=PS X st (tQS (md:=md) X.K g)
def Iy{md:Mode}(X:Cx)(st:List Stmt)(g:FS):Prop:=PSs X st (tQS (md:=md) X.K g)
theorem bc{X:Cx}{e:Expr}{t t':TE}(h:PE X e t)(k:∀σ H Q,t' σ H Q->t σ H Q):PE X e t':=fun pr s σ H Q I w=>h pr s σ H Q I (k σ H Q w)
theorem nN{X:Cx}{e:Expr}{t t':TT}(h:PT X e t)(k:∀σ H Q,t' σ H Q->t σ H Q):PT X e t':=fun pr s σ H Q I w=>h pr s σ H Q I (k σ H Q w)
theorem vC{X:Cx}{e:Expr}{t t':TT}(h:PW X e t)(k:∀σ H Q,t' σ H Q->t σ H Q):PW X e t':=fun wh pr s σ H Q I w=>h wh pr s σ H Q I (k σ H Q w)
theorem nO{X:Cx}{e:List Expr}{t t':TA}(h:PA X e t)(k:∀σ H Q,t' σ H Q->t σ H Q):PA X e t':=fun pos pr s σ H Q I w=>h pos pr s σ H Q I (k σ H Q w)
theorem dm{X:Cx}{e:Stmt}{t t':TS}(h:PS X e t)(k:∀D σ H,t' D σ H->t D σ H):PS X e t':=fun pr s σ H D I w=>h pr s σ H D I (k D σ H w)
theorem qz{X:Cx}{e:List Stmt}{t t':TS}(h:PSs X e t)(k:∀D σ H,t' D σ H->t D σ H):PSs X e t':=fun pr s σ H D I w=>h pr s σ H D I (k D σ H w)
theorem OutOk.imp{md:Mode}{K:W.Frag}{G H G1 H1:Hp}{fp Ej:List Addr}{Dd Mv:Ends}{r:Res Out}(st:Step G H fp G1 H1 Ej)(h:OutOk (md:=md) K G H fp Dd r)(n:∀σ H,Dd.nx σ H->Mv.nx σ H)(b:∀σ H,Dd.bk σ H->Mv.bk σ H)(c:∀σ H,Dd.ct σ H->Mv.ct σ H)(t:∀v H,Dd.rt v H->Mv.rt v H):OutOk (md:=md) K G1 H1 Ej Mv r:=by
 match r,h with
 | .ok (.nx env'),h=>exact fun σ' H' G' D2 s q=>n _ _ (h σ' H' G' D2 (st.trans s) q)
 | .ok (.bk env'),h=>exact fun σ' H' G' D2 s q=>b _ _ (h σ' H' G' D2 (st.trans s) q)
 | .ok (.ct env'),h=>exact fun σ' H' G' D2 s q=>c _ _ (h σ' H' G' D2 (st.trans s) q)
 | .ok (.rt r),h=>exact fun v H' G' D2 s q=>t _ _ (h v H' G' D2 (st.trans s) q)
theorem OutOk.after{md:Mode}{K:W.Frag}{G H G1 H1:Hp}{fp Ej:List Addr}{Dd:Ends}{r:Res Out}(st:Step G H fp G1 H1 Ej)(h:OutOk (md:=md) K G H fp Dd r):OutOk (md:=md) K G1 H1 Ej Dd r:=h.imp st (fun _ _ z=>z) (fun _ _ z=>z) (fun _ _ z=>z) fun _ _ z=>z
def aF(d:D):FX:=fun env=>.ok ((.f,d),env)
def fz:O->O
 | .pin p .f=>.pin p .f
 |_=>.f
def aM(i:Nat):FX:=fun env=>match env[i]? with
 |some (some r)=>.ok ((.f,r.2),env.set i (some (fz r.1,r.2)))
 |_=>.bad
def lh(i:Nat):FX:=fun env=>match env[i]? with
 |some (some r)=>.ok (r,env.set i none)
 |_=>.bad
def aq(f:FX):FO:=fun env=>(f env).bind fun p=>.ok (.val p.1.2,p.2)
def ak(i:Nat):FO:=fun env=>match env[i]? with
 |some (some _)=>.ok (.var i,env)
 |_=>.bad
def ar:FOs:=fun env=>.ok ([],env)
def ae(f:FO)(g:FOs):FOs:=fun env=>(f env).bind fun p=>(g p.2).bind fun q=>.ok (p.1::q.1,q.2)
section
variable{X:Cx}
theorem nP{e:Expr}{v:V}{d:D}(h:PE X e (tC v))(r:∀G,Rep X.K G d v):QE X e (aF d):=bc h fun σ H Q D8=>by
 obtain⟨G,env,fp,rr,env',rel,e,k⟩:=D8;cases e;exact k v H G fp .refl (rel.push (r G))
theorem au{i j pos}:QE X (.Constant (.int i) j pos) (aF (.int i)):=nP vo fun G=>by rw[Rep]
theorem qA{i j pos}:QE X (.Constant (.bool i) j pos) (aF (.bl i)):=nP Ba fun G=>by rw[Rep]
theorem vD{j pos}:QE X (.Constant .none j pos) (aF .non):=nP yH fun G=>by rw[Rep]
theorem eP{x j pos}{l:List Nat}(h:x=S l)(hl:l.length<=1000):QE X (.Constant (.str x) j pos) (aF (.str l)):=nP yI fun G=>by
 rw[Rep,h];exact⟨rfl,by rw[line_eq];lia⟩
theorem az{i:Nat}{e:Expr}(h:PE X e (oU i)):QE X e (aM i):=bc h fun σ H Q D8=>by
 obtain⟨G,env,fp,rr,env',rel,e,k⟩:=D8;unfold aM at e;split at e
 ·rename_i r hr;cases e;by_cases hf:fz r.1=.f
  ·obtain⟨v,G',fq,ev,rv,EF,st⟩:=rel.freezeAt hr;rw[hf]at k;exact⟨v,ev,k v H G' fq st (EF.push rv)⟩
  ·have hp:∃p,r.1=.pin p .f:=by
    unfold fz at hf;split at hf
    ·rename_i p hp;exact⟨p,hp⟩
    ·exact absurd rfl hf
   obtain⟨p,hp⟩:=hp;obtain⟨v,a,b,ev,r1,_,_⟩:=rel.rep.take hr;rw[hp,RepO]at r1;have es:env.set i (some (fz r.1,r.2))=env:=by
    refine fu ?_;rw[hr,hp];show some (some r)=some (some (.pin p .f,r.2));rw[<-hp]
   rw[es]at k;exact⟨v,ev,k v H G fp .refl (rel.push (bX.mp r1.2).1)⟩
 ·cases e
theorem iw{i:Nat}{e:Expr}(h:PE X e (oU i)):QE X e (lh i):=bc h fun σ H Q D8=>by
 obtain⟨G,env,fp,rr,env',rel,e,k⟩:=D8;unfold lh at e;split at e
 ·rename_i r hr;cases e;obtain⟨v,fq,ev,EF,st,_⟩:=rel.out hr;exact⟨v,ev,k v H G fq st EF⟩
 ·cases e
theorem af{e:Expr}{f:FX}(h:QE X e f):QO X e (aq f):=bc h fun σ H Q D8=>by
 obtain⟨G,env,fp,o,env',rel,e,k⟩:=D8;obtain⟨⟨r,DU⟩,e1,e⟩:=ah e;cases e;refine⟨G,env,fp,r,DU,rel,e1,fun v H' G' D2 st EF=>?_⟩;obtain⟨G2,b,rv,DX,D5⟩:=EF.freeze;exact k v H' G2 b (st.trans D5) DX rv
theorem ag{i:Nat}{e:Expr}(h:PE X e (oU i)):QO X e (ak i):=bc h fun σ H Q D8=>by
 obtain⟨G,env,fp,o,env',rel,e,k⟩:=D8;unfold ak at e;split at e
 ·rename_i r hr;cases e;obtain⟨v,ev,_⟩:=rel.view hr;exact⟨v,ev,k v H G fp .refl rel ev⟩
 ·cases e
theorem aj:IM X [] ar:=nO nq fun σ H Q D8=>by
 obtain⟨G,env,fp,o,env',rel,e,k⟩:=D8;cases e;exact k [] H G fp .refl rel rfl
theorem ab{e:Expr}{es:List Expr}{f:FO}{g:FOs}(h:QO X e f)(hs:IM X es g)(KZ:starEach (e::es) X.env=(false,eval e X.env)::starEach es X.env:=by rfl):IM X (e::es) (ae f g):=
 nO (fY h hs KZ) fun σ H Q D8=>by
  obtain⟨G,env,fp,o,env',rel,e,k⟩:=D8;obtain⟨⟨o1,DU⟩,e1,e⟩:=ah e;obtain⟨⟨os,D4⟩,e2,e⟩:=ah e;cases e;exact⟨G,env,fp,o1,DU,rel,e1,fun v H1 G1 Ej Ec DW Gq=>⟨G1,DU,Ej,os,D4,DW,e2,fun vs H2 G2 Ew D5 DX Ld=>k _ H2 G2 Ew (Ec.trans D5) DX ⟨v,vs,rfl,Gq.mono D5.gg,Ld⟩⟩⟩
def aR(g:D->D->Res R)(fa fb:FO):FX:=fun env=>(fa env).bind fun p=>(fb p.2).bind fun q=>(Gd q.2 p.1).bind fun a=>(Gd q.2 q.1).bind fun b=>(g a b).bind fun r=>.ok (r,q.2)
def aN(g:D->D->Res R)(fa fb:FO):FX:=fun env=>(fa env).bind fun p=>(fb p.2).bind fun q=>(pd q.2 p.1).bind fun a=>(pd q.2 q.1).bind fun b=>(g a b).bind fun r=>.ok (r,q.2)
structure Goes(K:W.Frag)(H:Hp)(G:Hp)(fp:List Addr)(es:PV.Env)(vs:L2.St)(r:R)(Q:VK):Prop where
 rel:Rel K G H es vs fp
 goes:∀v H' G' D2,Step G H fp G' H' D2->Rel K G' H' (some r::es) (some v::vs) D2->Q v H'
inductive rG(K:W.Frag)(g:D->D->Res R)(x:V)(y:V)(H:Hp)(Q:VK):Prop
 |mk:∀G fp es vs a b r,Goes K H G fp es vs r Q->Vw K G H a x->Vw K G H b y->g a b=.ok r->rG K g x y H Q
inductive rGA(K:W.Frag)(g:D->D->Res R)(x:V)(y:V)(H:Hp)(Q:VK):Prop
 |mk:∀G fp es vs a b r,Goes K H G fp es vs r Q->Rep K H a x->Rep K H b y->g a b=.ok r->rGA K g x y H Q
variable{a b c:Expr}{fa fb fc:FO}{pos:Pos}{g g':D->D->Res R}
theorem qB{σ:L2.St}{H:Hp}{Q:VK}(h:tQ X.K (aR g fa fb) σ H Q):LZ (rG X.K g) (tO X.K fa) (tO X.K fb) σ H Q:=by
 obtain⟨G,env,fp,r,env',rel,e,k⟩:=h;obtain⟨⟨oa,e1⟩,ha,e⟩:=ah e;obtain⟨⟨ob,e2⟩,hb,e⟩:=ah e;obtain⟨da,Mw,e⟩:=ah e;obtain⟨db,GA,e⟩:=ah e;obtain⟨r',hr,e⟩:=ah e;cases e;exact⟨G,env,fp,oa,e1,rel,ha,fun x H1 G1 Ej Ec DW Gq=>⟨G1,e1,Ej,ob,e2,DW,hb,fun y H2 G2 Ew D5 DX Ld=>
  ⟨G2,Ew,e2,σ,da,db,r,⟨DX,fun v H' G' D2 st EF=>k v H' G' D2 (Ec.trans (D5.trans st)) EF⟩,DX.vw (Gq.mono D5.gg) Mw,DX.vw Ld GA,hr⟩⟩⟩
theorem qC{σ:L2.St}{H:Hp}{Q:VK}(h:tQ X.K (aN g fa fb) σ H Q):LZ (rGA X.K g) (tO X.K fa) (tO X.K fb) σ H Q:=by
 obtain⟨G,env,fp,r,env',rel,e,k⟩:=h;obtain⟨⟨oa,e1⟩,ha,e⟩:=ah e;obtain⟨⟨ob,e2⟩,hb,e⟩:=ah e;obtain⟨da,Mw,e⟩:=ah e;obtain⟨db,GA,e⟩:=ah e;obtain⟨r',hr,e⟩:=ah e;cases e;exact⟨G,env,fp,oa,e1,rel,ha,fun x H1 G1 Ej Ec DW Gq=>⟨G1,e1,Ej,ob,e2,DW,hb,fun y H2 G2 Ew D5 DX Ld=>
  ⟨G2,Ew,e2,σ,da,db,r,⟨DX,fun v H' G' D2 st EF=>k v H' G' D2 (Ec.trans (D5.trans st)) EF⟩,DX.vwA (Gq.mono D5.gg) Mw,DX.vwA Ld GA,hr⟩⟩⟩
theorem bo{op:Operator}(ho:EG X (binaryOp op) (rG X.K g))(ha:QO X a fa)(hb:QO X b fb):QE X (.BinOp a op b pos) (aR g fa fb):=bc (Bm ho ha hb) fun _ _ _=>qB
theorem gG{op:CmpOp}(ho:EG X (compareOp op) (rGA X.K g))(ha:QO X a fa)(hb:QO X b fb)(hm:behindInMarks op b=false):QE X (.Compare a [op] [b] pos) (aN g fa fb):=bc (wG ho ha hb hm) fun _ _ _=>qC
def Es(f:FX):FT:=fun env=>(f env).bind fun p=>match p.1.2 with
 | .bl k=>.ok (k,p.2)
 |_=>.bad
theorem xi{f:FX}{σ:L2.St}{H:Hp}{Q:Bool->Hp->Prop}(h:tQT X.K (Es f) σ H Q):tQ X.K f σ H fun x H'=>∃k,x=.bl k/\Q k H':=by
 obtain⟨G,env,fp,k,env',rel,e,q⟩:=h;obtain⟨⟨⟨o,d⟩,DU⟩,e1,e⟩:=ah e;dsimp only at e;split at e
 ·cases e;refine⟨G,env,fp,_,_,rel,e1,fun v H' G' D2 st EF=>?_⟩;have hv:=EF.top;rw[show((o,D.bl k):R).2=D.bl k from rfl,Rep]at hv;obtain⟨b,DX,D5⟩:=EF.drop;exact⟨k,hv,q H' G' b (st.trans D5) DX⟩
 ·cases e
theorem jj{e:Expr}{f:FX}(h:QE X e f)(he:∀whole,isTrue e X.env whole=(do let v <-whole;standAt e.pos;holding [v] (truthy v)):=by intro _;rfl):QT X e (Es f):=nN (yJ h he) fun _ _ _=>xi
theorem jk{op:CmpOp}(ho:EG X (compareOp op) (rG X.K g))(ha:QO X a fa)(hb:QO X b fb)(hm:behindInMarks op b=false):QT X (.Compare a [op] [b] pos) (Es (aR g fa fb)):=
 nN (pX ho ha hb hm) fun _ _ _ h=>qB (xi h)
theorem aZ{op:CmpOp}(ho:EG X (compareOp op) (rGA X.K g))(ha:QO X a fa)(hb:QO X b fb)(hm:behindInMarks op b=false):QT X (.Compare a [op] [b] pos) (Es (aN g fa fb)):=
 nN (pX ho ha hb hm) fun _ _ _ h=>qC (xi h)
def t8(f g:FT):FT:=fun env=>(f env).bind fun p=>if p.1 then g p.2 else .ok (false,p.2)
def Le(f g:FT):FT:=fun env=>(f env).bind fun p=>if p.1 then .ok (true,p.2) else g p.2
def zy(f:FT):FT:=fun env=>(f env).bind fun p=>.ok (!p.1,p.2)
variable{ga gb:FT}{aO:List Expr}
theorem my(h:QT X a ga):QW X (.BoolOp .And [a] pos) ga:=wx h
theorem nQ(h:QT X a ga):QW X (.BoolOp .Or [a] pos) ga:=yK h
theorem jl(h:QT X a ga)(h2:QW X (.BoolOp .And (b::aO) pos) gb):QW X (.BoolOp .And (a::b::aO) pos) (t8 ga gb):=vC (yL h h2) fun σ H Q D8=>by
 obtain⟨G,env,fp,k,env',rel,e,q⟩:=D8;obtain⟨⟨k1,DU⟩,e1,e⟩:=ah e;refine⟨G,env,fp,k1,DU,rel,e1,fun H1 G1 Ej Ec DW=>?_⟩;dsimp only at e;cases k1 with
 |true=>exact⟨G1,DU,Ej,k,env',DW,e,fun H2 G2 Ew D5 DX=>q H2 G2 Ew (Ec.trans D5) DX⟩
 |false=>
  cases e;exact q H1 G1 Ej Ec DW
theorem t9(h:QT X a ga)(h2:QW X (.BoolOp .Or (b::aO) pos) gb):QW X (.BoolOp .Or (a::b::aO) pos) (Le ga gb):=vC (Bb h h2) fun σ H Q D8=>by
 obtain⟨G,env,fp,k,env',rel,e,q⟩:=D8;obtain⟨⟨k1,DU⟩,e1,e⟩:=ah e;refine⟨G,env,fp,k1,DU,rel,e1,fun H1 G1 Ej Ec DW=>?_⟩;dsimp only at e;cases k1 with
 |false=>exact⟨G1,DU,Ej,k,env',DW,e,fun H2 G2 Ew D5 DX=>q H2 G2 Ew (Ec.trans D5) DX⟩
 |true=>
  cases e;exact q H1 G1 Ej Ec DW
theorem QW.qt{e:Expr}{f:FT}(h:QW X e f):QT X e f:=h.pt
theorem qD(h:QT X a ga):QT X (.UnaryOp .Not a pos) (zy ga):=nN (yM h) fun σ H Q D8=>by
 obtain⟨G,env,fp,k,env',rel,e,q⟩:=D8;obtain⟨⟨k1,DU⟩,e1,e⟩:=ah e;cases e;exact⟨G,env,fp,k1,DU,rel,e1,fun H1 G1 Ej Ec DW=>q H1 G1 Ej Ec DW⟩
def vE(f g:FX):FX:=fun env=>(f env).bind fun p=>match p.1.2 with
 | .bl true=>g p.2
 | .bl false=>.ok ((.f,.bl false),p.2)
 |_=>.bad
def eOr(f g:FX):FX:=fun env=>(f env).bind fun p=>match p.1.2 with
 | .bl true=>.ok ((.f,.bl true),p.2)
 | .bl false=>g p.2
 |_=>.bad
def BG(f:FX):FX:=fun env=>(f env).bind fun p=>match p.1.2 with
 | .bl k=>.ok ((.f,.bl (!k)),p.2)
 |_=>.bad
def eIf(c:FT)(f g:FX):FX:=fun env=>(c env).bind fun p=>if p.1 then f p.2 else g p.2
variable{ea eb:FX}
theorem qE{op}(h:QE X a ea):QE X (.BoolOp op [a] pos) ea:=yN h
theorem cq{K:W.Frag}{G:Hp}(k:Bool):Rep K G (.bl k) (.bl k):=by rw[Rep]
theorem rep_int{K:W.Frag}{G:Hp}(k:Int):Rep K G (.int k) (.int k):=by rw[Rep]
theorem jV{K:W.Frag}{G:Hp}:Rep K G .non .non:=by rw[Rep]
theorem gH{K:W.Frag}{G:Hp}{l:List Nat}(h:l.length<=sizeLine):Rep K G (.str l) (.str (S l)):=by
 rw[Rep];exact⟨rfl,h⟩
theorem bY{K:W.Frag}{G:Hp}{k:Bool}{v:V}(h:Rep K G (.bl k) v):v=.bl k:=by rw[Rep]at h;exact h
theorem bq{K:W.Frag}{G:Hp}{k:Int}{v:V}(h:Rep K G (.int k) v):v=.int k:=by rw[Rep]at h;exact h
theorem bM{K:W.Frag}{G:Hp}{v:V}(h:Rep K G .non v):v=.non:=by rw[Rep]at h;exact h
theorem a9{K:W.Frag}{G:Hp}{l:List Nat}{v:V}(h:Rep K G (.str l) v):v=.str (S l)/\l.length<=sizeLine:=by rw[Rep]at h;exact h
inductive OfT(K:W.Frag)(G:Hp)(l:List D)(v:V):Prop
 |mk (p:Addr) (xs:List V) (e:v=.ref p) (q:SqT K G p xs) (r:Reps K G l xs):OfT K G l v
inductive OfL(K:W.Frag)(G:Hp)(l:List D)(v:V):Prop
 |mk (p:Addr) (xs:List V) (e:v=.ref p) (q:SqL K G p xs) (r:Reps K G l xs):OfL K G l v
theorem bf{K:W.Frag}{G:Hp}{l:List D}{v:V}(h:Rep K G (.tup l) v):OfT K G l v:=by
 rw[Rep]at h;obtain⟨p,xs,e,q,r⟩:=h;exact⟨p,xs,e,SqT.of q,r⟩
theorem qF{K:W.Frag}{G:Hp}{l:List D}{v:V}(h:Rep K G (.tup l) v):∃p xs,v=.ref p/\G p=some (.tup xs)/\Reps K G l xs:=by rw[Rep]at h;exact h
theorem bg{K:W.Frag}{G:Hp}{l:List D}{v:V}(h:Rep K G (.lst l) v):OfL K G l v:=by
 rw[Rep]at h;obtain⟨p,xs,e,q,r⟩:=h;exact⟨p,xs,e,q,r⟩
theorem ba{K:W.Frag}{G H:Hp}{k:Int}{v:V}(h:Vw K G H (.int k) v):v=.int k:=bq (K:=K) (G:=G) h
theorem gU{K:W.Frag}{G H:Hp}{l:List Nat}{v:V}(h:Vw K G H (.str l) v):v=.str (S l)/\l.length<=sizeLine:=a9 (K:=K) (G:=G) h
theorem fL{K:W.Frag}{G H:Hp}{l:List D}{v:V}(h:Vw K G H (.tup l) v):OfT K G l v:=bf (K:=K) (G:=G) h
theorem qG(h:QE X a ea)(h2:QE X (.BoolOp .And (b::aO) pos) eb):QE X (.BoolOp .And (a::b::aO) pos) (vE ea eb):=bc (yO h h2) fun σ H Q D8=>by
 obtain⟨G,env,fp,r,env',rel,e,q⟩:=D8;obtain⟨⟨⟨o,d⟩,DU⟩,e1,e⟩:=ah e;refine⟨G,env,fp,_,DU,rel,e1,fun v H1 G1 Ej Ec DW=>?_⟩;have hv:=DW.top;obtain⟨b',DX,D5⟩:=DW.drop;dsimp only at e hv;split at e
 ·exact⟨true,bY hv,yt ⟨G1,DU,b',r,env',DX,e,fun v H2 G2 Ew En Et=>q v H2 G2 Ew (Ec.trans (D5.trans En)) Et⟩⟩
 ·cases e;exact⟨false,bY hv,iteF (q _ H1 G1 b' (Ec.trans D5) (DX.push (cq _)))⟩
 ·cases e
theorem zH(h:QE X a ea):QE X (.UnaryOp .Not a pos) (BG ea):=bc (yP h) fun σ H Q D8=>by
 obtain⟨G,env,fp,r,env',rel,e,q⟩:=D8;obtain⟨⟨⟨o,d⟩,DU⟩,e1,e⟩:=ah e;refine⟨G,env,fp,_,DU,rel,e1,fun v H1 G1 Ej Ec DW=>?_⟩;have hv:=DW.top;obtain⟨b',DX,D5⟩:=DW.drop;dsimp only at e hv;split at e
 ·cases e;exact⟨_,bY hv,q _ H1 G1 b' (Ec.trans D5) (DX.push (cq _))⟩
 ·cases e
noncomputable def Cz(g g':D->D->Res R)(fa fb fc:FO):FX:=fun env=>(fa env).bind fun p=>(fb p.2).bind fun q=>(Gd q.2 p.1).bind fun a=>(Gd q.2 q.1).bind fun b=>(g a b).bind fun r=>match r with
 |(.f,.bl true)=>(fc q.2).bind fun t=>(Gd t.2 q.1).bind fun b=>(Gd t.2 t.1).bind fun c=>(g' b c).bind fun r=>.ok (r,t.2)
 |(.f,.bl false)=>.ok ((.f,.bl false),q.2)
 |_=>.bad
inductive rC(K:W.Frag)(g:List D->Res R)(xs:List V)(H:Hp)(Q:VK):Prop
 |mk:∀G fp es vs ds r,Goes K H G fp es vs r Q->Nt K G H ds xs->g ds=.ok r->rC K g xs H Q
def bh(g:List D->Res R)(fs:FOs):FX:=fun env=>(fs env).bind fun p=>(pK p.2 p.1).bind fun ds=>(g ds).bind fun r=>.ok (r,p.2)
theorem mz{gg:List D->Res R}{fs:FOs}{σ:L2.St}{H:Hp}{Q:VK}(h:tQ X.K (bh gg fs) σ H Q):NR (rC X.K gg) (tOs X.K fs) σ H Q:=by
 obtain⟨G,env,fp,r,env',rel,e,k⟩:=h;obtain⟨⟨os,e1⟩,ha,e⟩:=ah e;obtain⟨ds,hd,e⟩:=ah e;obtain⟨r',hr,e⟩:=ah e;cases e;exact⟨G,env,fp,os,e1,rel,ha,fun vs H1 G1 Ej Ec DW Gq=>⟨G1,Ej,e1,σ,ds,r,⟨DW,fun v H' G' D2 st EF=>k v H' G' D2 (Ec.trans st) EF⟩,DW.vws Gq hd,hr⟩⟩
variable{x:Str}{p:Pos}{e:Expr}{es:List Expr}{gg:List D->Res R}{fs:FOs}{id T:String}
theorem aV(hc:eO X (.builtin id) (rC X.K gg))(hg:Gl X x)(hm:X.mg x=none)(hv:bootBuiltins x=some (.builtin id))(ha:IM X (e::es) fs)(hn:x≠"__name__":=by decide)(GA:(x==("__debug__" : Str))=false:=by decide)
  (he:starEach (e::es) X.env=(false,eval e X.env)::starEach es X.env:=by rfl) (FE:(backTo pos (starEach es X.env)).any (·.1)=false:=by rfl):QE X (.Call (.Name x p) (e::es) [] pos) (bh gg fs):=
 bc (nv hc hg hm hv ha hn GA he FE) fun _ _ _=>mz
theorem bZ(hc:eO X (.type T) (rC X.K gg))(hg:Gl X x)(hm:X.mg x=none)(hv:bootBuiltins x=some (.type T))(ha:IM X (e::es) fs)(hn:x≠"__name__":=by decide)(GA:(x==("__debug__" : Str))=false:=by decide)
  (he:starEach (e::es) X.env=(false,eval e X.env)::starEach es X.env:=by rfl) (FE:(backTo pos (starEach es X.env)).any (·.1)=false:=by rfl):QE X (.Call (.Name x p) (e::es) [] pos) (bh gg fs):=
 bc (p0 hc hg hm hv ha hn GA he FE) fun _ _ _=>mz
inductive spF(K:W.Frag)(F:List D->Res R)(vs:List V)(H:Hp)(Q:VK)(zz:XK):Prop
 |mk:∀G ds r,Same G H->Reps K G ds vs->F ds=.ok r->(∀v H' G' D2,Step G H [] G' H' D2->Rel K G' H' [some r] [some v] D2->Q v H')->spF K F vs H Q zz
def cS(F:List D->Res R)(fs:FOs):FX:=fun env=>(fs env).bind fun p=>(iY p.2 p.1).bind fun ds=>(F ds).bind fun r=>.ok (r,if aB r.1 r.2 then p.2 else p.2.map frz)
theorem br{F:List D->Res R}{k:Nat}(C:Ct X.prog X.w X.K X.mg X.base x k (spF X.K F))(hr:Room k X.A)(hg:Gl X x)(ha:IM X (e::es) fs)(GA:(x==("__debug__" : Str))=false:=by decide)
  (he:starEach (e::es) X.env=(false,eval e X.env)::starEach es X.env:=by rfl) (FE:(backTo pos (starEach es X.env)).any (·.1)=false:=by rfl):QE X (.Call (.Name x p) (e::es) [] pos) (cS F fs):=
 bc (zj C hr hg ha GA he FE) fun σ H Q D8=>by
  obtain⟨G,env,fp,r,env',rel,e,k⟩:=D8;obtain⟨⟨os,e1⟩,ha,e⟩:=ah e;obtain⟨ds,hd,e⟩:=ah e;obtain⟨r',hr,e⟩:=ah e;refine⟨G,env,fp,os,e1,rel,ha,fun vs H1 G1 Ej Ec DW Gq=>?_⟩;show spF X.K F (vs++[]) H1 Q _;rw[PU];obtain⟨G2,IP,JP,Gf,_,Fu⟩:=DW.lend;refine⟨G2,ds,r',JP,iu IP Gf Gq hd,hr,fun v H' G' D2 st EF=>?_⟩;obtain⟨k1,k2⟩:=Fu H' G' D2 r' v st EF;by_cases hc:aB r'.1 r'.2=true
  ·rw[Px hc]at e;cases e;obtain⟨G3,FK,En,Et⟩:=k1 hc;exact k v H' G3 FK (Ec.trans En) Et
  ·rw[PJ hc]at e;cases e;obtain⟨G3,FK,En,Et⟩:=k2;exact k v H' G3 FK (Ec.trans En) Et
end
def sSeq(g1 g2:FS):FS:=fun env=>(g1 env).bind fun o=>match o with
 | .nx e=>g2 e
 |o=>.ok o
def cz:FS:=fun env=>.ok (.nx env)
def cu(i:Nat)(f:FX):FS:=fun env=>(f env).bind fun p=>if i<p.2.length then .ok (.nx (p.2.set i (some p.1))) else .bad
def mC(f:FX):FS:=fun env=>(f env).bind fun p=>.ok (.nx p.2)
def eQ(f:FX):FS:=fun env=>(f env).bind fun p=>.ok (.rt p.1)
def Ge(c:FT)(g h:FS):FS:=fun env=>(c env).bind fun p=>if p.1 then g p.2 else h p.2
section
variable{md:Mode}{X:Cx}{st:Stmt}{N6:List Stmt}{g h:FS}{f:FX}{c:FT}{pos:Pos}{e:Expr}
theorem bB:Iy (md:=md) X [] cz:=qz wy fun D σ H ⟨G,env,fp,rel,k⟩=>k σ H G fp .refl rel
theorem av(a:QS (md:=md) X st g):Iy (md:=md) X [st] g:=wz a
theorem ao(a:QS (md:=md) X st g)(b:Iy (md:=md) X N6 h):Iy (md:=md) X (st::N6) (sSeq g h):=qz (tq a b) fun D σ H D8=>by
 obtain⟨G,env,fp,rel,k⟩:=D8;refine⟨G,env,fp,rel,?_⟩;have k:OutOk X.K G H fp D ((g env).bind fun o=>match o with | .nx e=>h e|o=>.ok o):=k;match q:g env,k with
 | .ok (.nx DU),k=>exact fun σ1 H1 G1 Ej Ec DW=>⟨G1,DU,Ej,DW,OutOk.after Ec k⟩
 | .ok (.bk DU),k=>exact k
 | .ok (.ct DU),k=>exact k
 | .ok (.rt r),k=>exact k
theorem jW{K:W.Frag}{G H:Hp}{fp:List Addr}{D:Ends}{i:Nat}{env:PV.Env}{σ:L2.St}(rel:Rel K G H env σ fp)(k:OutOk (md:=md) K G H fp D (cu i f env)):tQ K f σ H fun v H'=>D.nx (σ.set i (some v)) H':=by
 unfold cu at k;match q:f env,k with
 | .ok (r,DU),k=>
  have k:OutOk K G H fp D (if i<DU.length then .ok (.nx (DU.set i (some r))) else .bad):=k;by_cases hi:i<DU.length
  ·rw[Px hi]at k;refine⟨G,env,fp,r,DU,rel,q,fun v H1 G1 Ej Ec DW=>?_⟩;obtain⟨fq,DX,D5⟩:=DW.store hi;exact k _ H1 G1 fq (Ec.trans D5) DX
  ·rw[PJ hi]at k;exact k.elim
theorem aW{i:Nat}{x:Str}{pos':Pos}(hN:X.N.Nodup)(hi:X.N[i]?=some x)(hx:Loc X.env.scope x)(he:QE X e f)(hs:swapsWith e (some (.Name x pos')) pos.line X.env=pure false:=by rfl)(hf:X.fn x=true\/X.env.scope.names.lookup x=some .local:=by first|exact .inl rfl|exact .inr rfl|assumption):
  QS (md:=md) X (.Assign [.Name x pos'] e pos) (cu i f):=dm (yS (i:=i) hN hi hx he hs hf) fun D σ H ⟨G,env,fp,rel,k⟩=>jW rel k
theorem qH(he:QE X e f)(hs:swapsWith e none pos.line X.env=pure false:=by rfl):QS (md:=md) X (.Expr e pos) (mC f):=dm (wA he hs) fun D σ H D8=>by
 obtain⟨G,env,fp,rel,k⟩:=D8;unfold mC at k;match q:f env,k with
 | .ok (r,DU),k=>
  refine⟨G,env,fp,r,DU,rel,q,fun v H1 G1 Ej Ec DW=>?_⟩;obtain⟨b,DX,D5⟩:=DW.drop;exact k _ H1 G1 b (Ec.trans D5) DX
theorem Rel.only{K:W.Frag}{G H:Hp}{r:R}{v:V}{es:PV.Env}{vs:L2.St}{fp:List Addr}(q:Rel K G H (some r::es) (some v::vs) fp):∃a,Rel K G H [some r] [some v] a/\Step G H fp G H a:=by
 obtain⟨y,ys,e,v',a,b,e1,e2,r1,r2⟩:=q.rep;cases e;cases e1;subst e2;have nd:=PX.mp q.nd;exact⟨a,⟨⟨some v,[],rfl,v,a,[],rfl,(PU _).symm,r1,rfl,rfl⟩,nd.1,fun p hp=>q.gn p (Pp _ hp),q.gh⟩,Step.cut fun p hp=>Pp _ hp⟩
theorem bz(he:QE X e f):QS (md:=.plain) X (.Return (some e) pos) (eQ f):=dm (vp he) fun D σ H D8=>by
 obtain⟨G,env,fp,rel,k⟩:=D8;unfold eQ at k;match q:f env,k with
 | .ok (r,DU),k=>
  refine⟨G,env,fp,r,DU,rel,q,fun v H1 G1 Ej Ec DW=>?_⟩;obtain⟨b,DX,D5⟩:=DW.only;exact k _ H1 G1 b (Ec.trans D5) DX
theorem Rel.nilF{K:W.Frag}{G H:Hp}{es:PV.Env}{vs:L2.St}{fp:List Addr}(q:Rel K G H es vs fp):Rel K G H [] [] []:=⟨⟨rfl,rfl⟩,RD,(fun _ h=>nomatch h),q.gh⟩
theorem dF{a b:List Stmt}{ct:Expr}(hc:QT X ct c)(ha:Iy (md:=md) X a g)(hb:Iy (md:=md) X b h):QS (md:=md) X (.If ct a b pos) (Ge c g h):=dm (Bh hc ha hb) fun D σ H D8=>by
 obtain⟨G,env,fp,rel,k⟩:=D8;unfold Ge at k;match q:c env,k with
 | .ok (true,DU),k=>exact⟨G,env,fp,true,DU,rel,q,fun H1 G1 Ej Ec DW=>yt ⟨G1,DU,Ej,DW,OutOk.after Ec k⟩⟩
 | .ok (false,DU),k=>exact⟨G,env,fp,false,DU,rel,q,fun H1 G1 Ej Ec DW=>iteF ⟨G1,DU,Ej,DW,OutOk.after Ec k⟩⟩
def cv(c:FT)(g:FS):Nat->FS
 | 0,_=>.bad
 |n+1,env=>(c env).bind fun p=>if p.1 then(g p.2).bind fun o=>match o with
  | .nx e=>cv c g n e
  | .ct e=>cv c g n e
  | .bk e=>.ok (.nx e)
  | .rt r=>.ok (.rt r)
  else .ok (.nx p.2)
theorem nR{ct:Expr}{body:List Stmt}(n:Nat)(hp:PassesOwn (model X.prog X.w) X.A X.env X.xe)(hc:QT X ct c)(hb:Iy (md:=md) X body g):QS (md:=md) X (.While ct body [] pos) (cv c g n):=
 dm (tw hp hc hb) fun D σ H D8=>by
  obtain⟨G,env,fp,rel,k⟩:=D8;refine⟨fun m σ' H'=>∃G' env' D2,Rel X.K G' H' env' σ' D2/\OutOk X.K G' H' D2 D (cv c g m env'),⟨n,G,env,fp,rel,k⟩,?_⟩;rintro m σ1 H1 ⟨G1,DU,Ej,DW,k1⟩;cases m with
  |zero=>exact k1.elim
  |succ m=>
   unfold cv at k1;match q:c DU,k1 with
   | .ok (false,D4),k1=>exact⟨G1,DU,Ej,false,D4,DW,q,fun H2 G2 Ew D5 DX=>iteF (k1 _ H2 G2 Ew D5 DX)⟩
   | .ok (true,D4),k1=>
    refine⟨G1,DU,Ej,true,D4,DW,q,fun H2 G2 Ew D5 DX=>yt ?_⟩;refine⟨fun σ' H'=>∃G' env' D2,Rel X.K G' H' env' σ' D2/\OutOk X.K G' H' D2 D (cv c g m env'),fun σ' H' z=>⟨m,P9 _,z⟩,G2,D4,Ew,DX,?_⟩;have k2:OutOk X.K G1 H1 Ej D ((g D4).bind fun o=>match o with | .nx e=>cv c g m e | .ct e=>cv c g m e | .bk e=>.ok (.nx e) | .rt r=>.ok (.rt r)):=k1;match q2:g D4,k2 with
    | .ok (.nx e),k2=>exact fun σ' H' G' D2 st rel=>⟨G',e,D2,rel,OutOk.after (D5.trans st) k2⟩
    | .ok (.ct e),k2=>exact fun σ' H' G' D2 st rel=>⟨G',e,D2,rel,OutOk.after (D5.trans st) k2⟩
    | .ok (.bk e),k2=>exact fun σ' H' G' D2 st rel=>k2 σ' H' G' D2 (D5.trans st) rel
    | .ok (.rt r),k2=>exact fun v H' G' D2 st rel=>k2 v H' G' D2 (D5.trans st) rel
def Walk(K:W.Frag)(G:Hp)(J:It)(ds:List D):Prop:=∀G' H' es vs fp,Same G G'->Rel K G' H' es vs fp->∀i:Nat,
 (∀d,ds[i]?=some d->J.go i H'/\∀x H2,J.yld i H' x H2->∃G2,Rep K G2 d x/\Rel K G2 H2 es vs fp/\Step G' H' fp G2 H2 fp)/\(i=ds.length->J.stop i H')
abbrev FI:=PV.Env->Res (List D×PV.Env)
inductive tQI(K:W.Frag)(f:FI)(σ:L2.St)(H:Hp)(R:It->Hp->Prop):Prop
 |mk:∀G env fp ds env',Rel K G H env σ fp->f env=.ok (ds,env')->(∀J H' G' D2,Step G H fp G' H' D2->Rel K G' H' env' σ D2->Walk K G' J ds->R J H')->tQI K f σ H R
def QI(X:Cx)(tg e:Expr)(f:FI):Prop:=PI X tg e (tQI X.K f)
theorem gW{X:Cx}{tg e:Expr}{t t':TI}(h:PI X tg e t)(k:∀σ H R,t' σ H R->t σ H R):PI X tg e t':=fun pr s σ H R I w=>h pr s σ H R I (k σ H R w)
abbrev FG:=D->PV.Env->Res PV.Env
inductive tQG(K:W.Frag)(a:FG)(v:V)(σ:L2.St)(H:Hp)(Q:L2.St->Hp->Prop):Prop
 |mk:∀G env fp d env',Rel K G H env σ fp->Rep K G d v->a d env=.ok env'->(∀σ' G' D2,Step G H fp G' H D2->Rel K G' H env' σ' D2->Q σ' H)->tQG K a v σ H Q
def QG(X:Cx)(tg:Expr)(a:FG):Prop:=PG X tg (tQG X.K a)
def aw(i:Nat):FG:=fun d env=>if i<env.length then .ok (env.set i (some (.f,d))) else .bad
theorem vF{X:Cx}{tg:Expr}{t t':TG}(h:PG X tg t)(k:∀v σ H Q,t' v σ H Q->t v σ H Q):PG X tg t':=fun pr s σ H v u Q I r w=>h pr s σ H v u Q I r (k v σ H Q w)
theorem qI{X:Cx}{tg:List Expr}{t t':Kv}(h:KY X tg t)(k:∀v σ H Q,t' v σ H Q->t v σ H Q):KY X tg t':=fun pr s σ H v u Q I r w=>h pr s σ H v u Q I r (k v σ H Q w)
theorem aG{i:Nat}{x:Str}(hN:X.N.Nodup)(hi:X.N[i]?=some x)(hx:Loc X.env.scope x)(hf:X.fn x=true\/X.env.scope.names.lookup x=some .local:=by first|exact .inl rfl|exact .inr rfl|assumption):QG X (.Name x pos) (aw i):=
 vF (wB (i:=i) hN hi hx hf) fun v σ H Q D8=>by
  obtain⟨G,env,fp,d,env',rel,r,e,k⟩:=D8;unfold aw at e;split at e
  ·rename_i hl;cases e;obtain⟨fq,DX,D5⟩:=(rel.push r).store hl;exact k _ G fq D5 DX
  ·cases e
abbrev JQ:=List D->PV.Env->Res PV.Env
inductive tQGs(K:W.Frag)(a:JQ)(vs:List V)(σ:L2.St)(H:Hp)(Q:L2.St->Hp->Prop):Prop
 |mk:∀G env fp ds env',Rel K G H env σ fp->Reps K G ds vs->a ds env=.ok env'->(∀σ' G' D2,Step G H fp G' H D2->Rel K G' H env' σ' D2->Q σ' H)->tQGs K a vs σ H Q
def Nu(X:Cx)(tg:List Expr)(a:JQ):Prop:=KY X tg (tQGs X.K a)
def fH:JQ:=fun ds env=>match ds with
 |[]=>.ok env
 |_=>.bad
def bj(a:FG)(b:JQ):JQ:=fun ds env=>match ds with
 |d::ds=>(a d env).bind fun e=>b ds e
 |_=>.bad
theorem jX:Nu X [] fH:=qI wC fun vs σ H Q D8=>by
 obtain⟨G,env,fp,ds,env',rel,r,e,k⟩:=D8;cases ds with
 |nil=>
  cases e;rw[Reps]at r;exact⟨r,k σ G fp .refl rel⟩
 |cons d ds=>cases e
theorem dn{tg:Expr}{Hx:List Expr}{a:FG}{b:JQ}(h1:QG X tg a)(h2:Nu X Hx b)(hs:(assignEach (tg::Hx) X.env).map (·.2)=assign tg X.env::(assignEach Hx X.env).map (·.2):=by rfl):Nu X (tg::Hx) (bj a b):=
 qI (tu h1 h2 hs) fun vs σ H Q D8=>by
  obtain⟨G,env,fp,ds,env',rel,r,e,k⟩:=D8;cases ds with
  |nil=>cases e
  |cons d ds=>
   rw[Reps]at r;obtain⟨y,ys,ev,r1,r2⟩:=r;obtain⟨DU,e1,e2⟩:=ah e;exact⟨y,ys,ev,G,env,fp,d,DU,rel,r1,e1,fun σ1 G1 Ej Ec DW=>⟨G1,DU,Ej,ds,env',DW,r2.mono Ec.gg,e2,fun σ2 G2 Ew D5 DX=>k σ2 G2 Ew (Ec.trans D5) DX⟩⟩
def lj(n:Nat)(a:JQ):FG:=fun d env=>match d with
 | .tup ds=>if ds.length=n then a ds env else .bad
 |_=>.bad
theorem nS{Hx:List Expr}{k n:Nat}{a:JQ}(hc:X.calm=true)(h:Nu X Hx a)(hn:(assignEach Hx X.env).length=n:=by rfl)(KZ:(assignEach Hx X.env).findIdx? (·.1)=none:=by rfl):QG X (.Tuple Hx k pos) (lj n a):=
 vF (yR hc h hn KZ) fun v σ H Q D8=>by
  obtain⟨G,env,fp,d,env',rel,r,e,k⟩:=D8;unfold lj at e;split at e
  ·rename_i ds;split at e
   ·rename_i hl;obtain⟨p,xs,ev,sq,rs⟩:=bf r;exact⟨p,xs,ev,bA rel.gh sq,rs.length.trans hl,G,env,fp,ds,env',rel,rs,e,k⟩
   ·cases e
  ·cases e
def eF(a:FG)(g:FS):List D->FS
 |[],env=>.ok (.nx env)
 |d::ds,env=>(a d env).bind fun e=>(g e).bind fun o=>match o with
  | .nx e=>eF a g ds e
  | .ct e=>eF a g ds e
  | .bk e=>.ok (.nx e)
  | .rt r=>.ok (.rt r)
def vG(f:FI)(a:FG)(g:FS):FS:=fun env=>(f env).bind fun p=>eF a g p.1 p.2
theorem ll{tg iter:Expr}{body:List Stmt}{fi:FI}{a:FG}(hp:PassesOwn (model X.prog X.w) X.A X.env X.xe)(hc:X.calm=true)(hi:QI X tg iter fi)(hg:QG X tg a)(hb:Iy (md:=md) X body g)(hs:∀x,foldedSetIterable iter X.env x=pure x:=by intro _;rfl):QS (md:=md) X (.For tg iter body [] pos) (vG fi a g):=
 dm (pT hp hc hi hg hb hs) fun D σ H D8=>by
  obtain⟨G,env,fp,rel,k⟩:=D8;unfold vG at k;match q:fi env,k with
  | .ok (ds,DU),k=>
   refine⟨G,env,fp,ds,DU,rel,q,fun J H1 G1 Ej Ec DW wk=>?_⟩;have k:OutOk X.K G H fp D (eF a g ds DU):=k;refine⟨fun i m σ' H'=>m=ds.length-i/\i<=ds.length/\∃G' env' D2,Same G1 G'/\Rel X.K G' H' env' σ' D2/\OutOk X.K G' H' D2 D (eF a g (ds.drop i) env'),⟨_,rfl,QA _,G1,DU,Ej,.refl _,DW,OutOk.after Ec k⟩,?_⟩;rintro i m σ2 H2 ⟨rfl,hi,G2,D4,Ew,gg,DX,k2⟩;obtain⟨w1,w2⟩:=wk G2 H2 _ _ _ gg DX i;by_cases ED:i<ds.length
   ·have hd:ds[i]?=some ds[i]:=Pk ED;obtain⟨go,yl⟩:=w1 _ hd;rw[QD ED]at k2;refine .inr ⟨go,fun σ' H'=>∃G' env' D2,Same G1 G'/\Rel X.K G' H' env' σ' D2/\OutOk X.K G' H' D2 D (eF a g (ds.drop (i+1)) env'),fun σ' H' z=>⟨ds.length-(i+1),by lia,rfl,ED,z⟩,fun x H3 y=>?_⟩;obtain⟨G3,rx,Et,En⟩:=yl x H3 y;unfold eF at k2;match q3:a ds[i] D4,k2 with
    | .ok Eo,k2=>
     refine⟨G3,D4,Ew,ds[i],Eo,Et,rx,q3,fun σ4 G4 Mx EU E8=>⟨G4,Eo,Mx,E8,?_⟩⟩;have k3:OutOk X.K G2 H2 Ew D ((g Eo).bind fun o=>match o with | .nx e=>eF a g (ds.drop (i+1)) e | .ct e=>eF a g (ds.drop (i+1)) e | .bk e=>.ok (.nx e) | .rt r=>.ok (.rt r)):=k2;match q4:g Eo,k3 with
     | .ok (.nx e),k3=>exact fun σ' H' G' D2 st rel=>⟨G',e,D2,gg.trans (En.gg.trans (EU.gg.trans st.gg)),rel,OutOk.after (En.trans (EU.trans st)) k3⟩
     | .ok (.ct e),k3=>exact fun σ' H' G' D2 st rel=>⟨G',e,D2,gg.trans (En.gg.trans (EU.gg.trans st.gg)),rel,OutOk.after (En.trans (EU.trans st)) k3⟩
     | .ok (.bk e),k3=>exact fun σ' H' G' D2 st rel=>k3 σ' H' G' D2 (En.trans (EU.trans st)) rel
     | .ok (.rt r),k3=>exact fun v H' G' D2 st rel=>k3 v H' G' D2 (En.trans (EU.trans st)) rel
   ·have e:i=ds.length:=by lia
    subst e;rw[RC]at k2;exact .inl ⟨w2 rfl,k2 σ2 H2 G2 Ew .refl DX⟩
def zI(f:FX):FI:=fun env=>(f env).bind fun p=>match p.1.2 with
 | .lst ds=>.ok (ds,p.2)
 |_=>.bad
def hJ(f:FX):FI:=fun env=>(f env).bind fun p=>match p.1.2 with
 | .tup ds=>.ok (ds,p.2)
 |_=>.bad
variable{tg l:Expr}
theorem lp{K:W.Frag}{G:Hp}{a:Addr}{xs:List V}{ds:List D}(sq:SqL K G a xs)(rs:Reps K G ds xs):Walk K G (LY K a) ds:=by
 intro G' H' es vs fp gg rel i;have FH:SqL K H' a xs:=ft rel.gh (ft gg sq);refine⟨fun d hd=>?_,fun e=>⟨xs,FH,by rw[rs.length];lia⟩⟩;obtain⟨x,hx,rx⟩:=rs.get hd;refine⟨⟨xs,x,FH,hx⟩,fun y H2 ⟨e,hy⟩=>?_⟩;subst e;have:=hy xs FH;rw[hx]at this;cases this;exact⟨G',Rep.mono gg rx,rel,.refl⟩
theorem ua{K:W.Frag}{G:Hp}{a:Addr}{xs:List V}{ds:List D}(sq:SqT K G a xs)(rs:Reps K G ds xs):Walk K G (NO K a) ds:=by
 intro G' H' es vs fp gg rel i;have FH:SqT K H' a xs:=bA rel.gh (bA gg sq);refine⟨fun d hd=>?_,fun e=>⟨xs,FH,by rw[rs.length];lia⟩⟩;obtain⟨x,hx,rx⟩:=rs.get hd;refine⟨⟨xs,x,FH,hx⟩,fun y H2 ⟨e,hy⟩=>?_⟩;subst e;have:=hy xs FH;rw[hx]at this;cases this;exact⟨G',Rep.mono gg rx,rel,.refl⟩
theorem xj(h:QE X l f):QI X tg l (zI f):=gW (pQ h) fun σ H R D8=>by
 obtain⟨G,env,fp,ds,env',rel,e,k⟩:=D8;obtain⟨⟨⟨o,d⟩,DU⟩,e1,e⟩:=ah e;dsimp only at e;split at e
 ·cases e;refine⟨G,env,fp,_,_,rel,e1,fun v H1 G1 Ej Ec DW=>?_⟩;obtain⟨G2,b,rv,DX,D5⟩:=DW.freeze;obtain⟨p,xs,ev,sq,rs⟩:=bg rv;exact⟨p,ev,⟨xs,ft DX.gh sq⟩,k _ H1 G2 b (Ec.trans D5) DX (lp sq rs)⟩
 ·cases e
theorem jm(h:QE X l f):QI X tg l (hJ f):=gW (yU h) fun σ H R D8=>by
 obtain⟨G,env,fp,ds,env',rel,e,k⟩:=D8;obtain⟨⟨⟨o,d⟩,DU⟩,e1,e⟩:=ah e;dsimp only at e;split at e
 ·cases e;refine⟨G,env,fp,_,_,rel,e1,fun v H1 G1 Ej Ec DW=>?_⟩;obtain⟨G2,b,rv,DX,D5⟩:=DW.freeze;obtain⟨p,xs,ev,sq,rs⟩:=bf rv;exact⟨p,ev,⟨xs,bA DX.gh sq⟩,k _ H1 G2 b (Ec.trans D5) DX (ua sq rs)⟩
 ·cases e
def hU(f:FX):FI:=fun env=>(f env).bind fun p=>match p.1.2 with
 | .str l=>.ok (l.map fun c=>.str [c],p.2)
 |_=>.bad
theorem jn(h:QE X l f):QI X tg l (hU f):=gW (zm h) fun σ H R D8=>by
 obtain⟨G,env,fp,ds,env',rel,e,k⟩:=D8;obtain⟨⟨⟨o,d⟩,DU⟩,e1,e⟩:=ah e;dsimp only at e;split at e
 ·rename_i cs;cases e;refine⟨G,env,fp,_,_,rel,e1,fun v H1 G1 Ej Ec DW=>?_⟩;obtain⟨G2,b,rv,DX,D5⟩:=DW.freeze;obtain⟨ev,hl⟩:=a9 rv;refine⟨cs,ev,k _ H1 G2 b (Ec.trans D5) DX fun G' H' es vs D2 gg EF i=>⟨fun d hd=>?_,fun e=>?_⟩⟩
  ·rw[PK]at hd;cases hc:cs[i]? with
   |none=>rw[hc]at hd;cases hd
   |some c=>
    rw[hc]at hd;cases hd;refine⟨(Pn.mp hc).1,fun x H2 ⟨e1,e2⟩=>?_⟩;subst e1;refine⟨G',?_,EF,.refl⟩;rw[e2];show Rep X.K G' (.str [c]) (.str (S [cs.getD i 0]));rw[Pg,hc];exact gH (by rw[line_eq];simp)
  ·rw[PQ]at e;exact e
 ·cases e
def bV(f:FO):FI:=fun env=>(f env).bind fun p=>(Gd p.2 p.1).bind fun d=>match d with
 | .int j=>if -4611686018427387904<=j/\j<4611686018427387904 then .ok ((List.range j.toNat).map fun(k:Nat)=>D.int (k:Int),p.2) else .bad
 |_=>.bad
theorem pe{K:W.Frag}{G:Hp}(lo:Int)(n:Nat):Walk K G (Nj lo n) ((List.range n).map fun(k:Nat)=>D.int (lo+(k:Int))):=by
 intro G' H' es vs fp gg rel i;refine⟨fun d hd=>?_,fun e=>?_⟩
 ·rw[PK]at hd;cases hc:(List.range n)[i]? with
  |none=>rw[hc]at hd;cases hd
  |some c=>
   rw[hc]at hd;cases hd;obtain⟨h1,h2⟩:=Pn.mp hc;rw[PM]at h1;rw[R7]at h2;subst h2;refine⟨h1,fun x H2 ⟨e1,e2⟩=>?_⟩;subst e1;exact⟨G',by rw[e2];exact rep_int _,rel,.refl⟩
 ·rw[PQ,PM]at e;exact Tx e.symm
theorem c7{a:Expr}{fa:FO}{p pos:Pos}(hg:Gl X "range")(hm:X.mg "range" = none)(ha:QO X a fa)(hs:starEach [a] X.env=[(false,eval a X.env)]:=by rfl):QI X tg (.Call (.Name "range" p) [a] [] pos) (bV fa):=
 gW (pR hg hm (ab ha aj hs) hs) fun σ H R D8=>by
  obtain⟨G,env,fp,ds,env',rel,e,k⟩:=D8;obtain⟨⟨o,DU⟩,e1,e⟩:=ah e;obtain⟨d,e2,e⟩:=ah e;dsimp only at e;split at e
  ·rename_i j;split at e
   ·rename_i hj;cases e;refine⟨G,env,fp,[o],_,rel,by show(fa env).bind _=_;rw[e1];rfl,fun vs H1 G1 Ej Ec DW Gq=>?_⟩;obtain⟨y,ys,ev,k1,k2⟩:=Gq;have k2:ys=[]:=k2;subst k2;have hv:=ba (DW.vw k1 e2);subst hv;refine⟨j,ev,by lia,by lia,k _ H1 G1 Ej Ec DW ?_⟩;have w:=pe (K:=X.K) (G:=G1) 0 j.toNat
    simpa using w
   ·cases e
  ·cases e
noncomputable def BH(fs:FOs):FI:=fun env=>(fs env).bind fun p=>(pK p.2 p.1).bind fun d=>match d with
 |[.int i,.int j]=>if(-4611686018427387904<=i/\i<4611686018427387904)/\-4611686018427387904<=j/\j<4611686018427387904 then .ok ((List.range (j-i).toNat).map fun(k:Nat)=>D.int (i+(k:Int)),p.2) else .bad
 |_=>.bad
def gq(k:Bool):D->Res (List D)
 | .lst ds=>if k then .ok ds else .bad
 | .tup ds=>if k then .bad else .ok ds
 |_=>.bad
def ph(k1 k2:Bool)(fs:FOs):FI:=fun env=>(fs env).bind fun p=>match p.1 with
 |[.val d1,.val d2]=>(gq k1 d1).bind fun a=>(gq k2 d2).bind fun b=>.ok ((a.zip b).map fun z=>D.tup [z.1,z.2],p.2)
 |_=>.bad
theorem jY{K:W.Frag}{G:Hp}{k:Bool}{d:D}{ds:List D}{v:V}(e:gq k d=.ok ds)(r:Rep K G d v):∃p xs,v=.ref p/\(if k then SqL K G p xs else SqT K G p xs)/\Reps K G ds xs:=by
 cases d with
 |lst es=>
  cases k with
  |true=>
   cases e;obtain⟨p,xs,e1,q,rs⟩:=bg r;exact⟨p,xs,e1,q,rs⟩
  |false=>cases e
 |tup es=>
  cases k with
  |true=>cases e
  |false=>
   cases e;obtain⟨p,xs,e1,q,rs⟩:=bf r;exact⟨p,xs,e1,q,rs⟩
 |_=>cases e
theorem gJ{K:W.Frag}{G G':Hp}{k:Bool}{p:Addr}{xs:List V}(h:Same G G')(r:if k then SqL K G p xs else SqT K G p xs):if k then SqL K G' p xs else SqT K G' p xs:=by
 cases k with
 |true=>exact ft h r
 |false=>exact bA h r
theorem ub{K:W.Frag}{G:Hp}{k1 k2:Bool}{p1 p2:Addr}{xs ys:List V}{as bs:List D}(s1:if k1 then SqL K G p1 xs else SqT K G p1 xs)(s2:if k2 then SqL K G p2 ys else SqT K G p2 ys)(r1:Reps K G as xs)(r2:Reps K G bs ys):
  Walk K G (NZ K k1 k2 p1 p2) ((as.zip bs).map fun z=>D.tup [z.1,z.2]):=by
 intro G' H' es vs fp gg rel i;have g1:=gJ (gg.trans rel.gh) s1;have g2:=gJ (gg.trans rel.gh) s2;refine⟨fun d hd=>?_,fun e=>⟨xs,ys,g1,g2,?_⟩⟩
 ·rw[PK]at hd;cases hz:(as.zip bs)[i]? with
  |none=>rw[hz]at hd;cases hd
  |some z=>
   rw[hz]at hd;cases hd;obtain⟨h1,h2⟩:=Rr.mp hz;obtain⟨x,hx,rx⟩:=r1.get h1;obtain⟨y,hy,ry⟩:=r2.get h2;refine⟨⟨xs,ys,x,y,g1,g2,hx,hy⟩,fun v H2 ⟨T,hT,ev,hh⟩=>?_⟩;have e2:=hh xs ys x y g1 g2 hx hy;subst e2;obtain⟨DX,D5⟩:=rel.newF (u:=.tup [x,y]) hT;refine⟨_,?_,DX,D5⟩;rw[Rep];exact⟨T,[x,y],ev,ay,.cons (Rep.mono (gg.trans D5.gg) rx) (.one (Rep.mono (gg.trans D5.gg) ry))⟩
 ·rw[PQ,Q8]at e;rw[r1.length,r2.length];exact e
theorem nU(k1 k2:Bool){Hx:List Expr}{kt:Nat}{pt:Pos}{e1 e2:Expr}{fs:FOs}{p pos:Pos}(hg:Gl X "zip")(hm:X.mg "zip" = none)(ha:IM X [e1,e2] fs)(he:starEach [e1,e2] X.env=(false,eval e1 X.env)::starEach [e2] X.env:=by rfl)(FE:(backTo pos (starEach [e2] X.env)).any (·.1)=false:=by rfl):
  QI X (.Tuple Hx kt pt) (.Call (.Name "zip" p) [e1,e2] [] pos) (ph k1 k2 fs):=
 gW (zr k1 k2 hg hm ha he FE) fun σ H R D8=>by
  obtain⟨G,env,fp,ds,env',rel,e,k⟩:=D8;obtain⟨⟨o,DU⟩,e1,e⟩:=ah e;dsimp only at e;split at e
  ·rename_i d1 d2;obtain⟨a,ea,e⟩:=ah e;obtain⟨b,eb,e⟩:=ah e;cases e;refine⟨G,env,fp,_,_,rel,e1,fun vs H1 G1 Ej Ec DW Gq=>?_⟩;obtain⟨y,ys,ev,v1,z,zs,KA,v2,e3⟩:=Gq;have e3:zs=[]:=e3;subst e3;obtain⟨p1,N7,N8,q1,r1⟩:=jY ea v1;obtain⟨p2,L4,ep2,q2,r2⟩:=jY eb v2;subst N8;subst ep2;subst KA;exact⟨p1,p2,N7,L4,ev,gJ DW.gh q1,gJ DW.gh q2,k _ H1 G1 Ej Ec DW (ub q1 q2 r1 r2)⟩
  ·cases e
end
def fBody(np nn:Nat)(g:FS):List D->Res R:=fun ds=>if ds.length=np then(g (ds.map (fun d=>some (O.f,d))++List.replicate nn none)).bind fun o=>match o with
 | .rt r=>.ok r
 | .nx _=>.ok (.f,.non)
 |_=>.bad
 else .bad
theorem gr{K:W.Frag}{G H:Hp}(n:Nat):∀{ds:List D}{vs:List V},Reps K G ds vs->RepE K G H (ds.map (fun d=>some (O.f,d))++List.replicate n none) (vs.map some++List.replicate n none) []
 |[],vs,r=>by
  rw[Reps]at r;subst r;show RepE K G H (List.replicate n none) (List.replicate n none) [];induction n with
  |zero=>exact⟨rfl,rfl⟩
  |succ n ih=>exact⟨none,_,rfl,ih⟩
 |d::ds,vs,r=>by
  rw[Reps]at r;obtain⟨y,ys,e,r1,r2⟩:=r;subst e;exact⟨some y,_,rfl,y,[],[],rfl,rfl,bX.mpr ⟨r1,rfl⟩,gr n r2⟩
theorem fI{P:Program}{w:World}{K:W.Frag}{mg:Str->Option Value}{base:Heap}{x:Str}{st:Stmt}{N ps:List Str}{k:Nat}{g:FS}(Df:Def K mg x st)(sc:FnScope N ps (defScope st))
  (hb:∀(kV doc pm:Value) (an:Option Addr) (Er ct:Value) (us:List Value),us.length=ps.length->bindArgs (PySem.W.fnOf x x (dN st) (cy st) (defScope st) .none kV doc pm an Er ct) ⟨us,[]⟩=pure (ps.zip us))
  (body:∀(f:Addr) (Er:Value) (A:Around) (outer:List PySem.Env) (s:Shared) (H:Hp) (E:XK),Room k (A.deeper (envOfC x (defScope st) s.heap.objs.size f Er))->Iy (md:=.plain) (tH IL P w K mg base N x (defScope st) f Er A outer s H E).nox (cy st) g):
  Ct P w K mg base x (k+1) (spF K (fBody ps.length (N.length-ps.length) g)):=by
 obtain⟨f,fd,F,m⟩:=Df;refine⟨f,fd,ps,F.ok sc (fun vs H Q E h=>?_) (fun Er A outer s H vs Q E hr h=>?_),m,F.kp,F.binds hb⟩
 ·obtain⟨G,ds,r,_,rs,e,_⟩:=h;unfold fBody at e;split at e
  ·rename_i hl;rw[rs.length,hl]
  ·cases e
 ·obtain⟨G,ds,r,gh,rs,e,q⟩:=h;unfold fBody at e;split at e
  ·rename_i hl;refine⟨_,body f Er A outer s H E hr,G,ds.map (fun d=>some (O.f,d))++List.replicate (N.length-ps.length) none,[],⟨?_,RD,(fun _ h=>nomatch h),gh⟩,?_⟩
   ·have:=gr (K:=K) (G:=G) (H:=H) (N.length-ps.length) rs;unfold L2.start;rw[rs.length,hl];exact this
   ·obtain⟨o,eo,e⟩:=ah e;rw[eo];cases o with
    |rt r'=>
     cases e;exact fun v H' G' D2 st rel=>q v H' G' D2 st rel
    |nx env'=>
     cases e;exact fun σ' H' G' D2 st rel=>q .non H' G' [] (st.trans (Step.cut fun _ h=>nomatch h)) (rel.nilF.push jV)
    |bk env'=>cases e
    |ct env'=>cases e
  ·cases e
def bC(ix:List (Option Nat))(env:PV.Env):PV.Env:=ix.map fun j=>j.bind fun j=>match env[j]? with
 |some (some r)=>some (O.f,r.2)
 |_=>none
def dq:FT:=fun env=>.ok (true,env)
def cM(a:FG)(c:FT)(f:FX):List D->PV.Env->Res (List D)
 |[],_=>.ok []
 |d::ds,env=>(a d env).bind fun e=>(c e).bind fun p=>if p.1 then(f p.2).bind fun q=>(cM a c f ds q.2).bind fun rs=>.ok (q.1.2::rs) else cM a c f ds p.2
def di(fi:FI)(ix:List (Option Nat))(a:FG)(c:FT)(f:FX):FX:=fun env=>(fi env).bind fun p=>(cM a c f p.1 (bC ix p.2)).bind fun ds=>if ds.length<=sizeLine then .ok ((.l .f,.lst ds),if D6 ds then p.2 else p.2.map frz) else .bad
theorem dt:∀ds,ds.all (aB .f)=D6 ds
 |[]=>rfl
 |d::ds=>by rw[Rz,D6,dt ds,aB]
theorem c8{K:W.Frag}{G1 H:Hp}{es:PV.Env}{σ:L2.St}(ht:∀(i:Nat) (r:R) (v:V),es[i]?=some (some r)->σ[i]?=some (some v)->Rep K G1 r.2 v)(hv:∀(i:Nat) (r:R),es[i]?=some (some r)->∃v,σ[i]?=some (some v)):
  ∀ix:List (Option Nat),RepE K G1 H (bC ix es) (dk ix σ) []
 |[]=>⟨rfl,rfl⟩
 |none::ix=>⟨none,_,rfl,c8 ht hv ix⟩
 |some j::ix=>by
  show RepE K G1 H ((match es[j]? with|some (some r)=>some (O.f,r.2)|_=>none)::bC ix es) ((σ[j]?).bind id::dk ix σ) [];cases e:es[j]? with
  |none=>exact⟨_,_,rfl,c8 ht hv ix⟩
  |some r=>
   cases r with
   |none=>exact⟨_,_,rfl,c8 ht hv ix⟩
   |some r=>
    obtain⟨v,ev⟩:=hv j r e;refine⟨_,_,rfl,v,[],[],?_,rfl,bX.mpr ⟨ht j r v e ev,rfl⟩,c8 ht hv ix⟩;rw[ev];rfl
section
variable{md:Mode}{X:Cx}{scope:Scope}{N:List Str}{tg iter elt:Expr}{ifs:List Expr}{pos:Pos}{fi:FI}{a:FG}{c:FT}{f:FX}
def JR(X:Cx)(ifs:List Expr)(c:FT):Prop:=JL X ifs (tQT X.K c)
theorem b6:JR X [] dq:=fun pr s σ H Q I D8=>by
 obtain⟨G,env,fp,b,env',rel,e,k⟩:=D8;cases e;exact wX pr s σ H Q I (k H G fp .refl rel)
theorem jZ{t:Expr}(h:QT X t c):JR X [t] c:=wY h
end
section
variable{X:Cx}
inductive rCatS(K:W.Frag)(x:V)(y:V)(H:Hp)(Q:VK):Prop
 |mk:∀l b xs zs,x=.ref l->y=.ref b->SqL K H l xs->SqL K H b zs->xs.length+zs.length<=sizeLine->(∀p,H p=none->Q (.ref p) (upd H p (.lst (xs++zs))))->rCatS K x y H Q
theorem xk:EG X (binaryOp .Add) (rCatS X.K):=by
 intro pr s σ H x y v u Q I rx ry h;obtain⟨l,b,xs,zs,rfl,rfl,hH,hB,hz,q⟩:=h;cases rx;cases ry;obtain⟨DY,r1,p1,_⟩:=I.list hH;obtain⟨Ir,r2,p2,_⟩:=I.list hB;have l1:=r1.length;have l2:=r2.length;obtain⟨⟨cls,dd,data,sl⟩,ho,hc,n,hd⟩:=id p1.isList;obtain⟨⟨K1,JE,data2,JF⟩,FJ,Ih,n2,hd2⟩:=id p2.isList;simp only at hc hd Ih hd2;subst hc hd Ih hd2;have e:DY.toArray++Ir.toArray=(DY++Ir).toArray:=by simp
 refine Tt ⟨_,ho,rfl⟩ ⟨_,FJ,rfl⟩ noFill_list_add seq_list_add PySem.F.slot_list_add PySem.F.entry_list_add (PySem.F.args_list_add_2 _ _) (list_addW l b DY.toArray Ir.toArray n n2 dd JE sl JF (by rw[Pl,Pl];lia)) ⟨ho,FJ,?_⟩;rw[e];exact⟨.ref _,_,I.lnew (t':=s.toks) (r1.append r2) (by rw[Qo];lia),rfl,q _ I.fresh⟩
end
noncomputable def addD:D->D->Res R
 | .int i,.int j=>.ok (.f,.int (i+j))
 | .str a,.str b=>if a.length+b.length<=sizeLine then .ok (.f,.str (a++b)) else .bad
 | .lst a,.lst b=>if a.length+b.length<=sizeLine then .ok (.l .f,.lst (a++b)) else .bad
 | .tup a,.tup b=>if a≠[]/\a.length+b.length<=sizeLine then .ok (.f,.tup (a++b)) else .bad
 |_,_=>.bad
section
variable{X:Cx}
theorem j0{K:W.Frag}{G H:Hp}{fp:List Addr}{es:PV.Env}{vs:L2.St}{ds:List D}{xs:List V}{p:Addr}(rel:Rel K G H es vs fp)(hp:H p=none)(r:Reps K G ds xs):
  ∃G',Rel K G' (upd H p (.tup xs)) (some (.f,.tup ds)::es) (some (.ref p)::vs) fp/\Step G H fp G' (upd H p (.tup xs)) fp:=by
 obtain⟨DX,D5⟩:=rel.newF (u:=.tup xs) hp;refine⟨_,DX.push ?_,D5⟩;rw[Rep];exact⟨p,xs,rfl,ay,r.mono D5.gg⟩
theorem zJ:EG X (binaryOp .Add) (rG X.K addD):=by
 rintro pr s σ H x y v u Q I rx ry ⟨G,fp,es,vs,a,b,r,⟨rel,k⟩,va,vb,e⟩;unfold addD at e;split at e
 ·rename_i i j;cases e;cases ba va;cases ba vb;exact yV pr s σ H _ _ v u Q I rx ry ⟨i,j,rfl,rfl,k _ H G fp .refl (rel.push (rep_int _))⟩
 ·rename_i i j;split at e
  ·rename_i hl;cases e;obtain⟨e1,h1⟩:=gU va;obtain⟨e2,h2⟩:=gU vb;subst e1;subst e2;refine oX pr s σ H _ _ v u Q I rx ry ⟨_,_,rfl,rfl,by rw[k6,k6];exact hl,?_⟩;rw[Bx];exact k _ H G fp .refl (rel.push (gH (by rw[Qo];exact hl)))
  ·cases e
 ·rename_i i j;split at e
  ·rename_i hl;cases e;obtain⟨p,xs,e1,h1,r1⟩:=va;obtain⟨p2,L4,e2,h2,r2⟩:=vb;subst e1;subst e2;refine xk pr s σ H _ _ v u Q I rx ry ⟨p,p2,xs,L4,rfl,rfl,h1,h2,by rw[r1.length,r2.length];exact hl,fun q hq=>?_⟩;obtain⟨DX,D5⟩:=rel.newL hq (r1.app r2);exact k _ _ G _ D5 DX
  ·cases e
 ·rename_i i j;split at e
  ·rename_i hl;cases e;obtain⟨p,xs,e1,h1,r1⟩:=fL va;obtain⟨p2,L4,e2,h2,r2⟩:=fL vb;subst e1;subst e2;have hx:xs≠[]:=fun z=>hl.1 (QJ (by rw[<-r1.length,z];rfl))
   refine wN pr s σ H _ _ v u Q I rx ry ⟨p,p2,xs,L4,rfl,rfl,bA rel.gh h1,bA rel.gh h2,hx,by rw[r1.length,r2.length];exact hl.2,fun z=>?_,fun z q hq=>?_⟩
   ·have:j=[]:=QJ (by rw[<-r2.length,z];rfl);subst this;rw[PU]at k;exact k _ H G fp .refl (rel.push va)
   ·obtain⟨G',DX,D5⟩:=j0 rel hq (r1.app r2);exact k _ _ G' _ D5 DX
  ·cases e
 ·cases e
def uc:D->D->Res R
 | .int i,.int j=>.ok (.f,.int (i-j))
 |_,_=>.bad
theorem lq:EG X (binaryOp .Sub) (rG X.K uc):=by
 rintro pr s σ H x y v u Q I rx ry ⟨G,fp,es,vs,a,b,r,⟨rel,k⟩,va,vb,e⟩;unfold uc at e;split at e
 ·rename_i i j;cases e;cases ba va;cases ba vb;exact yW pr s σ H _ _ v u Q I rx ry ⟨i,j,rfl,rfl,k _ H G fp .refl (rel.push (rep_int _))⟩
 ·cases e
def jo(i:Int):Bool:=decide (-(2 ^ 64)<i/\i<2 ^ 64)
def BI:D->D->Res R
 | .int i,.int j=>if jo i||jo j then .ok (.f,.int (i*j)) else .bad
 |_,_=>.bad
theorem zL:EG X (binaryOp .Mult) (rG X.K BI):=by
 rintro pr s σ H x y v u Q I rx ry ⟨G,fp,es,vs,a,b,r,⟨rel,k⟩,va,vb,e⟩;unfold BI at e;split at e
 ·rename_i i j;split at e
  ·rename_i hc;cases e;cases ba va;cases ba vb;have hc:CMul i j:=by
    rw[TB]at hc;exact hc.imp SY SY
   exact yX pr s σ H _ _ v u Q I rx ry ⟨i,j,rfl,rfl,hc,k _ H G fp .refl (rel.push (rep_int _))⟩
  ·cases e
 ·cases e
def mD:D->D->Res R
 | .int i,.int j=>if 0<j/\j<1073741824 then .ok (.f,.int (i / j)) else .bad
 |_,_=>.bad
theorem qJ:EG X (binaryOp .FloorDiv) (rG X.K mD):=by
 rintro pr s σ H x y v u Q I rx ry ⟨G,fp,es,vs,a,b,r,⟨rel,k⟩,va,vb,e⟩;unfold mD at e;split at e
 ·rename_i i j;split at e
  ·rename_i hc;cases e;cases ba va;cases ba vb;exact wD pr s σ H _ _ v u Q I rx ry ⟨i,j,rfl,rfl,hc,k _ H G fp .refl (rel.push (rep_int _))⟩
  ·cases e
 ·cases e
def mf:D->D->Res R
 | .int i,.int j=>if 0<j then .ok (.f,.int (i%j)) else .bad
 |_,_=>.bad
theorem iy:EG X (binaryOp .Mod) (rG X.K mf):=by
 rintro pr s σ H x y v u Q I rx ry ⟨G,fp,es,vs,a,b,r,⟨rel,k⟩,va,vb,e⟩;unfold mf at e;split at e
 ·rename_i i j;split at e
  ·rename_i hc;cases e;cases ba va;cases ba vb;exact yY pr s σ H _ _ v u Q I rx ry ⟨i,j,rfl,rfl,hc,k _ H G fp .refl (rel.push (rep_int _))⟩
  ·cases e
 ·cases e
def mh:D->D->Res R
 | .int i,.int j=>if 0<=j/\j<=1000000/\i.natAbs<2 ^ 64 then .ok (.f,.int (i ^ j.toNat)) else .bad
 |_,_=>.bad
theorem jq:EG X (binaryOp .Pow) (rG X.K mh):=by
 rintro pr s σ H x y v u Q I rx ry ⟨G,fp,es,vs,a,b,r,⟨rel,k⟩,va,vb,e⟩;unfold mh at e;split at e
 ·rename_i i j;split at e
  ·rename_i hc;cases e;cases ba va;cases ba vb;exact yZ pr s σ H _ _ v u Q I rx ry ⟨i,j,rfl,rfl,hc,k _ H G fp .refl (rel.push (rep_int _))⟩
  ·cases e
 ·cases e
def JM:D->D->Res R
 | .int i,.int j=>.ok (.f,.bl (decide (i<j)))
 | .str a,.str b=>.ok (.f,.bl (decide (a<b)))
 |_,_=>.bad
theorem BJ:EG X (compareOp .Lt) (rG X.K JM):=by
 rintro pr s σ H x y v u Q I rx ry ⟨G,fp,es,vs,a,b,r,⟨rel,k⟩,va,vb,e⟩;unfold JM at e;split at e
 ·rename_i i j;cases e;cases ba va;cases ba vb;exact Bo pr s σ H _ _ v u Q I rx ry ⟨i,j,rfl,rfl,k _ H G fp .refl (rel.push (cq _))⟩
 ·rename_i i j;cases e;obtain⟨e1,h1⟩:=gU va;obtain⟨e2,h2⟩:=gU vb;subst e1;subst e2;refine pV pr s σ H _ _ v u Q I rx ry ⟨_,_,rfl,rfl,?_⟩;rw[fJ,fJ];exact k _ H G fp .refl (rel.push (cq _))
 ·cases e
def leD:D->D->Res R
 | .int i,.int j=>.ok (.f,.bl (decide (i<=j)))
 | .str a,.str b=>.ok (.f,.bl (!decide (b<a)))
 |_,_=>.bad
def JS:D->D->Res R
 | .int i,.int j=>.ok (.f,.bl (decide (j<i)))
 |_,_=>.bad
theorem ud:EG X (compareOp .Gt) (rG X.K JS):=by
 rintro pr s σ H x y v u Q I rx ry ⟨G,fp,es,vs,a,b,r,⟨rel,k⟩,va,vb,e⟩;unfold JS at e;split at e
 ·rename_i i j;cases e;cases ba va;cases ba vb;exact Bp pr s σ H _ _ v u Q I rx ry ⟨i,j,rfl,rfl,k _ H G fp .refl (rel.push (cq _))⟩
 ·cases e
def geD:D->D->Res R
 | .int i,.int j=>.ok (.f,.bl (decide (j<=i)))
 |_,_=>.bad
end
abbrev FDs:=PV.Env->Res (List D×PV.Env)
inductive tDs(K:W.Frag)(f:FDs)(σ:L2.St)(H:Hp)(Q:List V->Hp->Prop):Prop
 |mk:∀G env fp ds env',Rel K G H env σ fp->f env=.ok (ds,env')->(∀vs H' G' D2,Step G H fp G' H' D2->Rel K G' H' env' σ D2->Reps K G' ds vs->Q vs H')->tDs K f σ H Q
def My(X:Cx)(es:List Expr)(f:FDs):Prop:=PA X es (tDs X.K f)
def eS:FDs:=fun env=>.ok ([],env)
def cw(f:FX)(g:FDs):FDs:=fun env=>(f env).bind fun p=>(g p.2).bind fun q=>.ok (p.1.2::q.1,q.2)
section
variable{X:Cx}
theorem b7:My X [] eS:=nO nq fun σ H Q D8=>by
 obtain⟨G,env,fp,o,env',rel,e,k⟩:=D8;cases e;exact k [] H G fp .refl rel .nil
theorem bG{e:Expr}{es:List Expr}{f:FX}{g:FDs}(h:QE X e f)(hs:My X es g)(KZ:starEach (e::es) X.env=(false,eval e X.env)::starEach es X.env:=by rfl):My X (e::es) (cw f g):=
 nO (fY h hs KZ) fun σ H Q D8=>by
  obtain⟨G,env,fp,o,env',rel,e,k⟩:=D8;obtain⟨⟨r,DU⟩,e1,e⟩:=ah e;obtain⟨⟨ds,D4⟩,e2,e⟩:=ah e;cases e;refine⟨G,env,fp,r,DU,rel,e1,fun v H1 G1 Ej Ec DW=>?_⟩;obtain⟨G2,b,rv,DX,D5⟩:=DW.freeze;exact⟨G2,DU,b,ds,D4,DX,e2,fun vs H3 G3 FK En Et rs=>k _ H3 G3 FK (Ec.trans (D5.trans En)) Et (.cons (Rep.mono En.gg rv) rs)⟩
def BK(fs:FDs):FX:=fun env=>(fs env).bind fun p=>if p.1.length<=1000 then .ok ((.f,.tup p.1),p.2) else .bad
def mi(fs:FDs):FX:=fun env=>(fs env).bind fun p=>if p.1.length<=1000 then .ok ((.l .f,.lst p.1),p.2) else .bad
variable{es:List Expr}{fs:FDs}{pos:Pos}
theorem zM{x1}(h:My X es fs):QE X (.Tuple es x1 pos) (BK fs):=bc (vq h) fun σ H Q D8=>by
 obtain⟨G,env,fp,r,env',rel,e,k⟩:=D8;obtain⟨⟨ds,DU⟩,e1,e⟩:=ah e;dsimp only at e;split at e
 ·rename_i hl;cases e;refine⟨G,env,fp,ds,env',rel,e1,fun vs H1 G1 Ej Ec DW rs=>⟨by rw[rs.length,line_eq];lia,fun p hp=>?_⟩⟩;obtain⟨G2,DX,D5⟩:=j0 DW hp rs;exact k _ _ G2 _ (Ec.trans D5) DX
 ·cases e
theorem eT(h:My X es fs):QE X (.List es pos) (mi fs):=bc (y7 h) fun σ H Q D8=>by
 obtain⟨G,env,fp,r,env',rel,e,k⟩:=D8;obtain⟨⟨ds,DU⟩,e1,e⟩:=ah e;dsimp only at e;split at e
 ·rename_i hl;cases e;refine⟨G,env,fp,ds,env',rel,e1,fun vs H1 G1 Ej Ec DW rs=>⟨by rw[rs.length,line_eq];lia,fun p hp=>?_⟩⟩;obtain⟨DX,D5⟩:=DW.newL hp rs;exact k _ _ G1 _ (Ec.trans D5) DX
 ·cases e
noncomputable def EH:D->D->Res R
 | .lst ds,.int i=>match GU ds i with
  |some d=>.ok (.f,d)
  |none=>.bad
 | .tup ds,.int i=>match GU ds i with
  |some d=>.ok (.f,d)
  |none=>.bad
 | .str l,.int i=>match GU l i with
  |some c=>.ok (.f,.str [c])
  |none=>.bad
 |_,_=>.bad
theorem nV{K:W.Frag}{G:Hp}{ds:List D}{xs:List V}{i:Int}{d:D}(r:Reps K G ds xs)(e:GU ds i=some d):∃v,GU xs i=some v/\Rep K G d v:=by
 unfold GU at e ⊢;rw[r.length];cases hn:ixN ds.length i with
 |none=>rw[hn]at e;cases e
 |some j=>
  rw[hn]at e;exact r.get e
theorem BM:Ml X (rG X.K EH):=by
 rintro value slice pr s σ H x y v u Q I rx ry ⟨G,fp,es,vs,a,b,r,⟨rel,k⟩,va,vb,e⟩ hs;unfold EH at e;split at e
 ·rename_i ds i;split at e
  ·rename_i d hd;cases e;obtain⟨p,xs,ev,sq,rs⟩:=va;subst ev;cases ba vb;obtain⟨w',hw,HS⟩:=nV rs hd;exact wO value slice pr s σ H _ _ v u Q I rx ry ⟨p,xs,i,w',rfl,rfl,sq,hw,k _ H G fp .refl (rel.push HS)⟩ hs
  ·cases e
 ·rename_i ds i;split at e
  ·rename_i d hd;cases e;obtain⟨p,xs,ev,sq,rs⟩:=fL va;subst ev;cases ba vb;obtain⟨w',hw,HS⟩:=nV rs hd;exact vx value slice pr s σ H _ _ v u Q I rx ry ⟨p,xs,i,w',rfl,rfl,bA rel.gh sq,hw,k _ H G fp .refl (rel.push HS)⟩ hs
  ·cases e
 ·rename_i l i;split at e
  ·rename_i c hc;cases e;obtain⟨ev,hl⟩:=gU va;subst ev;cases ba vb;refine zb value slice pr s σ H _ _ v u Q I rx ry ⟨_,i,c,rfl,rfl,by rw[k6];exact hl,by rw[fJ];exact hc,?_⟩ hs;exact k _ H G fp .refl (rel.push (gH (l:=[c]) (by rw[line_eq];simp)))
  ·cases e
 ·cases e
variable{a b:Expr}{fa fb:FO}
theorem cA(ha:QO X a fa)(hb:QO X b fb)(hs:p6 b:=by exact fun _ _=>rfl):QE X (.Subscript a b pos) (aR EH fa fb):=bc (za BM ha hb hs) fun _ _ _=>qB
abbrev FP:=PV.Env->Res (Option Int×PV.Env)
inductive tQP(K:W.Frag)(f:FP)(σ:L2.St)(H:Hp)(Q:Option Int->Hp->Prop):Prop
 |mk:∀G env fp i env',Rel K G H env σ fp->f env=.ok (i,env')->(∀H' G' D2,Step G H fp G' H' D2->Rel K G' H' env' σ D2->Q i H')->tQP K f σ H Q
def QP(X:Cx)(e:Option Expr)(f:FP):Prop:=PO X e (tQP X.K f)
def ue:FP:=fun env=>.ok (none,env)
def uf(f:FX):FP:=fun env=>(f env).bind fun p=>match p.1.2 with
 | .int i=>.ok (some i,p.2)
 |_=>.bad
theorem vH{X:Cx}{e:Option Expr}{t t':TO}(h:PO X e t)(k:∀σ H Q,t' σ H Q->t σ H Q):PO X e t':=fun pr s σ H Q I w=>h pr s σ H Q I (k σ H Q w)
theorem qK:QP X none ue:=vH wL fun σ H Q D8=>by
 obtain⟨G,env,fp,i,env',rel,e,k⟩:=D8;cases e;exact k H G fp .refl rel
theorem qL{e:Expr}{f:FX}(h:QE X e f):QP X (some e) (uf f):=vH (wM h) fun σ H Q D8=>by
 obtain⟨G,env,fp,i,env',rel,e,k⟩:=D8;obtain⟨⟨⟨o,d⟩,DU⟩,e1,e⟩:=ah e;dsimp only at e;split at e
 ·rename_i j;cases e;refine⟨G,env,fp,_,_,rel,e1,fun v H1 G1 Ej Ec DW=>?_⟩;have hv:=DW.top;obtain⟨b,DX,D5⟩:=DW.drop;exact⟨j,bq hv,k H1 G1 b (Ec.trans D5) DX⟩
 ·cases e
def jr{α:Type}(xs:List α)(lo hi:Option Int):List α:=(xs.drop (HT.sIx xs.length 0 lo)).take (HT.sIx xs.length xs.length hi-HT.sIx xs.length 0 lo)
noncomputable def L5(k:D)(lo hi:Option Int):Res R:=match k with
 | .lst ds=>.ok (.l .f,.lst (jr ds lo hi))
 | .tup ds=>if ¬ (HT.sIx ds.length 0 lo=0/\HT.sIx ds.length ds.length hi=ds.length) then .ok (.f,.tup (jr ds lo hi)) else .bad
 | .str l=>.ok (.f,.str (jr l lo hi))
 |_=>.bad
def eSl(fa:FO)(lo hi:FP):FX:=fun env=>(fa env).bind fun p=>(lo p.2).bind fun q=>(hi q.2).bind fun t=>(Gd t.2 p.1).bind fun d=>(L5 d q.1 t.1).bind fun r=>.ok (r,t.2)
theorem nW{K:W.Frag}{G:Hp}{ds:List D}{xs:List V}{lo hi:Option Int}(r:Reps K G ds xs):Reps K G (jr ds lo hi) (vv xs lo hi):=by
 unfold jr vv;rw[r.length];exact(r.drop _).take _
theorem xl{α:Type}(xs:List α)(lo hi:Option Int):(jr xs lo hi).length<=xs.length:=by
 unfold jr;rw[Qs,Td];lia
inductive rSl(K:W.Frag)(x:V)(lo:Option Int)(hi:Option Int)(H:Hp)(Q:VK):Prop
 |mk:∀G fp es vs d r,Goes K H G fp es vs r Q->Vw K G H d x->L5 d lo hi=.ok r->rSl K x lo hi H Q
theorem zN:K4 X (rSl X.K):=by
 rintro pr s σ H x v vl vu lo hi sl Q I rx hs pl pu ⟨G,fp,es,vs,d,r,⟨rel,k⟩,vd,e⟩;unfold L5 at e;split at e
 ·rename_i ds;cases e;obtain⟨p,xs,ev,sq,rs⟩:=vd;subst ev;refine wQ pr s σ H _ v vl vu lo hi sl Q I rx hs pl pu ⟨p,xs,rfl,sq,fun q hq=>?_⟩;obtain⟨DX,D5⟩:=rel.newL hq (nW (lo:=lo) (hi:=hi) rs);exact k _ _ G _ D5 DX
 ·rename_i ds;split at e
  ·rename_i hw;cases e;obtain⟨p,xs,ev,sq,rs⟩:=fL vd;subst ev;refine y9 pr s σ H _ v vl vu lo hi sl Q I rx hs pl pu ⟨p,xs,rfl,bA rel.gh sq,by rw[rs.length];exact hw,fun q hq=>?_⟩;obtain⟨G2,DX,D5⟩:=j0 rel hq (nW (lo:=lo) (hi:=hi) rs);exact k _ _ G2 _ D5 DX
  ·cases e
 ·rename_i l;cases e;obtain⟨ev,hl⟩:=gU vd;subst ev;exact zi pr s σ H _ v vl vu lo hi sl Q I rx hs pl pu ⟨l,rfl,hl,k _ H G fp .refl (rel.push (gH (l:=zh l lo hi) (PN (xl l lo hi) hl)))⟩
 ·cases e
def qM(env:PV.Env)(i:Nat):Bool:=match env[i]? with
 |some (some (_,.lst _))=>true
 |_=>false
theorem ug{K:W.Frag}{G H:Hp}{es:PV.Env}{σ:L2.St}{fp:List Addr}{i:Nat}(rel:Rel K G H es σ fp)(h:qM es i=true):∃v,σ[i]?=some (some v)/\Nm K "list" v H:=by
 unfold qM at h;split at h
 ·rename_i o ds hr;obtain⟨v,ev,rv⟩:=rel.view hr;obtain⟨p,xs,e,sq,_⟩:=bg rv;subst e;exact⟨_,ev,.inl ⟨rfl,xs,sq⟩⟩
 ·cases h
def A1(i:Nat)(f:FX):FX:=fun env=>if qM env i then(f env).bind fun p=>match p.2[i]? with
 |some (some (.l .f,.lst ds))=>if ds.length<sizeLine then .ok ((.f,.non),p.2.set i (some (.l .f,.lst (ds++[p.1.2])))) else .bad
 |_=>.bad
 else .bad
theorem qN{i:Nat}{o e:Expr}{f:FX}{apos Eu:Pos}(ho:PE X o (oU i))(he:QE X e f)
  (F4:attributeBase o "append" X.env (eval o X.env)=eval o X.env:=by rfl)
  (IY:((backTo Eu (starEach [e] X.env)).all (fun x=>!x.1)&&(backToKw Eu (keywordEach [] X.env)).all (fun x=>x.1.isSome)&&decide ([e].length+([]:List Keyword).length+(if([]:List Keyword).isEmpty then 0 else 1)<30))=true:=by rfl)
  (F5:(apos.endLine==Eu.line)=true:=by rfl) (hs:starEach [e] X.env=(false,eval e X.env)::starEach [] X.env:=by rfl) (GC:(backTo Eu (starEach [] X.env)).any (·.1)=false:=by rfl):
  QE X (.Call (.Attribute o "append" apos) [e] [] Eu) (A1 i f):=by
 refine bc (ze R8 S1 S2 gj ho (bG he b7 hs) F4 IY F5 hs GC) fun σ H Q Ee=>?_
 obtain⟨G,env,fp,r,env',rel,e,k⟩:=Ee;unfold A1 at e;split at e
 ·rename_i hil;obtain⟨v,ev,ty⟩:=ug rel hil;obtain⟨⟨r1,DU⟩,e1,e⟩:=ah e;dsimp only at e;split at e
  ·rename_i ds IX;split at e
   ·rename_i hl;cases e;refine⟨v,ev,ty,G,env,fp,[r1.2],DU,rel,by show(f env).bind _=_;rw[e1];rfl,fun vs H1 G1 Ej Ec DW rs=>?_⟩;rw[Reps]at rs;obtain⟨y,ys,N9,ry,rn⟩:=rs;rw[Reps]at rn;subst rn;obtain⟨p,xs,ep,hp,Jb,cg⟩:=DW.chg (ds':=ds++[r1.2]) IX;rw[ev]at ep;cases ep;obtain⟨fq,DX,D5⟩:=cg (xs++[y]) (Jb.app (.one ry));exact⟨p,xs,y,rfl,N9,hp,by rw[Jb.length];exact hl,k _ _ G1 fq (Ec.trans D5) (DX.push jV)⟩
   ·cases e
  ·cases e
 ·cases e
def BN:List D->Res R
 |[.lst ds]=>.ok (.f,.int ds.length)
 |[.tup ds]=>.ok (.f,.int ds.length)
 |[.str l]=>.ok (.f,.int l.length)
 |_=>.bad
theorem qO{K:W.Frag}{G H:Hp}{d:D}{xs:List V}(h:Nt K G H [d] xs):∃v,xs=[v]/\Vw K G H d v:=by
 obtain⟨y,ys,e,v1,e2⟩:=h;have e2:ys=[]:=e2;subst e2;exact⟨y,e,v1⟩
theorem zO:eO X (.builtin "len") (rC X.K BN):=by
 rintro pr s σ H xs us Q I rx ⟨G,fp,es,vs,ds,r,⟨rel,k⟩,vd,e⟩;unfold BN at e;split at e
 ·rename_i ds;cases e;obtain⟨v,ev,p,ys,ep,sq,rs⟩:=qO vd;subst ev;subst ep;refine gR pr s σ H _ us Q I rx ⟨p,ys,rfl,.inl sq,?_⟩;rw[rs.length];exact k _ H G fp .refl (rel.push (rep_int _))
 ·rename_i ds;cases e;obtain⟨v,ev,vt⟩:=qO vd;obtain⟨p,ys,ep,sq,rs⟩:=fL vt;subst ev;subst ep;refine gR pr s σ H _ us Q I rx ⟨p,ys,rfl,.inr (bA rel.gh sq),?_⟩;rw[rs.length];exact k _ H G fp .refl (rel.push (rep_int _))
 ·rename_i l;cases e;obtain⟨v,ev,vt⟩:=qO vd;obtain⟨ep,hl⟩:=gU vt;subst ev;subst ep;refine kX pr s σ H _ us Q I rx ⟨S l,rfl,by rw[k6];exact hl,?_⟩;rw[k6];exact k _ H G fp .refl (rel.push (rep_int _))
 ·cases e
def iZ:List D->Res R
 |[.lst ds]=>.ok (.l .f,.lst ds)
 |[.tup ds]=>.ok (.l .f,.lst ds)
 |_=>.bad
theorem mE:eO X (.type "list") (rC X.K iZ):=by
 rintro pr s σ H xs us Q I rx ⟨G,fp,es,vs,ds,r,⟨rel,k⟩,vd,e⟩;unfold iZ at e;split at e
 ·rename_i ds;cases e;obtain⟨v,ev,p,ys,ep,sq,rs⟩:=qO vd;subst ev;subst ep;refine gS pr s σ H _ us Q I rx ⟨p,ys,rfl,.inl sq,fun q hq=>?_⟩;obtain⟨DX,D5⟩:=rel.newL hq rs;exact k _ _ G _ D5 DX
 ·rename_i ds;cases e;obtain⟨v,ev,vt⟩:=qO vd;obtain⟨p,ys,ep,sq,rs⟩:=fL vt;subst ev;subst ep;refine gS pr s σ H _ us Q I rx ⟨p,ys,rfl,.inr (bA rel.gh sq),fun q hq=>?_⟩;obtain⟨DX,D5⟩:=rel.newL hq rs;exact k _ _ G _ D5 DX
 ·cases e
def fM:List D->Res R
 |[.lst ds]=>.ok (.f,.tup ds)
 |[.tup ds]=>.ok (.f,.tup ds)
 |_=>.bad
theorem fw:eO X (.type "tuple") (rC X.K fM):=by
 rintro pr s σ H xs us Q I rx ⟨G,fp,es,vs,ds,r,⟨rel,k⟩,vd,e⟩;unfold fM at e;split at e
 ·rename_i ds;cases e;obtain⟨v,ev,p,ys,ep,sq,rs⟩:=qO vd;subst ev;subst ep;refine gf pr s σ H _ us Q I rx ⟨p,ys,rfl,.inl ⟨sq,fun q hq=>?_⟩⟩;obtain⟨G2,DX,D5⟩:=j0 rel hq rs;exact k _ _ G2 _ D5 DX
 ·rename_i ds;cases e;obtain⟨v,ev,vt⟩:=qO vd;obtain⟨p,ys,ep,sq,rs⟩:=fL vt;subst ev;subst ep;exact gf pr s σ H _ us Q I rx ⟨p,ys,rfl,.inr ⟨bA rel.gh sq,k _ H G fp .refl (rel.push vt)⟩⟩
 ·cases e
def uh:List D->Option (List Bool)
 |[]=>some []
 | .bl b::ds=>(uh ds).map (b:: ·)
 |_=>none
def dG:List D->Option (List Int)
 |[]=>some []
 | .int b::ds=>(dG ds).map (b:: ·)
 |_=>none
theorem iz{K:W.Frag}{G:Hp}:∀{ds:List D}{bs:List Int}{xs:List V},dG ds=some bs->Reps K G ds xs->xs=bs.map V.int
 |[],_,_,e,r=>by
  cases e;rw[Reps]at r;exact r
 | .int b::ds,_,_,e,r=>by
  rw[dG,Rm]at e;obtain⟨bs,e1,e2⟩:=e;subst e2;rw[Reps]at r;obtain⟨y,ys,e3,r1,r2⟩:=r;rw[e3,bq r1,iz e1 r2];rfl
 | .non::_,_,_,e,_ | .bl _::_,_,_,e,_ | .str _::_,_,_,e,_ | .tup _::_,_,_,e,_ | .lst _::_,_,_,e,_ | .dct _ _ _::_,_,_,e,_=>by simp[dG]at e
theorem pj(ns:List Int):dG (ns.map D.int)=some ns:=by
 induction ns with
 |nil=>rfl
 |cons n ns ih=>rw[PL,dG,ih];rfl
theorem zP(ns:List Bool):uh (ns.map D.bl)=some ns:=by
 induction ns with
 |nil=>rfl
 |cons n ns ih=>rw[PL,uh,ih];rfl
def lr:D->Option (List D)
 | .lst ds=>some ds
 | .tup ds=>some ds
 |_=>none
theorem xm{K:W.Frag}{G H:Hp}{d:D}{ds:List D}{v:V}(gh:Same G H)(e:lr d=some ds)(h:Vw K G H d v):∃p xs,v=.ref p/\(SqL K H p xs\/SqT K H p xs)/\Reps K G ds xs:=by
 cases d with
 |lst es=>
  cases e;obtain⟨p,xs,ev,sq,rs⟩:=h;exact⟨p,xs,ev,.inl sq,rs⟩
 |tup es=>
  cases e;obtain⟨p,xs,ev,sq,rs⟩:=bf h;exact⟨p,xs,ev,.inr (bA gh sq),rs⟩
 |_=>cases e
def DK:List D->Res R
 |[d]=>match(lr d).bind uh with
  |some bs=>.ok (.f,.bl (bs.all id))
  |none=>.bad
 |_=>.bad
def vI:List D->Res R
 |[d]=>match(lr d).bind dG with
  |some ns=>.ok (.f,.int ns.sum)
  |none=>.bad
 |_=>.bad
def maxD:List D->Res R
 |[d]=>match(lr d).bind dG with
  |some (n::ns)=>.ok (.f,.int (zo (n::ns)))
  |_=>.bad
 |[.int i,.int j]=>.ok (.f,.int (if i<j then j else i))
 |_=>.bad
theorem qP{K:W.Frag}{G H:Hp}{d:D}{ns:List Int}{v:V}(gh:Same G H)(hb:(lr d).bind dG=some ns)(vt:Vw K G H d v):∃p,v=.ref p/\(SqL K H p (ns.map V.int)\/SqT K H p (ns.map V.int)):=by
 obtain⟨l,hl,hb⟩:=R9.mp hb;obtain⟨p,ys,ep,sq,rs⟩:=xm gh hl vt;have:=iz hb rs;subst this;exact⟨p,ep,sq⟩
theorem qQ(hc:X.calm=true):eO X (.builtin "sum") (rC X.K vI):=by
 rintro pr s σ H xs us Q I rx ⟨G,fp,es,vs,ds,r,⟨rel,k⟩,vd,e⟩;unfold vI at e;split at e
 ·rename_i d;split at e
  ·rename_i ns hb;cases e;obtain⟨v,ev,vt⟩:=qO vd;obtain⟨p,ep,sq⟩:=qP rel.gh hb vt;subst ev;subst ep;exact qg hc pr s σ H _ us Q I rx ⟨p,ns,rfl,sq,k _ H G fp .refl (rel.push (rep_int _))⟩
  ·cases e
 ·cases e
end
mutual
noncomputable def D3:D->D->Bool
 | .non,.non=>true
 | .bl a,.bl b=>a==b
 | .bl a,.int j=>(if a then 1 else 0)==j
 | .int i,.bl b=>i==(if b then 1 else 0)
 | .int i,.int j=>i==j
 | .str a,.str b=>a==b
 | .tup a,.tup b=>h9 a b
 | .lst a,.lst b=>h9 a b
 |_,_=>false
noncomputable def h9:List D->List D->Bool
 |[],[]=>true
 |a::as,b::bs=>D3 a b&&h9 as bs
 |_,_=>false
end
mutual
noncomputable def plainD:Nat->D->Bool
 |n+1,.tup ds=>plainDs n ds
 |n+1,.lst ds=>plainDs n ds
 | 0,.tup _=>false
 | 0,.lst _=>false
 |_,.dct _ _ _=>false
 |_,_=>true
noncomputable def plainDs:Nat->List D->Bool
 |_,[]=>true
 |n,d::ds=>plainD n d&&plainDs n ds
end
theorem plainDs_mem:∀{n:Nat}{ds:List D},plainDs n ds=true->∀{i:Nat}{d:D},ds[i]?=some d->plainD n d=true
 |_,[],_,_,_,e=>by simp at e
 |n,a::ds,h,0,d,e=>by
  rw[plainDs,PD]at h;simp at e;rw[<-e];exact h.1
 |n,a::ds,h,i+1,d,e=>by
  rw[plainDs,PD]at h;exact plainDs_mem h.2 (i:=i) (by simpa using e)
theorem gs:∀{a b:List D},a.length≠b.length->h9 a b=false
 |[],[],h=>absurd rfl h
 |[],_::_,_=>by simp only[h9]
 |_::_,[],_=>by simp only[h9]
 |x::xs,y::ys,h=>by
  rw[h9,gs (fun e=>h (by simp[e])),T3]
theorem dH:∀{a b:List D},a.length=b.length->(List.range a.length).all (fun j=>D3 (a.getD j .non) (b.getD j .non))=h9 a b
 |[],[],_=>rfl
 |[],_::_,h=>by simp at h
 |_::_,[],h=>by simp at h
 |x::xs,y::ys,h=>by
  rw[h9,<-dH (a:=xs) (b:=ys) (by simpa using h),PH,List.range_succ_eq_map,Rz,Sj];rfl
section
variable{X:Cx}{pr:List (Addr×Obj)}{σ:L2.St}{H:Hp}{s:Shared}
theorem iA(I:Inv X pr σ H s){p:Addr}{xs ys:List V}(h:SqL X.K H p xs)(h':SqT X.K H p ys):False:=by
 obtain⟨us,_,p1,_⟩:=I.list h;obtain⟨ws,_,p2,_⟩:=I.tuple h';exact SeqAt.ne_of_list_tuple p1.isList (show s.heap.IsTuple p ws.toArray from p2) rfl
mutual
theorem j3(I:Inv X pr σ H s):∀(d e:D) (x:V) (n:Nat),plainD n d=true->Rep X.K H d x->Rep X.K H e x->d=e
 | .non,e,x,n,_,r,q=>by
  cases bM r;cases e with
  |non=>rfl
  |bl b=>cases bY q
  |int i=>cases bq q
  |str l=>cases(a9 q).1
  |tup l=>obtain⟨p,xs,ev,_⟩:=bf q;cases ev
  |lst l=>obtain⟨p,xs,ev,_⟩:=bg q;cases ev
  |dct tk ks vs=>rw[Rep]at q;obtain⟨p,xs,o,ev,_⟩:=q;cases ev
 | .bl b,e,x,n,_,r,q=>by
  cases bY r;cases e with
  |non=>cases bM q
  |bl b=>cases bY q;rfl
  |int i=>cases bq q
  |str l=>cases(a9 q).1
  |tup l=>obtain⟨p,xs,ev,_⟩:=bf q;cases ev
  |lst l=>obtain⟨p,xs,ev,_⟩:=bg q;cases ev
  |dct tk ks vs=>rw[Rep]at q;obtain⟨p,xs,o,ev,_⟩:=q;cases ev
 | .int i,e,x,n,_,r,q=>by
  cases bq r;cases e with
  |non=>cases bM q
  |bl b=>cases bY q
  |int i=>cases bq q;rfl
  |str l=>cases(a9 q).1
  |tup l=>obtain⟨p,xs,ev,_⟩:=bf q;cases ev
  |lst l=>obtain⟨p,xs,ev,_⟩:=bg q;cases ev
  |dct tk ks vs=>rw[Rep]at q;obtain⟨p,xs,o,ev,_⟩:=q;cases ev
 | .str l,e,x,n,_,r,q=>by
  have hr:=(a9 r).1;subst hr;cases e with
  |non=>cases bM q
  |bl b=>cases bY q
  |int i=>cases bq q
  |str l'=>
   have hq:=(a9 q).1;injection hq with hq;rw[wV hq]
  |tup l=>obtain⟨p,xs,ev,_⟩:=bf q;cases ev
  |lst l=>obtain⟨p,xs,ev,_⟩:=bg q;cases ev
  |dct tk ks vs=>rw[Rep]at q;obtain⟨p,xs,o,ev,_⟩:=q;cases ev
 | .tup l,e,x,n,h,r,q=>by
  obtain⟨p,xs,ev,sq,rs⟩:=bf r;subst ev;cases e with
  |non=>cases bM q
  |bl b=>cases bY q
  |int i=>cases bq q
  |str l=>cases(a9 q).1
  |tup l'=>
   obtain⟨p',EZ,Gg,FH,FY⟩:=bf q;cases Gg;have:=I.tuple_inj sq FH;subst this;cases n with
   |zero=>simp only[plainD]at h;cases h
   |succ n=>
    simp only[plainD]at h;rw[j4 I l l' xs n h rs FY]
  |lst l'=>
   obtain⟨p',EZ,Gg,FH,FY⟩:=bg q;cases Gg;exact(iA I FH sq).elim
  |dct tk ks vs=>
   exfalso;rw[Rep]at q;obtain⟨p',EZ,o,Gg,rd,dd,_⟩:=q;cases Gg;obtain⟨DY,_,ip,_⟩:=I.tuple sq;obtain⟨ob,ho,hc,_⟩:=ip;have KC:=rd.ok I.hok;cases tk with
   |true=>
    obtain⟨DS,eo,_⟩:=dd;subst eo;obtain⟨_,_,_,_,o2,_,_,FJ,ex,_⟩:=KC;rw[ho]at FJ;cases FJ;rw[ex.1]at hc;exact absurd hc (by decide)
   |false=>
    obtain⟨DS,eo,_⟩:=dd;subst eo;obtain⟨_,_,_,_,o2,_,_,FJ,ex,_⟩:=KC;rw[ho]at FJ;cases FJ;rw[ex.1]at hc;exact absurd hc (by decide)
 | .lst l,e,x,n,h,r,q=>by
  obtain⟨p,xs,ev,sq,rs⟩:=bg r;subst ev;cases e with
  |non=>cases bM q
  |bl b=>cases bY q
  |int i=>cases bq q
  |str l=>cases(a9 q).1
  |tup l'=>
   obtain⟨p',EZ,Gg,FH,FY⟩:=bf q;cases Gg;exact(iA I sq FH).elim
  |lst l'=>
   obtain⟨p',EZ,Gg,FH,FY⟩:=bg q;cases Gg;have:=I.list_inj sq FH;subst this;cases n with
   |zero=>simp only[plainD]at h;cases h
   |succ n=>
    simp only[plainD]at h;rw[j4 I l l' xs n h rs FY]
  |dct tk ks vs=>
   exfalso;rw[Rep]at q;obtain⟨p',EZ,o,Gg,rd,dd,_⟩:=q;cases Gg;obtain⟨DY,_,ip,_⟩:=I.list sq;obtain⟨ob,_,ho,hc,_⟩:=ip;have KC:=rd.ok I.hok;cases tk with
   |true=>
    obtain⟨DS,eo,_⟩:=dd;subst eo;obtain⟨_,_,_,_,o2,_,_,FJ,ex,_⟩:=KC;rw[ho]at FJ;cases FJ;rw[ex.1]at hc;exact absurd hc (by decide)
   |false=>
    obtain⟨DS,eo,_⟩:=dd;subst eo;obtain⟨_,_,_,_,o2,_,_,FJ,ex,_⟩:=KC;rw[ho]at FJ;cases FJ;rw[ex.1]at hc;exact absurd hc (by decide)
 | .dct _ _ _,_,_,n,h,_,_=>by cases n <;> (simp only[plainD]at h;cases h)
theorem j4(I:Inv X pr σ H s):∀(ds es:List D) (xs:List V) (n:Nat),plainDs n ds=true->Reps X.K H ds xs->Reps X.K H es xs->ds=es
 |[],es,xs,n,_,r,q=>by
  rw[Reps]at r;subst r;cases es with
  |nil=>rfl
  |cons e es=>
   rw[Reps]at q;obtain⟨y,ys,ev,_⟩:=q;cases ev
 |d::ds,es,xs,n,h,r,q=>by
  rw[Reps]at r;obtain⟨y,ys,ev,r1,r2⟩:=r;subst ev;rw[plainDs,PD]at h;cases es with
  |nil=>
   rw[Reps]at q;cases q
  |cons e es=>
   rw[Reps]at q;obtain⟨y',ys',ev,q1,q2⟩:=q;cases ev;rw[j3 I d e y n h.1 r1 q1,j4 I ds es ys n h.2 r2 q2]
end
mutual
theorem ia:∀(d:D) (n:Nat),plainD n d=true->D3 d d=true
 | .non,_,_=>by simp only[D3]
 | .bl _,_,_=>by simp only[D3,Qc]
 | .int _,_,_=>by simp only[D3,Qc]
 | .str _,_,_=>by simp only[D3,Qc]
 | .tup ds,0,h=>by simp only[plainD]at h;cases h
 | .tup ds,n+1,h=>by simp only[plainD]at h;simp only[D3];exact iC ds n h
 | .lst ds,0,h=>by simp only[plainD]at h;cases h
 | .lst ds,n+1,h=>by simp only[plainD]at h;simp only[D3];exact iC ds n h
 | .dct _ _ _,n,h=>by cases n <;> (simp only[plainD]at h;cases h)
theorem iC:∀(ds:List D) (n:Nat),plainDs n ds=true->h9 ds ds=true
 |[],_,_=>by simp only[h9]
 |d::ds,n,h=>by
  rw[plainDs,PD]at h;rw[h9,ia d n h.1,iC ds n h.2];rfl
end
open PySem.SeqAt
theorem bt{n:Nat}{tk:Bool}{ks vs:List D}(h:plainD n (.dct tk ks vs)=true):False:=by cases n <;> (simp only[plainD]at h;cases h)
mutual
theorem zQ(I:Inv X pr σ H s):∀(d e:D) (x y:V) (v u:Value) (A:Around) (n:Nat),plainD n d=true->plainD n e=true->A.units+n<cLine->Rep X.K H d x->Rep X.K H e y->RelV x v->RelV y u->EqAt A s v u (D3 d e)
 | .non,e,x,y,v,u,A,n,h,h',hu,r,q,rx,ry=>by
  cases bM r;cases rx;cases e with
  |non=>cases bM q;cases ry;simp only[D3];exact .same _
  |bl b=>cases bY q;cases ry;simp only[D3];exact .none_bool _
  |int i=>cases bq q;obtain⟨t,rfl⟩:=ry;simp only[D3];exact .none_int _ _
  |str l=>cases(a9 q).1;obtain⟨t,rfl⟩:=ry;simp only[D3];exact .none_str _ _
  |tup l=>obtain⟨p,xs,rfl,sq,_⟩:=bf q;cases ry;obtain⟨DY,_,ip,_⟩:=I.tuple sq;simp only[D3];exact .none_tuple (show s.heap.IsTuple p DY.toArray from ip) (by lia)
  |lst l=>obtain⟨p,xs,rfl,sq,_⟩:=bg q;cases ry;obtain⟨DY,_,ip,_⟩:=I.list sq;simp only[D3];exact .none_list ip.isList (by lia)
  |dct tk ks vs=>exact(bt h').elim
 | .bl b,e,x,y,v,u,A,n,h,h',hu,r,q,rx,ry=>by
  cases bY r;cases rx;cases e with
  |non=>cases bM q;cases ry;simp only[D3];exact .bool_none _
  |bl b=>cases bY q;cases ry;simp only[D3];exact .bool_bool _ _
  |int i=>cases bq q;obtain⟨t,rfl⟩:=ry;simp only[D3];exact .bool_int _ _ _
  |str l=>cases(a9 q).1;obtain⟨t,rfl⟩:=ry;simp only[D3];exact .bool_str _ _ _
  |tup l=>obtain⟨p,xs,rfl,sq,_⟩:=bf q;cases ry;obtain⟨DY,_,ip,_⟩:=I.tuple sq;simp only[D3];exact .bool_tuple _ (show s.heap.IsTuple p DY.toArray from ip) (by lia)
  |lst l=>obtain⟨p,xs,rfl,sq,_⟩:=bg q;cases ry;obtain⟨DY,_,ip,_⟩:=I.list sq;simp only[D3];exact .bool_list _ ip.isList (by lia)
  |dct tk ks vs=>exact(bt h').elim
 | .int b,e,x,y,v,u,A,n,h,h',hu,r,q,rx,ry=>by
  cases bq r;obtain⟨t0,rfl⟩:=rx;cases e with
  |non=>cases bM q;cases ry;simp only[D3];exact .int_none _ _
  |bl b=>cases bY q;cases ry;simp only[D3];exact .int_bool _ _ _
  |int i=>cases bq q;obtain⟨t,rfl⟩:=ry;simp only[D3];exact .int_int _ _ _ _
  |str l=>cases(a9 q).1;obtain⟨t,rfl⟩:=ry;simp only[D3];exact .int_str _ _ _ _
  |tup l=>obtain⟨p,xs,rfl,sq,_⟩:=bf q;cases ry;obtain⟨DY,_,ip,_⟩:=I.tuple sq;simp only[D3];exact .int_tuple _ _ (show s.heap.IsTuple p DY.toArray from ip) (by lia)
  |lst l=>obtain⟨p,xs,rfl,sq,_⟩:=bg q;cases ry;obtain⟨DY,_,ip,_⟩:=I.list sq;simp only[D3];exact .int_list _ _ ip.isList (by lia)
  |dct tk ks vs=>exact(bt h').elim
 | .str b,e,x,y,v,u,A,n,h,h',hu,r,q,rx,ry=>by
  have hr:=(a9 r).1;subst hr;obtain⟨t0,rfl⟩:=rx;cases e with
  |non=>cases bM q;cases ry;simp only[D3];exact .str_none _ _
  |bl b=>cases bY q;cases ry;simp only[D3];exact .str_bool _ _ _
  |int i=>cases bq q;obtain⟨t,rfl⟩:=ry;simp only[D3];exact .str_int _ _ _ _
  |str l=>
   have hq:=(a9 q).1;subst hq;obtain⟨t,rfl⟩:=ry;have e1:(b==l)=(S b==S l):=by
    rw[Qn,P5,P5];exact⟨fun z=>by rw[z],wV⟩
   simp only[D3,e1];exact .str_str _ _ _ _
  |tup l=>obtain⟨p,xs,rfl,sq,_⟩:=bf q;cases ry;obtain⟨DY,_,ip,_⟩:=I.tuple sq;simp only[D3];exact .str_tuple _ _ (show s.heap.IsTuple p DY.toArray from ip) (by lia)
  |lst l=>obtain⟨p,xs,rfl,sq,_⟩:=bg q;cases ry;obtain⟨DY,_,ip,_⟩:=I.list sq;simp only[D3];exact .str_list _ _ ip.isList (by lia)
  |dct tk ks vs=>exact(bt h').elim
 | .tup l,e,x,y,v,u,A,n,h,h',hu,r,q,rx,ry=>by
  have rr:=r;obtain⟨p,xs,ev,sq,rs⟩:=bf r;subst ev;cases rx;obtain⟨DY,vl,ip,_⟩:=I.tuple sq;have ip:s.heap.IsTuple p DY.toArray:=ip;cases e with
  |non=>cases bM q;cases ry;simp only[D3];exact .tuple_none ip (by lia)
  |bl b=>cases bY q;cases ry;simp only[D3];exact .tuple_bool _ ip (by lia)
  |int i=>cases bq q;obtain⟨t,rfl⟩:=ry;simp only[D3];exact .tuple_int _ _ ip (by lia)
  |str l=>cases(a9 q).1;obtain⟨t,rfl⟩:=ry;simp only[D3];exact .tuple_str _ _ ip (by lia)
  |tup l'=>
   obtain⟨p',EZ,Gg,FH,FY⟩:=bf q;subst Gg;cases ry;by_cases hp:p=p'
   ·subst hp;have hz:=j3 I _ _ _ n h rr q;rw[<-hz,ia _ n h];exact .same _
   ·obtain⟨its',Jc,F3,_⟩:=I.tuple FH;have F3:s.heap.IsTuple p' its'.toArray:=F3;cases n with
    |zero=>simp only[plainD]at h;cases h
    |succ n=>
     simp only[plainD]at h h';have l1:=vl.length;have l2:=Jc.length;have l3:=rs.length;have l4:=FY.length;have key:=RcAt.tuples (A:=A) (e:=fun j=>D3 (l.getD j .non) (l'.getD j .non)) ip F3 (by lia) fun j h1 h2=>by
      simp only[Pl]at h1 h2;have g1:l[j]?=some (l[j]'(by lia)):=Pk _;have g2:l'[j]?=some (l'[j]'(by lia)):=Pk _;obtain⟨w1,Jd,Je⟩:=rs.get g1;obtain⟨w2,JT,JU⟩:=FY.get g2;obtain⟨u1,Hy,Jf⟩:=vl.get Jd;obtain⟨u2,HL,JV⟩:=Jc.get JT;have q1:DY.toArray[j]=u1:=by rw[Pk h1]at Hy;simpa using Hy
      have q2:its'.toArray[j]=u2:=by rw[Pk h2]at HL;simpa using HL
      rw[q1,q2,Pg,Pg,g1,g2];exact lu I l j _ g1 _ w1 w2 u1 u2 A.in1 n (plainDs_mem h g1) (plainDs_mem h' g2) (by show A.units+1+n<cLine;lia) Je JU Jf JV
     simp only[D3];have fin:((List.range (min DY.toArray.size its'.toArray.size)).all (fun j=>D3 (l.getD j .non) (l'.getD j .non))&&DY.toArray.size==its'.toArray.size)=h9 l l':=by
      simp only[Pl];by_cases hl:l.length=l'.length
      ·rw[<-dH hl,show min DY.length its'.length=l.length by lia,show(DY.length==its'.length)=true by rw[P5];lia,S9]
      ·rw[gs hl,show(DY.length==its'.length)=false by rw[P6];lia,T3]
     rw[<-fin];exact .of_refs hp key
  |lst l'=>obtain⟨p',EZ,Gg,FH,_⟩:=bg q;subst Gg;cases ry;obtain⟨its',_,F3,_⟩:=I.list FH;simp only[D3];exact .tuple_list ip F3.isList (by lia)
  |dct tk ks vs=>exact(bt h').elim
 | .lst l,e,x,y,v,u,A,n,h,h',hu,r,q,rx,ry=>by
  have rr:=r;obtain⟨p,xs,ev,sq,rs⟩:=bg r;subst ev;cases rx;obtain⟨DY,vl,ip,_⟩:=I.list sq;have ip:=ip.isList;cases e with
  |non=>cases bM q;cases ry;simp only[D3];exact .list_none ip (by lia)
  |bl b=>cases bY q;cases ry;simp only[D3];exact .list_bool _ ip (by lia)
  |int i=>cases bq q;obtain⟨t,rfl⟩:=ry;simp only[D3];exact .list_int _ _ ip (by lia)
  |str l=>cases(a9 q).1;obtain⟨t,rfl⟩:=ry;simp only[D3];exact .list_str _ _ ip (by lia)
  |lst l'=>
   obtain⟨p',EZ,Gg,FH,FY⟩:=bg q;subst Gg;cases ry;by_cases hp:p=p'
   ·subst hp;have hz:=j3 I _ _ _ n h rr q;rw[<-hz,ia _ n h];exact .same _
   ·obtain⟨its',Jc,F3,_⟩:=I.list FH;have F3:=F3.isList;cases n with
    |zero=>simp only[plainD]at h;cases h
    |succ n=>
     simp only[plainD]at h h';have l1:=vl.length;have l2:=Jc.length;have l3:=rs.length;have l4:=FY.length;simp only[D3];by_cases hl:l.length=l'.length
     ·have key:=RcAt.lists (A:=A) (e:=fun j=>D3 (l.getD j .non) (l'.getD j .non)) ip F3 (by simp only[Pl];lia) (by lia) fun j h1 h2=>by
       simp only[Pl]at h1 h2;have g1:l[j]?=some (l[j]'(by lia)):=Pk _;have g2:l'[j]?=some (l'[j]'(by lia)):=Pk _;obtain⟨w1,Jd,Je⟩:=rs.get g1;obtain⟨w2,JT,JU⟩:=FY.get g2;obtain⟨u1,Hy,Jf⟩:=vl.get Jd;obtain⟨u2,HL,JV⟩:=Jc.get JT;have q1:DY.toArray[j]=u1:=by rw[Pk h1]at Hy;simpa using Hy
       have q2:its'.toArray[j]=u2:=by rw[Pk h2]at HL;simpa using HL
       rw[q1,q2,Pg,Pg,g1,g2];exact lu I l j _ g1 _ w1 w2 u1 u2 A.in1 n (plainDs_mem h g1) (plainDs_mem h' g2) (by show A.units+1+n<cLine;lia) Je JU Jf JV
      rw[<-dH hl,show l.length=DY.toArray.size by simp only[Pl];lia];exact .of_refs hp key
     ·rw[gs hl];exact .of_refs hp (RcAt.lists_lengths ip F3 (by simp only[Pl,VR];lia) (by lia))
  |tup l'=>obtain⟨p',EZ,Gg,FH,_⟩:=bf q;subst Gg;cases ry;obtain⟨its',_,F3,_⟩:=I.tuple FH;simp only[D3];exact .list_tuple ip (show s.heap.IsTuple p' its'.toArray from F3) (by lia)
  |dct tk ks vs=>exact(bt h').elim
 | .dct _ _ _,_,_,_,_,_,_,n,h,_,_,_,_,_,_=>(bt h).elim
theorem lu(I:Inv X pr σ H s):∀(ds:List D) (j:Nat) (d:D),ds[j]?=some d->∀(e:D) (x y:V) (v u:Value) (A:Around) (n:Nat),plainD n d=true->plainD n e=true->A.units+n<cLine->Rep X.K H d x->Rep X.K H e y->RelV x v->RelV y u->EqAt A s v u (D3 d e)
 |[],_,_,hj=>by simp at hj
 |d'::ds,0,d,hj=>by
  simp at hj;subst hj;exact zQ I d'
 |d'::ds,j+1,d,hj=>lu I ds j d (by simpa using hj)
end
end
section
variable{X:Cx}
def E9(a b:D):Res R:=if plainD 40 a&&plainD 40 b then .ok (.f,.bl (D3 a b)) else .bad
def Gr(a b:D):Res R:=if plainD 40 a&&plainD 40 b then .ok (.f,.bl (!D3 a b)) else .bad
open PySem.SeqAt in
theorem zR{pr:List (Addr×Obj)}{σ:L2.St}{H:Hp}{s:Shared}(I:Inv X pr σ H s){d e:D}{x y:V}{v u:Value}{A:Around}(h:plainD 40 d=true)(h':plainD 40 e=true)(hu:A.units+64<cLine)(r:Rep X.K H d x)(q:Rep X.K H e y)(rx:RelV x v)(ry:RelV y u):
  RcAt A s v u (D3 d e)/\RcNeAt A s v u (!D3 d e):=by
 cases d with
 |non=>
  cases bM r;cases rx;cases e with
  |non=>cases bM q;cases ry;simp only[D3];exact⟨.none_none,.none_none⟩
  |bl b=>cases bY q;cases ry;simp only[D3];exact⟨.none_bool _,.none_bool _⟩
  |int i=>cases bq q;obtain⟨t,rfl⟩:=ry;simp only[D3];exact⟨.none_int _ _,.none_int _ _⟩
  |str l=>cases(a9 q).1;obtain⟨t,rfl⟩:=ry;simp only[D3];exact⟨.none_str _ _,.none_str _ _⟩
  |tup l=>obtain⟨p,xs,rfl,sq,_⟩:=bf q;cases ry;obtain⟨DY,_,ip,_⟩:=I.tuple sq;simp only[D3];exact⟨.none_tuple (show s.heap.IsTuple p DY.toArray from ip) (by lia),.none_tuple (show s.heap.IsTuple p DY.toArray from ip) (by lia)⟩
  |lst l=>obtain⟨p,xs,rfl,sq,_⟩:=bg q;cases ry;obtain⟨DY,_,ip,_⟩:=I.list sq;simp only[D3];exact⟨.none_list ip.isList (by lia),.none_list ip.isList (by lia)⟩
  |dct tk ks vs=>exact(bt h').elim
 |bl b=>
  cases bY r;cases rx;cases e with
  |non=>cases bM q;cases ry;simp only[D3];exact⟨.bool_none _,.bool_none _⟩
  |bl b=>cases bY q;cases ry;simp only[D3];exact⟨.bool_bool _ _,.bool_bool _ _⟩
  |int i=>cases bq q;obtain⟨t,rfl⟩:=ry;simp only[D3];exact⟨.bool_int _ _ _,.bool_int _ _ _⟩
  |str l=>cases(a9 q).1;obtain⟨t,rfl⟩:=ry;simp only[D3];exact⟨.bool_str _ _ _,.bool_str _ _ _⟩
  |tup l=>obtain⟨p,xs,rfl,sq,_⟩:=bf q;cases ry;obtain⟨DY,_,ip,_⟩:=I.tuple sq;simp only[D3];exact⟨.bool_tuple _ (show s.heap.IsTuple p DY.toArray from ip) (by lia),.bool_tuple _ (show s.heap.IsTuple p DY.toArray from ip) (by lia)⟩
  |lst l=>obtain⟨p,xs,rfl,sq,_⟩:=bg q;cases ry;obtain⟨DY,_,ip,_⟩:=I.list sq;simp only[D3];exact⟨.bool_list _ ip.isList (by lia),.bool_list _ ip.isList (by lia)⟩
  |dct tk ks vs=>exact(bt h').elim
 |int b=>
  cases bq r;obtain⟨t0,rfl⟩:=rx;cases e with
  |non=>cases bM q;cases ry;simp only[D3];exact⟨.int_none _ _,.int_none _ _⟩
  |bl b=>cases bY q;cases ry;simp only[D3];exact⟨.int_bool _ _ _,.int_bool _ _ _⟩
  |int i=>cases bq q;obtain⟨t,rfl⟩:=ry;simp only[D3];exact⟨.int_int _ _ _ _,.int_int _ _ _ _⟩
  |str l=>cases(a9 q).1;obtain⟨t,rfl⟩:=ry;simp only[D3];exact⟨.int_str _ _ _ _,.int_str _ _ _ _⟩
  |tup l=>obtain⟨p,xs,rfl,sq,_⟩:=bf q;cases ry;obtain⟨DY,_,ip,_⟩:=I.tuple sq;simp only[D3];exact⟨.int_tuple _ _ (show s.heap.IsTuple p DY.toArray from ip) (by lia),.int_tuple _ _ (show s.heap.IsTuple p DY.toArray from ip) (by lia)⟩
  |lst l=>obtain⟨p,xs,rfl,sq,_⟩:=bg q;cases ry;obtain⟨DY,_,ip,_⟩:=I.list sq;simp only[D3];exact⟨.int_list _ _ ip.isList (by lia),.int_list _ _ ip.isList (by lia)⟩
  |dct tk ks vs=>exact(bt h').elim
 |str b=>
  have hr:=(a9 r).1;subst hr;obtain⟨t0,rfl⟩:=rx;cases e with
  |non=>cases bM q;cases ry;simp only[D3];exact⟨.str_none _ _,.str_none _ _⟩
  |bl b=>cases bY q;cases ry;simp only[D3];exact⟨.str_bool _ _ _,.str_bool _ _ _⟩
  |int i=>cases bq q;obtain⟨t,rfl⟩:=ry;simp only[D3];exact⟨.str_int _ _ _ _,.str_int _ _ _ _⟩
  |str l=>
   have hq:=(a9 q).1;subst hq;obtain⟨t,rfl⟩:=ry;have e1:(b==l)=(S b==S l):=by
    rw[Qn,P5,P5];exact⟨fun z=>by rw[z],wV⟩
   simp only[D3,e1];exact⟨.str_str _ _ _ _,.str_str _ _ _ _⟩
  |tup l=>obtain⟨p,xs,rfl,sq,_⟩:=bf q;cases ry;obtain⟨DY,_,ip,_⟩:=I.tuple sq;simp only[D3];exact⟨.str_tuple _ _ (show s.heap.IsTuple p DY.toArray from ip) (by lia),.str_tuple _ _ (show s.heap.IsTuple p DY.toArray from ip) (by lia)⟩
  |lst l=>obtain⟨p,xs,rfl,sq,_⟩:=bg q;cases ry;obtain⟨DY,_,ip,_⟩:=I.list sq;simp only[D3];exact⟨.str_list _ _ ip.isList (by lia),.str_list _ _ ip.isList (by lia)⟩
  |dct tk ks vs=>exact(bt h').elim
 |tup l=>
  obtain⟨p,xs,ev,sq,rs⟩:=bf r;subst ev;cases rx;obtain⟨DY,vl,ip,_⟩:=I.tuple sq;have ip:s.heap.IsTuple p DY.toArray:=ip;cases e with
  |non=>cases bM q;cases ry;simp only[D3];exact⟨.tuple_none ip (by lia),.tuple_none ip (by lia)⟩
  |bl b=>cases bY q;cases ry;simp only[D3];exact⟨.tuple_bool _ ip (by lia),.tuple_bool _ ip (by lia)⟩
  |int i=>cases bq q;obtain⟨t,rfl⟩:=ry;simp only[D3];exact⟨.tuple_int _ _ ip (by lia),.tuple_int _ _ ip (by lia)⟩
  |str l=>cases(a9 q).1;obtain⟨t,rfl⟩:=ry;simp only[D3];exact⟨.tuple_str _ _ ip (by lia),.tuple_str _ _ ip (by lia)⟩
  |tup l'=>
   obtain⟨p',EZ,Gg,FH,FY⟩:=bf q;subst Gg;cases ry;obtain⟨its',Jc,F3,_⟩:=I.tuple FH;have F3:s.heap.IsTuple p' its'.toArray:=F3;simp only[plainD]at h h';have l1:=vl.length;have l2:=Jc.length;have l3:=rs.length;have l4:=FY.length;have el:∀j (h1:j<DY.toArray.size) (h2:j<its'.toArray.size),EqAt A.in1 s DY.toArray[j] its'.toArray[j] ((fun j=>D3 (l.getD j .non) (l'.getD j .non)) j):=fun j h1 h2=>by
    simp only[Pl]at h1 h2;have g1:l[j]?=some (l[j]'(by lia)):=Pk _;have g2:l'[j]?=some (l'[j]'(by lia)):=Pk _;obtain⟨w1,Jd,Je⟩:=rs.get g1;obtain⟨w2,JT,JU⟩:=FY.get g2;obtain⟨u1,Hy,Jf⟩:=vl.get Jd;obtain⟨u2,HL,JV⟩:=Jc.get JT;have q1:DY.toArray[j]=u1:=by rw[Pk h1]at Hy;simpa using Hy
    have q2:its'.toArray[j]=u2:=by rw[Pk h2]at HL;simpa using HL
    dsimp only;rw[q1,q2,Pg,Pg,g1,g2];exact lu I l j _ g1 _ w1 w2 u1 u2 A.in1 39 (plainDs_mem h g1) (plainDs_mem h' g2) (by show A.units+1+39<cLine;lia) Je JU Jf JV
   simp only[D3];have fin:((List.range (min DY.toArray.size its'.toArray.size)).all (fun j=>D3 (l.getD j .non) (l'.getD j .non))&&DY.toArray.size==its'.toArray.size)=h9 l l':=by
    simp only[Pl];by_cases hl:l.length=l'.length
    ·rw[<-dH hl,show min DY.length its'.length=l.length by lia,show(DY.length==its'.length)=true by rw[P5];lia,S9]
    ·rw[gs hl,show(DY.length==its'.length)=false by rw[P6];lia,T3]
   rw[<-fin];exact⟨.tuples ip F3 (by lia) el,.tuples ip F3 (by lia) el⟩
  |lst l'=>obtain⟨p',EZ,Gg,FH,_⟩:=bg q;subst Gg;cases ry;obtain⟨its',_,F3,_⟩:=I.list FH;simp only[D3];exact⟨.tuple_list ip F3.isList (by lia),.tuple_list ip F3.isList (by lia)⟩
  |dct tk ks vs=>exact(bt h').elim
 |lst l=>
  obtain⟨p,xs,ev,sq,rs⟩:=bg r;subst ev;cases rx;obtain⟨DY,vl,ip,_⟩:=I.list sq;have ip:=ip.isList;cases e with
  |non=>cases bM q;cases ry;simp only[D3];exact⟨.list_none ip (by lia),.list_none ip (by lia)⟩
  |bl b=>cases bY q;cases ry;simp only[D3];exact⟨.list_bool _ ip (by lia),.list_bool _ ip (by lia)⟩
  |int i=>cases bq q;obtain⟨t,rfl⟩:=ry;simp only[D3];exact⟨.list_int _ _ ip (by lia),.list_int _ _ ip (by lia)⟩
  |str l=>cases(a9 q).1;obtain⟨t,rfl⟩:=ry;simp only[D3];exact⟨.list_str _ _ ip (by lia),.list_str _ _ ip (by lia)⟩
  |lst l'=>
   obtain⟨p',EZ,Gg,FH,FY⟩:=bg q;subst Gg;cases ry;obtain⟨its',Jc,F3,_⟩:=I.list FH;have F3:=F3.isList;simp only[plainD]at h h';have l1:=vl.length;have l2:=Jc.length;have l3:=rs.length;have l4:=FY.length;simp only[D3];by_cases hl:l.length=l'.length
   ·have el:∀j (h1:j<DY.toArray.size) (h2:j<its'.toArray.size),EqAt A.in1 s DY.toArray[j] its'.toArray[j] ((fun j=>D3 (l.getD j .non) (l'.getD j .non)) j):=fun j h1 h2=>by
     simp only[Pl]at h1 h2;have g1:l[j]?=some (l[j]'(by lia)):=Pk _;have g2:l'[j]?=some (l'[j]'(by lia)):=Pk _;obtain⟨w1,Jd,Je⟩:=rs.get g1;obtain⟨w2,JT,JU⟩:=FY.get g2;obtain⟨u1,Hy,Jf⟩:=vl.get Jd;obtain⟨u2,HL,JV⟩:=Jc.get JT;have q1:DY.toArray[j]=u1:=by rw[Pk h1]at Hy;simpa using Hy
     have q2:its'.toArray[j]=u2:=by rw[Pk h2]at HL;simpa using HL
     dsimp only;rw[q1,q2,Pg,Pg,g1,g2];exact lu I l j _ g1 _ w1 w2 u1 u2 A.in1 39 (plainDs_mem h g1) (plainDs_mem h' g2) (by show A.units+1+39<cLine;lia) Je JU Jf JV
    rw[<-dH hl,show l.length=DY.toArray.size by simp only[Pl];lia];exact⟨.lists ip F3 (by simp only[Pl];lia) (by lia) el,.lists ip F3 (by simp only[Pl];lia) (by lia) el⟩
   ·rw[gs hl];exact⟨.lists_lengths ip F3 (by simp only[Pl,VR];lia) (by lia),.lists_lengths ip F3 (by simp only[Pl,VR];lia) (by lia)⟩
  |tup l'=>obtain⟨p',EZ,Gg,FH,_⟩:=bf q;subst Gg;cases ry;obtain⟨its',_,F3,_⟩:=I.tuple FH;simp only[D3];exact⟨.list_tuple ip (show s.heap.IsTuple p' its'.toArray from F3) (by lia),.list_tuple ip (show s.heap.IsTuple p' its'.toArray from F3) (by lia)⟩
  |dct tk ks vs=>exact(bt h').elim
 |dct tk ks vs=>exact(bt h).elim
theorem eU(hu:X.A.units+64<cLine):EG X (compareOp .Eq) (rGA X.K E9):=by
 rintro pr s σ H x y v u Q I rx ry ⟨G,fp,es,vs,a,b,r,⟨rel,k⟩,va,vb,e⟩;unfold E9 at e;split at e
 ·rename_i hp;cases e;rw[PD]at hp;exact(zR I hp.1 hp.2 hu va vb rx ry).1 _ _ _ _ ⟨.bl _,H,I,rfl,k _ H G fp .refl (rel.push (cq _))⟩
 ·cases e
theorem lx(hu:X.A.units+64<cLine):EG X (compareOp .NotEq) (rGA X.K Gr):=by
 rintro pr s σ H x y v u Q I rx ry ⟨G,fp,es,vs,a,b,r,⟨rel,k⟩,va,vb,e⟩;unfold Gr at e;split at e
 ·rename_i hp;cases e;rw[PD]at hp;exact(zR I hp.1 hp.2 hu va vb rx ry).2 _ _ _ _ ⟨.bl _,H,I,rfl,k _ H G fp .refl (rel.push (cq _))⟩
 ·cases e
def sY(a:D)(ds:List D):Bool:=ds.any fun d=>D3 d a
noncomputable def KD(a b:D):Res R:=match b with
 | .lst ds=>if plainD 40 a&&plainDs 40 ds then .ok (.f,.bl (sY a ds)) else .bad
 | .tup ds=>if plainD 40 a&&plainDs 40 ds then .ok (.f,.bl (sY a ds)) else .bad
 | .str l=>match a with
  | .str [c]=>.ok (.f,.bl (decide (c∈l)))
  |_=>.bad
 |_=>.bad
def zS(a b:D):Res R:=(KD a b).bind fun r=>match r.2 with
 | .bl k=>.ok (.f,.bl (!k))
 |_=>.bad
open PySem.SeqAt in
theorem nX{pr:List (Addr×Obj)}{σ:L2.St}{H:Hp}{s:Shared}(I:Inv X pr σ H s){a:D}{x:V}{v:Value}{A:Around}(h:plainD 40 a=true)(hu:A.units+64<cLine)(r:Rep X.K H a x)(rx:RelV x v):
  ∀(ds:List D) (xs:List V) (us:List Value),plainDs 40 ds=true->Reps X.K H ds xs->Vals xs us->∃e:Value->Bool,us.any e=sY a ds/\∀u∈us,EqAt A s u v (e u):=by
 classical
 intro ds xs us hp rs vl;refine⟨fun u=>decide (∃(j:Nat) (d:D),ds[j]?=some d/\us[j]?=some u/\D3 d a=true),?_,fun u hu'=>?_⟩
 ·rw[Qn,RT];unfold sY;rw[RT];constructor
  ·rintro⟨u,_,hd⟩;obtain⟨j,d,h1,_,h2⟩:=SY hd;exact⟨d,Qj h1,h2⟩
  ·rintro⟨d,hd,h2⟩;obtain⟨j,hj⟩:=TL.mp hd;obtain⟨w1,Jd,Je⟩:=rs.get hj;obtain⟨u1,Hy,Jf⟩:=vl.get Jd;exact⟨u1,Qj Hy,Qi ⟨j,d,hj,Hy,h2⟩⟩
 ·obtain⟨j,hj⟩:=TL.mp hu';have l1:=vl.length;have l2:=rs.length;have OL:=(Pn.mp hj).1;have g1:ds[j]?=some (ds[j]'(by lia)):=Pk _;obtain⟨w1,Jd,Je⟩:=rs.get g1;obtain⟨u1,Hy,Jf⟩:=vl.get Jd;rw[hj]at Hy;cases Hy;have z:=zQ I _ _ w1 x u v A 40 (plainDs_mem hp g1) h (by lia) Je r Jf rx;have e:decide (∃(j:Nat) (d:D),ds[j]?=some d/\us[j]?=some u/\D3 d a=true)=D3 (ds[j]'(by lia)) a:=by
   rw[Qn,Qd];constructor
   ·rintro⟨j2,d2,k1,k2,k3⟩;obtain⟨w2,JT,JU⟩:=rs.get k1;obtain⟨u2,HL,JV⟩:=vl.get JT;rw[k2]at HL;cases HL;have:=Jf.inj JV;subst this;rw[j3 I _ _ _ 40 (plainDs_mem hp g1) Je JU];exact k3
   ·intro k3;exact⟨j,_,g1,hj,k3⟩
  show EqAt A s u v (decide (∃(j:Nat) (d:D),ds[j]?=some d/\us[j]?=some u/\D3 d a=true));rw[e];exact z
theorem ly(l:List Nat)(c:Nat):(!(Builtin.Str.occurrences (S l) (S [c]) 0 (S l).length 1).isEmpty)=decide (c∈l):=by
 have h:=PySem.StrLaws.found_one (S l) c;rw[fJ]at h;exact h
theorem j5{e:Value->Bool}(us:List Value):us.toArray.any e=us.any e:=by simp
theorem BO(hu:X.A.units+65<cLine):EG X (compareOp .In) (rGA X.K KD):=by
 rintro pr s σ H x y v u Q I rx ry ⟨G,fp,es,vs,a,b,r,⟨rel,k⟩,va,vb,e⟩;unfold KD at e;split at e
 ·rename_i ds;split at e
  ·rename_i hp;cases e;rw[PD]at hp;obtain⟨p,xs,ev,sq,rs⟩:=bg vb;subst ev;cases ry;obtain⟨DY,vl,ip,_⟩:=I.list sq;obtain⟨ef,e1,e2⟩:=nX (A:=X.A.in1) I hp.1 (by show X.A.units+1+64<cLine;lia) va rx ds xs DY hp.2 rs vl;refine SeqAt.in_listAt ef ip.isList (fun z hz=>e2 z (by simpa using hz)) ?_;rw[j5,e1];exact⟨.bl _,H,I,rfl,k _ H G fp .refl (rel.push (cq _))⟩
  ·cases e
 ·rename_i ds;split at e
  ·rename_i hp;cases e;rw[PD]at hp;obtain⟨p,xs,ev,sq,rs⟩:=bf vb;subst ev;cases ry;obtain⟨DY,vl,ip,_⟩:=I.tuple sq;obtain⟨ef,e1,e2⟩:=nX (A:=X.A.in1) I hp.1 (by show X.A.units+1+64<cLine;lia) va rx ds xs DY hp.2 rs vl;refine SeqAt.in_tupleAt ef (show s.heap.IsTuple p DY.toArray from ip) (fun z hz=>e2 z (by simpa using hz)) ?_;rw[j5,e1];exact⟨.bl _,H,I,rfl,k _ H G fp .refl (rel.push (cq _))⟩
  ·cases e
 ·rename_i l;split at e
  ·rename_i c;cases e;obtain⟨e1,h1⟩:=a9 va;obtain⟨e2,h2⟩:=a9 vb;subst e1;subst e2;refine pW pr s σ H _ _ v u Q I rx ry ⟨_,_,rfl,rfl,?_⟩;rw[ly];exact k _ H G fp .refl (rel.push (cq _))
  ·cases e
 ·cases e
theorem zT(hu:X.A.units+65<cLine):EG X (compareOp .NotIn) (rGA X.K zS):=by
 rintro pr s σ H x y v u Q I rx ry ⟨G,fp,es,vs,a,b,r,⟨rel,k⟩,va,vb,e⟩;unfold zS at e;obtain⟨r0,e0,e⟩:=ah e;unfold KD at e0;split at e0
 ·rename_i ds;split at e0
  ·rename_i hp;cases e0;cases e;rw[PD]at hp;obtain⟨p,xs,ev,sq,rs⟩:=bg vb;subst ev;cases ry;obtain⟨DY,vl,ip,_⟩:=I.list sq;obtain⟨ef,e1,e2⟩:=nX (A:=X.A.in1) I hp.1 (by show X.A.units+1+64<cLine;lia) va rx ds xs DY hp.2 rs vl;refine SeqAt.notIn_listAt ef ip.isList (fun z hz=>e2 z (by simpa using hz)) ?_;rw[j5,e1];exact⟨.bl _,H,I,rfl,k _ H G fp .refl (rel.push (cq _))⟩
  ·cases e0
 ·rename_i ds;split at e0
  ·rename_i hp;cases e0;cases e;rw[PD]at hp;obtain⟨p,xs,ev,sq,rs⟩:=bf vb;subst ev;cases ry;obtain⟨DY,vl,ip,_⟩:=I.tuple sq;obtain⟨ef,e1,e2⟩:=nX (A:=X.A.in1) I hp.1 (by show X.A.units+1+64<cLine;lia) va rx ds xs DY hp.2 rs vl;refine SeqAt.notIn_tupleAt ef (show s.heap.IsTuple p DY.toArray from ip) (fun z hz=>e2 z (by simpa using hz)) ?_;rw[j5,e1];exact⟨.bl _,H,I,rfl,k _ H G fp .refl (rel.push (cq _))⟩
  ·cases e0
 ·rename_i l;split at e0
  ·rename_i c;cases e0;cases e;obtain⟨e1,h1⟩:=a9 va;obtain⟨e2,h2⟩:=a9 vb;subst e1;subst e2;refine kO pr s σ H _ _ v u Q I rx ry ⟨_,_,rfl,rfl,?_⟩;rw[ly];exact k _ H G fp .refl (rel.push (cq _))
  ·cases e0
 ·cases e0
def Lf(a b:D):Res R:=match b with
 | .bl k=>.ok (.f,.bl (match a with | .bl j=>j==k|_=>false))
 | .non=>.ok (.f,.bl (match a with | .non=>true|_=>false))
 |_=>.bad
def DM(a b:D):Res R:=(Lf a b).bind fun r=>match r.2 with
 | .bl k=>.ok (.f,.bl (!k))
 |_=>.bad
theorem uk{K:W.Frag}{H:Hp}{a b:D}{x y:V}{v u:Value}{r:R}(va:Rep K H a x)(vb:Rep K H b y)(rx:RelV x v)(ry:RelV y u)(e:Lf a b=.ok r):plainIs v u=true/\r=(.f,.bl (v==u)):=by
 unfold Lf at e;split at e
 ·rename_i k;cases e;cases bY vb;cases ry;cases a with
  |non=>cases bM va;cases rx;exact⟨rfl,rfl⟩
  |bl j=>cases bY va;cases rx;refine⟨rfl,?_⟩;cases j <;> cases k <;> rfl
  |int i=>cases bq va;obtain⟨t,rfl⟩:=rx;exact⟨rfl,rfl⟩
  |str l=>cases(a9 va).1;obtain⟨t,rfl⟩:=rx;exact⟨rfl,rfl⟩
  |tup l=>obtain⟨p,xs,rfl,_⟩:=bf va;cases rx;exact⟨rfl,rfl⟩
  |lst l=>obtain⟨p,xs,rfl,_⟩:=bg va;cases rx;exact⟨rfl,rfl⟩
  |dct tk ks vs=>rw[Rep]at va;obtain⟨p,xs,o,rfl,_⟩:=va;cases rx;exact⟨rfl,rfl⟩
 ·cases e;cases bM vb;cases ry;cases a with
  |non=>cases bM va;cases rx;exact⟨rfl,rfl⟩
  |bl j=>cases bY va;cases rx;exact⟨rfl,rfl⟩
  |int i=>cases bq va;obtain⟨t,rfl⟩:=rx;exact⟨rfl,rfl⟩
  |str l=>cases(a9 va).1;obtain⟨t,rfl⟩:=rx;exact⟨rfl,rfl⟩
  |tup l=>obtain⟨p,xs,rfl,_⟩:=bf va;cases rx;exact⟨rfl,rfl⟩
  |lst l=>obtain⟨p,xs,rfl,_⟩:=bg va;cases rx;exact⟨rfl,rfl⟩
  |dct tk ks vs=>rw[Rep]at va;obtain⟨p,xs,o,rfl,_⟩:=va;cases rx;exact⟨rfl,rfl⟩
 ·cases e
theorem BP:EG X (compareOp .Is) (rGA X.K Lf):=by
 rintro pr s σ H x y v u Q I rx ry ⟨G,fp,es,vs,a,b,r,⟨rel,k⟩,va,vb,e⟩;obtain⟨h1,h2⟩:=uk va vb rx ry e;subst h2;exact wpAny_is_plain h1 ⟨.bl _,H,I,rfl,k _ H G fp .refl (rel.push (cq _))⟩
end
section
variable{X:Cx}
def Dq(f g:FX):FX:=fun env=>(f env).bind fun p=>(g p.2).bind fun q=>match(lr p.1.2).bind dG,q.1.2 with
 |some ns,.int d=>.ok ((.f,.int (NX.maxD ns d)),q.2)
 |_,_=>.bad
def DN:List D->Res R
 |[.bl b]=>.ok (.f,.int (if b then 1 else 0))
 |[.int i]=>.ok (.f,.int i)
 |_=>.bad
def mF:D->String
 | .non=>"NoneType"
 | .bl _=>"bool"
 | .int _=>"int"
 | .str _=>"str"
 | .tup _=>"tuple"
 | .lst _=>"list"
 | .dct _ _ _=>"dict"
def pk(T:String)(d:D):Bool:=mF d==T||(mF d == "bool" && T == "int")
def Lg(T:String)(f:FO):FX:=fun env=>(f env).bind fun p=>(pd p.2 p.1).bind fun d=>.ok ((.f,.bl (pk T d)),p.2)
theorem zU(K:W.Frag)(d:D){T:String}(hT:T = "int"\/T = "bool"\/T = "str"\/T = "list"\/T = "tuple"\/T = "dict"):PySem.W.kitOne K (.type (mF d)) (.type T)=some (pk T d):=by
 rcases hT with rfl|rfl|rfl|rfl|rfl|rfl <;> cases d <;> (unfold PySem.W.kitOne PySem.W.kitCls PySem.W.subIn;kernel_rfl)
theorem um:eO X (.builtin "isinstance") (fun xs H Q=>∃d x T,xs=[x,.ty T]/\Rep X.K H d x/\(T = "int"\/T = "bool"\/T = "str"\/T = "list"\/T = "tuple"\/T = "dict")/\Q (.bl (pk T d)) H):=by
 intro pr s σ H xs us Q I r h;obtain⟨d,x,T,rfl,rd,hT,q⟩:=h;obtain⟨u,w',rfl,r1,r2⟩:=y6 r;cases(show w'=Value.type T from r2);have e:=zU X.K d hT;have fin:∀tk,EP X pr σ Q (.bool (pk T d)) {s with toks:=tk}:=fun tk=>⟨.bl (pk T d),H,I.tok tk,rfl,q⟩
 cases d with
 |non=>cases bM rd;cases(show u=Value.none from r1);exact Rk PySem.W.kitx_none I.kIn True.intro e (fun z=>nomatch z) fin
 |bl y=>cases bY rd;cases(show u=Value.bool y from r1);exact Rk PySem.W.kitx_bool I.kIn True.intro e (fun z=>nomatch z) fin
 |int i=>cases bq rd;obtain⟨t,z⟩:=(show ∃t,u=Value.int i t from r1);cases z;exact Rk PySem.W.kitx_int I.kIn True.intro e (fun z=>nomatch z) fin
 |str l=>
  have hr:=(a9 rd).1;subst hr;obtain⟨t,z⟩:=(show ∃t,u=Value.str (S l) t from r1)
  cases z;exact Rk PySem.W.kitx_str I.kIn True.intro e (fun z=>nomatch z) fin
 |lst l=>
  obtain⟨p,xs,ev,sq,_⟩:=bg rd;subst ev;cases(show u=Value.ref p from r1);obtain⟨DY,_,ip,_⟩:=I.list sq;obtain⟨o,ho,hc,_⟩:=ip.isList;exact Rk PySem.W.kitx_list I.kIn ⟨o,ho,hc⟩ e (fun z=>nomatch z) fin
 |tup l=>
  obtain⟨p,xs,ev,sq,_⟩:=bf rd;subst ev;cases(show u=Value.ref p from r1);obtain⟨DY,_,ip,_⟩:=I.tuple sq;obtain⟨o,ho,hc,_⟩:=ip;exact Rk PySem.W.kitx_tuple I.kIn ⟨o,ho,hc⟩ e (fun z=>nomatch z) fin
 |dct tk ks vs=>
  rw[Rep]at rd;obtain⟨p,xs,o,ev,hr,dd,_⟩:=rd;subst ev;cases(show u=Value.ref p from r1);have ok:=hr.ok I.hok;cases tk with
  |true=>
   obtain⟨DS,eo,_⟩:=dd;subst eo;obtain⟨_,_,_,_,o2,_,_,FJ,ex,_⟩:=ok;exact Rk PySem.W.kitx_dict I.kIn ⟨o2,FJ,ex.1⟩ e (fun z=>nomatch z) fin
  |false=>
   obtain⟨DS,eo,_⟩:=dd;subst eo;obtain⟨_,_,_,_,o2,_,_,FJ,ex,_⟩:=ok;exact Rk PySem.W.kitx_dict I.kIn ⟨o2,FJ,ex.1⟩ e (fun z=>nomatch z) fin
theorem qR{T:String}{x:Str}{e:Expr}{f:FO}{p q pos:Pos}(hT:T = "int"\/T = "bool"\/T = "str"\/T = "list"\/T = "tuple"\/T = "dict")(he:QO X e f)(hg:Gl X "isinstance")(hm:X.mg "isinstance" = none)(Mz:Gl X x)(KG:X.mg x=none)(Nr:bootBuiltins x=some (.type T))(hn:x≠"__name__":=by decide)(GA:(x==("__debug__" : Str))=false:=by decide)
  (hs:starEach [e,.Name x q] X.env=(false,eval e X.env)::starEach [.Name x q] X.env:=by rfl) (hs2:starEach [.Name x q] X.env=(false,eval (.Name x q) X.env)::starEach [] X.env:=by rfl) (FE:(backTo pos (starEach [.Name x q] X.env)).any (·.1)=false:=by rfl):
  QE X (.Call (.Name "isinstance" p) [e,.Name x q] [] pos) (Lg T f):=
 bc (nv um hg hm jK (fY he (fY (wu (v:=.ty T) Mz KG Nr rfl hn GA) nq hs2) hs) (by decide) (by decide) hs FE) fun σ H Q D8=>by
  obtain⟨G,env,fp,r,env',rel,e,k⟩:=D8;obtain⟨⟨o,DU⟩,e1,e⟩:=ah e;obtain⟨d,e2,e⟩:=ah e;cases e;exact⟨G,env,fp,o,_,rel,e1,fun v H1 G1 Ej Ec DW Gq=>⟨d,v,T,rfl,DW.vwA Gq e2,hT,k _ H1 G1 Ej Ec (DW.push (cq _))⟩⟩
def FZ{α:Type}(f g:PV.Env->Res α):PV.Env->Res α:=fun env=>match f env with
 | .ok a=>.ok a
 |_=>g env
theorem vJ{α:Type}{f g:PV.Env->Res α}{env:PV.Env}{a:α}(h:FZ f g env=.ok a):f env=.ok a\/g env=.ok a:=by
 unfold FZ at h;split at h
 ·rename_i b hb;cases h;exact .inl hb
 ·exact .inr h
theorem pq{tg e:Expr}{f g:FI}(h:QI X tg e f)(h2:QI X tg e g):QI X tg e (FZ f g):=fun pr s σ H R I D8=>by
 obtain⟨G,env,fp,ds,env',rel,ee,k⟩:=D8;rcases vJ ee with z|z
 ·exact h pr s σ H R I ⟨G,env,fp,ds,env',rel,z,k⟩
 ·exact h2 pr s σ H R I ⟨G,env,fp,ds,env',rel,z,k⟩
end
section
variable{α:Type}
def ins(lt:α->α->Bool)(x:α):List α->List α
 |[]=>[x]
 |y::ys=>if lt y x then y::ins lt x ys else x::y::ys
def xn(lt:α->α->Bool)(l:List α):List α:=l.foldr (ins lt) []
end
def ltI(a b:Int):Bool:=decide (a<b)
def ltS(a b:List Nat):Bool:=decide (a<b)
def qS:List D->Option (List (List Nat))
 |[]=>some []
 | .str b::ds=>(qS ds).map (b:: ·)
 |_=>none
def jt:D->Option Key
 | .int i=>some (.inl i)
 | .str l=>some (.inr (S l))
 |_=>none
def gK:List D->Option (List Key)
 |[]=>some []
 |d::ds=>(jt d).bind fun k=>(gK ds).map (k:: ·)
def dP:D->Option (List Key)
 | .tup ds=>gK ds
 |_=>none
def vK:List D->Option (List (List Key))
 |[]=>some []
 |d::ds=>(dP d).bind fun k=>(vK ds).map (k:: ·)
def kT(k:List Key):D:=.tup (k.map kD)
section
variable{K:W.Frag}{G:Hp}
theorem gL{d:D}{k:Key}{v:V}(e:jt d=some k)(r:Rep K G d v):v=kV k/\d=kD k:=by
 cases d with
 |int i=>
  cases e;exact⟨bq r,rfl⟩
 |str l=>
  cases e;refine⟨(a9 r).1,?_⟩;show D.str l=D.str (S l).cps.toList;rw[fJ]
 |_=>cases e
theorem gX:∀{ds:List D}{ks:List Key}{xs:List V},gK ds=some ks->Reps K G ds xs->xs=ks.map kV/\ds=ks.map kD
 |[],_,_,e,r=>by
  cases e;rw[Reps]at r;exact⟨r,rfl⟩
 |d::ds,_,_,e,r=>by
  rw[gK,R9]at e;obtain⟨k,e1,e⟩:=e;rw[Rm]at e;obtain⟨ks,e2,e3⟩:=e;subst e3;rw[Reps]at r;obtain⟨y,ys,e4,r1,r2⟩:=r;obtain⟨h1,h2⟩:=gL e1 r1;obtain⟨h3,h4⟩:=gX e2 r2;rw[e4,h1,h2,h3,h4];exact⟨rfl,rfl⟩
theorem dQ{d:D}{ks:List Key}{v:V}(e:dP d=some ks)(r:Rep K G d v):∃p,v=.ref p/\G p=some (.tup (ks.map kV))/\d=kT ks:=by
 cases d with
 |tup ds=>
  obtain⟨p,xs,ev,g,rs⟩:=qF r;obtain⟨h1,h2⟩:=gX e rs;subst h1;exact⟨p,ev,g,by rw[h2];rfl⟩
 |_=>cases e
theorem nZ{α:Type}{f:α->D}{g:α->V}:∀{l:List α},(∀a∈l,Rep K G (f a) (g a))->Reps K G (l.map f) (l.map g)
 |[],_=>Reps.nil
 |a::l,h=>.cons (h a Pq) (nZ fun b hb=>h b (Pu _ hb))
end
def sameKinds(k:List Key)(Nv:List (List Key)):Bool:=!k.isEmpty&&Nv.all fun j=>kinds j==kinds k
noncomputable def BQ(ds:List D):Option (List D):=match dG ds with
 |some ns=>some ((xn ltI ns).map D.int)
 |none=>match qS ds with
  |some ls=>some ((xn ltS ls).map D.str)
  |none=>match vK ds with
   |some (k::Nv)=>if sameKinds k Nv then some ((xn nF (k::Nv)).map kT) else none
   |_=>none
theorem zV{K:W.Frag}{G:Hp}{k:Key}(h:fitK k):Rep K G (kD k) (kV k):=by
 cases k with
 |inl i=>exact rep_int i
 |inr x=>
  have:=gH (K:=K) (G:=G) (l:=x.cps.toList) h;rw[mr]at this;exact this
section
variable{X:Cx}
def L6(a b:D):Res R:=match dP a,dP b with
 |some ks,some js=>if kinds ks==kinds js then .ok (.f,.bl (nF ks js)) else .bad
 |_,_=>JM a b
def geO(a b:D):Res R:=match dP a,dP b with
 |some ks,some js=>if kinds ks==kinds js then .ok (.f,.bl (!nF ks js)) else .bad
 |_,_=>match a,b with
  | .str a,.str b=>.ok (.f,.bl (!decide (a<b)))
  |a,b=>geD a b
theorem vM(hu:X.A.units<cLine):EG X (compareOp .Lt) (rG X.K L6):=by
 rintro pr s σ H x y v u Q I rx ry ⟨G,fp,es,vs,a,b,r,⟨rel,k⟩,va,vb,e⟩;unfold L6 at e;split at e
 ·rename_i ks js h1 h2;split at e
  ·rename_i hk;cases e;have ra:Rep X.K G a x:=by cases a <;> first|exact va|cases h1
   have rb:Rep X.K G b y:=by cases b <;> first|exact vb|cases h2
   obtain⟨p,e1,g1,_⟩:=dQ h1 ra;obtain⟨p2,e2,g2,_⟩:=dQ h2 rb;subst e1;subst e2;exact zw hu pr s σ H _ _ v u Q I rx ry ⟨p,p2,ks,js,rfl,rfl,SqT.of (rel.gh _ _ g1),SqT.of (rel.gh _ _ g2),P5.mp hk,k _ H G fp .refl (rel.push (cq _))⟩
  ·cases e
 ·exact BJ pr s σ H x y v u Q I rx ry ⟨G,fp,es,vs,a,b,r,⟨rel,k⟩,va,vb,e⟩
end
def eNewD(tk:Bool):FX:=fun env=>.ok ((.d,.dct tk [] []),env)
section
variable{md:Mode}{X:Cx}
theorem Rel.newD{K:W.Frag}{G H:Hp}{es:PV.Env}{vs:L2.St}{fp:List Addr}{p:Addr}{u:HO}{tk:Bool}(q:Rel K G H es vs fp)(hp:H p=none)(h:DictO u tk [] []):
  Rel K G (upd H p u) (some (.d,.dct tk [] [])::es) (some (.ref p)::vs) (p::fp)/\Step G H fp G (upd H p u) (p::fp):=by
 have gp:G p=none:=by
  cases e:G p with
  |none=>rfl
  |some o=>rw[q.gh p o e]at hp;cases hp
 have np:p∉fp:=fun z=>by
  obtain⟨u,e⟩:=q.rep.live p z;rw[hp]at e;cases e
 have sh:Same H (upd H p u):=fun b o e=>by rw[ai (aA e hp)];exact e
 refine⟨⟨⟨some (.ref p),vs,rfl,.ref p,[p],fp,rfl,rfl,?_,q.rep.step (.refl _) fun z hz=>ai fun e=>np (e▸hz)⟩,Qe.mpr ⟨np,q.nd⟩,fun z hz=>?_,fun b o e=>?_⟩,
  ⟨.refl _,fun b o e _=>sh b o e,fun b hb=>?_,fun b o e=>.inl e,fun b o e=>⟨o,sh b o e⟩⟩⟩
 ·rw[RepO];exact⟨p,[],u,rfl,ay,h,rfl,Reps.nil⟩
 ·rcases Pw.mp hz with rfl|hz
  ·exact gp
  ·exact q.gn z hz
 ·exact sh b o (q.gh b o e)
 ·rcases Pw.mp hb with rfl|hb
  ·exact .inr hp
  ·exact .inl hb
theorem qT{pos:Pos}:QE X (.Dict [] [] pos) (eNewD false):=bc tW fun σ H Q D8 p hp=>by
 obtain⟨G,env,fp,r,env',rel,e,k⟩:=D8;cases e;obtain⟨DX,D5⟩:=rel.newD (tk:=false) (u:=.dK []) hp ⟨[],rfl,rfl,rfl,fun _ h=>nomatch h⟩;exact k _ _ G _ D5 DX
def lz(ks vs:List D)(k v:D):List D×List D:=if ks.any (D3 k) then(ks,(ks.zip vs).map fun p=>if D3 k p.1 then v else p.2) else(ks++[k],vs++[v])
def dI(tk:Bool)(k:D):Bool:=if tk then(dP k).isSome else(jt k).isSome
noncomputable def zW(i:Nat)(fk fv:FX):FS:=fun env=>(fv env).bind fun p=>(fk p.2).bind fun q=>match p.2[i]?,q.2[i]? with
 |some (some _),some (some (.d,.dct tk ks vs))=>if dI tk q.1.2&&decide (ks.length<sizeLine) then .ok (.nx (q.2.set i (some (.d,.dct tk (lz ks vs q.1.2 p.1.2).1 (lz ks vs q.1.2 p.1.2).2)))) else .bad
 |_,_=>.bad
theorem qU(a b:Key):D3 (kD a) (kD b)=decide (a=b):=by
 cases a with
 |inl i=>
  cases b with
  |inl j=>simp only[kD,D3];rw[Qn];simp
  |inr y=>simp only[kD,D3];simp
 |inr x=>
  cases b with
  |inl j=>simp only[kD,D3];simp
  |inr y=>
   simp only[kD,D3];rw[Qn];simp only[P5,Qd,Sum.inr.injEq];exact⟨fun h=>by rw[<-mr x,<-mr y,h],fun h=>by rw[h]⟩
theorem qV:∀a b:List Key,h9 (a.map kD) (b.map kD)=decide (a=b)
 |[],[]=>by simp[h9]
 |[],_::_=>by simp[h9]
 |_::_,[]=>by simp[h9]
 |a::r,b::t=>by
  rw[PL,PL,h9,qU,qV r t,Qn];simp
theorem vN(a b:List Key):D3 (kT a) (kT b)=decide (a=b):=by
 unfold kT;rw[D3];exact qV a b
theorem lA{κ:Type}[DecidableEq κ]{K:W.Frag}{G:Hp}(f:κ->D)(hf:∀a b,D3 (f a) (f b)=decide (a=b)){DS:List (κ×V)}{vs:List D}{k:κ}{v:D}{y:V}(r:Reps K G vs (DS.map (·.2)))(ry:Rep K G v y):
  (iX DS k y).map (fun kv=>f kv.1)=(lz (DS.map fun kv=>f kv.1) vs (f k) v).1/\Reps K G (lz (DS.map fun kv=>f kv.1) vs (f k) v).2 ((iX DS k y).map (·.2)):=by
 have e:(DS.map fun kv=>f kv.1).any (D3 (f k))=DS.any fun kv=>decide (kv.1=k):=by
  rw[Sk];congr 1
  funext kv
  show D3 (f k) (f kv.1)=_;rw[hf,Qn];simp only[Qd];exact⟨fun z=>z.symm,fun z=>z.symm⟩
 unfold lz iX;rw[e];split
 ·refine⟨?_,?_⟩
  ·rw[P7];refine Qx fun kv _=>?_
   show f (if kv.1=k then(kv.1,y) else kv).1=f kv.1;split <;> rfl
  ·rename_i hany;clear e hany;induction DS generalizing vs with
   |nil=>
    have:vs=[]:=QJ (by rw[<-r.length];rfl);subst this;exact Reps.nil
   |cons kv DS ih=>
    cases vs with
    |nil=>have:=r.length;simp at this
    |cons d vs=>
     rw[PL,Reps.cons_iff]at r;rw[PL,R6,PL,PL,PL];refine .cons ?_ (ih r.2);show Rep K G (if D3 (f k) (f kv.1)=true then v else d) (if kv.1=k then(kv.1,y) else kv).2;rw[hf];by_cases hk:kv.1=k
     ·rw[Px (by simp[hk]),Px hk];exact ry
     ·rw[PJ (by simp;exact fun z=>hk z.symm),PJ hk];exact r.1
 ·refine⟨?_,?_⟩
  ·rw[Qm];rfl
  ·rw[Qm];exact r.app (.one ry)
theorem Rel.chgD{K:W.Frag}{G H:Hp}{es:PV.Env}{vs:L2.St}{fp:List Addr}{i:Nat}{tk:Bool}{ks ws:List D}(q:Rel K G H es vs fp)(e:es[i]?=some (some (.d,.dct tk ks ws))):∃p xs u,vs[i]?=some (some (.ref p))/\H p=some u/\DictO u tk ks xs/\Reps K G ws xs/\
  ∀u' HK EZ Ms,DictO u' tk HK EZ->Reps K G Ms EZ->∃fq,Rel K G (upd H p u') (es.set i (some (.d,.dct tk HK Ms))) vs fq/\Step G H fp G (upd H p u') fq:=by
 obtain⟨v,fq,ev,g,st,Hq⟩:=q.out e;obtain⟨y,ys,e0,v',a,b,e1,e2,r1,r2⟩:=g.rep;cases e0;cases e1;rw[RepO]at r1;obtain⟨p,xs,u,e3,hp,dd,e4,rs⟩:=r1;subst e3;subst e4;subst e2;have nd:=Qe.mp (show(p::b).Nodup from g.nd);refine⟨p,xs,u,ev,hp,dd,rs,fun u' HK EZ Ms L3 FY=>?_⟩;have g2:Rel K G (upd H p u') (some (.d,.dct tk HK Ms)::es.set i none) (some (.ref p)::vs) (p::b):=by
  refine⟨⟨some (.ref p),vs,rfl,.ref p,[p],b,rfl,rfl,?_,r2.step (.refl _) fun z hz=>ai fun e=>nd.1 (e▸hz)⟩,g.nd,g.gn,fun z o ez=>?_⟩
  ·rw[RepO];exact⟨p,EZ,u',rfl,ay,L3,rfl,FY⟩
  ·have:z≠p:=fun w=>by
    subst w;rw[g.gn z Pq]at ez;cases ez
   rw[ai this];exact g.gh z o ez
 have Lc:Step G H (p::b) G (upd H p u') (p::b):=by
  refine⟨.refl _,fun z o ez nz=>?_,fun z hz=>.inl hz,fun z o ez=>.inl ez,fun z o ez=>?_⟩
  ·have:z≠p:=fun w=>nz (by rw[w];exact Pq)
   rw[ai this];exact ez
  ·by_cases w:z=p
   ·subst w;exact⟨_,ay⟩
   ·exact⟨o,by rw[ai w];exact ez⟩
 obtain⟨fz,g3,En⟩:=g2.back (i:=i) (by rw[Qb];exact(Pn.mp e).1) ev;rw[QY]at g3;exact⟨fz,g3,st.trans (Lc.trans En)⟩
theorem vO{K:W.Frag}{G:Hp}{d:D}{k:Key}{v:V}(e:jt d=some k)(r:Rep K G d v):fitK k:=by
 cases d with
 |int i=>cases e;trivial
 |str l=>
  cases e;show(S l).cps.toList.length<=sizeLine;rw[fJ];exact(a9 r).2
 |_=>cases e
theorem qW{K:W.Frag}{G:Hp}:∀{ds:List D}{ks:List Key}{xs:List V},gK ds=some ks->Reps K G ds xs->∀k∈ks,fitK k
 |[],_,_,e,_=>by
  cases e;exact fun _ h=>nomatch h
 |d::ds,_,_,e,r=>by
  rw[gK,R9]at e;obtain⟨k,e1,e⟩:=e;rw[Rm]at e;obtain⟨ks,e2,e3⟩:=e;subst e3;rw[Reps]at r;obtain⟨y,ys,e4,r1,r2⟩:=r;intro z hz;rcases Pw.mp hz with rfl|hz
  ·exact vO e1 r1
  ·exact qW e2 r2 z hz
theorem n0{κ:Type}[DecidableEq κ]{P:κ->Prop}{DS:List (κ×V)}{k:κ}{y:V}(h:∀kv∈DS,P kv.1)(hk:P k):∀kv∈iX DS k y,P kv.1:=by
 intro kv JW;unfold iX at JW;split at JW
 ·obtain⟨z,hz,e⟩:=SK.mp JW;rw[<-e];split
  ·exact h z hz
  ·exact h z hz
 ·rcases PR.mp JW with JW|JW
  ·exact h kv JW
  ·rw[Qf]at JW;rw[JW];exact hk
theorem vP{i:Nat}{o ix value:Expr}{fk fv:FX}{pos pos':Pos}(hu:X.A.units+1<cLine)(ho:PE X o (oU i))(hi:QE X ix fk)(hv:QE X value fv)(hs:swapsWith value (some (.Subscript o ix pos')) pos.line X.env=pure false:=by rfl):
  QS (md:=md) X (.Assign [.Subscript o ix pos'] value pos) (zW i fk fv):=dm (xf hu ho hi hv hs) fun Dd σ H D8=>by
 obtain⟨G,env,fp,rel,k⟩:=D8;unfold zW at k;match q1:fv env,k with
 | .ok (r1,DU),k=>
  have k:OutOk X.K G H fp Dd ((fk DU).bind fun q=>match DU[i]?,q.2[i]? with
   |some (some _),some (some (.d,.dct tk ks vs))=>if dI tk q.1.2&&decide (ks.length<sizeLine) then .ok (.nx (q.2.set i (some (.d,.dct tk (lz ks vs q.1.2 r1.2).1 (lz ks vs q.1.2 r1.2).2)))) else .bad
   |_,_=>.bad):=k
  match q2:fk DU,k with
  | .ok (r2,D4),k=>
   have k:OutOk X.K G H fp Dd (match DU[i]?,D4[i]? with
    |some (some _),some (some (.d,.dct tk ks vs))=>if dI tk r2.2&&decide (ks.length<sizeLine) then .ok (.nx (D4.set i (some (.d,.dct tk (lz ks vs r2.2 r1.2).1 (lz ks vs r2.2 r1.2).2)))) else .bad
    |_,_=>.bad):=k
   split at k
   ·rename_i rr tk ks ws h1 h2;split at k
    ·rename_i hc;rw[PD,Qd]at hc;refine⟨G,env,fp,r1,DU,rel,q1,fun y H1 G1 Ej Ec DW=>?_⟩;obtain⟨G2,b,ry,DX,D5⟩:=DW.freeze;obtain⟨v0,L7,_⟩:=DX.view h1;refine⟨v0,L7,G2,DU,b,r2,D4,DX,q2,fun z H3 G3 FK En Et=>?_⟩;obtain⟨G4,b4,rz,E8,EU⟩:=Et.freeze;obtain⟨p,xs,u,ep,hp,dd,rs,cg⟩:=E8.chgD h2;rw[L7]at ep;cases ep;have Nw:Rep X.K G4 r1.2 y:=Rep.mono (En.gg.trans EU.gg) ry;cases tk with
     |true=>
      obtain⟨DS,eu,ek,ex,Jg⟩:=dd;subst eu;subst ex;have hk:=hc.1;unfold dI at hk;rw[Px rfl,Rc]at hk;obtain⟨kk,hk⟩:=hk;obtain⟨pz,ez,gz,dz⟩:=dQ hk rz;subst ez;obtain⟨t1,t2⟩:=lA (K:=X.K) (G:=G4) kT vN (k:=kk) rs Nw;have ek:ks=DS.map fun kv=>kT kv.1:=ek
      rw[<-ek,<-dz]at t1 t2;have Nx:∀key∈kk,fitK key:=by
       cases hd:r2.2 with
       |tup ds=>
        rw[hd]at hk rz;obtain⟨_,EZ,_,_,FY⟩:=qF rz;exact qW hk FY
       |_=>rw[hd]at hk;cases hk
      obtain⟨fq,Fb,Fo⟩:=cg (.dT (iX DS kk y)) _ _ _ ⟨iX DS kk y,rfl,t1.symm,rfl,n0 (P:=fun ks=>∀k∈ks,fitK k) Jg Nx⟩ t2;have hlen:DS.length<sizeLine:=by have:=hc.2;rw[ek,PQ]at this;exact this
      exact⟨p,_,rfl,DPut.t hp (E8.gh _ _ gz) hlen,k _ _ G4 fq (Ec.trans (D5.trans (En.trans (EU.trans Fo)))) Fb⟩
     |false=>
      obtain⟨DS,eu,ek,ex,Jg⟩:=dd;subst eu;subst ex;have hk:=hc.1;unfold dI at hk;rw[PJ PF,Rc]at hk;obtain⟨kk,hk⟩:=hk;obtain⟨ez,dz⟩:=gL hk rz;subst ez;obtain⟨t1,t2⟩:=lA (K:=X.K) (G:=G4) kD qU (k:=kk) rs Nw;rw[<-ek,<-dz]at t1 t2;obtain⟨fq,Fb,Fo⟩:=cg (.dK (iX DS kk y)) _ _ _ ⟨iX DS kk y,rfl,t1.symm,rfl,n0 (P:=fitK) Jg (vO hk rz)⟩ t2;have hlen:DS.length<sizeLine:=by have:=hc.2;rw[ek,PQ]at this;exact this
      exact⟨p,_,rfl,DPut.k hp hlen,k _ _ G4 fq (Ec.trans (D5.trans (En.trans (EU.trans Fo)))) Fb⟩
    ·exact k.elim
   ·exact k.elim
end
end PV
namespace NX
open PySem PySem.Spec PyProof.Rows L2
section
variable{prog:Program}{w:World}{A:Around}{E:Value->Shared->Prop}{s:Shared}{d:Addr}{es:Array DictEntry}{ep:Nat}
theorem j6(nm:(d==sysModules)=false):MeetsIn prog w (Builtin.«dict.__len__» ⟨[.ref d],[]⟩) (fun _ R s=>RawD s.heap d es ep/\R (.ok (.ret (.int es.size s.toks))) {s with toks:=s.toks+1}):=
 .of_wp fun A R s D8=>by
  obtain⟨⟨o,g,_,dat⟩,h⟩:=D8;show wpAny _ _ (dictSize d >>= fun _=>_) _ _ s;unfold dictSize;refine Ph (Ph (wpAny_dictEntries g dat (Py ?_)));show wpAny _ _ (Builtin.Dict.pendingCount d >>= fun _=>_) _ _ s;refine Ph (wpAny_pendingCount_other nm (wpAny_ret_mkInt ?_));rw[Nat.add_zero];exact h
theorem xo{Q:Value->Shared->Prop}(nm:(d==sysModules)=false)(x:RawD s.heap d es ep)(hf:(es.size:Int)<2 ^ 63)(h:Q (.int es.size (s.toks+1)) {s with toks:=s.toks+1+1}):wpAny (model prog w) A (call (.builtin "len") [.ref d]) Q E s:=by
 have ty:=tX x;refine Calls.call_function_entry kind_len plain_len entry_len (args_len1 _) ?_;unfold Builtin.«len»;refine Ph (m:=oneArg "len" _) (Py (Ph (m:=callSpecial? (.ref d) (Str.ofString "__len__")) (Qz (name:=Str.ofString "__len__") ty F.slot_dict_len
  (call_meetsIn F.slot_dict_len ty F.entry_dict_len (F.args_dict_len_1 _) (j6 (es:=es) (ep:=ep) nm) ⟨x,?_⟩))))
 show wpAny _ _ _ _ _ {s with toks:=s.toks+1};refine Ph (S4 (Py (Ph (S6 ?_))));show wpAny _ _ (if((es.size:Nat):Int)<0 then _ else _) _ _ _;rw[PJ (Int.not_lt.mpr (Int.natCast_nonneg _))];show wpAny _ _ (if((es.size:Nat):Int)>=2 ^ 63 then _ else _) _ _ _;rw[PJ (Int.not_le.mpr hf)];exact Ph (wpAny_mkInt (Py ⟨_,rfl,h⟩))
end
end NX
namespace PV
open PySem PySem.Spec PyProof.Rows L2 NX
section
variable{X:Cx}
def fA:List D->Res R
 |[.dct _ ks _]=>.ok (.f,.int ks.length)
 |ds=>BN ds
theorem zX{pr:List (Addr×Obj)}{σ:L2.St}{H:Hp}{s:Shared}(I:Inv X pr σ H s){p:Addr}{o:HO}{tk:Bool}{ks:List D}{xs:List V}(rd:Rd H p o)(dd:DictO o tk ks xs):(p==sysModules)=false/\∃es ep,RawD s.heap p es ep/\es.size=ks.length/\ks.length<=sizeLine:=by
 have ok:=rd.ok I.hok;cases tk with
 |true=>
  obtain⟨DS,eo,ek,_⟩:=dd;subst eo;obtain⟨z,nm,ws,r,o2,es,ep,h1,h2,h3,h4,_⟩:=ok;refine⟨nm,es,ep,⟨o2,h1,h2,h3⟩,?_,by rw[ek,PQ];exact z⟩;have:=QN List.length h4;rw[PQ,Q2,<-Sw r]at this;rw[ek,PQ];exact this
 |false=>
  obtain⟨DS,eo,ek,_⟩:=dd;subst eo;obtain⟨z,nm,ws,r,o2,es,ep,h1,h2,h3,h4,h5,_⟩:=ok;refine⟨nm,es,ep,⟨o2,h1,h2,h3⟩,?_,by rw[ek,PQ];exact z⟩;have l1:=h5.length;have l2:DS.length=ws.length:=Sw r;rw[ek,PQ];rw[Q2]at l1;lia
theorem bW:eO X (.builtin "len") (rC X.K fA):=by
 rintro pr s σ H xs us Q I rx ⟨G,fp,es,vs,ds,r,⟨rel,k⟩,vd,e⟩;unfold fA at e;split at e
 ·rename_i tk ks ws;cases e;obtain⟨v,ev,p,ys,o,ep,rd,dd,_⟩:=qO vd;subst ev;subst ep;obtain⟨u,rfl,ru⟩:=kP rx;cases ru;obtain⟨nm,en,ep,raw,h1,h2⟩:=zX I rd dd;refine xo nm raw (by rw[h1];rw[S3]at h2;lia) ?_;refine⟨.int ks.length,H,I.tok _,⟨_,by rw[h1]⟩,k _ H G fp .refl (rel.push (rep_int _))⟩
 ·exact zO pr s σ H xs us Q I rx ⟨G,fp,es,vs,_,r,⟨rel,k⟩,vd,e⟩
def DO(g:List Nat->List D->Res R)(fa:FO)(fs:FOs):FX:=fun env=>(fa env).bind fun p=>match Gd p.2 p.1 with
 | .ok (.str l)=>(fs p.2).bind fun q=>(pK q.2 q.1).bind fun ds=>(g l ds).bind fun r=>.ok (r,q.2)
 |_=>.bad
end
theorem fnok_of{P:Program}{w:World}{K:W.Frag}{mg:Str->Option Value}{base:Heap}{x:Str}{st:Stmt}{N ps:List Str}{k:Nat}{g:FS}{f:Addr}{fd:FuncData}(F:Fun K x x st f fd)(sc:FnScope N ps (defScope st))
  (body:∀(Er:Value) (A:Around) (outer:List PySem.Env) (s:Shared) (H:Hp) (E:XK),Room k (A.deeper (envOfC x (defScope st) s.heap.objs.size f Er))->Iy (md:=.plain) (tH IL P w K mg base N x (defScope st) f Er A outer s H E).nox (cy st) g):
  FnOk P w K mg base IL (k+1) f fd ps (spF K (fBody ps.length (N.length-ps.length) g)):=by
 refine F.ok sc (fun vs H Q E h=>?_) (fun Er A outer s H vs Q E hr h=>?_)
 ·obtain⟨G,ds,r,_,rs,e,_⟩:=h;unfold fBody at e;split at e
  ·rename_i hl;rw[rs.length,hl]
  ·cases e
 ·obtain⟨G,ds,r,gh,rs,e,q⟩:=h;unfold fBody at e;split at e
  ·rename_i hl;refine⟨_,body Er A outer s H E hr,G,ds.map (fun d=>some (O.f,d))++List.replicate (N.length-ps.length) none,[],⟨?_,RD,(fun _ h=>nomatch h),gh⟩,?_⟩
   ·have:=gr (K:=K) (G:=G) (H:=H) (N.length-ps.length) rs;unfold L2.start;rw[rs.length,hl];exact this
   ·obtain⟨o,eo,e⟩:=ah e;rw[eo];cases o with
    |rt r'=>
     cases e;exact fun v H' G' D2 st rel=>q v H' G' D2 st rel
    |nx env'=>
     cases e;exact fun σ' H' G' D2 st rel=>q .non H' G' [] (st.trans (Step.cut fun _ h=>nomatch h)) (rel.nilF.push jV)
    |bk env'=>cases e
    |ct env'=>cases e
  ·cases e
def uo(K:W.Frag):Sp:=fun vs H Q _=>∃(a:Addr) (ns:List Int),vs=[.ref a]/\SqL K H a (ns.map V.int)/\ns.length<=63/\∀H',Q (.bl true) H'
theorem zY{K:W.Frag}{F:List D->Res R}(h:∀ns:List Int,ns.length<=63->∃o,F [.lst (ns.map D.int)]=.ok (o,.bl true)):∀vs H Q E,uo K vs H Q E->spF K F vs H Q E:=by
 rintro vs H Q E ⟨a,ns,rfl,sq,hl,q⟩;obtain⟨o,e⟩:=h ns hl;refine⟨H,_,_,.refl _,?_,e,fun v H' G' D2 st rel=>?_⟩
 ·refine .one ?_;rw[Rep];exact⟨a,_,rfl,sq,nZ fun n _=>rep_int n⟩
 ·rw[bY rel.top];exact q H'
theorem _root_.L2.Room.u65{k:Nat}{A:Around}(r:Room k A):A.units+65<cLine:=by have:=r.un;lia
def DP(f:FX)(a:FG):FS:=fun env=>(f env).bind fun p=>(a p.1.2 p.2).bind fun e=>.ok (.nx e)
theorem Dr{l:PySem.W.OpenLaw}{q:Program}{loose:List Str}{XP:(Str->Option Value)->Heap->Prop}{YP:World->Heap->Prop}{d:DefRec}{K:Params->W.Frag}{k:Nat}{x:Str}(hn:l.most=some 63)(Mn:d.params.defaults=[])(hr:Room k PySem.callerA)
  (hY:∀(w:World) (h:Heap),YP w h->(K w.params).In h)
  (F:∀(w:World) (mg:Str->Option Value) (fa:Addr) (h:Heap),(K w.params).In h->h.Ns mainGlobals mg->mg d.name=some (.ref fa)->
   ∃fd:FuncData,(∀(s:Shared) (u:Value),BindsTo s fd ⟨[u],[]⟩ [(x,u)])/\∀base:Heap,(K w.params).In base->base.Ns mainGlobals mg->FnOk l.prog w (K w.params) mg base IL k fa fd [x] (uo (K w.params))):
  PySem.W.WalkO q loose XP YP l.row.toRowW d [] (fun f vs=>PySem.call f vs):=
 L2.wU (n:=63) (k:=k) (x:=x) (CX:=fun _=>IL) (sp:=fun w=>uo (K w.params)) hn (by decide) Mn hr hY F (fun _ _ a ns hl _ hS=>⟨a,ns,rfl,hS,hl,fun _=>rfl⟩) fun _ _ _ _ _ z=>z
theorem qX:bootBuiltins "sum" = some (.builtin "sum"):=by decide +kernel
theorem zZ{K:W.Frag}{h:Heap}{mg:Str->Option Value}{x:Str}{st:Stmt}{f:Addr}{oc:Value}{od an:Option Addr}{JD:Array (Option Value)}{kV doc pm Er ct:Value}(X:K.In h)(G:h.Ns mainGlobals mg)
  (a:PySem.W.nsIn K mainGlobals x=some (some (.ref f))) (l:K.lookup f=some ⟨oc,od,.func (PySem.W.fnOf x x (dN st) (cy st) (defScope st) .none kV doc pm an Er ct),JD⟩)
  (c:PySem.W.codeIn K Er x=true) (k:PySem.W.keepIn K (.ref f)=true):Def K mg x st:=⟨f,_,vA l c k,PySem.W.mg_of X G a⟩
inductive tQL(K:W.Frag)(f:FI)(σ:L2.St)(H:Hp)(R:It->Hp->Prop):Prop
 |mk:∀G env fp ds env',Rel K G H env σ fp->f env=.ok (ds,env')->(∀J H' G' D2,Step G H fp G' H' D2->Rel K G' H' env' σ D2->(∀G2,Same G' G2->(∀(i:Nat) (r:PV.R) (v:V),env'[i]?=some (some r)->σ[i]?=some (some v)->Rep K G2 r.2 v)->Walk K G2 J ds)->R J H')->tQL K f σ H R
def JX(X:Cx)(tg e:Expr)(f:FI):Prop:=PI X tg e (tQL X.K f)
theorem Walk.mono{K:W.Frag}{G G2:Hp}{J:It}{ds:List D}(w:Walk K G J ds)(gg:Same G G2):Walk K G2 J ds:=fun G' H' es vs fp g rel=>w G' H' es vs fp (gg.trans g) rel
theorem og{K:W.Frag}{fi:FI}{ix:List (Option Nat)}{a:FG}{c:FT}{f:FX}{σ:L2.St}{H:Hp}{Q:VK}(h:tQ K (di fi ix a c f) σ H Q):mv (tQL K fi) ix (tQG K a) (tQT K c) (tQ K f) σ H Q:=by
 obtain⟨G,env,fp,r,env',rel,e,k⟩:=h;obtain⟨⟨ds,DU⟩,e1,e⟩:=ah e;obtain⟨rs,e2,e⟩:=ah e;refine⟨G,env,fp,ds,DU,rel,e1,fun J H1 G1 Ej Ec DW wk D hD=>?_⟩;dsimp only at e e2;split at e
 ·rename_i hz;have er:r=(.l .f,.lst rs):=by cases e;rfl
  have ee:env'=if D6 rs then DU else DU.map frz:=by cases e;rfl
  subst er;obtain⟨G2,IP,JP,Gf,hrE,Fu⟩:=DW.lend;have wk2:=wk G2 IP Gf;have DX:Rel K G2 H1 (bC ix DU) (dk ix σ) []:=⟨c8 Gf (fun i r er=>let⟨v,ev,_⟩:=DW.view er;⟨v,ev⟩) ix,RD,(fun _ h=>nomatch h),JP⟩
  obtain⟨Et,En⟩:=DX.newL (ds:=[]) (xs:=[]) hD .nil;refine⟨fun i m σ1 H2=>m=ds.length-i/\i<=ds.length/\∃G' es D2 acc aO,Step G2 H1 [] G' H2 D2/\Rel K G' H2 (some (.l .f,.lst acc)::es) (some (.ref D)::σ1) D2/\cM a c f (ds.drop i) es=.ok aO/\acc++aO=rs,
   ⟨_,rfl,QA _,G2,bC ix DU,_,[],rs,En,Et,e2,rfl⟩,?_⟩
  rintro i m σ1 H2 ⟨rfl,hi,G3,es,FK,acc,aO,EU,E8,e4,Fv⟩;obtain⟨w1,w2⟩:=wk2 G3 H2 _ _ _ EU.gg E8 i;by_cases ED:i<ds.length
  ·have hd:ds[i]?=some ds[i]:=Pk ED;obtain⟨go,yl⟩:=w1 _ hd;rw[QD ED]at e4;unfold cM at e4;obtain⟨KH,h1,e4⟩:=ah e4;obtain⟨⟨b,Hz⟩,h2,e4⟩:=ah e4;dsimp only at e4;refine .inr ⟨go,fun x H3 y=>?_⟩;obtain⟨G4,rx,Fb,Fo⟩:=yl x H3 y;obtain⟨fa,fb,IQ,ra,Hk,bk⟩:=Fb.frame;refine⟨G4,es,fb,ds[i],KH,Hk,rx,h1,fun σ2 G5 Iz IA F6=>?_⟩;refine⟨G5,KH,Iz,b,Hz,F6,h2,fun H6 G6 IS MA HA=>?_⟩;have HB:=IA.trans MA;cases b with
   |false=>
    refine iteF ⟨ds.length-(i+1),by lia,rfl,ED,?_⟩;obtain⟨F0,GI⟩:=bk G6 H6 Hz σ2 IS HB HA;rw[<-IQ]at GI;exact⟨G6,Hz,_,acc,aO,EU.trans (Fo.trans GI),F0,e4,Fv⟩
   |true=>
    have e4:((f Hz).bind fun q=>(cM a c f (ds.drop (i+1)) q.2).bind fun rs=>.ok (q.1.2::rs))=.ok aO:=e4;obtain⟨⟨r,Jh⟩,h3,e4⟩:=ah e4;obtain⟨HC,h4,e4⟩:=ah e4;cases e4;refine yt ⟨G6,Hz,IS,r,Jh,HA,h3,fun v H7 G7 ON MB Ji=>?_⟩;obtain⟨G8,MC,rv,Jj,MD⟩:=Ji.freeze;obtain⟨F0,GI⟩:=bk G8 H7 Jh σ2 MC (HB.trans (MB.trans MD)) Jj;rw[<-IQ]at GI;obtain⟨p,xs,ep,hp,Jb,cg⟩:=F0.chg (i:=0) (ds:=acc) (ds':=acc++[r.2]) rfl;have ep:some (some (V.ref D))=some (some (V.ref p)):=ep;cases ep;obtain⟨fq,Jk,ME⟩:=cg (xs++[v]) (Jb.app (.one rv));refine⟨xs,hp,?_,ds.length-(i+1),by lia,rfl,ED,G8,Jh,fq,acc++[r.2],HC,EU.trans (Fo.trans (GI.trans ME)),Jk,h4,?_⟩
    ·rw[Jb.length];have:=QN List.length Fv;rw[Qo,PH]at this;lia
    ·rw[<-Fv,Ql];rfl
  ·have ei:i=ds.length:=by lia
   subst ei;rw[RC]at e4;cases e4;rw[PU]at Fv;subst Fv;refine .inl ⟨w2 rfl,?_⟩;obtain⟨fa,HW,Lh⟩:=E8.only;obtain⟨k1,k2⟩:=Fu H2 G3 fa _ _ (EU.trans Lh) HW;rw[ee]at k;by_cases hc:D6 acc=true
   ·rw[Px hc]at k;obtain⟨G5,Iz,Fo,Fb⟩:=k1 (by rw[aB,dt];exact hc);exact k _ H2 G5 Iz (Ec.trans Fo) Fb
   ·rw[PJ hc]at k;obtain⟨G5,Iz,Fo,Fb⟩:=k2;exact k _ H2 G5 Iz (Ec.trans Fo) Fb
 ·cases e
section
variable{md:Mode}{X:Cx}{scope:Scope}{N:List Str}{tg iter elt:Expr}{ifs:List Expr}{pos:Pos}{fi:FI}{a:FG}{c:FT}{f:FX}
variable{l e:Expr}{g fj:FI}
theorem cx(h:QI X tg e fi):JX X tg e fi:=gW h fun σ H R ⟨G,env,fp,ds,env',rel,e,k⟩=>⟨G,env,fp,ds,env',rel,e,fun J H' G' D2 st EF wk=>k J H' G' D2 st EF fun _ gg _=>wk.mono gg⟩
theorem fN(h:JX X tg e fi)(h2:JX X tg e fj):JX X tg e (FZ fi fj):=fun pr s σ H R I D8=>by
 obtain⟨G,env,fp,ds,env',rel,ee,k⟩:=D8;rcases vJ ee with z|z
 ·exact h pr s σ H R I ⟨G,env,fp,ds,env',rel,z,k⟩
 ·exact h2 pr s σ H R I ⟨G,env,fp,ds,env',rel,z,k⟩
def i4(i:Nat):FI:=fun env=>match env[i]? with
 |some (some (_,.lst ds))=>.ok (ds,env)
 |_=>.bad
theorem iE{i:Nat}(h:PE X l (oU i)):JX X tg l (i4 i):=gW (pQ h) fun σ H R D8=>by
 obtain⟨G,env,fp,ds,env',rel,e,k⟩:=D8;unfold i4 at e;split at e
 ·rename_i o ds hr;cases e;obtain⟨v,ev,rv⟩:=rel.view hr;obtain⟨p,xs,OO,sq,rs⟩:=bg rv;refine⟨v,ev,p,OO,⟨xs,sq⟩,k _ H G fp .refl rel fun G2 gg Gf=>?_⟩;obtain⟨p',EZ,MF,FH,FY⟩:=bg (Gf i _ v hr ev);rw[OO]at MF;cases MF;exact lp FH FY
 ·cases e
theorem cT(ix:List (Option Nat))(N:List Str)(hc:X.calm=true)(hi:JX X tg iter fi)(hg:∀C s H fp pn,QG (aU X scope N C s H fp pn) tg a)(ht:∀C s H fp pn,JR (aU X scope N C s H fp pn) ifs c)(he:∀C s H fp pn,QE (aU X scope N C s H fp pn) elt f)
  (hf:cp scope X.env=true:=by rfl) (hk:scope.kind=.function:=by rfl) (Eb:∀y∈scope.names,y.2≠.cell:=by decide +kernel) (Eh:∀y∈scope.names,y.2=.local->scope.names.lookup y.1=some .local:=by decide +kernel) (E7:jM X scope N ix=true:=by rfl)
  (hs:∀x,foldedSetIterable iter X.env x=pure x:=by intro _;rfl):QE X (.ListComp elt [⟨tg,iter,ifs,0⟩] scope pos) (di fi ix a c f):=
 bc (mw (g:=tQG X.K a) (tc:=tQT X.K c) (te:=tQ X.K f) ix N hc hi hg ht he hf hk Eb Eh E7 hs) fun _ _ _=>og
theorem oh{i:Nat}{y:Str}{py Fe:Pos}(ix:List (Option Nat))(N:List Str)(hN:X.N.Nodup)(JN:X.N[i]?=some y)(hy:Loc X.env.scope y)(hc:X.calm=true)(hi:JX X tg iter fi)(hg:∀C s H fp pn,QG (aU X scope N C s H fp pn) tg a)(ht:∀C s H fp pn,JR (aU X scope N C s H fp pn) ifs c)
  (he:∀C s H fp pn,QE (aU X scope N C s H fp pn) elt f) (Ja:swapsWith (.ListComp elt [⟨tg,iter,ifs,0⟩] scope pos) (some (.Name y py)) Fe.line X.env=pure true:=by rfl)
  (hf:cp scope X.env=true:=by rfl) (hk:scope.kind=.function:=by rfl) (Eb:∀y∈scope.names,y.2≠.cell:=by decide +kernel) (Eh:∀y∈scope.names,y.2=.local->scope.names.lookup y.1=some .local:=by decide +kernel) (E7:jM X scope N ix=true:=by rfl)
  (hs:∀x,foldedSetIterable iter X.env x=pure x:=by intro _;rfl) (Iq:X.fn y=true\/X.env.scope.names.lookup y=some .local:=by first|exact .inl rfl|exact .inr rfl):
  QS (md:=md) X (.Assign [.Name y py] (.ListComp elt [⟨tg,iter,ifs,0⟩] scope pos) Fe) (cu i (di fi ix a c f)):=
 dm (qe (i:=i) (g:=tQG X.K a) (tc:=tQT X.K c) (te:=tQ X.K f) ix N hN JN hy hc hi hg ht he Ja hf hk Eb Eh E7 hs Iq) fun D σ H ⟨G,env,fp,rel,k⟩=>og (jW rel k)
end
section
variable{X:Cx}{a:Expr}{pos:Pos}{fa:FO}
def uq(fa:FO):FX:=fun env=>(fa env).bind fun p=>(Gd p.2 p.1).bind fun d=>match d with
 | .int i=>.ok ((.f,.int (-i)),p.2)
 |_=>.bad
theorem lB(ha:QO X a fa):QE X (.UnaryOp .USub a pos) (uq fa):=bc (Bn y0 ha) fun σ H Q D8=>by
 obtain⟨G,env,fp,r,env',rel,e,k⟩:=D8;obtain⟨⟨o,e1⟩,h1,e⟩:=ah e;obtain⟨d,h2,e⟩:=ah e;dsimp only at e;split at e
 ·rename_i i;cases e;refine⟨G,env,fp,o,_,rel,h1,fun v H1 G1 Ej Ec DW Gq=>?_⟩;have:=ba (DW.vw Gq h2);exact⟨i,this,k _ H1 G1 Ej Ec (DW.push (rep_int _))⟩
 ·cases e
theorem qY{i:Int}(h:i.natAbs<2 ^ 1000):Builtin.Int.intBits i<=2 ^ 20:=by
 unfold Builtin.Int.intBits;split
 ·exact QA _
 ·rename_i h0;have h1:i.natAbs≠0:=by
   intro e;rw[SN]at e;exact h0 (by rw[e];rfl)
  have:=(Ve h1).mpr h;have e:(2:Nat) ^ 20=1048576:=by decide
  lia
theorem xp:EG X (binaryOp .Mult) (rI (fun i j=>i.natAbs<2 ^ 1000/\j.natAbs<2 ^ 1000) fun i j=>.int (i*j)):=Kx fun _ _ _ _ _ _ _ hc q=>mul_int q (.of_bits (qY hc.1) (qY hc.2))
theorem lC{α:Type}:∀(ls:List (Array α)) (acc:Array α),(ls.foldl (·++·) acc).toList=acc.toList++(ls.map Array.toList).flatten
 |[],acc=>by simp
 |a::ls,acc=>by
  rw[R4,lC ls,Array.toList_append,PL,Q6,Ql]
theorem BR(l:List Nat)(n:Nat):(⟨(List.replicate n (S l).cps).foldl (·++·) #[]⟩:Str)=S (List.replicate n l).flatten:=by
 have h:((List.replicate n (S l).cps).foldl (·++·) #[]).toList=(List.replicate n l).flatten:=by
  rw[lC,List.map_replicate];simp only[fJ,Q9]
 show Str.mk _=Str.mk _;rw[<-h]
theorem xq(a b:Int):BI (.int a) (.int b)=if jo a||jo b then .ok (.f,.int (a*b)) else .bad:=rfl
noncomputable def BS:D->D->Res R
 | .int i,.int j=>if jo i||jo j then .ok (.f,.int (i*j)) else if i.natAbs<2 ^ 1000/\j.natAbs<2 ^ 1000 then .ok (.f,.int (i*j)) else .bad
 | .str l,.int k=>if 2<=k/\k<=1000/\1<=l.length/\l.length<=1000 then .ok (.f,.str (List.replicate k.toNat l).flatten) else .bad
 |_,_=>.bad
theorem xr:EG X (binaryOp .Mult) (rG X.K BS):=by
 rintro pr s σ H x y v u Q I rx ry ⟨G,fp,es,vs,a,b,r,⟨rel,k⟩,va,vb,e⟩;unfold BS at e;split at e
 ·rename_i i j;split at e
  ·rename_i hc;exact zL pr s σ H x y v u Q I rx ry ⟨G,fp,es,vs,.int i,.int j,r,⟨rel,k⟩,va,vb,by rw[xq,Px hc];exact e⟩
  ·split at e
   ·rename_i hc;cases e;cases ba va;cases ba vb;exact xp pr s σ H _ _ v u Q I rx ry ⟨i,j,rfl,rfl,hc,k _ H G fp .refl (rel.push (rep_int _))⟩
   ·cases e
 ·rename_i l j;split at e
  ·rename_i hc;cases e;obtain⟨ev,hl⟩:=gU va;subst ev;cases ba vb;obtain⟨t,rfl⟩:=rx;obtain⟨t',rfl⟩:=ry;have hlen:(S l).length=l.length:=k6 l;have hz:(List.replicate j.toNat l).flatten.length<=1000000:=by
    rw[jJ];exact Sg (by lia:j.toNat<=1000) hc.2.2.2
   have MG:(List.replicate j.toNat l).flatten.length<=sizeLine:=PN hz (by decide);refine PySem.P.mul_str ?_ ?_ ?_ ?_
   ·rw[Qa (by lia),Qa (by lia)];rfl
   ·intro _ _;rw[hlen];have h1:1000<=(2 ^ 63-1) / j:=(Int.le_ediv_iff_mul_le (by lia)).mpr (by lia);lia
   ·intro _ _;unfold Builtin.Str.tooLong;rw[S7,hlen,RK,<-jJ];lia
   ·rw[PJ (by lia),PJ (by rw[hlen,TB,P5,P5];lia),BR];refine⟨?_,?_⟩
    ·rw[k6];exact MG
    ·exact⟨.str (S (List.replicate j.toNat l).flatten),H,I.tok _,⟨_,rfl⟩,k _ H G fp .refl (rel.push (gH MG))⟩
  ·cases e
 ·cases e
end
end PV
namespace HT
open PySem PySem.Spec PyProof.Rows L2
variable{prog:Program}{w:World}{A:Around}{E:Value->Shared->Prop}{s:Shared}
theorem gu{t sl:Addr}{items:Array Value}{vl vu:Value}{lo hi:Option Int}{Q:Value->Shared->Prop}(ht:IsTup s.heap t items)(hs:s.heap.IsSliceOf sl vl vu .none)(pl:IsPart vl lo)(pu:IsPart vu hi)
  (hw:sIx items.size 0 lo=0/\sIx items.size items.size hi=items.size) (h:Q (.ref t) s):wpAny (model prog w) A (getItem (.ref t) (.ref sl)) Q E s:=by
 obtain⟨os,K2,Nk,IX⟩:=id hs;have NS:s.TypeIs (.ref sl) "slice":=⟨os,K2,Nk⟩
 unfold getItem;try with_reducible refine S4 ?_
 first|refine Ph (Py ?_)|skip
 refine Ph (wpAny_sequenceKey ht.typeIs (by decide) ?_);refine Ph (Qz (name:=Str.ofString "__getitem__") ht.typeIs Q4
  (RA Q4 ht.typeIs entry_tuple_getitem ?_ (args_tuple_getitem _ _)))
 show wpAny _ _ (Builtin.Tuple.tupleItemsOf (.ref t) >>= _) _ _ s;refine Ph (tupleItemsOf_ ht ?_);refine Ph (Tu NS ?_);rw[Px (by decide)];refine Ph (eD hs pl pu ?_);have hyes:(((sIx items.size 0 lo:Nat):Int)==0&&(1:Int)==1&&(sIx items.size items.size hi-sIx items.size 0 lo)==items.size)=true:=by
  rw[hw.1,hw.2];simp
 show wpAny _ _ (if(((sIx items.size 0 lo:Nat):Int)==0&&(1:Int)==1&&(sIx items.size items.size hi-sIx items.size 0 lo)==items.size)=true then _ else _) _ _ s;rw[Px hyes];refine Ph (m:=Builtin.Tuple.tupleIsExact _) ?_;unfold Builtin.Tuple.tupleIsExact;refine Ph (Tu ht.typeIs (Py ?_));rw[Px (by decide)];exact Ph (UC (Py ⟨_,rfl,Py h⟩))
end HT
namespace PV
open PySem PySem.Spec PyProof.Rows L2 NX
section
variable{X:Cx}{pos:Pos}{fa:FO}
theorem xt:K4 X (fun x lo hi H Q=>∃a xs,x=.ref a/\SqT X.K H a xs/\(HT.sIx xs.length 0 lo=0/\HT.sIx xs.length xs.length hi=xs.length)/\Q x H):=by
 intro pr s σ H x v vl vu lo hi sl Q I rx hs pl pu h;obtain⟨a,xs,rfl,hx,hw,q⟩:=h;cases rx;obtain⟨DY,r,ht,hz⟩:=I.tuple hx;have hlen:DY.toArray.size=xs.length:=by rw[Pl];exact r.length.symm
 refine⟨"tuple",_,PyProof.Rows.slot_tuple_getitem.lookup,ht.typeIs,?_⟩;exact HT.gu ht hs pl pu (by rw[hlen];exact hw) ⟨.ref a,H,I,rfl,q⟩
def Li(k:D)(lo hi:Option Int):Res R:=match k with
 | .tup ds=>if HT.sIx ds.length 0 lo=0/\HT.sIx ds.length ds.length hi=ds.length then .ok (.f,.tup ds) else L5 k lo hi
 |_=>L5 k lo hi
def A2(fa:FO)(lo hi:FP):FX:=fun env=>(fa env).bind fun p=>(lo p.2).bind fun q=>(hi q.2).bind fun t=>(Gd t.2 p.1).bind fun d=>(Li d q.1 t.1).bind fun r=>.ok (r,t.2)
inductive rSlW(K:W.Frag)(x:V)(lo:Option Int)(hi:Option Int)(H:Hp)(Q:VK):Prop
 |mk:∀G fp es vs d r,Goes K H G fp es vs r Q->Vw K G H d x->Li d lo hi=.ok r->rSlW K x lo hi H Q
theorem z4:K4 X (rSlW X.K):=by
 rintro pr s σ H x v vl vu lo hi sl Q I rx hs pl pu ⟨G,fp,es,vs,d,r,⟨rel,k⟩,vd,e⟩;unfold Li at e;split at e
 ·rename_i ds;split at e
  ·rename_i hw;cases e;obtain⟨p,xs,ev,sq,rs⟩:=fL vd;subst ev;refine xt pr s σ H _ v vl vu lo hi sl Q I rx hs pl pu ⟨p,xs,rfl,bA rel.gh sq,by rw[rs.length];exact hw,?_⟩;exact k _ H G fp .refl (rel.push vd)
  ·exact zN pr s σ H x v vl vu lo hi sl Q I rx hs pl pu ⟨G,fp,es,vs,_,r,⟨rel,k⟩,vd,e⟩
 ·exact zN pr s σ H x v vl vu lo hi sl Q I rx hs pl pu ⟨G,fp,es,vs,_,r,⟨rel,k⟩,vd,e⟩
theorem vQ{e:Expr}{lo hi:Option Expr}{p2:Pos}{fl fh:FP}(he:QO X e fa)(hl:QP X lo fl)(hh:QP X hi fh):QE X (.Subscript e (.Slice lo hi none p2) pos) (A2 fa fl fh):=
 bc (tL z4 he hl hh) fun σ H Q D8=>by
  obtain⟨G,env,fp,r,env',rel,e,k⟩:=D8;obtain⟨⟨o,DU⟩,e1,e⟩:=ah e;obtain⟨⟨i,D4⟩,e2,e⟩:=ah e;obtain⟨⟨j,Eo⟩,e3,e⟩:=ah e;obtain⟨d,e4,e⟩:=ah e;obtain⟨r',e5,e⟩:=ah e;cases e;exact⟨G,env,fp,o,DU,rel,e1,fun v H1 G1 Ej Ec DW Gq=>⟨G1,DU,Ej,i,D4,DW,e2,fun H2 G2 Ew D5 DX=>⟨G2,D4,Ew,j,Eo,DX,e3,fun H3 G3 FK En Et=>
   ⟨G3,FK,Eo,σ,d,r,⟨Et,fun v H' G' D2 st EF=>k v H' G' D2 (Ec.trans (D5.trans (En.trans st))) EF⟩,Et.vw ((Gq.mono D5.gg).mono En.gg) e4,e5⟩⟩⟩⟩
end
end PV
namespace L2
open PySem PySem.Spec PyProof.Rows
section
variable{X:Cx}{tg:Expr}
def qZ(i j c:Int):Prop:=(-1048576<=i/\i<=1048576)/\(-1048576<=j/\j<=1048576)/\(c = -1\/1<=c)/\c<=1048576
instance (i j c:Int):Decidable (qZ i j c):=by unfold qZ;infer_instance
end
end L2
namespace PV
open PySem PySem.Spec PyProof.Rows L2 NX
section
variable{X:Cx}{tg:Expr}
def DQ:List D->Res R
 |[d]=>match(lr d).bind dG with
  |some (n::ns)=>.ok (.f,.int (By (n::ns)))
  |_=>.bad
 |[.int i,.int j]=>.ok (.f,.int (if j<i then j else i))
 |_=>.bad
def yu:List D->Res R
 |[.int i]=>.ok (.f,.int (if i<0 then -i else i))
 |_=>.bad
theorem vR:eO X (.builtin "abs") (rC X.K yu):=by
 rintro pr s σ H xs us Q I rx ⟨G,fp,es,vs,ds,r,⟨rel,k⟩,vd,e⟩;unfold yu at e;split at e
 ·cases e;obtain⟨v,ev,vt⟩:=qO vd;subst ev;cases ba vt;exact tG pr s σ H _ us Q I rx ⟨_,rfl,k _ H G fp .refl (rel.push (rep_int _))⟩
 ·cases e
noncomputable def BU(fs:FOs):FI:=fun env=>(fs env).bind fun p=>(pK p.2 p.1).bind fun d=>match d with
 |[.int i,.int j,.int c]=>if qZ i j c then .ok ((List.range (Builtin.Range.rangeSize i j c).toNat).map fun(k:Nat)=>D.int (i+(k:Int)*c),p.2) else .bad
 |_=>.bad
end
end PV
namespace NX
open PySem PySem.Spec PyProof.Rows L2
section
open PySem.SeqAt
open PySem.AutoSeq1 (wpAny_loadPart')
end
end NX
namespace L2
open PySem PySem.Spec PyProof.Rows
section
variable{X:Cx}{o e:Expr}{es:List Expr}{to:TE}{t:TA}{name:Str}{apos Eu:Pos}{id:String}{r:V->List V->Hp->VK->Prop}
end
end L2
namespace PV
open PySem PySem.Spec PyProof.Rows L2 NX
section
variable{X:Cx}
noncomputable def DR(g:List D->List D->Res R)(fa:FO)(fs:FOs):FX:=fun env=>(fa env).bind fun p=>(Gd p.2 p.1).bind fun a=>match a with
 | .tup _=>(fs p.2).bind fun q=>(Gd q.2 p.1).bind fun a2=>match a2 with
  | .tup l=>(pK q.2 q.1).bind fun ds=>(g l ds).bind fun r=>.ok (r,q.2)
  |_=>.bad
 |_=>.bad
def Ds(l:List D):List D->Res R
 |[.str c]=>match qS l with
  |some bs=>if c∈bs then .ok (.f,.int (bs.idxOf c:Nat)) else .bad
  |none=>.bad
 |_=>.bad
def mG(a b:D):Res R:=match a,b with
 | .tup [],.tup l=>.ok (.f,.tup l)
 |a,b=>addD a b
theorem eV:EG X (binaryOp .Add) (rG X.K mG):=by
 rintro pr s σ H x y v u Q I rx ry ⟨G,fp,es,vs,a,b,r,⟨rel,k⟩,va,vb,e⟩;unfold mG at e;split at e
 ·rename_i l;cases e;obtain⟨p,xs,e1,h1,r1⟩:=fL va;obtain⟨p2,L4,e2,h2,r2⟩:=fL vb;subst e1;subst e2;cases rx;cases ry;have hx:xs=[]:=QJ (by rw[r1.length];rfl);subst hx;obtain⟨DY,v1,⟨⟨cls,dd,data,sl⟩,ho,hc,n,hd⟩,_⟩:=I.tuple (bA rel.gh h1);obtain⟨Ir,v2,⟨⟨K1,JE,data2,JF⟩,FJ,Ih,n2,hd2⟩,_⟩:=I.tuple (bA rel.gh h2);dsimp only at hc hd Ih hd2;subst hc hd Ih hd2;cases v1;exact Tt ⟨_,ho,rfl⟩ ⟨_,FJ,rfl⟩ Tc Uk Sd R3 (RY _ _) (tuple_addW0 p p2 _ _ n n2 dd JE sl JF rfl) ⟨ho,FJ,⟨.ref p2,H,I,rfl,k _ H G fp .refl (rel.push vb)⟩⟩
 ·exact zJ pr s σ H _ _ v u Q I rx ry ⟨G,fp,es,vs,a,b,r,⟨rel,k⟩,va,vb,e⟩
def mH(fs:FOs):FI:=FZ (ph true true fs) (FZ (ph true false fs) (FZ (ph false true fs) (ph false false fs)))
theorem mI{Hx:List Expr}{kt:Nat}{pt:Pos}{e1 e2:Expr}{fs:FOs}{p pos:Pos}(hg:Gl X "zip")(hm:X.mg "zip" = none)(ha:IM X [e1,e2] fs)(he:starEach [e1,e2] X.env=(false,eval e1 X.env)::starEach [e2] X.env:=by rfl)(FE:(backTo pos (starEach [e2] X.env)).any (·.1)=false:=by rfl):
  QI X (.Tuple Hx kt pt) (.Call (.Name "zip" p) [e1,e2] [] pos) (mH fs):=pq (nU true true hg hm ha he FE) (pq (nU true false hg hm ha he FE) (pq (nU false true hg hm ha he FE) (nU false false hg hm ha he FE)))
end
end PV
namespace NX
open PySem PySem.Spec PyProof.Rows L2
section
open PySem.AutoSeq1 (wpAny_loadPart')
theorem lD(l:Addr)(items:Array Value)(n:Nat)(dd:Option Addr)(sl:Array (Option Value))(x:Int)(u:Tok)(h1:¬ (!Builtin.List.listFitsIndex x)=true)(h2:¬ items.size*x.toNat>(2 ^ 63-1) / 8)(h3:¬ Builtin.List.listTooLong (items.size*x.toNat)=true)(h4:(List.foldl (fun x1 x2=>x1++x2) #[] (List.replicate (if items.isEmpty=true then 0 else x.toNat) items)).size<=sizeLine):
  Meets (Builtin.«list.__mul__» ⟨[.ref l,.int x u],[]⟩)
   (fun _ R s=>s.heap.get? l=some {cls:=.type "list",dict:=dd,data:=.seq items n,slots:=sl}/\R (.ok (.ret (.ref s.heap.objs.size))) {s with heap:=s.heap.push {cls:=.type "list",data:=.seq (List.foldl (fun x1 x2=>x1++x2) #[] (List.replicate (if items.isEmpty=true then 0 else x.toNat) items))}}):=
 .of_wp fun prog w A R s h=>by
  obtain⟨hp,g,d,tk,os⟩:=s;obtain⟨hl,h⟩:=h
  wp_walk using wpAny_loadPart' hl
  rw[PJ (by lia)]
  wp_walk
  exact⟨_,rfl,h⟩
theorem lE(a:Int)(t:Tok)(l:Addr)(T:String)(items:Array Value)(n:Nat)(dd:Option Addr)(sl:Array (Option Value)):
  Meets (Builtin.«int.__rmul__» ⟨[.int a t,.ref l],[]⟩)
   (fun _ R s=>s.heap.get? l=some {cls:=.type "list",dict:=dd,data:=.seq items n,slots:=sl}/\R (.ok (.ret .notImplemented)) s):=
 .of_wp fun prog w A R s h=>by
  obtain⟨hp,g,d,tk,os⟩:=s;obtain⟨hl,h⟩:=h
  wp_walk using wpAny_loadPart' hl
  exact⟨_,rfl,h⟩
end
end NX
namespace PV
open PySem PySem.Spec PyProof.Rows L2 NX
section
variable{md:Mode}{X:Cx}
inductive rRepS(K:W.Frag)(x:V)(y:V)(H:Hp)(Q:VK):Prop
 |mk:∀l k xs,x=.ref l->y=.int k->SqL K H l xs->-(2 ^ 62)<=k->k<2 ^ 62->xs.length*k.toNat<=sizeLine->(∀p,H p=none->Q (.ref p) (upd H p (.lst (List.replicate k.toNat xs).flatten)))->rRepS K x y H Q
theorem xu:EG X (binaryOp .Mult) (rRepS X.K):=by
 intro pr s σ H x y v u Q I rx ry h;obtain⟨l,k,xs,rfl,rfl,hH,h1,h2,hz,q⟩:=h;cases rx;obtain⟨t,rfl⟩:=ry;obtain⟨DY,r,p1,_⟩:=I.list hH;have hl:=r.length;obtain⟨⟨cls,dd,data,sl⟩,ho,hc,n,hd⟩:=id p1.isList;simp only at hc hd;subst hc hd;have hlen:DY.toArray.size*k.toNat<=sizeLine:=by rw[Pl,<-hl];exact hz
 have hcap:¬ DY.toArray.size*k.toNat>(2 ^ 63-1) / 8:=by
  have:(sizeLine:Nat)<=(2 ^ 63-1) / 8:=by decide
  lia
 have Jg:¬ (!Builtin.List.listFitsIndex k)=true:=by
  rw[fitsIndex_both (by lia) (by lia)];exact PF
 have MH:¬ Builtin.List.listTooLong (DY.toArray.size*k.toNat)=true:=by
  rw[tN hlen];exact PF
 have JY:List.foldl (fun x1 x2=>x1++x2) #[] (List.replicate (if DY.toArray.isEmpty=true then 0 else k.toNat) DY.toArray)=(List.replicate k.toNat DY).flatten.toArray:=by
  have f0:∀m:Nat,List.foldl (fun x1 x2=>x1++x2) #[] (List.replicate m DY.toArray)=(List.replicate m DY).flatten.toArray:=fun m=>by
   have:=kY DY m [];rw[Q9]at this;exact this
  rw[f0];cases DY with
  |nil=>simp
  |cons a r'=>rw[PJ (by simp)]
 have hsz:(List.foldl (fun x1 x2=>x1++x2) #[] (List.replicate (if DY.toArray.isEmpty=true then 0 else k.toNat) DY.toArray)).size<=sizeLine:=by
  rw[JY,Pl,jJ,RK];rw[Pl]at hlen;exact hlen
 refine wpAny_binaryOp_repeat_ref (T:="list") (U:="int") (by decide) ⟨_,ho,rfl⟩ (fun s'=>typeIs_int s' k t) noFill_list_mul F.fills_int_mul F.slot_int_rmul repeat_list F.slot_int_index.lookup
  (Uz F.slot_int_rmul (typeIs_int s k t) F.entry_int_rmul (F.args_int_rmul_2 _ _) (lE k t l "" DY.toArray n dd sl)
   ⟨ho,rfl,⟨_,ho,rfl⟩,Uz F.slot_list_mul ⟨_,ho,rfl⟩ F.entry_list_mul (F.args_list_mul_2 _ _) (lD l DY.toArray n dd sl k t Jg hcap MH hsz) ⟨ho,?_⟩⟩)
 rw[JY];exact⟨.ref _,_,I.lnew (t':=s.toks) (r.rep k.toNat) (by rw[jJ,RK];exact hz),rfl,q _ I.fresh⟩
theorem oi{K:W.Frag}{G:Hp}{ds:List D}{xs:List V}(r:Reps K G ds xs):∀n:Nat,Reps K G (List.replicate n ds).flatten (List.replicate n xs).flatten
 | 0=>.nil
 |n+1=>by
  rw[Qw,Qw,Q6,Q6];exact r.app (oi r n)
def yv(a b:D):Res R:=match a,b with
 | .lst ds,.int k=>if 0<=k/\k<1000000/\ds.length*k.toNat<=sizeLine then .ok (.l .f,.lst (List.replicate k.toNat ds).flatten) else .bad
 |a,b=>BS a b
theorem xv:EG X (binaryOp .Mult) (rG X.K yv):=by
 rintro pr s σ H x y v u Q I rx ry ⟨G,fp,es,vs,a,b,r,⟨rel,k⟩,va,vb,e⟩;unfold yv at e;split at e
 ·rename_i ds j;split at e
  ·rename_i hj;cases e;obtain⟨p,xs,e1,h1,r1⟩:=va;subst e1;cases ba vb;refine xu pr s σ H _ _ v u Q I rx ry ⟨p,j,xs,rfl,rfl,h1,by lia,by lia,by rw[r1.length];exact hj.2.2,fun q hq=>?_⟩;obtain⟨DX,D5⟩:=rel.newL hq (oi r1 j.toNat);exact k _ _ G _ D5 DX
  ·cases e
 ·exact xr pr s σ H _ _ v u Q I rx ry ⟨G,fp,es,vs,a,b,r,⟨rel,k⟩,va,vb,e⟩
def BV(td ty tv:TE):TS:=fun Dd σ H=>tv σ H fun v H1=>td σ H1 fun x H2=>ty σ H2 fun y H3=>zc x y v H3 fun H4=>Dd.nx σ H4
theorem xw{o i value:Expr}{td ty tv:TE}{pos pos':Pos}(ho:PE X o td)(hi:PE X i ty)(hv:PE X value tv)(hs:swapsWith value (some (.Subscript o i pos')) pos.line X.env=pure false):
  PS X (.Assign [.Subscript o i pos'] value pos) (BV td ty tv):=by
 intro pr s σ H Dd I h;refine wpAny_Assign_Subscript (Eg (hv pr s σ H _ I h) fun r s1 ⟨v,H1,I1,rv,q1⟩=>Eg (ho pr s1 σ H1 _ I1 q1) fun u s2 ⟨x,H2,I2,rx,q2⟩=>Eg (hi pr s2 σ H2 _ I2 q2) fun iv s3 ⟨y,H3,I3,ry,q3⟩=>?_) hs;exact Eg (tM pr s3 σ H3 x y v u iv r _ I3 rx ry rv q3) fun _ s4 ⟨H4,I4,q4⟩=>⟨σ,H4,I4,q4⟩
noncomputable def pw(i:Nat)(fk fv:FX):FS:=fun env=>(fv env).bind fun p=>(fk p.2).bind fun q=>match p.2[i]?,q.2[i]? with
 |some (some _),some (some (.l .f,.lst ds))=>(match q.1.2 with
  | .int k=>(match ixN ds.length k with
   |some j=>.ok (.nx (q.2.set i (some (.l .f,.lst (ds.set j p.1.2)))))
   |none=>.bad)
  |_=>.bad)
 |_,_=>.bad
theorem mJ{i:Nat}{o ix value:Expr}{fk fv:FX}{pos pos':Pos}(ho:PE X o (oU i))(hi:QE X ix fk)(hv:QE X value fv)(hs:swapsWith value (some (.Subscript o ix pos')) pos.line X.env=pure false:=by rfl):
  QS (md:=md) X (.Assign [.Subscript o ix pos'] value pos) (pw i fk fv):=dm (xw ho hi hv hs) fun Dd σ H D8=>by
 obtain⟨G,env,fp,rel,k⟩:=D8;unfold pw at k;match q1:fv env,k with
 | .ok (r1,DU),k=>
  have k:OutOk X.K G H fp Dd ((fk DU).bind fun q=>match DU[i]?,q.2[i]? with
   |some (some _),some (some (.l .f,.lst ds))=>(match q.1.2 with
    | .int k=>(match ixN ds.length k with
     |some j=>.ok (.nx (q.2.set i (some (.l .f,.lst (ds.set j r1.2)))))
     |none=>.bad)
    |_=>.bad)
   |_,_=>.bad):=k
  match q2:fk DU,k with
  | .ok (r2,D4),k=>
   have k:OutOk X.K G H fp Dd (match DU[i]?,D4[i]? with
    |some (some _),some (some (.l .f,.lst ds))=>(match r2.2 with
     | .int k=>(match ixN ds.length k with
      |some j=>.ok (.nx (D4.set i (some (.l .f,.lst (ds.set j r1.2)))))
      |none=>.bad)
     |_=>.bad)
    |_,_=>.bad):=k
   split at k
   ·rename_i rr ds h1 h2;split at k
    ·rename_i kk Ik;split at k
     ·rename_i j hj;refine⟨G,env,fp,r1,DU,rel,q1,fun y H1 G1 Ej Ec DW=>?_⟩;obtain⟨G2,b,ry,DX,D5⟩:=DW.freeze;obtain⟨v0,L7,_⟩:=DX.view h1;refine⟨v0,L7,G2,DU,b,r2,D4,DX,q2,fun z H3 G3 FK En Et=>?_⟩;obtain⟨G4,b4,rz,E8,EU⟩:=Et.freeze;have Nw:Rep X.K G4 r1.2 y:=Rep.mono (En.gg.trans EU.gg) ry;obtain⟨p,xs,ep,hp,rs,cg⟩:=E8.chg (ds':=ds.set j r1.2) h2;rw[L7]at ep;cases ep;rw[Ik]at rz;have hz:=bq rz;obtain⟨fq,Fb,Fo⟩:=cg _ (rs.set j Nw);exact⟨p,xs,kk,j,rfl,hz,hp,by rw[rs.length];exact hj,k _ _ G4 fq (Ec.trans (D5.trans (En.trans (EU.trans Fo)))) Fb⟩
     ·exact k.elim
    ·exact k.elim
   ·exact k.elim
end
section
variable{X:Cx}
def CA(fk fv:FX):FX:=fun env=>(fk env).bind fun p=>(fv p.2).bind fun q=>if dI false p.1.2 then .ok ((.d,.dct false [p.1.2] [q.1.2]),q.2) else .bad
def getD(ks vs:List D)(k:D):Option D:=((ks.zip vs).find? fun p=>D3 k p.1).map (·.2)
theorem iF{κ:Type}[DecidableEq κ]{K:W.Frag}{G:Hp}(f:κ->D)(hf:∀a b,D3 (f a) (f b)=decide (a=b)){k:κ}:∀{DS:List (κ×V)}{vs:List D},Reps K G vs (DS.map (·.2))->((getD (DS.map fun kv=>f kv.1) vs (f k)).isSome=(la DS k).isSome)/\∀d,getD (DS.map fun kv=>f kv.1) vs (f k)=some d->∃v,la DS k=some v/\Rep K G d v
 |[],vs,r=>⟨rfl,fun d h=>nomatch h⟩
 |kv::DS,vs,r=>by
  cases vs with
  |nil=>have:=r.length;simp at this
  |cons d0 vs=>
   rw[PL,Reps.cons_iff]at r;obtain⟨h1,h2⟩:=iF f hf (k:=k) r.2;unfold getD la at h1 h2 ⊢;rw[PL,R6];have e:D3 (f k) (f kv.1)=decide (kv.1=k):=by
    rw[hf,Qn,Qd,Qd];exact⟨fun z=>z.symm,fun z=>z.symm⟩
   by_cases hk:kv.1=k
   ·rw[RE (by show D3 (f k) (f kv.1)=true;rw[e];exact Qi hk),RE (by exact Qi hk)];refine⟨rfl,fun d h=>?_⟩;cases h;exact⟨_,rfl,r.1⟩
   ·rw[RF (by show ¬ D3 (f k) (f kv.1)=true;rw[e];simpa using hk),RF (by simpa using hk)];exact⟨h1,h2⟩
theorem mK{K:W.Frag}{G H:Hp}(gh:Same G H){tk:Bool}{ks vs:List D}{xs:List V}{o:HO}{p:Addr}{b:D}{y:V}(rd:Rd H p o)(dd:DictO o tk ks xs)(rs:Reps K G vs xs)(hk:dI tk b=true)(ry:Rep K G b y):
  ∃ov,DGet H p y ov/\(getD ks vs b).isSome=ov.isSome/\∀d,getD ks vs b=some d->∃v,ov=some v/\Rep K G d v:=by
 unfold dI at hk;cases tk with
 |true=>
  rw[Px rfl,Rc]at hk;obtain⟨kk,hk⟩:=hk;obtain⟨pz,ez,gz,dz⟩:=dQ hk ry;obtain⟨DS,eo,ek,ex,_⟩:=dd;subst eo ex ez dz;have ek:ks=DS.map fun kv=>kT kv.1:=ek
  obtain⟨h1,h2⟩:=iF (K:=K) (G:=G) kT vN (k:=kk) rs;rw[<-ek]at h1 h2;exact⟨la DS kk,.inr ⟨DS,kk,pz,rd,rfl,gh _ _ gz,rfl⟩,h1,h2⟩
 |false=>
  rw[PJ PF,Rc]at hk;obtain⟨kk,hk⟩:=hk;obtain⟨ez,dz⟩:=gL hk ry;obtain⟨DS,eo,ek,ex,_⟩:=dd;subst eo ex ez dz;obtain⟨h1,h2⟩:=iF (K:=K) (G:=G) kD qU (k:=kk) rs;rw[<-ek]at h1 h2;exact⟨la DS kk,.inl ⟨DS,kk,rd,rfl,rfl⟩,h1,h2⟩
def JG(a b:D):Res R:=match a with
 | .dct tk ks vs=>if dI tk b then(match getD ks vs b with
  |some d=>.ok (.f,d)
  |none=>.bad) else .bad
 |_=>.bad
theorem q5{a b:Expr}{fa fb:FO}{pos:Pos}(hu:X.A.units+1<cLine)(ha:QO X a fa)(hb:QO X b fb)(hs:NoSl b:=by exact fun _ _=>rfl):QE X (.Subscript a b pos) (aR JG fa fb):=
 bc (xc hu ha hb hs) fun σ H Q h=>by
  obtain⟨G,env,fp,r,env',rel,e,k⟩:=h;obtain⟨⟨oa,e1⟩,ha,e⟩:=ah e;obtain⟨⟨ob,e2⟩,hb,e⟩:=ah e;obtain⟨da,Mw,e⟩:=ah e;obtain⟨db,GA,e⟩:=ah e;obtain⟨r',hr,e⟩:=ah e;cases e;refine⟨G,env,fp,oa,e1,rel,ha,fun x H1 G1 Ej Ec DW Gq=>⟨G1,e1,Ej,ob,e2,DW,hb,fun y H2 G2 Ew D5 DX Ld=>?_⟩⟩;have va:=DX.vw (Gq.mono D5.gg) Mw;have vb:=DX.vw Ld GA;unfold JG at hr;split at hr
  ·rename_i tk ks vs;split at hr
   ·rename_i Hl;split at hr
    ·rename_i d hd;cases hr;obtain⟨p,xs,o,ev,rd,dd,rs⟩:=va;subst ev;have vb':Rep X.K G2 db y:=by
      cases db with
      |lst l=>cases tk <;> simp[dI,dP,jt]at Hl
      |dct _ _ _=>cases tk <;> simp[dI,dP,jt]at Hl
      |_=>exact vb
     obtain⟨ov,g,_,h2⟩:=mK DX.gh rd dd rs Hl vb';obtain⟨v,ho,rv⟩:=h2 d hd;subst ho;exact⟨p,v,rfl,g,k _ H2 G2 Ew (Ec.trans D5) (DX.push rv)⟩
    ·cases hr
   ·cases hr
  ·cases hr
def MI(a b:D):Res R:=match b with
 | .dct tk ks vs=>if dI tk a then .ok (.f,.bl (getD ks vs a).isSome) else .bad
 |_=>KD a b
def oj(a b:D):Res R:=match b with
 | .dct tk ks vs=>if dI tk a then .ok (.f,.bl (!(getD ks vs a).isSome)) else .bad
 |_=>zS a b
theorem z5(hu:X.A.units+65<cLine):EG X (compareOp .In) (rGA X.K MI):=by
 rintro pr s σ H x y v u Q I rx ry ⟨G,fp,es,vs,a,b,r,⟨rel,k⟩,va,vb,e⟩;unfold MI at e;split at e
 ·rename_i tk ks ws;split at e
  ·rename_i Hl;cases e;obtain⟨p,xs,o,ev,rd,dd,rs⟩:=vb;subst ev;cases ry;obtain⟨ov,g,h1,_⟩:=mK (K:=X.K) (G:=H) (fun _ _ z=>z) rd dd rs Hl va;exact Dn (by lia) I g rx fun s' I'=>⟨.bl ov.isSome,H,I',rfl,by rw[<-h1];exact k _ H G fp .refl (rel.push (cq _))⟩
  ·cases e
 ·exact BO hu pr s σ H x y v u Q I rx ry ⟨G,fp,es,vs,a,b,r,⟨rel,k⟩,va,vb,e⟩
theorem mL(hu:X.A.units+65<cLine):EG X (compareOp .NotIn) (rGA X.K oj):=by
 rintro pr s σ H x y v u Q I rx ry ⟨G,fp,es,vs,a,b,r,⟨rel,k⟩,va,vb,e⟩;unfold oj at e;split at e
 ·rename_i tk ks ws;split at e
  ·rename_i Hl;cases e;obtain⟨p,xs,o,ev,rd,dd,rs⟩:=vb;subst ev;cases ry;obtain⟨ov,g,h1,_⟩:=mK (K:=X.K) (G:=H) (fun _ _ z=>z) rd dd rs Hl va;exact xa (by lia) I g rx fun s' I'=>⟨.bl (!ov.isSome),H,I',rfl,by rw[<-h1];exact k _ H G fp .refl (rel.push (cq _))⟩
  ·cases e
 ·exact zT hu pr s σ H x y v u Q I rx ry ⟨G,fp,es,vs,a,b,r,⟨rel,k⟩,va,vb,e⟩
end
def isLf:O->Bool
 | .l .f=>true
 | .pin _ (.l .f)=>true
 |_=>false
section
variable{K:W.Frag}{G G' H H':Hp}{es:PV.Env}{vs:L2.St}{fp:List Addr}
theorem vS{ow:O}{ds:List D}{v:V}{a:List Addr}(ho:isLf ow=true)(r:RepO K G H ow (.lst ds) v a):∃p xs,v=.ref p/\H p=some (.lst xs)/\a=[p]/\Reps K G ds xs/\∀(H':Hp) (ds':List D) (EZ:List V),H' p=some (.lst EZ)->Reps K G ds' EZ->RepO K G H' ow (.lst ds') (.ref p) [p]:=by
 unfold isLf at ho;split at ho
 ·obtain⟨p,xs,e,hp,ea,rs⟩:=bN.mp r;exact⟨p,xs,e,hp,ea,rs,fun H' ds' EZ h FY=>bN.mpr ⟨p,EZ,rfl,h,rfl,FY⟩⟩
 ·rename_i q;rw[RepO]at r;obtain⟨e0,r⟩:=r;obtain⟨p,xs,e,hp,ea,rs⟩:=bN.mp r;rw[e]at e0;cases e0;exact⟨_,xs,e,hp,ea,rs,fun H' ds' EZ h FY=>by rw[RepO];exact⟨rfl,bN.mpr ⟨_,EZ,rfl,h,rfl,FY⟩⟩⟩
 ·cases ho
theorem Rel.chgO{i:Nat}{ow:O}{ds ds':List D}(ho:isLf ow=true)(q:Rel K G H es vs fp)(e:es[i]?=some (some (ow,.lst ds))):∃p xs,vs[i]?=some (some (.ref p))/\H p=some (.lst xs)/\Reps K G ds xs/\
  ∀EZ,Reps K G ds' EZ->∃fq,Rel K G (upd H p (.lst EZ)) (es.set i (some (ow,.lst ds'))) vs fq/\Step G H fp G (upd H p (.lst EZ)) fq:=by
 obtain⟨v,fq,ev,g,st,Hq⟩:=q.out e;obtain⟨y,ys,e0,v',a,b,e1,e2,r1,r2⟩:=g.rep;cases e0;cases e1;obtain⟨p,xs,e3,hp,e4,rs,mk⟩:=vS ho r1;subst e3;subst e4;subst e2;have nd:=Qe.mp (show(p::b).Nodup from g.nd);refine⟨p,xs,ev,hp,rs,fun EZ FY=>?_⟩;have g2:Rel K G (upd H p (.lst EZ)) (some (ow,.lst ds')::es.set i none) (some (.ref p)::vs) (p::b):=by
  refine⟨⟨some (.ref p),vs,rfl,.ref p,[p],b,rfl,rfl,mk _ _ _ ay FY,r2.step (.refl _) fun z hz=>ai fun e=>nd.1 (e▸hz)⟩,g.nd,g.gn,fun z o ez=>?_⟩;have:z≠p:=fun w=>by
   subst w;rw[g.gn z Pq]at ez;cases ez
  rw[ai this];exact g.gh z o ez
 have Lc:Step G H (p::b) G (upd H p (.lst EZ)) (p::b):=by
  refine⟨.refl _,fun z o ez nz=>?_,fun z hz=>.inl hz,fun z o ez=>.inl ez,fun z o ez=>?_⟩
  ·have:z≠p:=fun w=>nz (by rw[w];exact Pq)
   rw[ai this];exact ez
  ·by_cases w:z=p
   ·subst w;exact⟨_,ay⟩
   ·exact⟨o,by rw[ai w];exact ez⟩
 obtain⟨fz,g3,En⟩:=g2.back (i:=i) (by rw[Qb];exact(Pn.mp e).1) ev;rw[QY]at g3;exact⟨fz,g3,st.trans (Lc.trans En)⟩
theorem RepE.append:∀{es Ht:PV.Env}{vs Hs:L2.St}{a b:List Addr},RepE K G H es vs a->RepE K G H Ht Hs b->RepE K G H (es++Ht) (vs++Hs) (a++b)
 |[],Ht,vs,Hs,a,b,r,q=>by
  rw[r.1,r.2];exact q
 |none::es,Ht,vs,Hs,a,b,r,q=>by
  obtain⟨y,ys,e,r⟩:=r;subst e;exact⟨y,ys++Hs,rfl,RepE.append r q⟩
 |some x::es,Ht,vs,Hs,a,b,r,q=>by
  obtain⟨y,ys,e,v,a1,b1,e1,e2,r1,r2⟩:=r;subst e e2;exact⟨y,ys++Hs,rfl,v,a1,b1++b,e1,Ql _ _ _,r1,RepE.append r2 q⟩
theorem RepE.clean{G2 G3:Hp}(h:∀p u,isT u=true->G2 p=some u->G3 p=some u):∀{es:PV.Env}{vs:L2.St}{a:List Addr},(∀r,some r∈es->aB r.1 r.2=true)->RepE K G2 H es vs a->RepE K G3 H es vs a
 |[],_,_,_,r=>r
 |none::es,vs,a,hc,r=>by
  obtain⟨y,ys,e,r⟩:=r;exact⟨y,ys,e,RepE.clean h (fun r hr=>hc r (Pu _ hr)) r⟩
 |some x::es,vs,a,hc,r=>by
  obtain⟨y,ys,e,v,a1,b1,e1,e2,r1,r2⟩:=r;exact⟨y,ys,e,v,a1,b1,e1,e2,r1.clean h (hc x Pq),RepE.clean h (fun r hr=>hc r (Pu _ hr)) r2⟩
theorem Rel.lendM(q:Rel K G H es vs fp)(a:List Addr)(ha:∀z∈a,z∉fp)(Oa:∀z∈a,G z=none):∃G1,Same G G1/\Same G1 H/\(∀z∈a,G1 z=none)/\(∀(i:Nat) (r:R) (v:V),es[i]?=some (some r)->vs[i]?=some (some v)->Rep K G1 r.2 v)/\
  ∀(H2 G2:Hp) (Ew:List Addr) (rs:PV.Env) (ws:L2.St),Step G1 H a G2 H2 Ew->Rel K G2 H2 rs ws Ew->(∀r,some r∈rs->aB r.1 r.2=true)->∃G3 FK,Step G H (a++fp) G3 H2 FK/\Rel K G3 H2 (rs++es) (ws++vs) FK:=by
 have hg:Same G (fun p=>if p∈fp then H p else G p):=fun p u e=>by
  show(if p∈fp then H p else G p)=some u;by_cases hp:p∈fp
  ·rw[Px hp];exact q.gh p u e
  ·rw[PJ hp];exact e
 have hh:Same (fun p=>if p∈fp then H p else G p) H:=fun p u e=>by
  have e:(if p∈fp then H p else G p)=some u:=e;by_cases hp:p∈fp
  ·rw[Px hp]at e;exact e
  ·rw[PJ hp]at e;exact q.gh p u e
 have hk:∀p∈fp,∀u,H p=some u->(fun p=>if p∈fp then H p else G p) p=some u:=fun p hp u e=>by
  show(if p∈fp then H p else G p)=some u;rw[Px hp];exact e
 refine⟨fun p=>if p∈fp then H p else G p,hg,hh,fun z hz=>?_,fun i r v e ev=>q.rep.rep hg hk e ev,fun H2 G2 Ew rs ws st k cl=>?_⟩
 ·show(if z∈fp then H z else G z)=none;rw[PJ (ha z hz)];exact Oa z hz
 have kept:∀p∈fp,H2 p=H p:=fun p hp=>by
  obtain⟨u,hu⟩:=q.rep.live p hp;rw[hu];exact st.keep p u hu fun z=>ha p z hp
 have apart:∀p∈Ew,p∉fp:=fun p hp hf=>by
  rcases st.fpn p hp with z|z
  ·exact ha p z hf
  ·obtain⟨u,hu⟩:=q.rep.live p hf;rw[z]at hu;cases hu
 have g3:Same G (fun p=>if p∈fp then none else G2 p):=fun p u e=>by
  show(if p∈fp then none else G2 p)=some u;rw[PJ (fun z=>by rw[q.gn p z]at e;cases e)];exact st.gg p u (hg p u e)
 refine⟨fun p=>if p∈fp then none else G2 p,Ew++fp,⟨g3,fun p u e n=>?_,fun p hp=>?_,fun p u e=>?_,st.there⟩,⟨RepE.append (RepE.clean (fun p u t e=>?_) cl k.rep) (q.rep.step g3 kept),?_,fun p hp=>?_,fun p u e=>?_⟩⟩
 ·exact st.keep p u e fun z=>n (Pp _ z)
 ·rcases PR.mp hp with hp|hp
  ·exact(st.fpn p hp).imp_left (Pp _)
  ·exact .inl (Pj _ hp)
 ·have e:(if p∈fp then none else G2 p)=some u:=e;by_cases hp:p∈fp
  ·rw[Px hp]at e;cases e
  ·rw[PJ hp]at e;rcases st.gnew p u e with z|z|z
   ·have z:(if p∈fp then H p else G p)=some u:=z;rw[PJ hp]at z;exact .inl z
   ·exact .inr (.inl (Pp _ z))
   ·exact .inr (.inr z)
 ·show(if p∈fp then none else G2 p)=some u;by_cases hp:p∈fp
  ·exfalso;obtain⟨u',hu,hm⟩:=q.rep.mut p hp;have:=st.gg p u' (hk p hp u' hu);rw[e]at this;cases this;cases u with
   |lst _=>cases t
   |dK _=>cases t
   |dT _=>cases t
   |_=>cases hm
  ·rw[PJ hp];exact e
 ·rw[PX];exact⟨k.nd,q.nd,fun p hp z hz e=>apart p hp (e▸hz)⟩
 ·show(if p∈fp then none else G2 p)=none;by_cases hf:p∈fp
  ·rw[Px hf]
  ·rw[PJ hf];rcases PR.mp hp with hp|hp
   ·exact k.gn p hp
   ·exact absurd hp hf
 ·have e:(if p∈fp then none else G2 p)=some u:=e;by_cases hp:p∈fp
  ·rw[Px hp]at e;cases e
  ·rw[PJ hp]at e;exact k.gh p u e
end
section
variable{X:Cx}
def ePop(i:Nat):FX:=fun env=>match env[i]? with
 |some (some (ow,.lst ds))=>if isLf ow then(match ds.getLast? with
  |some d=>.ok ((.f,d),env.set i (some (ow,.lst ds.dropLast)))
  |none=>.bad) else .bad
 |_=>.bad
theorem Reps.dropLast{K:W.Frag}{G:Hp}:∀{ds:List D}{xs:List V},Reps K G ds xs->Reps K G ds.dropLast xs.dropLast
 |[],xs,r=>by rw[Reps]at r;subst r;exact .nil
 |[d],xs,r=>by
  rw[Reps]at r;obtain⟨y,ys,e,r1,r2⟩:=r;rw[Reps]at r2;subst e r2;exact .nil
 |d::d2::ds,xs,r=>by
  rw[Reps]at r;obtain⟨y,ys,e,r1,r2⟩:=r;subst e;have h:=Reps.dropLast r2;cases ys with
  |nil=>have:=r2.length;simp at this
  |cons z zs=>
   rw[SA (List.cons_ne_nil _ _),SA (List.cons_ne_nil _ _)];exact .cons r1 h
theorem z6{i:Nat}{o:Expr}{apos Eu:Pos}(ho:PE X o (oU i))(F4:attributeBase o "pop" X.env (eval o X.env)=eval o X.env:=by rfl)(F5:(apos.endLine==Eu.line)=true:=by rfl):
  QE X (.Call (.Attribute o "pop" apos) [] [] Eu) (ePop i):=by
 refine bc (zd R8 PySem.F.slot_list_pop PySem.F.type_list_pop zf ho F4 F5) fun σ H Q Ee=>?_
 obtain⟨G,env,fp,r,env',rel,e,k⟩:=Ee;unfold ePop at e;split at e
 ·rename_i ow ds IX;split at e
  ·rename_i hlf;split at e
   ·rename_i d hd;cases e;obtain⟨p,xs,ev,hp,rs,cg⟩:=rel.chgO (ds':=ds.dropLast) hlf IX;rw[List.getLast?_eq_getElem?]at hd;obtain⟨y,hy,ry⟩:=rs.get hd;obtain⟨fq,DX,D5⟩:=cg xs.dropLast rs.dropLast;exact⟨.ref p,ev,.inl ⟨rfl,xs,SqL.of hp⟩,p,xs,y,rfl,rfl,hp,by rw[rs.length];exact hy,k y _ G fq D5 (DX.push ry)⟩
   ·cases e
  ·cases e
 ·cases e
def iG(i:Nat)(f:FX):FS:=fun env=>(f env).bind fun p=>match p.2[i]? with
 |some (some (.pin q c,d0))=>.ok (.rt (.t [p.1.1,.pin q c],.tup [p.1.2,d0]))
 |_=>.bad
theorem fZ{i:Nat}{e:Expr}{f:FX}{pos:Pos}(he:QE X e f):QS (md:=.mut) X (.Return (some e) pos) (iG i f):=dm (vp he) fun Dd σ H D8=>by
 obtain⟨G,env,fp,rel,k⟩:=D8;unfold iG at k;match q:f env,k with
 | .ok (r,DU),k=>
  have k:OutOk (md:=.mut) X.K G H fp Dd (match DU[i]? with
   |some (some (.pin q c,d0))=>.ok (.rt (.t [r.1,.pin q c],.tup [r.2,d0]))
   |_=>.bad):=k
  split at k
  ·rename_i z c d0 hz;refine⟨G,env,fp,r,DU,rel,q,fun v H1 G1 Ej Ec DW=>?_⟩;obtain⟨y,ys,ey,v',a,b,e1,e2,r1,r2⟩:=DW.rep;cases ey;cases e1;subst e2;obtain⟨v0,a0,b0,L7,ro,_,pm⟩:=r2.take hz;have hv0:v0=.ref z:=by
    have:=ro;rw[RepO]at this;exact this.1
   subst hv0;have sub:∀w∈a++a0,w∈a++b:=fun w hw=>by
    rcases PR.mp hw with hw|hw
    ·exact Pp _ hw
    ·exact Pj _ (pm.mem_iff.mpr (Pp _ hw))
   have nd:=PX.mp DW.nd;have nd2:=PX.mp (pm.nodup_iff.mp nd.2.1);refine k v H1 G1 (a++a0) (Ec.trans (Step.cut sub)) ⟨r.1,r.2,z,c,d0,rfl,⟨⟨some v,[some (.ref z)],rfl,v,a,a0,rfl,rfl,r1,some (.ref z),[],rfl,.ref z,a0,[],rfl,(PU _).symm,ro,rfl,rfl⟩,?_,fun p hp=>DW.gn p (sub p hp),DW.gh⟩⟩;rw[PX];exact⟨nd.1,nd2.1,fun p hp w hw e=>nd.2.2 p hp w (pm.mem_iff.mpr (Pp _ hw)) e⟩
  ·exact k.elim
def fO(np nn:Nat)(c:O)(g:FS)(p:Addr):List D->Res R
 |d0::ds=>if ds.length+1=np then(g (some (.pin p c,d0)::(ds.map (fun d=>some (O.f,d))++List.replicate nn none))).bind fun o=>match o with
  | .rt r=>.ok r
  |_=>.bad
  else .bad
 |[]=>.bad
inductive spM(K:W.Frag)(c:O)(F:Addr->List D->Res R)(vs:List V)(H:Hp)(Q:VK)(zz:XK):Prop
 |mk:∀G p Hs d0 ds r KI,Same G H->vs=.ref p::Hs->RepO K G H c d0 (.ref p) KI->KI.Nodup->(∀z∈KI,G z=none)->Reps K G ds Hs->F p (d0::ds)=.ok r->(∀v H' G' D2,Step G H KI G' H' D2->Cy .mut K G' H' r v D2->Q v H')->spM K c F vs H Q zz
theorem lF{P:Program}{w:World}{K:W.Frag}{mg:Str->Option Value}{base:Heap}{x:Str}{st:Stmt}{N ps:List Str}{k:Nat}{c:O}{g:FS}(Df:Def K mg x st)(sc:FnScope N ps (defScope st))
  (hb:∀(kV doc pm:Value) (an:Option Addr) (Er ct:Value) (us:List Value),us.length=ps.length->bindArgs (PySem.W.fnOf x x (dN st) (cy st) (defScope st) .none kV doc pm an Er ct) ⟨us,[]⟩=pure (ps.zip us))
  (body:∀(f:Addr) (Er:Value) (A:Around) (outer:List PySem.Env) (s:Shared) (H:Hp) (E:XK),Room k (A.deeper (envOfC x (defScope st) s.heap.objs.size f Er))->Iy (md:=.mut) (tH IL P w K mg base N x (defScope st) f Er A outer s H E).nox (cy st) g):
  Ct P w K mg base x (k+1) (spM K c (fO ps.length (N.length-ps.length) c g)):=by
 obtain⟨f,fd,F,m⟩:=Df;refine⟨f,fd,ps,F.ok sc (fun vs H Q E h=>?_) (fun Er A outer s H vs Q E hr h=>?_),m,F.kp,F.binds hb⟩
 ·obtain⟨G,p,Hs,d0,ds,r,KI,_,ev,_,_,_,rs,e,_⟩:=h;unfold fO at e;split at e
  ·rename_i OP ds' heq;cases heq;split at e
   ·rename_i hl;rw[ev,PH,rs.length,hl]
   ·cases e
  ·cases e
 ·obtain⟨G,p,Hs,d0,ds,r,KI,gh,ev,r0,nd,gn,rs,e,q⟩:=h;unfold fO at e;split at e
  ·rename_i OP ds' heq;cases heq;split at e
   ·rename_i hl;refine⟨_,body f Er A outer s H E hr,G,some (.pin p c,d0)::(ds.map (fun d=>some (O.f,d))++List.replicate (N.length-ps.length) none),KI,⟨?_,nd,gn,gh⟩,?_⟩
    ·have:=gr (K:=K) (G:=G) (H:=H) (N.length-ps.length) rs;unfold L2.start;rw[ev,PH,rs.length,hl];exact⟨some (.ref p),_,rfl,.ref p,KI,[],rfl,(PU _).symm,by rw[RepO];exact⟨rfl,r0⟩,this⟩
    ·obtain⟨o,eo,e⟩:=ah e;rw[eo];cases o with
     |rt r'=>
      cases e;exact fun v H' G' D2 st rel=>q v H' G' D2 st rel
     |nx env'=>cases e
     |bk env'=>cases e
     |ct env'=>cases e
   ·cases e
  ·cases e
def j7:O->O->Bool
 | .l .f,.l .f=>true
 | .l .f,.pin _ (.l .f)=>true
 | .d,.d=>true
 | .d,.pin _ .d=>true
 |_,_=>false
theorem z7{K:W.Frag}{G H:Hp}{c ow:O}{d:D}{v:V}{a:List Addr}(h:j7 c ow=true)(r:RepO K G H ow d v a):(∃p,v=.ref p)/\RepO K G H c d v a/\∀(G' H':Hp) (d':D) (a':List Addr),RepO K G' H' c d' v a'->RepO K G' H' ow d' v a':=by
 have Lj:∀{d:D},RepO K G H (.l .f) d v a->∃p,v=.ref p:=fun{d} r=>by
  cases d with
  |lst ds=>obtain⟨p,_,e,_⟩:=bN.mp r;exact⟨p,e⟩
  |_=>simp only[RepO]at r
 have Lk:∀{d:D},RepO K G H .d d v a->∃p,v=.ref p:=fun{d} r=>by
  cases d with
  |dct tk ks ws=>rw[RepO]at r;obtain⟨p,_,_,e,_⟩:=r;exact⟨p,e⟩
  |_=>simp only[RepO]at r
 unfold j7 at h;split at h
 ·exact⟨Lj r,r,fun _ _ _ _ z=>z⟩
 ·rw[RepO]at r;exact⟨⟨_,r.1⟩,r.2,fun _ _ _ _ z=>by rw[RepO];exact⟨r.1,z⟩⟩
 ·exact⟨Lk r,r,fun _ _ _ _ z=>z⟩
 ·rw[RepO]at r;exact⟨⟨_,r.1⟩,r.2,fun _ _ _ _ z=>by rw[RepO];exact⟨r.1,z⟩⟩
 ·cases h
open Classical in
def iH(F:Addr->List D->Res R)(c:O)(d0:D)(ds:List D):Res (R×D):=
 if h:∃x:R×D,∀p,F p (d0::ds)=.ok (.t [x.1.1,.pin p c],.tup [x.1.2,x.2]) then .ok (Classical.choose h) else .bad
theorem gv{F:Addr->List D->Res R}{c:O}{d0:D}{ds:List D}{r:R}{d':D}(h:∀p,F p (d0::ds)=.ok (.t [r.1,.pin p c],.tup [r.2,d'])):iH F c d0 ds=.ok (r,d'):=by
 have h':∃x:R×D,∀p,F p (d0::ds)=.ok (.t [x.1.1,.pin p c],.tup [x.1.2,x.2]):=⟨(r,d'),h⟩
 unfold iH;rw[We h'];have e:=(TM h' 0).symm.trans (h 0);generalize Classical.choose h'=x at e;obtain⟨⟨o,d⟩,d2⟩:=x;cases e;rfl
theorem ur{F:Addr->List D->Res R}{c:O}{d0:D}{ds:List D}{x:R×D}(h:iH F c d0 ds=.ok x)(p:Addr):F p (d0::ds)=.ok (.t [x.1.1,.pin p c],.tup [x.1.2,x.2]):=by
 unfold iH at h;split at h
 ·rename_i h';cases h;exact TM h' p
 ·cases h
end
section
variable{X:Cx}{x:Str}{p pos:Pos}{e:Expr}{es:List Expr}{fs:FOs}
end
section
variable{K:W.Frag}{G G' H H':Hp}
end
section
variable{X:Cx}{md:Mode}
end
end PV
namespace NX
open PySem PySem.Spec PyProof.Rows L2
theorem BW{P:Program}{w:World}{k:Key}{u:Value}(h:(mixKind P w).is k u=true):RelV (kV k) u:=by
 rw[oT]at h;cases k with
 |inl i=>
  have h:Value.isInt i u=true:=h;cases u with
  |int j t=>
   have e:(j==i)=true:=h;rw[P5]at e;exact⟨t,by rw[e]⟩
  |_=>cases h
 |inr x=>
  obtain⟨t,e⟩:=Value.isStrOf_shape h;exact⟨t,e⟩
theorem BX{κ:Type}{DS:List (κ×V)}{vs:List (κ×Value)}(r:KV DS vs):∀{i:Nat}{k:κ}{v:V},DS[i]?=some (k,v)->∃u,vs[i]?=some (k,u)/\RelV v u:=by
 induction r with
 |nil=>intro i k v e;simp at e
 | @cons p q ps qs hq _ ih=>
  intro i k v e;cases i with
  |zero=>
   simp at e;subst e;obtain⟨qk,qv⟩:=q;obtain⟨e1,e2⟩:=hq;cases e1;exact⟨qv,rfl,e2⟩
  |succ i=>exact ih (by simpa using e)
theorem om{X:Cx}{pr:List (Addr×Obj)}{σ:L2.St}{H:Hp}{s:Shared}{a:Addr}{o:Obj}{ep:Nat}{es:Array DictEntry}{DS:List (Key×V)}(I:Inv X pr σ H s)(hd:o.data=.dict es ep)(ha:H a=some (.frz o (.dK DS))):
  s.heap.get? a=some o/\∃vs,KV DS vs/\s.heap.DictAt (mixKind X.prog X.w) a vs ep:=by
 obtain⟨ho,z,nm,vs,r,o',Ht,KU,g1,ex,dat,aO⟩:=(show ObjOk X.prog X.w H s.heap a (.frz o (.dK DS)) from I.hok a _ ha)
 have e:=g1.symm.trans ho;cases e;have e2:=dat.symm.trans hd;cases e2;exact⟨ho,vs,r,o,es,ho,ex,hd,aO⟩
theorem uu{X:Cx}{pr:List (Addr×Obj)}{σ:L2.St}{H:Hp}{s:Shared}{a:Addr}{o:Obj}{DS:List (Key×V)}(I:Inv X pr σ H s)(ha:H a=some (.dK DS))(ho:s.heap.get? a=some o):Inv X pr σ (upd H a (.frz o (.dK DS))) s:=by
 have ok:=(show ObjOk X.prog X.w H s.heap a (.dK DS) from I.hok a _ ha)
 have nt:∀c xs,H c=some (.tup xs)->c≠a:=fun c xs e z=>by rw[z,ha]at e;cases e
 have nf:∀c q u,H c=some (.frz q u)->c≠a:=fun c q u e z=>by rw[z,ha]at e;cases e
 have nb:∀c ps,H c=some (.tbl ps)->c≠a:=fun c ps e z=>by rw[z,ha]at e;cases e
 have no:∀c b,H c=some (.own b)->c≠a:=fun c b e z=>by rw[z,ha]at e;cases e
 have S0:Inv X pr σ (upd H a (.frz o (.dK DS))) {s with heap:=s.heap,gens:=s.gens,drawn:=s.drawn,toks:=s.toks}:=by
  refine I.step (ch:=[]) (fun c hc=>nomatch hc) (fun c q _ _ _ e _=>e) (fun c q _ _ _ e _=>⟨q.slots,e⟩) (fun c q _ e n=>?_) (fun c q _ e=>⟨q,e⟩)
   (fun c l e=>by rw[ai (nt c l e)];exact e) (fun c q u e=>by rw[ai (nf c q u e)];exact e) (fun c ps e=>⟨#[],by rw[ai (nb c ps e),e];simp⟩) (fun m hm=>hm) (fun c ob e=>?_) I.bare
  ·have:c≠a:=fun z=>by rw[z,ha]at n;cases n
   rw[ai this];exact n
  ·by_cases ec:c=a
   ·subst ec;rw[ay]at e;cases e;exact⟨ho,ok.stay (fun _ _ _ q=>q) (fun d q=>by rw[ai (no d _ q)];exact q) fun d l q=>by rw[ai (nt d l q)];exact q⟩
   ·rw[ai ec]at e;exact(I.hok c ob e).stay (fun _ _ _ q=>q) (fun d q=>by rw[ai (no d _ q)];exact q) fun d l q=>by rw[ai (nt d l q)];exact q
 exact S0
end NX
namespace PV
open PySem PySem.Spec PyProof.Rows L2 NX
section
variable{X:Cx}
theorem rg:∀{xs:List V}{us:List Value},xs.length=us.length->(∀(i:Nat) (a:V) (b:Value),xs[i]?=some a->us[i]?=some b->RelV a b)->Vals xs us
 |[],[],_,_=>.nil
 |x::xs,u::us,hl,h=>.cons (h 0 x u rfl rfl) (rg (by simpa using hl) fun i a b ha hb=>h (i+1) a b (by simpa using ha) (by simpa using hb))
 |[],_::_,hl,_=>by simp at hl
 |_::_,[],hl,_=>by simp at hl
end
end PV
namespace NX
open PySem PySem.Spec PyProof.Rows L2
section
variable{prog:Program}{w:World}{A:Around}{E:Value->Shared->Prop}{s:Shared}
theorem xx:typeLookup (.type "list_reverseiterator") "__len__" = pure none:=by rw[typeLookup_type,builtinLookup_eq_fast];kernel_rfl
theorem uv:typeLookup (.type "list_reverseiterator") "__length_hint__" = pure (some (.builtin "list_reverseiterator.__length_hint__")):=by rw[typeLookup_type,builtinLookup_eq_fast];kernel_rfl
theorem uw{r:Addr}{Q:Bool->Shared->Prop}(hT:s.TypeIs (.ref r) "list_reverseiterator")(h:Q false s):wpAny (model prog w) A (Builtin.List.listLengthHint (.ref r)) Q E s:=by
 unfold Builtin.List.listLengthHint;refine Ph (TF hT xx ?_);show wpAny _ _ (specialOf (Value.ref r) (Str.ofString "__length_hint__") >>= _) _ _ _;refine Ph (TF hT uv ?_);generalize hid:("list_reverseiterator.__length_hint__" : String)=id0
 wp_delta
 rw[show splitId id0=some ("list_reverseiterator","__length_hint__") from by subst hid;decide +kernel];subst hid;refine Ph (wpAny_isInstance (T:="list_reverseiterator") (b:=true) hT (by rw[isSubtype_type];kernel_rfl) ?_);refine SI (fun Il=>absurd Il (by decide)) (fun _=>?_);refine SI (fun _=>?_) (fun Il=>absurd (by decide +kernel) Il);refine SI (fun Il=>absurd Il (by decide +kernel)) (fun _=>?_);exact Py h
end
section
variable{prog:Program}{w:World}{A:Around}{E:Value->Shared->Prop}{s:Shared}
theorem xy{R:Result->Shared->Prop}{I l:Addr}{items:Array Value}(hh:A.handled=none)(IB:l≠I)(S:Addr)(OQ:S≠I)(hSl:S≠l)(c0:Nat)(hI:s.heap.IsRevIter I l ((items.size:Int)-1))(hl:s.heap.IsList l items)(hS:s.heap.get? S=some {cls:=.type "list",data:=.seq #[] c0})(hn:items.size<=sizeLine)
  (hR:∀h' tk Gs c',(∀b o,b≠S->b≠I->s.heap.get? b=some o->h'.get? b=some o)->h'.get? S=some {cls:=.type "list",dict:=none,data:=.seq Gs c',slots:=#[]}->ItemsOf (fun i v=>items[items.size-1-i]?=some v) Gs items.size->R (.ok (.ret .none)) {s with heap:=h',toks:=tk}):
  wpAny (model prog w) A.in1 (Builtin.List.listExtendWith (.ref S) (.ref I) .none)
   (fun fin s'=>match fin with | .done f=>R (.ok f) s' | .again c'=>c'.quiet=true/\codeAny (model prog w) A c' R s') (fun e s'=>R (.error e) s') s:=by
 have W:Walks prog w A.in1 I [I,l] [I] items.size (fun i v=>items[items.size-1-i]?=some v) (fun i h=>i<=items.size/\h.IsRevIter I l ((items.size:Int)-1-(i:Int))/\h.IsList l items):=Walks.listRev (A:=A.in1) (show A.in1.handled=none from hh) I l IB items;have st:(fun(i:Nat) (h:Heap)=>i<=items.size/\h.IsRevIter I l ((items.size:Int)-1-(i:Int))/\h.IsList l items) 0 s.heap:=⟨QA _,by rw[show(items.size:Int)-1-((0:Nat):Int)=(items.size:Int)-1 by lia];exact hI,hl⟩
 have hT:=hI.typeIs;have hSf:S∉[I,l]:=by simp only[Pw,Qt,Sz,not_or];exact⟨OQ,hSl⟩
 unfold Builtin.List.listExtendWith;refine Ph (Tu hT ?_);have h1:Builtin.List.listSameRef (.ref S) (.ref I)=false:=by simp[Builtin.List.listSameRef,OQ]
 have h2:(Value.type "list_reverseiterator" == Value.type "list")=false:=by decide
 have h3:(Value.type "list_reverseiterator" == Value.type "tuple")=false:=by decide
 simp only[h1,h2,h3,Bool.or_false,SM,Ul];refine Ph (wpAny_pyIter_revIter hI ?_);refine Ph (S4 (uw hT ?_));refine SI (fun Il=>absurd Il (by decide)) (fun _=>Py ⟨plainId_quiet PySem.F.plain_extend_loop _,?_⟩);refine codeAny_extend_loopS W.toS hn S hSf .none items.size 0 _ #[] c0 rfl (QA _) st hS (ItemsOf.nil _) fun s' Gs c' hm Ob GV=>?_
 rw[Moved.eq_with hm];refine hR s'.heap s'.toks Gs c' (fun b o hb hb2 e=>hm.heap b o (fun ID=>?_) e) Ob GV;rcases Pw.mp ID with e'|ID
 ·exact hb e'
 ·exact hb2 (Qf.mp ID)
theorem ux{Q:Value->Shared->Prop}{I l:Addr}{items:Array Value}(hh:A.handled=none)(IB:l≠I)(hI:s.heap.IsRevIter I l ((items.size:Int)-1))(hl:s.heap.IsList l items)(hn:items.size<=sizeLine)
  (hQ:∀h' tk Gs c',(∀b o,b≠I->s.heap.get? b=some o->h'.get? b=some o)->h'.get? s.heap.objs.size=some {cls:=.type "list",dict:=none,data:=.seq Gs c',slots:=#[]}->ItemsOf (fun i v=>items[items.size-1-i]?=some v) Gs items.size->Q (.ref s.heap.objs.size) {s with heap:=h',toks:=tk}):
  wpAny (model prog w) A (call (.type "list") [.ref I]) Q E s:=by
 refine callType_codes (Q₁:=fun obj s₁=>obj=.ref s.heap.objs.size/\s₁={s with heap:=s.heap.push {cls:=.type "list",data:=.seq #[]}}) PySem.F.called_list (PySem.F.typeCall_list_1 _) PySem.F.entry_list_init
  (code_list_new _ ⟨rfl,rfl⟩) fun obj s₁ h₁=>?_
 obtain⟨rfl,rfl⟩:=h₁;have hS:(s.heap.push {cls:=.type "list",data:=.seq #[]}).get? s.heap.objs.size=some {cls:=.type "list",data:=.seq #[]}:=Pz _ rfl;obtain⟨oI,gI,_⟩:=id hI;obtain⟨ol,gl,_⟩:=id hl;have nI:s.heap.objs.size≠I:=RI (Pr gI);have nl:s.heap.objs.size≠l:=RI (Pr gl);refine⟨⟨_,hS,rfl⟩,PySem.F.args_list_init_2 _ _,?_⟩;show wpAny _ A.in1.in1 (do let old <-Builtin.List.listItems (.ref s.heap.objs.size);Builtin.List.listUpdate (.ref s.heap.objs.size) (fun _=>#[]);letGo old.toList.reverse;Builtin.List.listExtendWith (.ref s.heap.objs.size) (.ref I) .none) _ _ _;refine Ph ?_;unfold Builtin.List.listItems;refine Ph (Rg hS rfl (Py ?_));show wpAny _ _ (updateSeq s.heap.objs.size (fun _=>#[]) >>= fun _=>letGo (#[]:Array Value).toList.reverse >>= fun _=>Builtin.List.listExtendWith (.ref s.heap.objs.size) (.ref I) .none) _ _ _;refine Ph (wpAny_updateSeq hS rfl ?_);have hS2:=Si (Obj.mapSeq (fun _=>(#[]:Array Value))) hS rfl;have oth:∀b o,b≠s.heap.objs.size->s.heap.get? b=some o->((s.heap.push {cls:=.type "list",data:=.seq #[]}).update s.heap.objs.size (Obj.mapSeq (fun _=>(#[]:Array Value)))).get? b=some o:=
  fun b o hb e=>(Se _ _ (Rj hb)).trans (Pm _ e)
 refine Ph (S6 ?_);refine xy (A:=A.in1) hh IB _ nI nl _ (hI.at fun o e=>oth I o (Rj nI) e) (hl.at fun o e=>oth l o (Rj nl) e) hS2 hn fun h' tk Gs c' hk Ob GV=>?_
 exact⟨rfl,hQ h' tk Gs c' (fun b o hb e=>hk b o (PB (Pr e)) hb (oth b o (PB (Pr e)) e)) Ob GV⟩
end
section
variable{X:Cx}{e:Expr}{ta:TA}{p p2 pos Gu:Pos}
def Dt(K:W.Frag)(ta:TA):TE:=fun σ H Q=>ta σ H fun vs H1=>∃a xs,vs=[.ref a]/\SqL K H1 a xs/\∀l,H1 l=none->Q (.ref l) (upd H1 l (.lst xs.reverse))
theorem z8(hc:X.calm=true)(hg:Gl X "list")(hm:X.mg "list" = none)(Mz:Gl X "reversed")(KG:X.mg "reversed" = none)(ha:PA X [e] ta)
  (he:starEach [.Call (.Name "reversed" p2) [e] [] Gu] X.env=(false,eval (.Call (.Name "reversed" p2) [e] [] Gu) X.env)::starEach [] X.env:=by rfl) (FE:(backTo pos (starEach [] X.env)).any (·.1)=false:=by rfl)
  (Oc:starEach [e] X.env=(false,eval e X.env)::starEach [] X.env:=by rfl) (Ll:(backTo Gu (starEach [] X.env)).any (·.1)=false:=by rfl):
  PE X (.Call (.Name "list" p) [.Call (.Name "reversed" p2) [e] [] Gu] [] pos) (Dt X.K ta):=by
 intro pr s σ H Q I h;refine Rb (gQ I hg hm (by decide +kernel:bootBuiltins "list" = some (.type "list")) ?_ (by decide) (by decide));refine Qv ?_ he FE;rw[he];show wpAny _ _ (spliced ((false,eval (.Call (.Name "reversed" p2) [e] [] Gu) X.env)::backTo pos (starEach [] X.env))) _ _ s;refine Calls.spliced_cons ?_;refine Rb (gQ I Mz KG (by decide +kernel:bootBuiltins "reversed" = some (.type "reversed")) ?_ (by decide) (by decide));refine Qv (Eg (ha Gu pr s σ H _ I h) fun us s1 ⟨vs,H1,I1,r1,a,xs,ev,sq,q⟩=>?_) Oc Ll;subst ev;obtain⟨u,rfl,ra⟩:=kP r1;cases ra;obtain⟨DY,r',pl,hz⟩:=I1.list sq;have hl:=pl.isList;have hlen:=r'.length;refine call_reversed_list hl ?_;refine Calls.spliced_nil ?_;obtain⟨ol,gl,_⟩:=id hl;refine ux (I1.ok.hd hc) (PB (Pr gl)) ⟨_,Pz _ rfl,rfl,rfl⟩ (hl.at fun o e=>Pm _ e) (by simp only[Pl];lia) fun h' tk Gs c' hk hS GV=>?_
 refine⟨.ref _,_,I1.laid (o:=.lst xs.reverse) (t':=tk) (fun b o e=>hk b o (PB (Pr e)) (Pm _ e)) (by rw[Qq];exact RU _) ⟨by rw[RV];exact hz,Gs.toList,c',?_,by rw[Array.toArray_toList];exact hS⟩,rfl,q _ (I1.hok.fresh (by rw[Qq];exact RU _))⟩;have hs:DY.toArray.size=xs.length:=by rw[Pl];exact hlen.symm
 refine PV.rg (by rw[RV];exact(hs.symm.trans (GV.1.symm.trans (Q2 (xs:=Gs)).symm))) fun i x y hx hy=>?_
 rw[Tv]at hy;have hb:=GV.2 i y hy;have hi:i<xs.length:=by have:=(Pn.mp hx).1;rw[RV]at this;exact this
 rw[List.getElem?_reverse hi]at hx;rw[hs,List.getElem?_toArray]at hb;obtain⟨u,hu,ru⟩:=r'.get hx;rw[hb]at hu;cases hu;exact ru
end
end NX
namespace PV
open PySem PySem.Spec PyProof.Rows L2 NX
theorem Reps.rev{K:W.Frag}{G:Hp}:∀{ds:List D}{xs:List V},Reps K G ds xs->Reps K G ds.reverse xs.reverse
 |[],xs,r=>by rw[Reps]at r;rw[r];exact .nil
 |d::ds,xs,r=>by
  rw[Reps]at r;obtain⟨y,ys,e,r1,r2⟩:=r;subst e;rw[List.reverse_cons,List.reverse_cons];exact(Reps.rev r2).app (.one r1)
def A3:List D->Res R
 |[.lst ds]=>.ok (.l .f,.lst ds.reverse)
 |_=>.bad
section
variable{X:Cx}{e:Expr}{fs:FOs}{p p2 pos Gu:Pos}
theorem uy{K:W.Frag}{σ:L2.St}{H:Hp}{Q Q':List V->Hp->Prop}(h:tOs K fs σ H Q)(k:∀vs H,Q vs H->Q' vs H):tOs K fs σ H Q':=by
 obtain⟨G,env,fp,o,env',rel,e,q⟩:=h;exact⟨G,env,fp,o,env',rel,e,fun vs H' G' D2 st EF ok=>k _ _ (q vs H' G' D2 st EF ok)⟩
theorem z9(hc:X.calm=true)(hg:Gl X "list")(hm:X.mg "list" = none)(Mz:Gl X "reversed")(KG:X.mg "reversed" = none)(ha:IM X [e] fs)
  (he:starEach [.Call (.Name "reversed" p2) [e] [] Gu] X.env=(false,eval (.Call (.Name "reversed" p2) [e] [] Gu) X.env)::starEach [] X.env:=by rfl) (FE:(backTo pos (starEach [] X.env)).any (·.1)=false:=by rfl)
  (Oc:starEach [e] X.env=(false,eval e X.env)::starEach [] X.env:=by rfl) (Ll:(backTo Gu (starEach [] X.env)).any (·.1)=false:=by rfl):
  QE X (.Call (.Name "list" p) [.Call (.Name "reversed" p2) [e] [] Gu] [] pos) (bh A3 fs):=
 bc (z8 hc hg hm Mz KG ha he FE Oc Ll) fun σ H Q h=>by
  refine uy (mz h) fun xs H1 Ee=>?_
  obtain⟨G,fp,es,vs,ds,r,⟨rel,k⟩,vd,e⟩:=Ee;unfold A3 at e;split at e
  ·rename_i ds;cases e;obtain⟨v,ev,p,ys,ep,sq,rs⟩:=qO vd;subst ev ep;refine⟨p,ys,rfl,sq,fun q hq=>?_⟩;obtain⟨DX,D5⟩:=rel.newL hq rs.rev;exact k _ _ G _ D5 DX
  ·cases e
end
noncomputable def compLE(a:FG)(c:FT)(f:FX):List D->PV.Env->Res (List D×PV.Env)
 |[],env=>.ok ([],env)
 |d::ds,env=>(a d env).bind fun e=>(c e).bind fun p=>if p.1 then(f p.2).bind fun q=>(compLE a c f ds q.2).bind fun rs=>.ok (q.1.2::rs.1,rs.2) else compLE a c f ds p.2
def A4(a:FG)(c:FT)(f:FX)(ds:List D)(E:Addr->PV.Env)(k0:Nat)(x:List D×List D):Prop:=∀q,∃D4,compLE a c f ds (E q)=.ok (x.1,D4)/\D4[k0]?=some (some (.pin q (.l .f),.lst x.2))
open Classical in
def i5(a:FG)(c:FT)(f:FX)(ds:List D)(E:Addr->PV.Env)(k0:Nat):Res (List D×List D):=if h:∃x,A4 a c f ds E k0 x then .ok h.choose else .bad
theorem j8{a:FG}{c:FT}{f:FX}{ds:List D}{E:Addr->PV.Env}{k0:Nat}{x:List D×List D}(h:A4 a c f ds E k0 x):i5 a c f ds E k0=.ok x:=by
 have ex:∃x,A4 a c f ds E k0 x:=⟨x,h⟩
 unfold i5;rw[We ex];obtain⟨e1,h1,h2⟩:=ex.choose_spec 0;obtain⟨e2,h3,h4⟩:=h 0;rw[h1]at h3;have h5:=Res.ok.inj h3;have h6:=QN Prod.fst h5;have h7:=QN Prod.snd h5;dsimp only at h6 h7;subst h7;rw[h2]at h4;injection h4 with h4;injection h4 with h4;injection h4 with _ h4;injection h4 with h4;have:ex.choose=x:=Prod.ext h6 h4;rw[this]
theorem uz{a:FG}{c:FT}{f:FX}{ds:List D}{E:Addr->PV.Env}{k0:Nat}{x:List D×List D}(h:i5 a c f ds E k0=.ok x):A4 a c f ds E k0 x:=by
 unfold i5 at h;split at h
 ·rename_i ex;cases h;exact ex.choose_spec
 ·cases h
noncomputable def fP(fi:FI)(ix:List (Option Nat))(j k0:Nat)(a:FG)(c:FT)(f:FX):FX:=fun env=>(fi env).bind fun p=>match p.2[j]? with
 |some (some (ow,.lst d0))=>if isLf ow then(i5 a c f p.1 (fun q=>(bC ix (p.2.set j none)).set k0 (some (.pin q (.l .f),.lst d0))) k0).bind fun x=>if x.1.length<=sizeLine/\D6 x.1=true/\D6 x.2=true then .ok ((.l .f,.lst x.1),p.2.set j (some (ow,.lst x.2))) else .bad else .bad
 |_=>.bad
theorem vT{K:W.Frag}{fi:FI}{ix:List (Option Nat)}{j k0:Nat}{a:FG}{c:FT}{f:FX}{σ:L2.St}{H:Hp}{Q:VK}(hk:ix[k0]?=some (some j))(h:tQ K (fP fi ix j k0 a c f) σ H Q):mv (tQI K fi) ix (tQG K a) (tQT K c) (tQ K f) σ H Q:=by
 obtain⟨G,env,fp,r,env',rel,e,k⟩:=h;obtain⟨⟨ds,DU⟩,e1,e⟩:=ah e;refine⟨G,env,fp,ds,DU,rel,e1,fun J H1 G1 Ej Ec DW wk D hD=>?_⟩;dsimp only at e;split at e
 ·rename_i ow d0 hj;split at e
  ·rename_i hlf;obtain⟨⟨rs,d'⟩,e2,e⟩:=ah e;dsimp only at e;split at e
   ·rename_i hz;cases e;obtain⟨v0,aa,b,ev,r0,r2,pm⟩:=DW.rep.take hj;obtain⟨q,Od,eq,hq,ea,Oe,mk⟩:=vS hlf r0;subst eq ea;have nd:=PX.mp (pm.nodup_iff.mp DW.nd);have HX:Rel K G1 H1 (DU.set j none) σ b:=⟨r2,nd.2.1,fun w hw=>DW.gn w (pm.mem_iff.mpr (Pj _ hw)),DW.gh⟩
    obtain⟨G2,IP,JP,MJ,Gf,Fu⟩:=HX.lendM [q] (fun w hw hb=>nd.2.2 w hw w hb rfl) (fun w hw=>DW.gn w (pm.mem_iff.mpr (Pp _ hw)));have rE:=c8 (H:=H1) Gf (fun i r er=>let⟨v,ev,_⟩:=HX.view er;⟨v,ev⟩) ix;have Mt:(bC ix (DU.set j none))[k0]?=some none:=by
     unfold bC;rw[PK,hk];show some (match(DU.set j none)[j]? with|some (some r)=>some (O.f,r.2)|_=>none)=_;rw[QB (Pn.mp hj).1]
    have GH:(dk ix σ)[k0]?=some (some (.ref q)):=by
     unfold dk;rw[PK,hk];show some ((σ[j]?).bind id)=_;rw[ev];rfl
    have rP:RepO K G2 H1 (.pin q (.l .f)) (.lst d0) (.ref q) [q]:=by
     rw[RepO];exact⟨rfl,bN.mpr ⟨q,Od,rfl,hq,rfl,Oe.mono IP⟩⟩
    obtain⟨MK,ML,Lm⟩:=rE.put (i:=k0) (r:=(.pin q (.l .f),.lst d0)) (v:=.ref q) Mt rP;rw[fu GH]at ML;have DX:Rel K G2 H1 ((bC ix (DU.set j none)).set k0 (some (.pin q (.l .f),.lst d0))) (dk ix σ) MK:=⟨ML,Lm.symm.nodup_iff.mp (Qe.mpr ⟨Qt,RD⟩),(fun w hw=>MJ w (by have:=Lm.mem_iff.mp hw;simpa using this)),JP⟩
    have IT:Step G2 H1 [q] G2 H1 MK:=Step.cut fun w hw=>by have:=Lm.mem_iff.mp hw;simpa using this
    obtain⟨Et,En⟩:=DX.newL (ds:=[]) (xs:=[]) hD .nil;obtain⟨Jl,eL,eK⟩:=uz e2 q;dsimp only at eL eK;refine⟨fun i m σ1 H2=>m=ds.length-i/\i<=ds.length/\∃G' es D2 acc aO,Step G2 H1 [q] G' H2 D2/\Rel K G' H2 (some (.l .f,.lst acc)::es) (some (.ref D)::σ1) D2/\compLE a c f (ds.drop i) es=.ok (aO,Jl)/\acc++aO=rs,
     ⟨_,rfl,QA _,G2,_,_,[],rs,IT.trans En,Et,eL,rfl⟩,?_⟩
    rintro i m σ1 H2 ⟨rfl,hi,G3,es,FK,acc,aO,EU,E8,e4,Fv⟩;obtain⟨w1,w2⟩:=wk G3 H2 _ _ _ (IP.trans EU.gg) E8 i;by_cases ED:i<ds.length
    ·have hd:ds[i]?=some ds[i]:=Pk ED;obtain⟨go,yl⟩:=w1 _ hd;rw[QD ED]at e4;unfold compLE at e4;obtain⟨KH,h1,e4⟩:=ah e4;obtain⟨⟨b',Hz⟩,h2,e4⟩:=ah e4;dsimp only at e4;refine .inr ⟨go,fun x H3 y=>?_⟩;obtain⟨G4,rx,Fb,Fo⟩:=yl x H3 y;obtain⟨fa,fb,IQ,ra,Hk,bk⟩:=Fb.frame;refine⟨G4,es,fb,ds[i],KH,Hk,rx,h1,fun σ2 G5 Iz IA F6=>?_⟩;refine⟨G5,KH,Iz,b',Hz,F6,h2,fun H6 G6 IS MA HA=>?_⟩;have HB:=IA.trans MA;cases b' with
     |false=>
      refine iteF ⟨ds.length-(i+1),by lia,rfl,ED,?_⟩;obtain⟨F0,GI⟩:=bk G6 H6 Hz σ2 IS HB HA;rw[<-IQ]at GI;exact⟨G6,Hz,_,acc,aO,EU.trans (Fo.trans GI),F0,e4,Fv⟩
     |true=>
      have e4:((f Hz).bind fun q=>(compLE a c f (ds.drop (i+1)) q.2).bind fun rs=>.ok (q.1.2::rs.1,rs.2))=.ok (aO,Jl):=e4;obtain⟨⟨r,Jh⟩,h3,e4⟩:=ah e4;obtain⟨⟨HC,MM⟩,h4,e4⟩:=ah e4;cases e4;refine yt ⟨G6,Hz,IS,r,Jh,HA,h3,fun v H7 G7 ON MB Ji=>?_⟩;obtain⟨G8,MC,rv,Jj,MD⟩:=Ji.freeze;obtain⟨F0,GI⟩:=bk G8 H7 Jh σ2 MC (HB.trans (MB.trans MD)) Jj;rw[<-IQ]at GI;obtain⟨p,xs,ep,hp,Jb,cg⟩:=F0.chg (i:=0) (ds:=acc) (ds':=acc++[r.2]) rfl;have ep:some (some (V.ref D))=some (some (V.ref p)):=ep;cases ep;obtain⟨fq,Jk,ME⟩:=cg (xs++[v]) (Jb.app (.one rv));refine⟨xs,hp,?_,ds.length-(i+1),by lia,rfl,ED,G8,Jh,fq,acc++[r.2],HC,EU.trans (Fo.trans (GI.trans ME)),Jk,h4,?_⟩
      ·rw[Jb.length];have:=QN List.length Fv;rw[Qo,PH]at this;have:=hz.1;lia
      ·rw[<-Fv,Ql];rfl
    ·have ei:i=ds.length:=by lia
     subst ei;rw[RC]at e4;cases e4;rw[PU]at Fv;subst Fv;refine .inl ⟨w2 rfl,?_⟩;obtain⟨fa,fb,IQ,ra,Hk,bk⟩:=E8.frame;obtain⟨v1,fq1,MN,HW,Lh,_⟩:=Hk.out eK;obtain⟨fx,Jm,stx⟩:=HW.only;have KA:v1=.ref q:=by
      obtain⟨y,ys,ey,v2,a2,b2,Ln,MO,HD,MP⟩:=Jm.rep;cases ey;cases Ln;have HD:RepO K G3 H2 (.pin q (.l .f)) (.lst d') v1 a2:=HD;rw[RepO]at HD;exact HD.1
     subst KA;obtain⟨F0,GI⟩:=bk G3 H2 _ _ fx (Lh.trans stx) Jm;rw[<-IQ]at GI;obtain⟨G5,Iz,Fo,Fb⟩:=Fu H2 G3 _ _ _ (EU.trans GI) F0 (fun w hw=>by
      rcases Pw.mp hw with hw|hw
      ·cases hw;rw[aB,dt];exact hz.2.1
      ·rw[Qf]at hw;cases hw;rw[aB,aB,dt];exact hz.2.2)
     obtain⟨a1,b1,ef,ro,Ex,comb⟩:=Rel.frame Fb;have Jn:Rel K G5 H2 (some (ow,.lst d')::DU.set j none) (some (.ref q)::σ) b1:=by
      obtain⟨y2,ys2,MQ,v2,a2,b2,Ln,MO,HD,MP⟩:=Ex.rep;cases MQ;cases Ln;have HD:RepO K G5 H2 (.pin q (.l .f)) (.lst d') (.ref q) a2:=HD;rw[RepO]at HD;obtain⟨q',zs,eq',Lo,ea',rz⟩:=bN.mp HD.2;cases eq';subst ea';have r3:RepO K G1 H1 ow (.lst d0) (.ref q) [q]:=r0;refine⟨⟨_,_,rfl,_,[q],b2,rfl,MO,?_,MP⟩,Ex.nd,Ex.gn,Ex.gh⟩;show RepO K G5 H2 ow (.lst d') (.ref q) [q];unfold isLf at hlf;split at hlf
      ·exact bN.mpr ⟨q,zs,rfl,Lo,rfl,rz⟩
      ·rw[RepO]at r3 ⊢;exact⟨r3.1,bN.mpr ⟨q,zs,rfl,Lo,rfl,rz⟩⟩
      ·cases hlf
     obtain⟨fq,HY,MR⟩:=Jn.back (i:=j) (by rw[Qb];exact(Pn.mp hj).1) ev;rw[QY]at HY;obtain⟨IF,KJ⟩:=comb G5 H2 _ _ fq MR HY;rw[<-ef]at KJ;exact k _ H2 G5 _ (Ec.trans ((Fo.perm (fun w=>pm.mem_iff.symm) (fun w hw=>hw)).trans KJ)) IF
   ·cases e
  ·cases e
 ·cases e
end PV
namespace NX
open PySem PySem.Spec PyProof.Rows L2
section
open PySem.AutoSeq1 (wpAny_loadPart')
end
end NX
namespace PV
open PySem PySem.Spec PyProof.Rows L2 NX
section
variable{X:Cx}
end
section
variable{md:Mode}{X:Cx}{scope:Scope}{N:List Str}{tg iter elt:Expr}{ifs:List Expr}{pos:Pos}{fi:FI}{a:FG}{c:FT}{f:FX}{j k0:Nat}
theorem oq(ix:List (Option Nat))(N:List Str)(hc:X.calm=true)(hi:QI X tg iter fi)(hg:∀C s H fp pn,QG (aU X scope N C s H fp pn) tg a)(ht:∀C s H fp pn,JR (aU X scope N C s H fp pn) ifs c)(he:∀C s H fp pn,QE (aU X scope N C s H fp pn) elt f)
  (MS:ix[k0]?=some (some j):=by rfl)
  (hf:cp scope X.env=true:=by rfl) (hk:scope.kind=.function:=by rfl) (Eb:∀y∈scope.names,y.2≠.cell:=by decide +kernel) (Eh:∀y∈scope.names,y.2=.local->scope.names.lookup y.1=some .local:=by decide +kernel) (E7:jM X scope N ix=true:=by rfl)
  (hs:∀x,foldedSetIterable iter X.env x=pure x:=by intro _;rfl):QE X (.ListComp elt [⟨tg,iter,ifs,0⟩] scope pos) (fP fi ix j k0 a c f):=
 bc (mw (g:=tQG X.K a) (tc:=tQT X.K c) (te:=tQ X.K f) ix N hc hi hg ht he hf hk Eb Eh E7 hs) fun _ _ _=>vT MS
theorem ot{i:Nat}{y:Str}{py Fe:Pos}(ix:List (Option Nat))(N:List Str)(hN:X.N.Nodup)(JN:X.N[i]?=some y)(hy:Loc X.env.scope y)(hc:X.calm=true)(hi:QI X tg iter fi)(hg:∀C s H fp pn,QG (aU X scope N C s H fp pn) tg a)(ht:∀C s H fp pn,JR (aU X scope N C s H fp pn) ifs c)
  (he:∀C s H fp pn,QE (aU X scope N C s H fp pn) elt f) (MS:ix[k0]?=some (some j):=by rfl) (Ja:swapsWith (.ListComp elt [⟨tg,iter,ifs,0⟩] scope pos) (some (.Name y py)) Fe.line X.env=pure true:=by rfl)
  (hf:cp scope X.env=true:=by rfl) (hk:scope.kind=.function:=by rfl) (Eb:∀y∈scope.names,y.2≠.cell:=by decide +kernel) (Eh:∀y∈scope.names,y.2=.local->scope.names.lookup y.1=some .local:=by decide +kernel) (E7:jM X scope N ix=true:=by rfl)
  (hs:∀x,foldedSetIterable iter X.env x=pure x:=by intro _;rfl) (Iq:X.fn y=true\/X.env.scope.names.lookup y=some .local:=by first|exact .inl rfl|exact .inr rfl):
  QS (md:=md) X (.Assign [.Name y py] (.ListComp elt [⟨tg,iter,ifs,0⟩] scope pos) Fe) (cu i (fP fi ix j k0 a c f)):=
 dm (qe (i:=i) (g:=tQG X.K a) (tc:=tQT X.K c) (te:=tQ X.K f) ix N hN JN hy hc hi hg ht he Ja hf hk Eb Eh E7 hs Iq) fun D σ H ⟨G,env,fp,rel,k⟩=>vT MS (jW rel k)
end
section
variable{X:Cx}{x:Str}{p pos:Pos}{e:Expr}{es:List Expr}{f0:FX}{fs:FOs}
end
section
variable{X:Cx}
end
end PV
namespace NX
open PySem PySem.Spec PyProof.Rows L2
section
variable{prog:Program}{w:World}{A:Around}{R:Result->Shared->Prop}{it:Addr}{fp wr:List Addr}{n:Nat}{Pv:Nat->Value->Prop}{Sx:Nat->Heap->Prop}{kw:List (Str×Value)}
end
section
variable{X:Cx}{e k:Expr}{te tk:TE}{p pos Mi:Pos}
end
end NX
namespace PV
open PySem PySem.Spec PyProof.Rows L2 NX
section
variable{X:Cx}
end
section
variable{X:Cx}
end
section
variable{K:W.Frag}{G G' H H':Hp}{es:PV.Env}{vs:L2.St}{fp:List Addr}
theorem Rel.lendM2(q:Rel K G H es vs fp)(a:List Addr)(ha:∀z∈a,z∉fp)(Oa:∀z∈a,G z=none):∃G1,Same G G1/\Same G1 H/\(∀z∈a,G1 z=none)/\(∀(i:Nat) (r:R) (v:V),es[i]?=some (some r)->vs[i]?=some (some v)->Rep K G1 r.2 v)/\
  ∀(H2 G2:Hp) (Ew:List Addr) (rs:PV.Env) (ws:L2.St),Step G1 H a G2 H2 Ew->Rel K G2 H2 rs ws Ew->((∀r,some r∈rs->aB r.1 r.2=true)->∃G3 FK,Step G H (a++fp) G3 H2 FK/\Rel K G3 H2 (rs++es) (ws++vs) FK)/\∃G3 FK,Step G H (a++fp) G3 H2 FK/\Rel K G3 H2 (rs++es.map PV.frz) (ws++vs) FK:=by
 have hg:Same G (fun p=>if p∈fp then H p else G p):=fun p u e=>by
  show(if p∈fp then H p else G p)=some u;by_cases hp:p∈fp
  ·rw[Px hp];exact q.gh p u e
  ·rw[PJ hp];exact e
 have hh:Same (fun p=>if p∈fp then H p else G p) H:=fun p u e=>by
  have e:(if p∈fp then H p else G p)=some u:=e;by_cases hp:p∈fp
  ·rw[Px hp]at e;exact e
  ·rw[PJ hp]at e;exact q.gh p u e
 have hk:∀p∈fp,∀u,H p=some u->(fun p=>if p∈fp then H p else G p) p=some u:=fun p hp u e=>by
  show(if p∈fp then H p else G p)=some u;rw[Px hp];exact e
 refine⟨fun p=>if p∈fp then H p else G p,hg,hh,fun z hz=>?_,fun i r v e ev=>q.rep.rep hg hk e ev,fun H2 G2 Ew rs ws st k=>⟨fun cl=>?_,?_⟩⟩
 ·show(if z∈fp then H z else G z)=none;rw[PJ (ha z hz)];exact Oa z hz
 ·have kept:∀p∈fp,H2 p=H p:=fun p hp=>by
   obtain⟨u,hu⟩:=q.rep.live p hp;rw[hu];exact st.keep p u hu fun z=>ha p z hp
  have apart:∀p∈Ew,p∉fp:=fun p hp hf=>by
   rcases st.fpn p hp with z|z
   ·exact ha p z hf
   ·obtain⟨u,hu⟩:=q.rep.live p hf;rw[z]at hu;cases hu
  have g3:Same G (fun p=>if p∈fp then none else G2 p):=fun p u e=>by
   show(if p∈fp then none else G2 p)=some u;rw[PJ (fun z=>by rw[q.gn p z]at e;cases e)];exact st.gg p u (hg p u e)
  refine⟨fun p=>if p∈fp then none else G2 p,Ew++fp,⟨g3,fun p u e n=>?_,fun p hp=>?_,fun p u e=>?_,st.there⟩,⟨RepE.append (RepE.clean (fun p u t e=>?_) cl k.rep) (q.rep.step g3 kept),?_,fun p hp=>?_,fun p u e=>?_⟩⟩
  ·exact st.keep p u e fun z=>n (Pp _ z)
  ·rcases PR.mp hp with hp|hp
   ·exact(st.fpn p hp).imp_left (Pp _)
   ·exact .inl (Pj _ hp)
  ·have e:(if p∈fp then none else G2 p)=some u:=e;by_cases hp:p∈fp
   ·rw[Px hp]at e;cases e
   ·rw[PJ hp]at e;rcases st.gnew p u e with z|z|z
    ·have z:(if p∈fp then H p else G p)=some u:=z;rw[PJ hp]at z;exact .inl z
    ·exact .inr (.inl (Pp _ z))
    ·exact .inr (.inr z)
  ·show(if p∈fp then none else G2 p)=some u;by_cases hp:p∈fp
   ·exfalso;obtain⟨u',hu,hm⟩:=q.rep.mut p hp;have:=st.gg p u' (hk p hp u' hu);rw[e]at this;cases this;cases u with
    |lst _=>cases t
    |dK _=>cases t
    |dT _=>cases t
    |_=>cases hm
   ·rw[PJ hp];exact e
  ·rw[PX];exact⟨k.nd,q.nd,fun p hp z hz e=>apart p hp (e▸hz)⟩
  ·show(if p∈fp then none else G2 p)=none;by_cases hf:p∈fp
   ·rw[Px hf]
   ·rw[PJ hf];rcases PR.mp hp with hp|hp
    ·exact k.gn p hp
    ·exact absurd hp hf
  ·have e:(if p∈fp then none else G2 p)=some u:=e;by_cases hp:p∈fp
   ·rw[Px hp]at e;cases e
   ·rw[PJ hp]at e;exact k.gh p u e
 ·have OR:=hg.trans st.gg;have rf:RepE K G2 H2 (es.map PV.frz) vs []:=q.rep.frz OR fun p hp u e=>st.gg p u (hk p hp u e)
  have ra:=RepE.append k.rep rf;rw[PU]at ra;refine⟨G2,Ew,⟨OR,fun p u e n=>st.keep p u e fun z=>n (Pp _ z),fun p hp=>(st.fpn p hp).imp_left (Pp _),fun p u e=>?_,st.there⟩,⟨ra,k.nd,k.gn,k.gh⟩⟩;rcases st.gnew p u e with z|z|z
  ·have z:(if p∈fp then H p else G p)=some u:=z;by_cases hp:p∈fp
   ·exact .inr (.inl (Pj _ hp))
   ·rw[PJ hp]at z;exact .inl z
  ·exact .inr (.inl (Pp _ z))
  ·exact .inr (.inr z)
end
noncomputable def eFunW(c:O)(F:Addr->List D->Res R)(i:Nat)(fs:FOs):FX:=fun env=>(fs env).bind fun p=>match p.1 with
 | .var j::os=>if j=i then(match p.2[i]? with
  |some (some (ow,d0))=>if j7 c ow then(iY (p.2.set i none) os).bind fun ds=>(iH F c d0 ds).bind fun x=>if aB x.1.1 x.1.2&&aB c x.2 then .ok (x.1,(p.2.set i none).set i (some (ow,x.2))) else .ok (x.1,((p.2.set i none).map frz).set i (some (ow,x.2))) else .bad
  |_=>.bad) else .bad
 |_=>.bad
section
variable{X:Cx}{x:Str}{p pos:Pos}{e:Expr}{es:List Expr}{f0:FX}{fs:FOs}
theorem cN{F:Addr->List D->Res R}{c:O}{i k:Nat}(C:Ct X.prog X.w X.K X.mg X.base x k (spM X.K c F))(hr:Room k X.A)(hg:Gl X x)(ha:IM X (e::es) fs)(GA:(x==("__debug__" : Str))=false:=by decide)
  (he:starEach (e::es) X.env=(false,eval e X.env)::starEach es X.env:=by rfl) (FE:(backTo pos (starEach es X.env)).any (·.1)=false:=by rfl):QE X (.Call (.Name x p) (e::es) [] pos) (eFunW c F i fs):=
 bc (zj C hr hg ha GA he FE) fun σ H Q D8=>by
  obtain⟨G,env,fp,r,env',rel,e,k⟩:=D8;obtain⟨⟨os,e1⟩,ha,e⟩:=ah e;dsimp only at e;split at e
  ·rename_i j OD;split at e
   ·rename_i hj;subst hj;split at e
    ·rename_i ow d0 hi;split at e
     ·rename_i how;obtain⟨ds,hd,e⟩:=ah e;obtain⟨z,hz,e⟩:=ah e;refine⟨G,env,fp,_,e1,rel,ha,fun vs H1 G1 Ej Ec DW Gq=>?_⟩;show spM X.K c F (vs++[]) H1 Q _;rw[PU];obtain⟨y,ys,ey,k1,k2⟩:=Gq;obtain⟨v0,a,b,ev,r0,r2,pm⟩:=DW.rep.take hi;have k1:σ[j]?=some (some y):=k1;rw[k1]at ev;cases ev;obtain⟨⟨q,hq⟩,rc,back⟩:=z7 how r0;subst hq;have nd:=PX.mp (pm.nodup_iff.mp DW.nd);have HX:Rel X.K G1 H1 (e1.set j none) σ b:=⟨r2,nd.2.1,fun w hw=>DW.gn w (pm.mem_iff.mpr (Pj _ hw)),DW.gh⟩
      obtain⟨G2,IP,JP,MJ,Gf,Fu⟩:=HX.lendM2 a (fun w hw hb=>nd.2.2 w hw w hb rfl) (fun w hw=>DW.gn w (pm.mem_iff.mpr (Pp _ hw)));refine⟨G2,q,ys,d0,ds,_,a,JP,ey,rc.step IP (fun _ _=>rfl),nd.1,MJ,iu IP Gf k2 hd,ur hz q,fun v H' G' D2 st rt=>?_⟩;obtain⟨o',d',p',c',OP,er,rl⟩:=rt;cases er;have fin:∀(ee:PV.Env),ee.length=e1.length->(∃G3 FK,Step G1 H1 (a++b) G3 H' FK/\Rel X.K G3 H' (some z.1::some (.pin q c,z.2)::ee) (some v::some (.ref q)::σ) FK)->(z.1,ee.set j (some (ow,z.2)))=(r,env')->Q v H':=by
       rintro ee hel ⟨G3,FK,En,Et⟩ eee;cases eee;obtain⟨a1,b1,ef,ro,Ex,comb⟩:=Rel.frame Et;have Jn:Rel X.K G3 H' (some (ow,z.2)::ee) (some (.ref q)::σ) b1:=by
        obtain⟨y2,ys2,MQ,v2,a2,b2,Ln,MO,HD,MP⟩:=Ex.rep;cases MQ;cases Ln;rw[RepO]at HD;exact⟨⟨_,_,rfl,_,a2,b2,rfl,MO,back _ _ _ _ HD.2,MP⟩,Ex.nd,Ex.gn,Ex.gh⟩
       obtain⟨fq,HY,MR⟩:=Jn.back (i:=j) (by rw[hel];exact(Pn.mp hi).1) k1;obtain⟨IF,KJ⟩:=comb G3 H' _ _ fq MR HY;rw[<-ef]at KJ;exact k v H' G3 _ (Ec.trans ((En.perm (fun w=>pm.mem_iff.symm) (fun w hw=>hw)).trans KJ)) IF
      obtain⟨b1,b2⟩:=Fu H' G' D2 _ _ st rl;split at e
      ·rename_i Ft;rw[PD]at Ft;have e:=Res.ok.inj e;refine fin (e1.set j none) (by rw[Qb]) (b1 fun w hw=>?_) e;rcases Pw.mp hw with hw|hw
       ·cases hw;exact Ft.1
       ·rw[Qf]at hw;cases hw;simp only[aB];exact Ft.2
      ·have e:=Res.ok.inj e;exact fin ((e1.set j none).map frz) (by rw[PQ,Qb]) b2 e
     ·cases e
    ·cases e
   ·cases e
  ·cases e
end
section
variable{X:Cx}{pos:Pos}{fa:FO}
end
section
variable{X:Cx}
end
section
variable{X:Cx}{scope:Scope}{N:List Str}{tg iter elt:Expr}{ifs:List Expr}{pos:Pos}{fi:FI}{a:FG}{c:FT}{f:FX}
theorem rh(ix:List (Option Nat))(N:List Str)(hc:X.calm=true)(hi:JX X tg iter fi)(hg:∀C s H fp pn,QG (aY X scope N C s H fp pn) tg a)(ht:∀C s H fp pn,JR (aY X scope N C s H fp pn) ifs c)(he:∀C s H fp pn,QE (aY X scope N C s H fp pn) elt f)
  (hf:cp scope X.env=true:=by rfl) (hk:scope.kind=.function:=by rfl) (Eb:∀y∈scope.names,y.2=.cell->scope.names.lookup y.1=some .cell:=by decide +kernel) (Eh:∀y∈scope.names,y.2=.local->scope.names.lookup y.1=some .local:=by decide +kernel) (E7:jM X scope N ix=true:=by rfl)
  (hs:∀x,foldedSetIterable iter X.env x=pure x:=by intro _;rfl):QE X (.ListComp elt [⟨tg,iter,ifs,0⟩] scope pos) (di fi ix a c f):=
 bc (t6 (g:=tQG X.K a) (tc:=tQT X.K c) (te:=tQ X.K f) ix N hc hi hg ht he hf hk Eb Eh E7 hs) fun _ _ _=>og
end
end PV
namespace L2
open PySem PySem.Spec PyProof.Rows NX
section
variable{X:Cx}{tg:Expr}
end
end L2
namespace PV
open PySem PySem.Spec PyProof.Rows L2 NX
section
variable{X:Cx}{tg:Expr}
end
abbrev FB:=PV.Env->Bool
section
variable{X:Cx}{st:Stmt}{N6:List Stmt}{g:FS}{x:FB}{Ww:Hp->Prop}{c:FT}{pos np Eu:Pos}{e:Expr}{es:List Expr}{fs:FOs}{C:Addr}{y:Str}
end
abbrev FXE:=PV.Env->Option PV.Env
section
variable{md:Mode}{X:Cx}{x:Str}{p pos:Pos}{e a b:Expr}{es:List Expr}{C:Addr}{F:List D->Bool}{fs:FOs}{k:Nat}{xe:FXE}{aO:List Stmt}
end
section
variable{X:Cx}{x:Str}{p pos:Pos}{e:Expr}{es:List Expr}{fs:FOs}
end
section
variable{X:Cx}{x:Str}{p pos:Pos}{e:Expr}{es:List Expr}{f0:FX}{fs:FOs}
end
end PV
namespace NX
open PySem PySem.Spec PyProof.Rows L2
noncomputable def L8(o:Obj)(n:Nat)(a:Addr):It:=
 ⟨fun i H=>∃DS k v,H a=some (.frz o (.dK DS))/\DS.length=n/\DS[i]?=some (k,v),
  fun i H x H'=>H'=H/\∀DS k v,H a=some (.frz o (.dK DS))->DS[i]?=some (k,v)->x=kV k,
  fun i H=>∃DS,H a=some (.frz o (.dK DS))/\DS.length=n/\DS.length<=i⟩
theorem rj{P:Program}{w:World}{K:W.Frag}{tg:Expr}(o:Obj)(es:Array DictEntry)(ep n:Nat)(a it:Addr)(hd:o.data=.dict es ep):
  Turn P w K tg (L8 o n a) [it] it (fun i h=>h.IsKeyIter it a i n ep) where
 mem:=by simp
 obj:=fun i h st b hb=>by
  have e:b=it:=by simpa using hb
  subst e;obtain⟨o,e,c,d⟩:=st;exact⟨o,e,fun v z=>by rw[d]at z;cases z⟩
 keep:=fun i h h' st k=>by
  obtain⟨o,e,c,d⟩:=st;exact⟨o,k it (by simp) o e,c,d⟩
 item:=by
  intro X hP hw hK hc i pr s σ H E I hf st hg;subst hP hw hK;obtain⟨DS,k,v,ha,hn,hx⟩:=hg;obtain⟨ho,vs,r,hm⟩:=om I hd ha;have hl:vs.length=n:=by rw[<-hn];exact r.length.symm
  subst hl;obtain⟨u,hu,ru⟩:=BX r hx;obtain⟨f0,f1,f2,f3,f4,f5⟩:=hf it (by simp);refine wpAny_pyNext_dict_item st hm hu fun key h' Hl Hq sb=>?_
  have I1:Inv X pr σ H {s with heap:=h'}:=I.turned (t':=s.toks) (fun b o hb e=>(sb.2 b hb).trans e) f0 f1 f3 f4 f5;obtain⟨o',e,c,d⟩:=id Hq;exact⟨key,rfl,pO (s:={s with heap:=h'}) e c d (by decide) ⟨kV k,H,I1,BW Hl,⟨rfl,fun kvs' k' v' h1 h2=>by
   rw[ha]at h1;cases h1;rw[hx]at h2;cases h2;rfl⟩,Hq,fun b hb=>(hf b hb).1⟩⟩
 done:=by
  intro X hP hw hK hc i pr s σ H E I hf st hg;subst hP hw hK;obtain⟨DS,ha,hn,hi⟩:=hg;obtain⟨ho,vs,r,hm⟩:=om I hd ha;have hl:vs.length=n:=by rw[<-hn];exact r.length.symm
  subst hl;obtain⟨f0,f1,f2,f3,f4,f5⟩:=hf it (by simp);exact wpAny_pyNext_dict_end (I.ok.hd hc) st hm (Sl (by lia)) fun h' eb=>⟨rfl,I.turned (t':=s.toks) (fun b o hb e=>eb b o hb e) f0 f1 f3 f4 f5⟩
 self:=fun _ _ _ _ _ st h=>wpAny_pyIter_keyiter st h
def Du(td:TE):TI:=fun σ H R=>td σ H fun v H1=>∃a o DS,v=.ref a/\H1 a=some (.frz o (.dK DS))/\R (L8 o DS.length a) H1
theorem rk{X:Cx}{l tg:Expr}{td:TE}(hl:PE X l td):PI X tg l (Du td):=by
 intro pr s σ H R I h;refine Eg (hl pr s σ H _ I h) fun v s1 Ee=>?_
 obtain⟨x,H1,I1,r1,a,o,DS,ex,ha,q⟩:=Ee;subst ex;cases r1;obtain⟨ho,z,nm,vs,r,o',Ht,KU,g1,ex,dat,aO⟩:=(show ObjOk X.prog X.w H1 s1.heap a (.frz o (.dK DS)) from I1.hok a _ ha)
 have e:=g1.symm.trans ho;cases e;have Jo:s1.heap.DictAt (mixKind X.prog X.w) a vs KU:=⟨_,Ht,g1,ex,dat,aO⟩
 refine wpAny_pyIter_dict nm Jo ?_;refine⟨s1.heap.objs.size,[s1.heap.objs.size],_,L8 _ DS.length a,H1,rfl,I1.kept (t':=s1.toks) fun b o e=>Pm _ e,rj _ Ht KU DS.length a _ dat,⟨_,Pz _ rfl,rfl,?_⟩,fun b hb=>?_,q⟩
 ·rw[r.length];rfl
 ·have e:b=s1.heap.objs.size:=by simpa using hb
  subst e;exact I1.fpOk (Pt _) (I1.hok.fresh (Pt _))
theorem fB{X:Cx}{pr:List (Addr×Obj)}{σ:L2.St}{H:Hp}{s:Shared}{a:Addr}{o:Obj}{DS:List (Key×V)}(I:Inv X pr σ H s)(ha:H a=some (.frz o (.dK DS)))(h0:∀q u,X.H₀ a≠some (.frz q u)):Inv X pr σ (upd H a (.dK DS)) s:=by
 have ok:=(show ObjOk X.prog X.w H s.heap a (.frz o (.dK DS)) from I.hok a _ ha)
 have nn:∀c,H c=none->c≠a:=fun c e z=>by rw[z,ha]at e;cases e
 have nt:∀c xs,H c=some (.tup xs)->c≠a:=fun c xs e z=>by rw[z,ha]at e;cases e
 have nb:∀c ps,H c=some (.tbl ps)->c≠a:=fun c ps e z=>by rw[z,ha]at e;cases e
 have no:∀c b,H c=some (.own b)->c≠a:=fun c b e z=>by rw[z,ha]at e;cases e
 have nf:∀c,H c=none->upd H a (.dK DS) c=none:=fun c e=>by rw[ai (nn c e)];exact e
 refine⟨I.ok,I.os,I.bare,⟨I.base.keep,I.base.slot,fun b q e n x=>nf b (I.base.free b q e n x),I.base.there,fun b xs e=>?_,fun b q u e=>?_,fun b ps e=>?_⟩,I.loc,I.cell,nf _ I.free,fun x c e=>nf _ (I.freeC x c e),fun p hp=>?_,fun c ob e=>?_,I.len⟩
 ·have h:=I.base.tups b xs e;rw[ai (nt b xs h)];exact h
 ·have:b≠a:=fun z=>h0 q u (z▸e)
  rw[ai this];exact I.base.frzs b q u e
 ·obtain⟨m,h⟩:=I.base.tbls b ps e;exact⟨m,by rw[ai (nb b _ h)];exact h⟩
 ·obtain⟨h1,h2,h3⟩:=I.pin p hp;exact⟨h1,nf _ h2,h3⟩
 ·by_cases ec:c=a
  ·subst ec;rw[ay]at e;cases e;exact(show ObjOk X.prog X.w H s.heap c (.dK DS) from ok.2).stay (fun _ _ _ q=>q) (fun d q=>by rw[ai (no d _ q)];exact q) fun d l q=>by rw[ai (nt d l q)];exact q
  ·rw[ai ec]at e;exact(I.hok c ob e).stay (fun _ _ _ q=>q) (fun d q=>by rw[ai (no d _ q)];exact q) fun d l q=>by rw[ai (nt d l q)];exact q
noncomputable def JZ(a:Addr)(o:Obj)(DS:List (Key×V))(D:Ends):Ends:=
 ⟨fun σ H=>H a=some (.frz o (.dK DS))/\D.nx σ (upd H a (.dK DS)),fun v H=>H a=some (.frz o (.dK DS))/\D.rt v (upd H a (.dK DS)),fun σ H=>H a=some (.frz o (.dK DS))/\D.bk σ (upd H a (.dK DS)),fun σ H=>H a=some (.frz o (.dK DS))/\D.ct σ (upd H a (.dK DS))⟩
def BY(t:TS):TS:=fun D σ H=>∃a DS,H a=some (.dK DS)/\∀o,t (JZ a o DS D) σ (upd H a (.frz o (.dK DS)))
theorem rm{X:Cx}{st:Stmt}{t:TS}(h:PS X st t):PS X st (BY t):=by
 rintro pr s σ H D I ⟨a,DS,ha,k⟩;obtain⟨z,nm,vs,r,o,es,ep,g1,aO⟩:=(show ObjOk X.prog X.w H s.heap a (.dK DS) from I.hok a _ ha)
 have h0:∀q u,X.H₀ a≠some (.frz q u):=fun q u e=>by
  have:=I.base.frzs a q u e;rw[ha]at this;cases this
 refine Eg (h pr s σ _ _ (uu I ha g1) (k o)) fun f s' sp=>?_
 cases f with
 |next=>obtain⟨σ',H',I',e,q⟩:=sp;exact⟨σ',_,fB I' e h0,q⟩
 |brk=>obtain⟨σ',H',I',e,q⟩:=sp;exact⟨σ',_,fB I' e h0,q⟩
 |cont=>obtain⟨σ',H',I',e,q⟩:=sp;exact⟨σ',_,fB I' e h0,q⟩
 |ret u=>obtain⟨v,σ',H',I',rv,e,q⟩:=sp;exact⟨v,σ',_,fB I' e h0,rv,q⟩
end NX
namespace PV
open PySem PySem.Spec PyProof.Rows L2 NX
section
variable{K:W.Frag}{G H:Hp}{es:PV.Env}{vs:L2.St}{fp:List Addr}
end
noncomputable def sPutP(i:Nat)(fk fv:FX):FS:=fun env=>(fv env).bind fun p=>(fk p.2).bind fun q=>match p.2[i]?,q.2[i]? with
 |some (some _),some (some (.pin pp .d,.dct tk ks vs))=>if dI tk q.1.2&&decide (ks.length<sizeLine) then .ok (.nx (q.2.set i (some (.pin pp .d,.dct tk (lz ks vs q.1.2 p.1.2).1 (lz ks vs q.1.2 p.1.2).2)))) else .bad
 |_,_=>.bad
section
variable{md:Mode}{X:Cx}
end
def cleanE(i:Nat)(env:PV.Env):Bool:=(env.set i none).all fun r=>match r with
 |some r=>aB r.1 r.2
 |none=>true
def j9(i:Nat)(p:Addr)(env:PV.Env):Bool:=match env[i]? with
 |some (some (.pin q .f,_))=>decide (q=p)
 |_=>false
noncomputable def rp(i:Nat)(p:Addr)(d:D):Out->Res Out
 | .nx env=>if j9 i p env&&cleanE i env then .ok (.nx (env.set i (some (.pin p .d,d)))) else .bad
 | .rt (.t [o,.pin q .f],.tup [r,_])=>if decide (q=p)&&aB o r then .ok (.rt (.t [o,.pin p .d],.tup [r,d])) else .bad
 |_=>.bad
def lG(i:Nat)(a:FG)(g:FS):FS:=fun env=>match env[i]? with
 |some (some (.pin p .d,.dct false ks vs))=>(eF a g ks (env.set i (some (.pin p .f,.dct false ks vs)))).bind (rp i p (.dct false ks vs))
 |_=>.bad
def off(G:Hp)(p:Addr):Hp:=fun z=>if z=p then none else G z
theorem lH{K:W.Frag}{G H G' H':Hp}{fp Ej D2:List Addr}{p:Addr}{DS:List (Key×V)}{o:Obj}{es:PV.Env}{σ:L2.St}{i:Nat}{d':D}{vs:List D}(gp:G p=none)(pf:p∈fp)(f1:∀z∈Ej,z∈fp)
  (st:Step (upd G p (.frz o (.dK DS))) (upd H p (.frz o (.dK DS))) Ej G' H' D2) (rel:Rel K G' H' es σ D2) (hi:es[i]?=some (some (.pin p .f,d'))) (cl:cleanE i es=true) (hf:∀kv∈DS,fitK kv.1) (rs:Reps K G vs (DS.map (·.2))):
  H' p=some (.frz o (.dK DS))/\∃G2 fz,Step G H fp G2 (upd H' p (.dK DS)) fz/\Rel K G2 (upd H' p (.dK DS)) (es.set i (some (.pin p .d,.dct false (DS.map fun kv=>kD kv.1) vs))) σ fz:=by
 have Lp:G' p=some (.frz o (.dK DS)):=st.gg p _ ay;refine⟨rel.gh p _ Lp,?_⟩;obtain⟨v,fq,ev,g,Ec,_⟩:=rel.out hi;have D5:=st.trans Ec;obtain⟨y,ys,e0,v',a,b,e1,e2,r1,r2⟩:=g.rep;cases e0;cases e1;rw[RepO]at r1;obtain⟨ep,r1⟩:=r1;obtain⟨_,ea⟩:=bX.mp r1;subst ea;subst ep;have e2:fq=b:=e2;subst e2;have np:∀z∈fq,z≠p:=fun z hz e=>by
  have:=g.gn z hz;rw[e,Lp]at this;cases this
 have Lq:(off G' p) p=none:=Px rfl;have Jp:∀z,z≠p->(off G' p) z=G' z:=fun z h=>PJ h
 have gg:Same G (off G' p):=fun z u e=>by
  have hz:z≠p:=fun h=>by rw[h,gp]at e;cases e
  rw[Jp z hz];exact st.gg z u (by rw[ai hz];exact e)
 have rc:RepE K (off G' p) H' (es.set i none) σ fq:=by
  refine RepE.clean (fun z u t e=>?_) (fun r hr=>?_) r2
  ·have hz:z≠p:=fun h=>by rw[h,Lp]at e;cases e;cases t
   rw[Jp z hz];exact e
  ·have:=P8.mp cl _ hr;exact this
 have DX:Rel K (off G' p) (upd H' p (.dK DS)) (some (.pin p .d,.dct false (DS.map fun kv=>kD kv.1) vs)::es.set i none) (some (.ref p)::σ) (p::fq):=by
  refine⟨⟨some (.ref p),σ,rfl,.ref p,[p],fq,rfl,rfl,?_,rc.step (.refl _) fun z hz=>ai (np z hz)⟩,Qe.mpr ⟨fun h=>np p h rfl,g.nd⟩,fun z hz=>?_,fun z u e=>?_⟩
  ·rw[RepO];refine⟨rfl,?_⟩;rw[RepO];exact⟨p,DS.map (·.2),.dK DS,rfl,ay,⟨DS,rfl,rfl,rfl,hf⟩,rfl,Reps.mono gg rs⟩
  ·rcases Pw.mp hz with h|h
   ·rw[h];exact Lq
   ·rw[Jp z (np z h)];exact g.gn z h
  ·by_cases hz:z=p
   ·rw[hz,Lq]at e;cases e
   ·rw[Jp z hz]at e;rw[ai hz];exact rel.gh z u e
 have Of:Step G H fp (off G' p) (upd H' p (.dK DS)) (p::fq):=by
  refine⟨gg,fun z u e n=>?_,fun z hz=>?_,fun z u e=>?_,fun z u e=>?_⟩
  ·have hz:z≠p:=fun h=>n (h▸pf)
   rw[ai hz];exact D5.keep z u (by rw[ai hz];exact e) fun h=>n (f1 z h)
  ·rcases Pw.mp hz with h|h
   ·exact .inl (h▸pf)
   ·rcases D5.fpn z h with h2|h2
    ·exact .inl (f1 z h2)
    ·rw[ai (np z h)]at h2;exact .inr h2
  ·by_cases hz:z=p
   ·rw[hz,Lq]at e;cases e
   ·rw[Jp z hz]at e;rcases D5.gnew z u e with h|h|h|⟨t,h⟩
    ·rw[ai hz]at h;exact .inl h
    ·exact .inr (.inl (f1 z h))
    ·rw[ai hz]at h;exact .inr (.inr (.inl h))
    ·rw[ai hz]at h;exact .inr (.inr (.inr ⟨t,h⟩))
  ·by_cases hz:z=p
   ·exact⟨_,by rw[hz,ay]⟩
   ·obtain⟨u',h⟩:=D5.there z u (by rw[ai hz];exact e);exact⟨u',by rw[ai hz];exact h⟩
 obtain⟨fz,g3,En⟩:=DX.back (i:=i) (by rw[Qb];exact(Pn.mp hi).1) ev;rw[QY]at g3;exact⟨_,fz,Of.trans En,g3⟩
theorem uA{K:W.Frag}{G H:Hp}{fp f1 b0:List Addr}{p:Addr}{DS:List (Key×V)}{o:Obj}{i:Nat}{vs:List D}{D0:Ends}{r:Res Out}(gp:G p=none)(IT:Step G H fp G H (p::b0))(KL:∀z∈f1,z∈p::b0)(hf:∀kv∈DS,fitK kv.1)(rs:Reps K G vs (DS.map (·.2)))
  (k:OutOk (md:=.mut) K G H fp D0 (r.bind (rp i p (.dct false (DS.map fun kv=>kD kv.1) vs)))):OutOk (md:=.mut) K (upd G p (.frz o (.dK DS))) (upd H p (.frz o (.dK DS))) f1 (JZ p o DS D0) r:=by
 cases r with
 |bad=>exact k
 |exc c=>exact k
 |ok out=>
  have k:OutOk (md:=.mut) K G H fp D0 (rp i p (.dct false (DS.map fun kv=>kD kv.1) vs) out):=k;unfold rp at k;split at k
  ·rename_i e';split at k
   ·rename_i Ft;rw[PD]at Ft;obtain⟨h1,h2⟩:=Ft;unfold j9 at h1;split at h1
    ·rename_i q' d' Lo;rw[Qd]at h1;subst h1;intro σ' H' G' D2 st rl;obtain⟨z,G2,fz,D5,MT⟩:=lH (G:=G) (H:=H) (fp:=q'::b0) gp Pq KL st rl Lo h2 hf rs;exact⟨z,k σ' _ G2 fz (IT.trans D5) MT⟩
    ·cases h1
   ·exact k.elim
  ·rename_i o' q' r d0 _;split at k
   ·rename_i Ft;rw[PD,Qd]at Ft;obtain⟨h1,h2⟩:=Ft;subst h1;rintro v H' G' D2 st ⟨o2,d2,p2,c2,d02,er,rl⟩;cases er;obtain⟨z,G2,fz,D5,MT⟩:=lH (G:=G) (H:=H) (fp:=q'::b0) (i:=1) gp Pq KL st rl rfl (by show(List.all [some (o',r),none] _)=true;simp only[Rz,TQ,h2,P1]) hf rs;exact⟨z,k v _ G2 fz (IT.trans D5) ⟨_,_,_,_,_,rfl,MT⟩⟩
   ·exact k.elim
  ·exact k.elim
theorem lI{K:W.Frag}{G:Hp}{a:Addr}{o:Obj}{DS:List (Key×V)}(h:G a=some (.frz o (.dK DS)))(hf:∀kv∈DS,fitK kv.1):Walk K G (L8 o DS.length a) (DS.map fun kv=>kD kv.1):=by
 intro G' H' es vs fp gg rel i;have h':H' a=some (.frz o (.dK DS)):=rel.gh _ _ (gg _ _ h);refine⟨fun d hd=>?_,fun e=>⟨DS,h',rfl,by rw[PQ]at e;lia⟩⟩;rw[PK]at hd;cases hk:DS[i]? with
 |none=>rw[hk]at hd;cases hd
 |some kv=>
  rw[hk]at hd;cases hd;refine⟨⟨DS,kv.1,kv.2,h',rfl,hk⟩,fun y H2 ⟨e,hy⟩=>?_⟩;subst e;have:=hy DS kv.1 kv.2 h' hk;subst this;exact⟨G',zV (hf _ (Qj hk)),rel,.refl⟩
section
variable{X:Cx}
theorem mM{i:Nat}{tg iter:Expr}{body:List Stmt}{a:FG}{g:FS}{pos:Pos}(hp:PassesOwn (model X.prog X.w) X.A X.env X.xe)(hc:X.calm=true)(hn:PE X iter (oU i))(hg:QG X tg a)(hb:Iy (md:=.mut) X body g)(hs:∀x,foldedSetIterable iter X.env x=pure x:=by intro _;rfl):
  QS (md:=.mut) X (.For tg iter body [] pos) (lG i a g):=
 dm (rm (pT hp hc (rk hn) hg hb hs)) fun D0 σ H D8=>by
  obtain⟨G,env,fp,rel,k⟩:=D8;unfold lG at k;split at k
  ·rename_i p ks vs hi;obtain⟨v,fq,ev,g1,IT,_⟩:=rel.out hi;obtain⟨y,ys,e0,v',a0,b0,e1,e2,r1,r2⟩:=g1.rep;cases e0;cases e1;rw[RepO]at r1;obtain⟨ep,r1⟩:=r1;subst ep;rw[RepO]at r1;obtain⟨p',xs,o0,MN,hH,dd,ea,rs⟩:=r1;cases MN;subst ea;subst e2;obtain⟨DS,eo,ek,ex,hf⟩:=(show ∃DS:List (Key×V),o0=.dK DS/\ks=DS.map (fun kv=>kD kv.1)/\xs=DS.map (·.2)/\∀kv∈DS,fitK kv.1 from dd)
   subst eo ex ek;have nd:=Qe.mp (show(p::b0).Nodup from g1.nd);have gp:G p=none:=g1.gn p Pq;have MU:∀z∈b0,z≠p:=fun z hz e=>nd.1 (e▸hz)
   refine⟨p,DS,hH,fun o=>?_⟩;have MV:Same G (upd G p (.frz o (.dK DS))):=fun z u e=>by rw[ai (aA e gp)];exact e
   have Lr:Rel X.K (upd G p (.frz o (.dK DS))) (upd H p (.frz o (.dK DS))) (some (.pin p .f,.dct false (DS.map fun kv=>kD kv.1) vs)::env.set i none) (some (.ref p)::σ) b0:=by
    refine⟨⟨_,_,rfl,.ref p,[],b0,rfl,rfl,?_,r2.step MV fun z hz=>ai (MU z hz)⟩,nd.2,fun z hz=>?_,fun z u e=>?_⟩
    ·rw[RepO];refine⟨rfl,bX.mpr ⟨?_,rfl⟩⟩;rw[Rep];exact⟨p,DS.map (·.2),.dK DS,rfl,.inr ⟨o,ay⟩,⟨DS,rfl,rfl,rfl,hf⟩,Reps.mono MV rs⟩
    ·rw[ai (MU z hz)];exact g1.gn z (Pu _ hz)
    ·by_cases hz:z=p
     ·subst hz;rw[ay]at e ⊢;exact e
     ·rw[ai hz]at e ⊢;exact g1.gh z u e
   obtain⟨f1,DW,Ec⟩:=Lr.back (i:=i) (by rw[Qb];exact(Pn.mp hi).1) ev;rw[QY]at DW;have KL:∀z∈f1,z∈p::b0:=fun z hz=>by
    rcases Ec.fpn z hz with h|h
    ·exact Pu _ h
    ·exfalso;obtain⟨u,hu⟩:=DW.rep.live z hz;rw[h]at hu;cases hu
   refine⟨.ref p,ev,p,o,DS,rfl,ay,?_⟩;have k1:=uA (o:=o) (G:=G) (H:=H) (fp:=fp) gp IT KL hf rs k;have wk:Walk X.K (upd G p (.frz o (.dK DS))) (L8 o DS.length p) (DS.map fun kv=>kD kv.1):=lI ay hf;generalize (DS.map fun kv=>kD kv.1)=ds at k1 wk DW;refine⟨fun j m σ' H'=>m=ds.length-j/\j<=ds.length/\∃G' env' D2,Same (upd G p (.frz o (.dK DS))) G'/\Rel X.K G' H' env' σ' D2/\OutOk (md:=.mut) X.K G' H' D2 (JZ p o DS D0) (eF a g (ds.drop j) env'),⟨_,rfl,QA _,_,_,f1,.refl _,DW,k1⟩,?_⟩;rintro j m σ2 H2 ⟨rfl,hj,G2,D4,Ew,gg,DX,k2⟩;obtain⟨w1,w2⟩:=wk G2 H2 _ _ _ gg DX j;by_cases ED:j<ds.length
   ·have hd:ds[j]?=some ds[j]:=Pk ED;obtain⟨go,yl⟩:=w1 _ hd;rw[QD ED]at k2;refine .inr ⟨go,fun σ' H'=>∃G' env' D2,Same (upd G p (.frz o (.dK DS))) G'/\Rel X.K G' H' env' σ' D2/\OutOk (md:=.mut) X.K G' H' D2 (JZ p o DS D0) (eF a g (ds.drop (j+1)) env'),fun σ' H' z=>⟨ds.length-(j+1),by lia,rfl,ED,z⟩,fun x H3 y=>?_⟩;obtain⟨G3,rx,Et,En⟩:=yl x H3 y;unfold eF at k2;match q3:a ds[j] D4,k2 with
    | .ok Eo,k2=>
     refine⟨G3,D4,Ew,ds[j],Eo,Et,rx,q3,fun σ4 G4 Mx EU E8=>⟨G4,Eo,Mx,E8,?_⟩⟩;have k3:OutOk (md:=.mut) X.K G2 H2 Ew (JZ p o DS D0) ((g Eo).bind fun o=>match o with | .nx e=>eF a g (ds.drop (j+1)) e | .ct e=>eF a g (ds.drop (j+1)) e | .bk e=>.ok (.nx e) | .rt r=>.ok (.rt r)):=k2;match q4:g Eo,k3 with
     | .ok (.nx e),k3=>exact fun σ' H' G' D2 st rel=>⟨G',e,D2,gg.trans (En.gg.trans (EU.gg.trans st.gg)),rel,OutOk.after (En.trans (EU.trans st)) k3⟩
     | .ok (.ct e),k3=>exact fun σ' H' G' D2 st rel=>⟨G',e,D2,gg.trans (En.gg.trans (EU.gg.trans st.gg)),rel,OutOk.after (En.trans (EU.trans st)) k3⟩
     | .ok (.bk e),k3=>exact fun σ' H' G' D2 st rel=>k3 σ' H' G' D2 (En.trans (EU.trans st)) rel
     | .ok (.rt r),k3=>exact fun v H' G' D2 st rel=>k3 v H' G' D2 (En.trans (EU.trans st)) rel
   ·have e:j=ds.length:=by lia
    subst e;rw[RC]at k2;exact .inl ⟨w2 rfl,k2 σ2 H2 G2 Ew .refl DX⟩
  ·exact k.elim
end
end PV
namespace NX
open PySem PySem.Spec PyProof.Rows L2
section
variable{X:Cx}
end
end NX
namespace PV
open PySem PySem.Spec PyProof.Rows L2 NX
section
variable{X:Cx}
end
inductive BExp where
 |con (b:Bool)|var (j:Nat)|not (x:BExp)|and (x y:BExp)
section
variable{X:Cx}{a:Addr}{o:Obj}{i:Nat}{e b:Expr}{aO:List Expr}{x y:BExp}{pos p q:Pos}{n:Str}
inductive Cls(mg:Str->Option Value):List Expr->List Addr->Prop
 |nil:Cls mg [] []
 |cons {x:Str}{p:Pos}{es:List Expr}{c:Addr}{cs:List Addr}:mg x=some (.ref c)->Cls mg es cs->Cls mg (.Name x p::es) (c::cs)
variable{C:Addr}{vs:Array Value}
end
section
variable{md:Mode}{X:Cx}{x:Str}{pos:Pos}{C:Addr}{xe:FXE}
end
end PV
namespace PV
open PySem PySem.Spec L2 NX
section
variable{X:Cx}
def rq(ds:List D):List D:=ds.zipIdx.map fun z=>D.tup [.int (z.2:Int),z.1]
def ou(k:Bool)(fs:FOs):FI:=fun env=>(fs env).bind fun p=>match p.1 with
 |[.val d]=>(gq k d).bind fun a=>.ok (rq a,p.2)
 |_=>.bad
theorem rA{K:W.Frag}{G:Hp}{k:Bool}{p1:Addr}{xs:List V}{as:List D}(s1:if k then SqL K G p1 xs else SqT K G p1 xs)(r1:Reps K G as xs):Walk K G (N5 K k p1) (rq as):=by
 intro G' H' es vs fp gg rel i;have g1:=gJ (gg.trans rel.gh) s1;refine⟨fun d hd=>?_,fun e=>⟨xs,g1,?_⟩⟩
 ·unfold rq at hd;rw[PK,List.getElem?_zipIdx]at hd;cases hz:as[i]? with
  |none=>rw[hz]at hd;cases hd
  |some z=>
   rw[hz]at hd;have hd:D.tup [.int ((0+i:Nat):Int),z]=d:=P0 hd;rw[RZ]at hd;subst hd;obtain⟨x,hx,rx⟩:=r1.get hz;refine⟨⟨xs,x,g1,hx⟩,fun v H2 ⟨T,hT,ev,hh⟩=>?_⟩;have e2:=hh xs x g1 hx;subst e2;obtain⟨DX,D5⟩:=rel.newF (u:=.tup [.int (i:Int),x]) hT;refine⟨_,?_,DX,D5⟩;rw[Rep];exact⟨T,[.int (i:Int),x],ev,ay,.cons (by rw[Rep]) (.one (Rep.mono (gg.trans D5.gg) rx))⟩
 ·unfold rq at e;rw[PQ,Us]at e;rw[r1.length];exact e
theorem rB(k:Bool){Hx:List Expr}{kt:Nat}{pt:Pos}{e1:Expr}{fs:FOs}{p pos:Pos}(hg:Gl X "enumerate")(hm:X.mg "enumerate" = none)(ha:IM X [e1] fs)(he:starEach [e1] X.env=[(false,eval e1 X.env)]:=by rfl):
  QI X (.Tuple Hx kt pt) (.Call (.Name "enumerate" p) [e1] [] pos) (ou k fs):=
 gW (xh k hg hm ha he) fun σ H R D8=>by
  obtain⟨G,env,fp,ds,env',rel,e,kk⟩:=D8;obtain⟨⟨o,DU⟩,e1,e⟩:=ah e;dsimp only at e;split at e
  ·rename_i d1;obtain⟨a,ea,e⟩:=ah e;cases e;refine⟨G,env,fp,_,_,rel,e1,fun vs H1 G1 Ej Ec DW Gq=>?_⟩;obtain⟨y,ys,ev,v1,e3⟩:=Gq;have e3:ys=[]:=e3;subst e3;obtain⟨p1,N7,N8,q1,r1⟩:=jY ea v1;subst N8;exact⟨p1,N7,ev,gJ DW.gh q1,kk _ H1 G1 Ej Ec DW (rA q1 r1)⟩
  ·cases e
def ju(fs:FOs):FI:=FZ (ou true fs) (ou false fs)
theorem uB{Hx:List Expr}{kt:Nat}{pt:Pos}{e1:Expr}{fs:FOs}{p pos:Pos}(hg:Gl X "enumerate")(hm:X.mg "enumerate" = none)(ha:IM X [e1] fs)(he:starEach [e1] X.env=[(false,eval e1 X.env)]:=by rfl):
  QI X (.Tuple Hx kt pt) (.Call (.Name "enumerate" p) [e1] [] pos) (ju fs):=pq (rB true hg hm ha he) (rB false hg hm ha he)
end
end PV
namespace PV
open PySem PySem.Spec PyProof.Rows L2 NX
section
variable{K:W.Frag}{G H:Hp}
theorem AllO.length{P:D->V->List Addr->Prop}:∀{ds:List D}{xs:List V}{fp:List Addr},AllO P ds xs fp->xs.length=ds.length
 |[],xs,fp,r=>by
  rw[r.1];rfl
 |d'::ds,xs,fp,r=>by
  obtain⟨y,ys,a1,b1,e1,e2,p,r⟩:=r;subst e1;rw[PH,PH,r.length]
theorem xA{p:Addr}{u:HO}(gh:Same G H)(gp:G p=none):Same G (upd H p u):=fun z o ez=>by
 have:z≠p:=fun w=>by
  subst w;rw[gp]at ez;cases ez
 rw[ai this];exact gh z o ez
theorem uC{p:Addr}{u:HO}{fp:List Addr}(hp:p∈fp):Step G H fp G (upd H p u) fp:=by
 refine⟨.refl _,fun z o ez nz=>?_,fun z hz=>.inl hz,fun z o ez=>.inl ez,fun z o ez=>?_⟩
 ·have:z≠p:=fun w=>nz (w▸hp)
  rw[ai this];exact ez
 ·by_cases w:z=p
  ·subst w;exact⟨_,ay⟩
  ·exact⟨o,by rw[ai w];exact ez⟩
end
section
variable{md:Mode}{X:Cx}{scope:Scope}{N:List Str}{tg iter elt:Expr}{ifs:List Expr}{pos:Pos}{fi:FI}{a:FG}{c:FT}{f:FX}
end
section
variable{X:Cx}{x:Str}{p pos K0:Pos}{e1 e2 e3:Expr}{fo:FO}{fb:FX}
end
section
variable{X:Cx}{x:Str}{p pos p1 p2 q1 q2:Pos}{o o':Expr}{j1 j2:_}
end
section
variable{K:W.Frag}{G H:Hp}
end
section
variable{X:Cx}{a b:Expr}{fa fb:FX}{pos:Pos}
end
section
variable{K:W.Frag}{G H:Hp}
end
section
variable{X:Cx}
end
section
variable{X:Cx}
def rD(f:FX):FX:=fun env=>(f (env.map frz)).bind fun p=>.ok (p.1,if aB p.1.1 p.1.2 then env else env.map frz)
theorem xB{e:Expr}{f:FX}(h:QE X e f):QE X e (rD f):=bc h fun σ H Q D8=>by
 obtain⟨G,env,fp,r,env',rel,e,k⟩:=D8;obtain⟨⟨r1,DU⟩,e1,e⟩:=ah e;obtain⟨G1,g1,g1h,Gf,hE,Fu⟩:=rel.lend;refine⟨G1,env.map frz,[],r1,DU,⟨hE,RD,(fun _ h=>nomatch h),g1h⟩,e1,fun v H' G' D2 st EF=>?_⟩;obtain⟨a,HW,Lh⟩:=EF.only;obtain⟨k1,k2⟩:=Fu H' G' a r1 v (st.trans Lh) HW;have e:Res.ok (r1,if aB r1.1 r1.2 then env else env.map frz)=.ok (r,env'):=e;by_cases hc:aB r1.1 r1.2=true
 ·rw[Px hc]at e;cases e;obtain⟨G6,IS,IA,F6⟩:=k1 hc;exact k v H' G6 IS IA F6
 ·rw[PJ hc]at e;cases e;obtain⟨G6,IS,IA,F6⟩:=k2;exact k v H' G6 IS IA F6
end
section
variable{K:W.Frag}{G H:Hp}
theorem Rel.chgV{i:Nat}{o:O}{d:D}{env:PV.Env}{vs:L2.St}{fp:List Addr}(q:Rel K G H env vs fp)(e:env[i]?=some (some (o,d))):
  ∃v a,vs[i]?=some (some v)/\RepO K G H o d v a/\a.Nodup/\∀u x o' d',u∈a->RepO K G (upd H u x) o' d' v a->∃fq,Rel K G (upd H u x) (env.set i (some (o',d'))) vs fq/\Step G H fp G (upd H u x) fq:=by
 obtain⟨v,fq,ev,g,st,Hq⟩:=q.out e;obtain⟨y,ys,e0,v',c,b,e1,e2,r1,r2⟩:=g.rep;cases e0;cases e1;subst e2;obtain⟨n1,n2,n3⟩:=PX.mp g.nd;refine⟨v,c,ev,r1,n1,fun u x o' d' hu r'=>?_⟩;have g2:Rel K G (upd H u x) (some (o',d')::env.set i none) (some v::vs) (c++b):=by
  refine⟨⟨some v,vs,rfl,v,c,b,rfl,rfl,r',r2.step (.refl _) fun z hz=>ai fun e=>?_⟩,g.nd,g.gn,xA g.gh (g.gn u (Pp _ hu))⟩;subst e;exact n3 z hu z hz rfl
 have Lc:Step G H (c++b) G (upd H u x) (c++b):=uC (Pp _ hu);obtain⟨fz,g3,En⟩:=g2.back (i:=i) (by rw[Qb];exact(Pn.mp e).1) ev;rw[QY]at g3;exact⟨fz,g3,st.trans (Lc.trans En)⟩
end
section
variable{X:Cx}{a b:Expr}{fa fb:FX}{pos:Pos}
end
section
variable{md:Mode}{X:Cx}{pos K0:Pos}
end
section
variable{X:Cx}{C:Addr}{pos:Pos}{aO a b:List Stmt}{ct:Expr}
end
section
variable{X:Cx}{x y:Str}{p pos pos' Eu:Pos}{e:Expr}{es:List Expr}{C:Addr}{F:List D->Bool}{fs:FOs}{k:Nat}{aO:List Stmt}{Ww:Hp->Prop}
end
section
variable{X:Cx}{a:Addr}{i j jc:Nat}{x1 x2:BExp}{e1 e2 vc:Expr}{n nc:Str}{pos pos1 Gu pos' pos'' bp p:Pos}
end
section
variable{md:Mode}{X:Cx}{x:Str}{pos:Pos}{C:Addr}{xe:FXE}
end
section
variable{X:Cx}
end
section
variable{K:W.Frag}{G H:Hp}
end
section
variable{X:Cx}{pos:Pos}
end
section
variable{X:Cx}
def Dv:D->D->Res R
 | .int i,.int j=>if j≠0/\j.natAbs<2 ^ 1000 then .ok (.f,.int (i.fdiv j)) else .bad
 |_,_=>.bad
def Aa:D->D->Res R
 | .int i,.int j=>if j≠0 then .ok (.f,.int (i.fmod j)) else .bad
 |_,_=>.bad
theorem xC:EG X (binaryOp .Mod) (rG X.K Aa):=by
 rintro pr s σ H x y v u Q I rx ry ⟨G,fp,es,vs,a,b,r,⟨rel,k⟩,va,vb,e⟩;unfold Aa at e;split at e
 ·rename_i i j;split at e
  ·rename_i hc;cases e;cases ba va;cases ba vb;exact wF pr s σ H _ _ v u Q I rx ry ⟨i,j,rfl,rfl,hc,k _ H G fp .refl (rel.push (rep_int _))⟩
  ·cases e
 ·cases e
end
section
variable{md:Mode}{X:Cx}{scope:Scope}{N:List Str}{tg iter elt:Expr}{ifs:List Expr}{pos:Pos}{fi:FI}{a:FG}{c:FT}{f:FX}
variable{l e:Expr}{g fj:FI}
theorem rF{i:Nat}{y:Str}{py Fe:Pos}(ix:List (Option Nat))(N:List Str)(hN:X.N.Nodup)(JN:X.N[i]?=some y)(hy:Loc X.env.scope y)(hc:X.calm=true)(hi:JX X tg iter fi)(hg:∀C s H fp pn,QG (aY X scope N C s H fp pn) tg a)(ht:∀C s H fp pn,JR (aY X scope N C s H fp pn) ifs c)
  (he:∀C s H fp pn,QE (aY X scope N C s H fp pn) elt f) (Ja:swapsWith (.ListComp elt [⟨tg,iter,ifs,0⟩] scope pos) (some (.Name y py)) Fe.line X.env=pure true:=by rfl)
  (hf:cp scope X.env=true:=by rfl) (hk:scope.kind=.function:=by rfl) (Eb:∀y∈scope.names,y.2=.cell->scope.names.lookup y.1=some .cell:=by decide +kernel) (Eh:∀y∈scope.names,y.2=.local->scope.names.lookup y.1=some .local:=by decide +kernel) (E7:jM X scope N ix=true:=by rfl)
  (hs:∀x,foldedSetIterable iter X.env x=pure x:=by intro _;rfl) (Iq:X.fn y=true\/X.env.scope.names.lookup y=some .local:=by first|exact .inl rfl|exact .inr rfl):
  QS (md:=md) X (.Assign [.Name y py] (.ListComp elt [⟨tg,iter,ifs,0⟩] scope pos) Fe) (cu i (di fi ix a c f)):=
 dm (t7 (i:=i) (g:=tQG X.K a) (tc:=tQT X.K c) (te:=tQ X.K f) ix N hN JN hy hc hi hg ht he Ja hf hk Eb Eh E7 hs Iq) fun D σ H ⟨G,env,fp,rel,k⟩=>og (jW rel k)
end
open Classical in
def xD(f:Addr->Res Out):Res Out:=if h:∃r,∀p,f p=r then h.choose else .bad
theorem xE{f:Addr->Res Out}{r:Res Out}(h:∀p,f p=r):xD f=r:=by
 have ex:∃r,∀p,f p=r:=⟨r,h⟩
 unfold xD;rw[We ex];exact(ex.choose_spec 0).symm.trans (h 0)
theorem xF(f:Addr->Res Out):xD f=.bad\/∀p,xD f=f p:=by
 by_cases ex:∃r,∀p,f p=r
 ·right;intro p;unfold xD;rw[We ex];exact(ex.choose_spec p).symm
 ·left;unfold xD;rw[dif_neg ex]
mutual
noncomputable def noD:D->Bool
 | .tup ds=>rH ds
 | .lst ds=>rH ds
 | .dct _ _ _=>false
 |_=>true
noncomputable def rH:List D->Bool
 |[]=>true
 |d::ds=>noD d&&rH ds
end
def noFD:HO->Bool
 | .frz _ (.dK _)=>false
 |_=>true
def okO(o:O)(d:D):Bool:=match o,d with
 | .f,d=>noD d
 | .l .f,.lst ds=>rH ds
 | .d,.dct _ _ vs=>rH vs
 |_,_=>false
def lJ(i:Nat)(env:PV.Env):Bool:=(env.set i none).all fun r=>match r with
 |some r=>okO r.1 r.2
 |none=>true
section
variable{K:W.Frag}{H G2 G3:Hp}
theorem Rd.noFD{a:Addr}{u:HO}(h:∀p u,PV.noFD u=true->G2 p=some u->G3 p=some u)(hu:∀o,PV.noFD (.frz o u)=true)(HL:PV.noFD u=true)(r:Rd G2 a u):Rd G3 a u:=by
 rcases r with r|⟨o,r⟩
 ·exact .inl (h _ _ HL r)
 ·exact .inr ⟨o,h _ _ (hu o) r⟩
mutual
theorem Rep.noD(h:∀p u,PV.noFD u=true->G2 p=some u->G3 p=some u):∀{d:D}{v:V},PV.noD d=true->Rep K G2 d v->Rep K G3 d v
 | .non,_,_,r=>by simpa only[Rep] using r
 | .bl _,_,_,r=>by simpa only[Rep] using r
 | .int _,_,_,r=>by simpa only[Rep] using r
 | .str _,_,_,r=>by simpa only[Rep] using r
 | .tup ds,_,e,r=>by
  simp only[Rep]at r ⊢;rw[PV.noD]at e;obtain⟨p,xs,ev,hp,rs⟩:=r;exact⟨p,xs,ev,h _ _ rfl hp,Reps.noD h e rs⟩
 | .lst ds,_,e,r=>by
  simp only[Rep]at r ⊢;rw[PV.noD]at e;obtain⟨p,xs,ev,hp,rs⟩:=r;refine⟨p,xs,ev,?_,Reps.noD h e rs⟩;rcases hp with hp|hp
  ·exact .inl (Rd.noFD h (fun _=>rfl) rfl hp)
  ·exact .inr hp
 | .dct _ _ _,_,e,_=>by
  rw[PV.noD]at e;cases e
theorem Reps.noD(h:∀p u,PV.noFD u=true->G2 p=some u->G3 p=some u):∀{ds:List D}{xs:List V},PV.rH ds=true->Reps K G2 ds xs->Reps K G3 ds xs
 |[],_,_,r=>by simpa only[Reps] using r
 |d::ds,_,e,r=>by
  simp only[Reps]at r ⊢;rw[PV.rH,PD]at e;obtain⟨y,ys,ev,r1,r2⟩:=r;exact⟨y,ys,ev,Rep.noD h e.1 r1,Reps.noD h e.2 r2⟩
end
theorem RepO.okO(h:∀p u,PV.noFD u=true->G2 p=some u->G3 p=some u){o:O}{d:D}{v:V}{a:List Addr}(e:PV.okO o d=true)(r:RepO K G2 H o d v a):RepO K G3 H o d v a:=by
 unfold PV.okO at e;split at e
 ·obtain⟨r1,r2⟩:=bX.mp r;exact bX.mpr ⟨Rep.noD h e r1,r2⟩
 ·obtain⟨p,xs,ev,hp,ea,rs⟩:=bN.mp r;exact bN.mpr ⟨p,xs,ev,hp,ea,Reps.noD h e rs⟩
 ·rw[RepO]at r ⊢;obtain⟨p,xs,o,ev,hp,dd,ea,rs⟩:=r;exact⟨p,xs,o,ev,hp,dd,ea,Reps.noD h e rs⟩
 ·cases e
theorem RepE.okO(h:∀p u,PV.noFD u=true->G2 p=some u->G3 p=some u):∀{es:PV.Env}{vs:L2.St}{a:List Addr},(∀r,some r∈es->PV.okO r.1 r.2=true)->RepE K G2 H es vs a->RepE K G3 H es vs a
 |[],_,_,_,r=>r
 |none::es,vs,a,hc,r=>by
  obtain⟨y,ys,e,r⟩:=r;exact⟨y,ys,e,RepE.okO h (fun r hr=>hc r (Pu _ hr)) r⟩
 |some x::es,vs,a,hc,r=>by
  obtain⟨y,ys,e,v,a1,b1,e1,e2,r1,r2⟩:=r;exact⟨y,ys,e,v,a1,b1,e1,e2,r1.okO h (hc x Pq),RepE.okO h (fun r hr=>hc r (Pu _ hr)) r2⟩
end
theorem loan_backO{K:W.Frag}{G H G' H':Hp}{fp Ej D2:List Addr}{p:Addr}{DS:List (Key×V)}{o:Obj}{es:PV.Env}{σ:L2.St}{i:Nat}{d':D}{vs:List D}(gp:G p=none)(pf:p∈fp)(f1:∀z∈Ej,z∈fp)
  (st:Step (upd G p (.frz o (.dK DS))) (upd H p (.frz o (.dK DS))) Ej G' H' D2) (rel:Rel K G' H' es σ D2) (hi:es[i]?=some (some (.pin p .f,d'))) (cl:lJ i es=true) (hf:∀kv∈DS,fitK kv.1) (rs:Reps K G vs (DS.map (·.2))):
  H' p=some (.frz o (.dK DS))/\∃G2 fz,Step G H fp G2 (upd H' p (.dK DS)) fz/\Rel K G2 (upd H' p (.dK DS)) (es.set i (some (.pin p .d,.dct false (DS.map fun kv=>kD kv.1) vs))) σ fz:=by
 have Lp:G' p=some (.frz o (.dK DS)):=st.gg p _ ay;refine⟨rel.gh p _ Lp,?_⟩;obtain⟨v,fq,ev,g,Ec,_⟩:=rel.out hi;have D5:=st.trans Ec;obtain⟨y,ys,e0,v',a,b,e1,e2,r1,r2⟩:=g.rep;cases e0;cases e1;rw[RepO]at r1;obtain⟨ep,r1⟩:=r1;obtain⟨_,ea⟩:=bX.mp r1;subst ea;subst ep;have e2:fq=b:=e2;subst e2;have np:∀z∈fq,z≠p:=fun z hz e=>by
  have:=g.gn z hz;rw[e,Lp]at this;cases this
 have Lq:(off G' p) p=none:=Px rfl;have Jp:∀z,z≠p->(off G' p) z=G' z:=fun z h=>PJ h
 have gg:Same G (off G' p):=fun z u e=>by
  have hz:z≠p:=fun h=>by rw[h,gp]at e;cases e
  rw[Jp z hz];exact st.gg z u (by rw[ai hz];exact e)
 have rc:RepE K (off G' p) H' (es.set i none) σ fq:=by
  refine RepE.okO (fun z u t e=>?_) (fun r hr=>?_) r2
  ·have hz:z≠p:=fun h=>by rw[h,Lp]at e;cases e;cases t
   rw[Jp z hz];exact e
  ·have:=P8.mp cl _ hr;exact this
 have DX:Rel K (off G' p) (upd H' p (.dK DS)) (some (.pin p .d,.dct false (DS.map fun kv=>kD kv.1) vs)::es.set i none) (some (.ref p)::σ) (p::fq):=by
  refine⟨⟨some (.ref p),σ,rfl,.ref p,[p],fq,rfl,rfl,?_,rc.step (.refl _) fun z hz=>ai (np z hz)⟩,Qe.mpr ⟨fun h=>np p h rfl,g.nd⟩,fun z hz=>?_,fun z u e=>?_⟩
  ·rw[RepO];refine⟨rfl,?_⟩;rw[RepO];exact⟨p,DS.map (·.2),.dK DS,rfl,ay,⟨DS,rfl,rfl,rfl,hf⟩,rfl,Reps.mono gg rs⟩
  ·rcases Pw.mp hz with h|h
   ·rw[h];exact Lq
   ·rw[Jp z (np z h)];exact g.gn z h
  ·by_cases hz:z=p
   ·rw[hz,Lq]at e;cases e
   ·rw[Jp z hz]at e;rw[ai hz];exact rel.gh z u e
 have Of:Step G H fp (off G' p) (upd H' p (.dK DS)) (p::fq):=by
  refine⟨gg,fun z u e n=>?_,fun z hz=>?_,fun z u e=>?_,fun z u e=>?_⟩
  ·have hz:z≠p:=fun h=>n (h▸pf)
   rw[ai hz];exact D5.keep z u (by rw[ai hz];exact e) fun h=>n (f1 z h)
  ·rcases Pw.mp hz with h|h
   ·exact .inl (h▸pf)
   ·rcases D5.fpn z h with h2|h2
    ·exact .inl (f1 z h2)
    ·rw[ai (np z h)]at h2;exact .inr h2
  ·by_cases hz:z=p
   ·rw[hz,Lq]at e;cases e
   ·rw[Jp z hz]at e;rcases D5.gnew z u e with h|h|h|⟨t,h⟩
    ·rw[ai hz]at h;exact .inl h
    ·exact .inr (.inl (f1 z h))
    ·rw[ai hz]at h;exact .inr (.inr (.inl h))
    ·rw[ai hz]at h;exact .inr (.inr (.inr ⟨t,h⟩))
  ·by_cases hz:z=p
   ·exact⟨_,by rw[hz,ay]⟩
   ·obtain⟨u',h⟩:=D5.there z u (by rw[ai hz];exact e);exact⟨u',by rw[ai hz];exact h⟩
 obtain⟨fz,g3,En⟩:=DX.back (i:=i) (by rw[Qb];exact(Pn.mp hi).1) ev;rw[QY]at g3;exact⟨_,fz,Of.trans En,g3⟩
def rJ(i:Nat)(p:Addr)(d:D):Out->Res Out
 | .nx env=>if j9 i p env&&lJ i env then .ok (.nx (env.set i (some (.d,d)))) else .bad
 |_=>.bad
def rK(i:Nat)(a:FG)(g:FS):FS:=fun env=>match env[i]? with
 |some (some (.d,.dct false ks vs))=>xD fun p=>(eF a g ks (env.set i (some (.pin p .f,.dct false ks vs)))).bind (rJ i p (.dct false ks vs))
 |_=>.bad
section
variable{K:W.Frag}{G H:Hp}
theorem RepE.unpin:∀{es:PV.Env}{vs:List (Option V)}{fp:List Addr}{i:Nat}{p:Addr}{c:O}{d:D},RepE K G H es vs fp->es[i]?=some (some (.pin p c,d))->RepE K G H (es.set i (some (c,d))) vs fp
 |[],_,_,_,_,_,_,_,e=>by simp at e
 |none::es,vs,fp,i,p,c,d,q,e=>by
  cases i with
  |zero=>simp at e
  |succ i=>
   obtain⟨y,ys,ev,q⟩:=q;exact⟨y,ys,ev,RepE.unpin q (by simpa using e)⟩
 |some r::es,vs,fp,i,p,c,d,q,e=>by
  obtain⟨y,ys,ev,v,a,b,e1,e2,r1,r2⟩:=q;cases i with
  |zero=>
   have e:r=(.pin p c,d):=by simpa using e
   subst e;have r1:RepO K G H (.pin p c) d v a:=r1;rw[RepO]at r1;exact⟨y,ys,ev,v,a,b,e1,e2,r1.2,r2⟩
  |succ i=>exact⟨y,ys,ev,v,a,b,e1,e2,r1,RepE.unpin r2 (by simpa using e)⟩
theorem Rel.unpin{es:PV.Env}{vs:List (Option V)}{fp:List Addr}{i:Nat}{p:Addr}{c:O}{d:D}(q:Rel K G H es vs fp)(e:es[i]?=some (some (.pin p c,d))):Rel K G H (es.set i (some (c,d))) vs fp:=⟨q.rep.unpin e,q.nd,q.gn,q.gh⟩
end
theorem loan_outO{md:Mode}{K:W.Frag}{G H:Hp}{fp f1 b0:List Addr}{p:Addr}{DS:List (Key×V)}{o:Obj}{i:Nat}{vs:List D}{D0:Ends}{r:Res Out}(gp:G p=none)(IT:Step G H fp G H (p::b0))(KL:∀z∈f1,z∈p::b0)(hf:∀kv∈DS,fitK kv.1)(rs:Reps K G vs (DS.map (·.2)))
  (k:OutOk (md:=md) K G H fp D0 (r.bind (rJ i p (.dct false (DS.map fun kv=>kD kv.1) vs)))):OutOk (md:=md) K (upd G p (.frz o (.dK DS))) (upd H p (.frz o (.dK DS))) f1 (JZ p o DS D0) r:=by
 cases r with
 |bad=>exact k
 |exc c=>exact k
 |ok out=>
  have k:OutOk (md:=md) K G H fp D0 (rJ i p (.dct false (DS.map fun kv=>kD kv.1) vs) out):=k;unfold rJ at k;split at k
  ·rename_i e';split at k
   ·rename_i Ft;rw[PD]at Ft;obtain⟨h1,h2⟩:=Ft;unfold j9 at h1;split at h1
    ·rename_i q' d' Lo;rw[Qd]at h1;subst h1;intro σ' H' G' D2 st rl;obtain⟨z,G2,fz,D5,MT⟩:=loan_backO (G:=G) (H:=H) (fp:=q'::b0) gp Pq KL st rl Lo h2 hf rs;have ED:=(Pn.mp Lo).1;have OS:=MT.unpin (i:=i) (c:=.d) (by rw[QB ED]);rw[QY]at OS;exact⟨z,k σ' _ G2 fz (IT.trans D5) OS⟩
    ·cases h1
   ·exact k.elim
  ·exact k.elim
section
variable{X:Cx}{md:Mode}
theorem xG{i:Nat}{tg iter:Expr}{body:List Stmt}{a:FG}{g:FS}{pos:Pos}(hp:PassesOwn (model X.prog X.w) X.A X.env X.xe)(hc:X.calm=true)(hn:PE X iter (oU i))(hg:QG X tg a)(hb:Iy (md:=md) X body g)(hs:∀x,foldedSetIterable iter X.env x=pure x:=by intro _;rfl):
  QS (md:=md) X (.For tg iter body [] pos) (rK i a g):=
 dm (rm (pT hp hc (rk hn) hg hb hs)) fun D0 σ H D8=>by
  obtain⟨G,env,fp,rel,k⟩:=D8;unfold rK at k;split at k
  ·rename_i ks vs hi;obtain⟨v,fq,ev,g1,IT,_⟩:=rel.out hi;obtain⟨y,ys,e0,v',a0,b0,e1,e2,r1,r2⟩:=g1.rep;cases e0;cases e1;rw[RepO]at r1;obtain⟨p,xs,o0,MN,hH,dd,ea,rs⟩:=r1;subst MN;subst ea;subst e2;rcases xF (fun p=>(eF a g ks (env.set i (some (.pin p .f,.dct false ks vs)))).bind (rJ i p (.dct false ks vs))) with eb|eb
   ·rw[eb]at k;exact k.elim
   rw[eb p]at k;clear eb;obtain⟨DS,eo,ek,ex,hf⟩:=(show ∃DS:List (Key×V),o0=.dK DS/\ks=DS.map (fun kv=>kD kv.1)/\xs=DS.map (·.2)/\∀kv∈DS,fitK kv.1 from dd)
   subst eo ex ek;have nd:=Qe.mp (show(p::b0).Nodup from g1.nd);have gp:G p=none:=g1.gn p Pq;have MU:∀z∈b0,z≠p:=fun z hz e=>nd.1 (e▸hz)
   refine⟨p,DS,hH,fun o=>?_⟩;have MV:Same G (upd G p (.frz o (.dK DS))):=fun z u e=>by rw[ai (aA e gp)];exact e
   have Lr:Rel X.K (upd G p (.frz o (.dK DS))) (upd H p (.frz o (.dK DS))) (some (.pin p .f,.dct false (DS.map fun kv=>kD kv.1) vs)::env.set i none) (some (.ref p)::σ) b0:=by
    refine⟨⟨_,_,rfl,.ref p,[],b0,rfl,rfl,?_,r2.step MV fun z hz=>ai (MU z hz)⟩,nd.2,fun z hz=>?_,fun z u e=>?_⟩
    ·rw[RepO];refine⟨rfl,bX.mpr ⟨?_,rfl⟩⟩;rw[Rep];exact⟨p,DS.map (·.2),.dK DS,rfl,.inr ⟨o,ay⟩,⟨DS,rfl,rfl,rfl,hf⟩,Reps.mono MV rs⟩
    ·rw[ai (MU z hz)];exact g1.gn z (Pu _ hz)
    ·by_cases hz:z=p
     ·subst hz;rw[ay]at e ⊢;exact e
     ·rw[ai hz]at e ⊢;exact g1.gh z u e
   obtain⟨f1,DW,Ec⟩:=Lr.back (i:=i) (by rw[Qb];exact(Pn.mp hi).1) ev;rw[QY]at DW;have KL:∀z∈f1,z∈p::b0:=fun z hz=>by
    rcases Ec.fpn z hz with h|h
    ·exact Pu _ h
    ·exfalso;obtain⟨u,hu⟩:=DW.rep.live z hz;rw[h]at hu;cases hu
   refine⟨.ref p,ev,p,o,DS,rfl,ay,?_⟩;have k1:=loan_outO (o:=o) (G:=G) (H:=H) (fp:=fp) gp IT KL hf rs k;have wk:Walk X.K (upd G p (.frz o (.dK DS))) (L8 o DS.length p) (DS.map fun kv=>kD kv.1):=lI ay hf;generalize (DS.map fun kv=>kD kv.1)=ds at k1 wk DW;refine⟨fun j m σ' H'=>m=ds.length-j/\j<=ds.length/\∃G' env' D2,Same (upd G p (.frz o (.dK DS))) G'/\Rel X.K G' H' env' σ' D2/\OutOk (md:=md) X.K G' H' D2 (JZ p o DS D0) (eF a g (ds.drop j) env'),⟨_,rfl,QA _,_,_,f1,.refl _,DW,k1⟩,?_⟩;rintro j m σ2 H2 ⟨rfl,hj,G2,D4,Ew,gg,DX,k2⟩;obtain⟨w1,w2⟩:=wk G2 H2 _ _ _ gg DX j;by_cases ED:j<ds.length
   ·have hd:ds[j]?=some ds[j]:=Pk ED;obtain⟨go,yl⟩:=w1 _ hd;rw[QD ED]at k2;refine .inr ⟨go,fun σ' H'=>∃G' env' D2,Same (upd G p (.frz o (.dK DS))) G'/\Rel X.K G' H' env' σ' D2/\OutOk (md:=md) X.K G' H' D2 (JZ p o DS D0) (eF a g (ds.drop (j+1)) env'),fun σ' H' z=>⟨ds.length-(j+1),by lia,rfl,ED,z⟩,fun x H3 y=>?_⟩;obtain⟨G3,rx,Et,En⟩:=yl x H3 y;unfold eF at k2;match q3:a ds[j] D4,k2 with
    | .ok Eo,k2=>
     refine⟨G3,D4,Ew,ds[j],Eo,Et,rx,q3,fun σ4 G4 Mx EU E8=>⟨G4,Eo,Mx,E8,?_⟩⟩;have k3:OutOk (md:=md) X.K G2 H2 Ew (JZ p o DS D0) ((g Eo).bind fun o=>match o with | .nx e=>eF a g (ds.drop (j+1)) e | .ct e=>eF a g (ds.drop (j+1)) e | .bk e=>.ok (.nx e) | .rt r=>.ok (.rt r)):=k2;match q4:g Eo,k3 with
     | .ok (.nx e),k3=>exact fun σ' H' G' D2 st rel=>⟨G',e,D2,gg.trans (En.gg.trans (EU.gg.trans st.gg)),rel,OutOk.after (En.trans (EU.trans st)) k3⟩
     | .ok (.ct e),k3=>exact fun σ' H' G' D2 st rel=>⟨G',e,D2,gg.trans (En.gg.trans (EU.gg.trans st.gg)),rel,OutOk.after (En.trans (EU.trans st)) k3⟩
     | .ok (.bk e),k3=>exact fun σ' H' G' D2 st rel=>k3 σ' H' G' D2 (En.trans (EU.trans st)) rel
     | .ok (.rt r),k3=>exact fun v H' G' D2 st rel=>k3 v H' G' D2 (En.trans (EU.trans st)) rel
   ·have e:j=ds.length:=by lia
    subst e;rw[RC]at k2;exact .inl ⟨w2 rfl,k2 σ2 H2 G2 Ew .refl DX⟩
  ·exact k.elim
end
theorem bt_abs:bootBuiltins "abs" = some (.builtin "abs"):=by decide +kernel
def A5(a:FG)(c:FT)(f:FX)(ds:List D)(E:Addr->PV.Env)(k0:Nat)(d0:D)(x:List D):Prop:=∀q,∃D4,compLE a c f ds (E q)=.ok (x,D4)/\D4[k0]?=some (some (.pin q .d,d0))
open Classical in
def mN(a:FG)(c:FT)(f:FX)(ds:List D)(E:Addr->PV.Env)(k0:Nat)(d0:D):Res (List D):=if h:∃x,A5 a c f ds E k0 d0 x then .ok h.choose else .bad
theorem uD{a:FG}{c:FT}{f:FX}{ds:List D}{E:Addr->PV.Env}{k0:Nat}{d0:D}{x:List D}(h:A5 a c f ds E k0 d0 x):mN a c f ds E k0 d0=.ok x:=by
 have ex:∃x,A5 a c f ds E k0 d0 x:=⟨x,h⟩
 unfold mN;rw[We ex];obtain⟨e1,h1,_⟩:=ex.choose_spec 0;obtain⟨e2,h3,_⟩:=h 0;rw[h1]at h3;exact QN Res.ok (QN Prod.fst (Res.ok.inj h3))
theorem uE{a:FG}{c:FT}{f:FX}{ds:List D}{E:Addr->PV.Env}{k0:Nat}{d0:D}{x:List D}(h:mN a c f ds E k0 d0=.ok x):A5 a c f ds E k0 d0 x:=by
 unfold mN at h;split at h
 ·rename_i ex;cases h;exact ex.choose_spec
 ·cases h
noncomputable def jv(fi:FI)(ix:List (Option Nat))(j k0:Nat)(a:FG)(c:FT)(f:FX):FX:=fun env=>(fi env).bind fun p=>match p.2[j]? with
 |some (some (.d,.dct false ks vs))=>(mN a c f p.1 (fun q=>(bC ix (p.2.set j none)).set k0 (some (.pin q .d,.dct false ks vs))) k0 (.dct false ks vs)).bind fun x=>if x.length<=sizeLine/\D6 x=true/\D6 vs=true then .ok ((.l .f,.lst x),p.2) else .bad
 |_=>.bad
theorem Ab{K:W.Frag}{fi:FI}{ix:List (Option Nat)}{j k0:Nat}{a:FG}{c:FT}{f:FX}{σ:L2.St}{H:Hp}{Q:VK}(hk:ix[k0]?=some (some j))(h:tQ K (jv fi ix j k0 a c f) σ H Q):mv (tQI K fi) ix (tQG K a) (tQT K c) (tQ K f) σ H Q:=by
 obtain⟨G,env,fp,r,env',rel,e,k⟩:=h;obtain⟨⟨ds,DU⟩,e1,e⟩:=ah e;refine⟨G,env,fp,ds,DU,rel,e1,fun J H1 G1 Ej Ec DW wk D hD=>?_⟩;dsimp only at e;split at e
 ·rename_i ks vs hj
  ·obtain⟨rs,e2,e⟩:=ah e;split at e
   ·rename_i hz;injection e with e;injection e with e5 e6;subst e5;subst e6;obtain⟨v0,aa,b,ev,r0,r2,pm⟩:=DW.rep.take hj;have r0:RepO K G1 H1 .d (.dct false ks vs) v0 aa:=r0;have r00:=r0;rw[RepO]at r0;obtain⟨q,Od,o0,eq,hq,dd0,ea,Oe⟩:=r0;subst eq ea;have nd:=PX.mp (pm.nodup_iff.mp DW.nd);have HX:Rel K G1 H1 (DU.set j none) σ b:=⟨r2,nd.2.1,fun w hw=>DW.gn w (pm.mem_iff.mpr (Pj _ hw)),DW.gh⟩
    obtain⟨G2,IP,JP,MJ,Gf,Fu⟩:=HX.lendM [q] (fun w hw hb=>nd.2.2 w hw w hb rfl) (fun w hw=>DW.gn w (pm.mem_iff.mpr (Pp _ hw)));have rE:=c8 (H:=H1) Gf (fun i r er=>let⟨v,ev,_⟩:=HX.view er;⟨v,ev⟩) ix;have Mt:(bC ix (DU.set j none))[k0]?=some none:=by
     unfold bC;rw[PK,hk];show some (match(DU.set j none)[j]? with|some (some r)=>some (O.f,r.2)|_=>none)=_;rw[QB (Pn.mp hj).1]
    have GH:(dk ix σ)[k0]?=some (some (.ref q)):=by
     unfold dk;rw[PK,hk];show some ((σ[j]?).bind id)=_;rw[ev];rfl
    have rP:RepO K G2 H1 (.pin q .d) (.dct false ks vs) (.ref q) [q]:=by
     rw[RepO];refine⟨rfl,?_⟩;rw[RepO];exact⟨q,Od,o0,rfl,hq,dd0,rfl,Oe.mono IP⟩
    obtain⟨MK,ML,Lm⟩:=rE.put (i:=k0) (r:=(.pin q .d,.dct false ks vs)) (v:=.ref q) Mt rP;rw[fu GH]at ML;have DX:Rel K G2 H1 ((bC ix (DU.set j none)).set k0 (some (.pin q .d,.dct false ks vs))) (dk ix σ) MK:=⟨ML,Lm.symm.nodup_iff.mp (Qe.mpr ⟨Qt,RD⟩),(fun w hw=>MJ w (by have:=Lm.mem_iff.mp hw;simpa using this)),JP⟩
    have IT:Step G2 H1 [q] G2 H1 MK:=Step.cut fun w hw=>by have:=Lm.mem_iff.mp hw;simpa using this
    obtain⟨Et,En⟩:=DX.newL (ds:=[]) (xs:=[]) hD .nil;obtain⟨Jl,eL,eK⟩:=uE e2 q;dsimp only at eL eK;refine⟨fun i m σ1 H2=>m=ds.length-i/\i<=ds.length/\∃G' es D2 acc aO,Step G2 H1 [q] G' H2 D2/\Rel K G' H2 (some (.l .f,.lst acc)::es) (some (.ref D)::σ1) D2/\compLE a c f (ds.drop i) es=.ok (aO,Jl)/\acc++aO=rs,
     ⟨_,rfl,QA _,G2,_,_,[],rs,IT.trans En,Et,eL,rfl⟩,?_⟩
    rintro i m σ1 H2 ⟨rfl,hi,G3,es,FK,acc,aO,EU,E8,e4,Fv⟩;obtain⟨w1,w2⟩:=wk G3 H2 _ _ _ (IP.trans EU.gg) E8 i;by_cases ED:i<ds.length
    ·have hd:ds[i]?=some ds[i]:=Pk ED;obtain⟨go,yl⟩:=w1 _ hd;rw[QD ED]at e4;unfold compLE at e4;obtain⟨KH,h1,e4⟩:=ah e4;obtain⟨⟨b',Hz⟩,h2,e4⟩:=ah e4;dsimp only at e4;refine .inr ⟨go,fun x H3 y=>?_⟩;obtain⟨G4,rx,Fb,Fo⟩:=yl x H3 y;obtain⟨fa,fb,IQ,ra,Hk,bk⟩:=Fb.frame;refine⟨G4,es,fb,ds[i],KH,Hk,rx,h1,fun σ2 G5 Iz IA F6=>?_⟩;refine⟨G5,KH,Iz,b',Hz,F6,h2,fun H6 G6 IS MA HA=>?_⟩;have HB:=IA.trans MA;cases b' with
     |false=>
      refine iteF ⟨ds.length-(i+1),by lia,rfl,ED,?_⟩;obtain⟨F0,GI⟩:=bk G6 H6 Hz σ2 IS HB HA;rw[<-IQ]at GI;exact⟨G6,Hz,_,acc,aO,EU.trans (Fo.trans GI),F0,e4,Fv⟩
     |true=>
      have e4:((f Hz).bind fun q=>(compLE a c f (ds.drop (i+1)) q.2).bind fun rs=>.ok (q.1.2::rs.1,rs.2))=.ok (aO,Jl):=e4;obtain⟨⟨r,Jh⟩,h3,e4⟩:=ah e4;obtain⟨⟨HC,MM⟩,h4,e4⟩:=ah e4;cases e4;refine yt ⟨G6,Hz,IS,r,Jh,HA,h3,fun v H7 G7 ON MB Ji=>?_⟩;obtain⟨G8,MC,rv,Jj,MD⟩:=Ji.freeze;obtain⟨F0,GI⟩:=bk G8 H7 Jh σ2 MC (HB.trans (MB.trans MD)) Jj;rw[<-IQ]at GI;obtain⟨p,xs,ep,hp,Jb,cg⟩:=F0.chg (i:=0) (ds:=acc) (ds':=acc++[r.2]) rfl;have ep:some (some (V.ref D))=some (some (V.ref p)):=ep;cases ep;obtain⟨fq,Jk,ME⟩:=cg (xs++[v]) (Jb.app (.one rv));refine⟨xs,hp,?_,ds.length-(i+1),by lia,rfl,ED,G8,Jh,fq,acc++[r.2],HC,EU.trans (Fo.trans (GI.trans ME)),Jk,h4,?_⟩
      ·rw[Jb.length];have:=QN List.length Fv;rw[Qo,PH]at this;have:=hz.1;lia
      ·rw[<-Fv,Ql];rfl
    ·have ei:i=ds.length:=by lia
     subst ei;rw[RC]at e4;cases e4;rw[PU]at Fv;subst Fv;refine .inl ⟨w2 rfl,?_⟩;obtain⟨fa,fb,IQ,ra,Hk,bk⟩:=E8.frame;obtain⟨v1,fq1,MN,HW,Lh,_⟩:=Hk.out eK;obtain⟨fx,Jm,stx⟩:=HW.only;have KA:v1=.ref q:=by
      obtain⟨y,ys,ey,v2,a2,b2,Ln,MO,HD,MP⟩:=Jm.rep;cases ey;cases Ln;have HD:RepO K G3 H2 (.pin q .d) (.dct false ks vs) v1 a2:=HD;rw[RepO]at HD;exact HD.1
     subst KA;obtain⟨F0,GI⟩:=bk G3 H2 _ _ fx (Lh.trans stx) Jm;rw[<-IQ]at GI;obtain⟨G5,Iz,Fo,Fb⟩:=Fu H2 G3 _ _ _ (EU.trans GI) F0 (fun w hw=>by
      rcases Pw.mp hw with hw|hw
      ·cases hw;rw[aB,dt];exact hz.2.1
      ·rw[Qf]at hw;cases hw;rw[aB,aB];exact hz.2.2)
     obtain⟨a1,b1,ef,ro,Ex,comb⟩:=Rel.frame Fb;have Jn:Rel K G5 H2 (some (.d,.dct false ks vs)::DU.set j none) (some (.ref q)::σ) b1:=Ex.unpin (i:=0) rfl;obtain⟨fq,HY,MR⟩:=Jn.back (i:=j) (by rw[Qb];exact(Pn.mp hj).1) ev;rw[QY]at HY;obtain⟨IF,KJ⟩:=comb G5 H2 _ _ fq MR HY;rw[<-ef]at KJ;rw[fu hj]at IF;exact k _ H2 G5 _ (Ec.trans ((Fo.perm (fun w=>pm.mem_iff.symm) (fun w hw=>hw)).trans KJ)) IF
   ·cases e
 ·cases e
section
variable{md:Mode}{X:Cx}{scope:Scope}{N:List Str}{tg iter elt:Expr}{ifs:List Expr}{pos:Pos}{fi:FI}{a:FG}{c:FT}{f:FX}{j k0:Nat}
theorem uF(ix:List (Option Nat))(N:List Str)(hc:X.calm=true)(hi:QI X tg iter fi)(hg:∀C s H fp pn,QG (aU X scope N C s H fp pn) tg a)(ht:∀C s H fp pn,JR (aU X scope N C s H fp pn) ifs c)(he:∀C s H fp pn,QE (aU X scope N C s H fp pn) elt f)
  (MS:ix[k0]?=some (some j):=by rfl)
  (hf:cp scope X.env=true:=by rfl) (hk:scope.kind=.function:=by rfl) (Eb:∀y∈scope.names,y.2≠.cell:=by decide +kernel) (Eh:∀y∈scope.names,y.2=.local->scope.names.lookup y.1=some .local:=by decide +kernel) (E7:jM X scope N ix=true:=by rfl)
  (hs:∀x,foldedSetIterable iter X.env x=pure x:=by intro _;rfl):QE X (.ListComp elt [⟨tg,iter,ifs,0⟩] scope pos) (jv fi ix j k0 a c f):=
 bc (mw (g:=tQG X.K a) (tc:=tQT X.K c) (te:=tQ X.K f) ix N hc hi hg ht he hf hk Eb Eh E7 hs) fun _ _ _=>Ab MS
end
end PV
namespace NX
open PySem PySem.Spec PyProof.Rows L2
section
open PySem.AutoSeq1 (wpAny_loadPart')
end
end NX
namespace PV
open PySem PySem.Spec PyProof.Rows L2 NX
section
variable{X:Cx}
end
section
variable{X:Cx}
theorem ox{i:Int}(h:i.natAbs.log2<900000):Builtin.Int.intBits i<=2 ^ 20:=by
 unfold Builtin.Int.intBits;have e:(2:Nat) ^ 20=1048576:=by decide
 split
 ·exact QA _
 ·lia
theorem xH:EG X (binaryOp .Mult) (rI (fun i j=>i.natAbs.log2<900000/\j.natAbs.log2<900000) fun i j=>.int (i*j)):=Kx fun _ _ _ _ _ _ _ hc q=>mul_int q (.of_bits (ox hc.1) (ox hc.2))
def hV(a b:D):Res R:=match a,b with
 | .int i,.int j=>if i.natAbs.log2<900000/\j.natAbs.log2<900000 then .ok (.f,.int (i*j)) else .bad
 |a,b=>yv a b
theorem cO:EG X (binaryOp .Mult) (rG X.K hV):=by
 rintro pr s σ H x y v u Q I rx ry ⟨G,fp,es,vs,a,b,r,⟨rel,k⟩,va,vb,e⟩;unfold hV at e;split at e
 ·rename_i i j;split at e
  ·rename_i hc;cases e;cases ba va;cases ba vb;exact xH pr s σ H _ _ v u Q I rx ry ⟨i,j,rfl,rfl,hc,k _ H G fp .refl (rel.push (rep_int _))⟩
  ·cases e
 ·exact xv pr s σ H x y v u Q I rx ry ⟨G,fp,es,vs,_,_,r,⟨rel,k⟩,va,vb,e⟩
theorem uG:EG X (binaryOp .FloorDiv) (rI (fun _ j=>j≠0/\j.natAbs.log2<9000) fun i j=>.int (i.fdiv j)):=Kx fun _ _ _ _ _ _ _ hc q=>floordiv_int hc.1 q (.inl (PyProof.noPylong_of_log2 hc.2))
def ka:D->D->Res R
 | .int i,.int j=>if j≠0/\j.natAbs.log2<9000 then .ok (.f,.int (i.fdiv j)) else .bad
 |_,_=>.bad
theorem kc:EG X (binaryOp .FloorDiv) (rG X.K ka):=by
 rintro pr s σ H x y v u Q I rx ry ⟨G,fp,es,vs,a,b,r,⟨rel,k⟩,va,vb,e⟩;unfold ka at e;split at e
 ·rename_i i j;split at e
  ·rename_i hc;cases e;cases ba va;cases ba vb;exact uG pr s σ H _ _ v u Q I rx ry ⟨i,j,rfl,rfl,hc,k _ H G fp .refl (rel.push (rep_int _))⟩
  ·cases e
 ·cases e
end
section
variable{K:W.Frag}{G H:Hp}
end
section
variable{X:Cx}{md:Mode}
end
abbrev tL3:O:=.t [.f,.f,.l .f]
section
variable{K:W.Frag}{G H:Hp}
theorem mO{a c:D}{l:List D}{v:V}{fp:List Addr}:RepO K G H tL3 (.tup [a,c,.lst l]) v fp<->∃t y z q zs,v=.ref t/\G t=some (.tup [y,z,.ref q])/\Rep K G a y/\Rep K G c z/\H q=some (.lst zs)/\fp=[q]/\Reps K G l zs:=by
 unfold tL3;rw[RepO];constructor
 ·rintro⟨t,xs,et,gt,rt⟩;rw[RepT]at rt;obtain⟨y1,t1,a1,b1,ex1,ea1,q1,rt⟩:=rt;rw[RepT]at rt;obtain⟨y2,t2,a2,b2,ex2,ea2,q2,rt⟩:=rt;rw[RepT]at rt;obtain⟨y3,t3,a3,b3,ex3,ea3,q3,rt⟩:=rt;rw[RepT]at rt;obtain⟨ett,eb⟩:=rt;obtain⟨rep1,ea⟩:=bX.mp q1;obtain⟨rep2,ec⟩:=bX.mp q2;obtain⟨q,zs,el,hl,eal,rz⟩:=bN.mp q3;subst ea ec ett eb ex3 ex2 ex1 el eal ea3 ea2 ea1;exact⟨t,y1,y2,q,zs,et,gt,rep1,rep2,hl,rfl,rz⟩
 ·rintro⟨t,y,z,q,zs,et,gt,ra,rc,hq,ef,rz⟩;refine⟨t,[y,z,.ref q],et,gt,?_⟩;subst ef;rw[RepT];refine⟨y,[z,.ref q],[],[q],rfl,rfl,bX.mpr ⟨ra,rfl⟩,?_⟩;rw[RepT];refine⟨z,[.ref q],[],[q],rfl,rfl,bX.mpr ⟨rc,rfl⟩,?_⟩;rw[RepT];refine⟨.ref q,[],[q],[],rfl,rfl,bN.mpr ⟨q,zs,rfl,hq,rfl,rz⟩,?_⟩;rw[RepT];exact⟨rfl,rfl⟩
end
section
variable{X:Cx}
def BZ(fa fb fc:FX):FX:=fun env=>(fa env).bind fun p=>(fb p.2).bind fun q=>(fc q.2).bind fun t=>.ok ((.t [.f,.f,t.1.1],.tup [p.1.2,q.1.2,t.1.2]),t.2)
theorem Ac{a b c:Expr}{fa fb fc:FX}{x1}{pos:Pos}(ha:QE X a fa)(hb:QE X b fb)(hc:QE X c fc)(h1:starEach [a,b,c] X.env=(false,eval a X.env)::starEach [b,c] X.env:=by rfl)(h2:starEach [b,c] X.env=(false,eval b X.env)::starEach [c] X.env:=by rfl)(h3:starEach [c] X.env=(false,eval c X.env)::starEach [] X.env:=by rfl):
  QE X (.Tuple [a,b,c] x1 pos) (BZ fa fb fc):=
 bc (vq (fY ha (fY hb (fY hc nq h3) h2) h1)) fun σ H Q D8=>by
  obtain⟨G,env,fp,r,env',rel,e,k⟩:=D8;obtain⟨⟨r1,DU⟩,e1,e⟩:=ah e;obtain⟨⟨r2,D4⟩,e2,e⟩:=ah e;obtain⟨⟨⟨o3,d3⟩,Eo⟩,e3,e⟩:=ah e;cases e;refine⟨G,env,fp,r1,DU,rel,e1,fun v H1 G1 Ej Ec DW=>?_⟩;obtain⟨G2,b,rv,DX,D5⟩:=DW.freeze;refine⟨G2,DU,b,r2,D4,DX,e2,fun v2 H3 G3 FK En Et=>?_⟩;obtain⟨G4,b4,rv2,E8,EU⟩:=Et.freeze;refine⟨G4,D4,b4,(o3,d3),Eo,E8,e3,fun v3 H5 G5 Iz Fo Fb=>⟨by rw[line_eq];exact(by decide:3<=16777216),fun p hp=>?_⟩⟩;obtain⟨F6,IA⟩:=Fb.newF (u:=.tup [v,v2,v3]) hp;refine k _ _ _ Iz (Ec.trans (D5.trans (En.trans (EU.trans (Fo.trans IA))))) ?_;obtain⟨y,ys,ey,v',a',b',MQ,ef,q1,q2⟩:=F6.rep;cases ey;cases MQ;subst ef;refine⟨⟨some (.ref p),σ,rfl,.ref p,a',b',rfl,rfl,?_,q2⟩,F6.nd,F6.gn,F6.gh⟩;show RepO X.K _ _ (.t [.f,.f,o3]) (.tup [r1.2,r2.2,d3]) (.ref p) a';rw[RepO];refine⟨p,[v,v2,v3],rfl,ay,?_⟩;rw[RepT];refine⟨v,[v2,v3],[],a',rfl,rfl,bX.mpr ⟨Rep.mono (En.gg.trans (EU.gg.trans (Fo.gg.trans IA.gg))) rv,rfl⟩,?_⟩;rw[RepT];refine⟨v2,[v3],[],a',rfl,rfl,bX.mpr ⟨Rep.mono (Fo.gg.trans IA.gg) rv2,rfl⟩,?_⟩;rw[RepT];refine⟨v3,[],a',[],rfl,by rw[PU],q1,?_⟩;rw[RepT];exact⟨rfl,rfl⟩
noncomputable def px(i:Nat)(f:FX):FX:=fun env=>match env[i]? with
 |some (some (.t [.f,.f,.l .f],.tup [_,_,.lst _]))=>(f env).bind fun q=>(match q.2[i]? with
  |some (some (.t [.f,.f,.l .f],.tup [d,c,.lst ds]))=>if ds.length<sizeLine then .ok ((.f,.non),q.2.set i (some (.t [.f,.f,.l .f],.tup [d,c,.lst (ds++[q.1.2])]))) else .bad
  |_=>.bad)
 |_=>.bad
theorem xI{i:Nat}{o e:Expr}{f:FX}{j Fe ipos apos Eu}(ho:PE X o (oU i))(he:QE X e f)
  (F4:attributeBase (.Subscript o (.Constant (.int 2) j ipos) Fe) "append" X.env (eval (.Subscript o (.Constant (.int 2) j ipos) Fe) X.env)=eval (.Subscript o (.Constant (.int 2) j ipos) Fe) X.env:=by rfl)
  (IY:((backTo Eu (starEach [e] X.env)).all (fun x=>!x.1)&&(backToKw Eu (keywordEach [] X.env)).all (fun x=>x.1.isSome)&&decide ([e].length+([]:List Keyword).length+(if([]:List Keyword).isEmpty then 0 else 1)<30))=true:=by rfl)
  (F5:(apos.endLine==Eu.line)=true:=by rfl) (hs:starEach [e] X.env=(false,eval e X.env)::starEach [] X.env:=by rfl) (GC:(backTo Eu (starEach [] X.env)).any (·.1)=false:=by rfl):
  QE X (.Call (.Attribute (.Subscript o (.Constant (.int 2) j ipos) Fe) "append" apos) [e] [] Eu) (px i f):=by
 refine bc (ze R8 S1 S2 gj (za vx ho vo (by exact fun _ _=>rfl)) (bG he b7 hs) F4 IY F5 hs GC) fun σ H Q Ee=>?_
 obtain⟨G,env,fp,r,env',rel,e,k⟩:=Ee;unfold px at e;split at e
 ·rename_i d0 c0 l0 hi;obtain⟨⟨r1,DU⟩,e1,e⟩:=ah e;dsimp only at e;split at e
  ·rename_i d c ds IX;split at e
   ·rename_i hl;cases e;obtain⟨v,a,b,ev,r0,_,_⟩:=rel.rep.take hi;obtain⟨t,y,z,q,zs,et,gt,rd,rc,hq,ef,rz⟩:=mO.mp r0;subst et;refine⟨.ref t,ev,t,[y,z,.ref q],2,.ref q,rfl,rfl,SqT.of (rel.gh _ _ gt),rfl,.inl ⟨rfl,zs,SqL.of hq⟩,G,env,fp,[r1.2],DU,rel,by show(f env).bind _=_;rw[e1];rfl,fun vs H1 G1 Ej Ec DW rs=>?_⟩;rw[Reps]at rs;obtain⟨x,ys,N9,ry,rn⟩:=rs;rw[Reps]at rn;subst rn;obtain⟨v2,c2,KA,r2,nd,cg⟩:=DW.chgV IX;rw[ev]at KA;cases KA;obtain⟨t2,y2,z2,q2,Og,et2,OT,rd2,rc2,hq2,ef2,OU⟩:=mO.mp r2;cases et2;have:=Ec.gg _ _ gt;rw[OT]at this;cases this;subst ef2;obtain⟨fq,DX,D5⟩:=cg q (.lst (Og++[x])) tL3 (.tup [d,c,.lst (ds++[r1.2])]) (by simp) (mO.mpr ⟨t,y,z,q,Og++[x],rfl,OT,rd2,rc2,ay,rfl,OU.app (.one ry)⟩);exact⟨q,Og,x,rfl,N9,hq2,by rw[OU.length];exact hl,k _ _ G1 fq (Ec.trans D5) (DX.push jV)⟩
   ·cases e
  ·cases e
 ·cases e
end
end PV
namespace LW
open PySem L2 NX PV
abbrev uH(f:FX):FI:=FZ (zI f) (FZ (hJ f) (hU f))
def lK:FS:=(eQ (bh vI (ae (aq (di (mH (ae (aq (aM 0)) (ae (aq (aM 1)) ar))) [none,none] (lj 2 (bj (aw 0) (bj (aw 1) fH))) dq (aR hV (ak 0) (ak 1)))) ar)))
def cH:List D->Res R:=fBody 2 0 lK
noncomputable def oy:FS:=(eQ (bh fM (ae (aq (di (bV (ak 2)) [none,some 0,some 1] (aw 0) dq (bh vI (ae (aq (di (mH (ae (aq (aM 1)) (ae (aq (aM 2)) ar))) [none,none,some 0] (lj 2 (bj (aw 0) (bj (aw 1) fH))) dq (aR hV (aq (aR EH (ak 0) (ak 2))) (ak 1)))) ar)))) ar)))
def dR:List D->Res R:=fBody 3 0 oy
def aH:FS:=(sSeq (cu 2 (aR Aa (ak 0) (ak 1)))
  (sSeq (cu 0 (aM 1))
  (cu 1 (aM 2))))
def du:FS:=(cv (Es (aN Gr (ak 1) (aq (aF (.int 0)))))
  aH 100000)
def c9:FS:=(eQ (bh yu (ae (ak 0) ar)))
def eG:FS:=(sSeq du
  c9)
def aS:List D->Res R:=fBody 2 1 eG
def dS:FS:=(cu 1 (cS aS (ae (ak 1) (ae (ak 2) ar))))
def jw:FS:=(vG (uH (aM 0)) (aw 2)
  dS)
def iI:FS:=(sSeq (Ge (Es (aN E9 (ak 1) (aq (aF (.int 0)))))
  (eQ (lh 0))
  cz)
  (eQ (bh fM (ae (aq (di (FZ (i4 0) (FZ (hJ (aM 0)) (hU (aM 0)))) [none,some 1] (aw 0) dq (aR ka (ak 0) (ak 1)))) ar))))
def oz:FS:=(sSeq (cu 1 (aF (.int 0)))
  (sSeq jw
  iI))
def bT:List D->Res R:=fBody 1 2 oz
noncomputable def lM:FS:=(sSeq (Ge (Es (aN E9 (aq (aR EH (ak 0) (ak 1))) (aq (aF (.int 0)))))
  (eQ (lh 0))
  cz)
  (eQ (cS dR (ae (aq (mi (cw (aM 0) (cw (aM 2) eS)))) (ae (aq (mi (cw (aR EH (ak 2) (ak 1)) (cw (uq (aq (aR EH (ak 0) (ak 1)))) eS)))) (ae (aq (bh fA (ae (ak 0) ar))) ar))))))
def b8:List D->Res R:=fBody 3 0 lM
def bU:FS:=(zW 3 (aM 4) (cS bT (ae (aq (cS b8 (ae (aq (aR JG (ak 0) (ak 4))) (ae (ak 1) (ae (ak 2) ar))))) ar)))
def de:FS:=(lG 0 (aw 4)
  bU)
def eI:FS:=(sSeq (zW 3 (aM 1) (aM 2))
  (iG 0 (lh 3)))
def gw:FS:=(sSeq (cu 3 (eNewD false))
  (sSeq de
  eI))
def bu:Addr->List D->Res R:=fO 3 2 (.d) gw
def b9:FS:=(cu 3 (cS b8 (ae (ak 3) (ae (ak 4) (ae (aq (aR JG (ak 1) (ak 4))) ar)))))
def dy:FS:=(rK 1 (aw 4)
  b9)
noncomputable def bD:FS:=(sSeq (cu 5 (di (ju (ae (aq (aM 3)) ar)) [none,none] (lj 2 (bj (aw 0) (bj (aw 1) fH))) (Es (aN Gr (ak 1) (aq (aF (.int 0))))) (aM 0)))
  (Ge (Es (aR JS (aq (bh fA (ae (ak 5) ar))) (aq (aF (.int 0)))))
  (cu 1 (eFunW (.d) bu 1 (ae (ak 1) (ae (aq (aR EH (ak 5) (aq (aF (.int 0))))) (ae (aq (cS bT (ae (ak 3) ar))) ar)))))
  cz))
def bO:FS:=(sSeq (cu 3 (aM 2))
  (sSeq dy
  bD))
def fQ:FS:=(vG (uH (aM 0)) (aw 2)
  bO)
def eW:FS:=(eQ (lh 1))
def gY:FS:=(sSeq (cu 1 (eNewD false))
  (sSeq fQ
  eW))
def aE:List D->Res R:=fBody 1 5 gY
def df:FS:=(pw 6 (aM 4) (aR hV (aq (uq (aq (aR EH (aq (aR JG (ak 0) (ak 4))) (ak 1))))) (aq (aR ka (ak 3) (aq (aR EH (aq (aR JG (ak 0) (ak 4))) (ak 4)))))))
def dA:FS:=(lG 0 (aw 4)
  df)
def eX:FS:=(iG 0 (cS bT (ae (aq (bh fM (ae (ak 6) ar))) ar)))
def dg:FS:=(sSeq (cu 5 (aR EH (aq (aR JG (ak 0) (ak 4))) (ak 4)))
  (cu 3 (aR ka (aq (bh yu (ae (aq (aR hV (ak 3) (ak 5))) ar))) (aq (cS aS (ae (ak 3) (ae (ak 5) ar)))))))
def dB:FS:=(lG 0 (aw 4)
  dg)
def eY:FS:=(sSeq (cu 6 (aR hV (aq (mi (cw (aF (.int 0)) eS))) (ak 2)))
  (sSeq (pw 6 (aM 1) (aM 3))
  (sSeq dA
  eX)))
def gZ:FS:=(sSeq (cu 3 (aF (.int 1)))
  (sSeq dB
  eY))
def aD:Addr->List D->Res R:=fO 3 4 (.d) gZ
def oA:FS:=(sSeq (cu 2 (cS aE (ae (ak 0) ar)))
  (eQ (jv (bV (ak 1)) [none,some 2,some 1] 2 1 (aw 0) (Es (aN oj (ak 0) (ak 1))) (eFunW (.d) aD 1 (ae (ak 1) (ae (ak 0) (ae (ak 2) ar)))))))
def fC:List D->Res R:=fBody 2 1 oA
def gx:FS:=(sSeq (cu 2 (cS aE (ae (ak 0) ar)))
  (sSeq (Ge (Es (aN MI (aq (aR uc (ak 1) (aq (aF (.int 1))))) (ak 2)))
  (eQ (aF .non))
  cz)
  (eQ (eFunW (.d) aD 2 (ae (ak 2) (ae (aq (aR uc (ak 1) (aq (aF (.int 1))))) (ae (ak 1) ar)))))))
def bH:List D->Res R:=fBody 2 1 gx
noncomputable def iJ:FS:=(sSeq (cu 2 (aR mG (aq (bh iZ (ae (ak 0) ar))) (aq (mi (cw (aM 1) eS)))))
  (sSeq (cu 3 (di (bV (aq (bh fA (ae (ak 1) ar)))) [none,some 2] (aw 0) dq (bh fM (ae (aq (di (FZ (i4 1) (FZ (hJ (aM 1)) (hU (aM 1)))) [none,some 0] (aw 0) dq (aR EH (ak 0) (ak 1)))) ar))))
  (sSeq (cu 4 (cS bH (ae (ak 3) (ae (aq (bh fA (ae (ak 2) ar))) ar))))
  (sSeq (Ge (Es (aN Lf (ak 4) (aq (aF .non))))
  (eQ (BK (cw (aF (.str [114,111,119])) (cw (aR EH (aq (di (uH (cS fC (ae (ak 0) (ae (aq (bh fA (ae (ak 1) ar))) ar)))) [none,some 1] (aw 0) (Es (aN Gr (aq (cS cH (ae (ak 0) (ae (ak 1) ar)))) (aq (aF (.int 0))))) (aM 0))) (aq (aF (.int 0)))) eS))))
  cz)
  (eQ (BZ (aF (.str [115,117,109])) (aR EH (ak 4) (aq (uq (aq (aF (.int 1)))))) (di (uH (A2 (ak 4) ue (uf (uq (aq (aF (.int 1))))))) [none] (aw 0) dq (uq (ak 0)))))))))
def aT:List D->Res R:=fBody 2 3 iJ
def cB:FS:=(sSeq (cu 3 (aR mf (aq (aR mG (aq (aR mG (aq (aR hV (ak 3) (ak 3))) (aq (aR hV (aq (aF (.int 48271))) (ak 3))))) (aq (bh fA (ae (ak 2) ar))))) (aq (aF (.int 2147483647)))))
  (mC (A1 2 (aM 3))))
def eJ:FS:=(cv (Es (aR L6 (aq (bh fA (ae (ak 2) ar))) (ak 1)))
  cB 100000)
def dJ:FS:=(eQ (bh A3 (ae (ak 2) ar)))
noncomputable def fR:FS:=(sSeq (cu 2 (di (uH (A2 (ak 0) ue (uf (aM 1)))) [none] (aw 0) dq (aR mf (ak 0) (aq (aR mh (aq (aF (.int 10))) (aq (aF (.int 59))))))))
  (sSeq (cu 3 (aR mG (aq (aF (.int 48271))) (aq (aR mf (aq (bh vI (ae (ak 2) ar))) (aq (aF (.int 2147483647)))))))
  (sSeq eJ
  dJ)))
def bK:List D->Res R:=fBody 2 2 fR
def iK:FS:=(sSeq (Ge (Es (aN E9 (ak 0) (aq (mi eS))))
  (iG 0 (aF (.int 0)))
  cz)
  (iG 0 (aR mf (aq (ePop 0)) (ak 1))))
def aI:Addr->List D->Res R:=fO 2 0 (.l .f) iK
noncomputable def gy:FS:=(sSeq (cu 1 (eFunW (.l .f) aI 0 (ae (ak 0) (ae (aq (aR mh (aq (aF (.int 10))) (aq (aF (.int 59))))) ar))))
  (sSeq (Ge (Es (aN E9 (aq (aR mf (ak 1) (aq (aF (.int 4))))) (aq (aF (.int 3)))))
  (iG 0 (aR uc (aq (aR mf (aq (aR mD (ak 1) (aq (aF (.int 4))))) (aq (aR mG (aq (aR hV (aq (aF (.int 2))) (aq (aR mh (aq (aF (.int 10))) (aq (aF (.int 30))))))) (aq (aF (.int 1))))))) (aq (aR mh (aq (aF (.int 10))) (aq (aF (.int 30)))))))
  cz)
  (iG 0 (aR uc (aq (aR mf (aq (aR mD (ak 1) (aq (aF (.int 4))))) (aq (aF (.int 7))))) (aq (aF (.int 3)))))))
def bw:Addr->List D->Res R:=fO 1 1 (.l .f) gy
def jx:FS:=(iG 0 (bh fM (ae (aq (fP (bV (ak 1)) [none,some 0] 0 1 (aw 0) dq (eFunW (.l .f) bw 1 (ae (ak 1) ar)))) ar)))
def bL:Addr->List D->Res R:=fO 2 0 (.l .f) jx
def cC:FS:=(cu 2 (aR mG (ak 2) (aq (aR hV (aq (aR EH (ak 0) (ak 3))) (aq (aR EH (ak 1) (ak 3)))))))
def eM:FS:=(vG (bV (aq (bh fA (ae (ak 0) ar)))) (aw 3)
  cC)
def dM:FS:=(eQ (lh 2))
def fS:FS:=(sSeq (cu 2 (aF (.int 0)))
  (sSeq eM
  dM))
def aP:List D->Res R:=fBody 2 2 fS
def dU:FS:=(pw 3 (aM 6) (aR mG (aq (aR EH (ak 3) (ak 6))) (aq (aR hV (aq (aR EH (ak 4) (ak 6))) (ak 5)))))
def eZ:FS:=(vG (bV (ak 2)) (aw 6)
  dU)
def gA:FS:=eZ
def g0:FS:=(vG (mH (ae (aq (aM 0)) (ae (aq (aM 1)) ar))) (lj 2 (bj (aw 4) (bj (aw 5) fH)))
  gA)
def gB:FS:=(eQ (bh fM (ae (ak 3) ar)))
def jy:FS:=(sSeq (cu 3 (aR hV (aq (mi (cw (aF (.int 0)) eS))) (ak 2)))
  (sSeq g0
  gB))
def aX:List D->Res R:=fBody 3 4 jy
def g5:FS:=(eQ (vE (Lg "int" (ak 0)) (BG (Lg "bool" (ak 0)))))
def aJ:List D->Res R:=fBody 1 0 g5
noncomputable def gC:FS:=(sSeq (Ge (Le (zy (Es (Lg "tuple" (ak 0)))) (Es (aN Gr (aq (bh fA (ae (ak 0) ar))) (ak 1))))
  (eQ (aF (.bl false)))
  cz)
  (eQ (aN oj (aq (aF (.bl false))) (aq (di (FZ (i4 0) (FZ (hJ (aM 0)) (hU (aM 0)))) [none] (aw 0) dq (cS aJ (ae (ak 0) ar)))))))
def bP:List D->Res R:=fBody 2 0 gC
noncomputable def dv:FS:=(sSeq (Ge (Le (zy (Es (Lg "list" (ak 0)))) (Es (aN Gr (aq (bh fA (ae (ak 0) ar))) (ak 1))))
  (eQ (aF (.bl false)))
  cz)
  (eQ (aN oj (aq (aF (.bl false))) (aq (di (FZ (i4 0) (FZ (hJ (aM 0)) (hU (aM 0)))) [none] (aw 0) dq (cS aJ (ae (ak 0) ar)))))))
def aQ:List D->Res R:=fBody 2 0 dv
noncomputable def dW:FS:=(sSeq (cu 3 (bh fA (ae (ak 2) ar)))
  (sSeq (Ge (Le (zy (Es (Lg "tuple" (ak 0)))) (Es (aR L6 (aq (bh fA (ae (ak 0) ar))) (aq (aF (.int 2))))))
  (eQ (aF (.str [])))
  cz)
  (sSeq (Ge (t8 (Es (aN E9 (aq (aR EH (ak 0) (aq (aF (.int 0))))) (aq (aF (.str [115,117,109]))))) (t8 (Es (aN E9 (aq (bh fA (ae (ak 0) ar))) (aq (aF (.int 3))))) (t8 (Es (cS aJ (ae (aq (aR EH (ak 0) (aq (aF (.int 1))))) ar))) (Es (aR JS (aq (aR EH (ak 0) (aq (aF (.int 1))))) (aq (aF (.int 0))))))))
  (Ge (Es (cS aQ (ae (aq (aR EH (ak 0) (aq (aF (.int 2))))) (ae (aq (bh fA (ae (ak 1) ar))) ar))))
  (Ge (Es (aN E9 (aq (cS aX (ae (ak 1) (ae (aq (aR EH (ak 0) (aq (aF (.int 2))))) (ae (ak 3) ar))))) (aq (cS aX (ae (aq (mi (cw (aM 2) eS))) (ae (aq (mi (cw (aR EH (ak 0) (aq (aF (.int 1)))) eS))) (ae (ak 3) ar)))))))
  (eQ (aF (.str [115,117,109])))
  cz)
  cz)
  cz)
  (sSeq (Ge (t8 (Es (aN E9 (aq (aR EH (ak 0) (aq (aF (.int 0))))) (aq (aF (.str [114,111,119]))))) (t8 (Es (aN E9 (aq (bh fA (ae (ak 0) ar))) (aq (aF (.int 2))))) (Es (cS bP (ae (aq (aR EH (ak 0) (aq (aF (.int 1))))) (ae (ak 3) ar))))))
  (Ge (Es (aN E9 (aq (di (FZ (i4 1) (FZ (hJ (aM 1)) (hU (aM 1)))) [none,some 0] (aw 0) (Es (aN Gr (aq (cS aP (ae (ak 0) (ae (aq (aR EH (ak 1) (aq (aF (.int 1))))) ar)))) (aq (aF (.int 0))))) (aM 0))) (aq (mi eS))))
  (Ge (Es (aN Gr (aq (cS aP (ae (ak 2) (ae (aq (aR EH (ak 0) (aq (aF (.int 1))))) ar)))) (aq (aF (.int 0)))))
  (eQ (aF (.str [114,111,119])))
  cz)
  cz)
  cz)
  (eQ (aF (.str [])))))))
def a7:List D->Res R:=fBody 3 1 dW
noncomputable def Ad:FS:=(sSeq (cu 1 (cS bK (ae (ak 0) (ae (aq (aF (.int 80))) ar))))
  (sSeq (cu 2 (eFunW (.l .f) aI 1 (ae (ak 1) (ae (aq (aF (.int 7))) ar))))
  (sSeq (cu 3 (fP (bV (aq (eFunW (.l .f) aI 1 (ae (ak 1) (ae (aq (aF (.int 7))) ar))))) [none,some 1,some 2] 1 1 (aw 0) dq (eFunW (.l .f) bL 1 (ae (ak 1) (ae (ak 2) ar)))))
  (sSeq (cu 4 (eFunW (.l .f) bL 1 (ae (ak 1) (ae (ak 2) ar))))
  (sSeq (cu 5 (eFunW (.l .f) aI 1 (ae (ak 1) (ae (aq (aF (.int 3))) ar))))
  (sSeq (Ge (Es (aR JS (ak 5) (aq (aF (.int 0)))))
  (cu 4 (cS aX (ae (ak 3) (ae (aq (fP (uH (aM 3)) [none,some 1] 1 1 (aw 0) dq (aR uc (aq (eFunW (.l .f) aI 1 (ae (ak 1) (ae (aq (aR hV (aq (aF (.int 2))) (aq (aR mh (aq (aF (.int 10))) (aq (aF (.int 20))))))) ar)))) (aq (aR mh (aq (aF (.int 10))) (aq (aF (.int 20)))))))) (ae (ak 2) ar)))))
  cz)
  (sSeq (Ge (Es (aN E9 (ak 5) (aq (aF (.int 2)))))
  (cu 3 (fP (uH (aM 3)) [none,some 1,some 2] 1 1 (aw 0) dq (cS aX (ae (aq (mi (cw (aM 0) eS))) (ae (aq (mi (cw (aR mG (aq (aF (.int 1))) (aq (eFunW (.l .f) aI 1 (ae (ak 1) (ae (aq (aF (.int 6))) ar))))) eS))) (ae (ak 2) ar))))))
  cz)
  (sSeq (cu 6 (bh iZ (ae (ak 3) ar)))
  (sSeq (cu 7 (cS aT (ae (ak 6) (ae (ak 4) ar))))
  (sSeq (cu 8 (cS a7 (ae (ak 7) (ae (ak 3) (ae (ak 4) ar)))))
  (sSeq (Ge (Le (Es (aN E9 (ak 8) (aq (aF (.str []))))) (t8 (Es (aR JS (ak 5) (aq (aF (.int 0))))) (Es (aN Gr (ak 8) (aq (aF (.str [115,117,109])))))))
  (eQ (aF (.bl false)))
  cz)
  (sSeq (Ge (Es (aN E9 (ak 8) (aq (aF (.str [115,117,109])))))
  (sSeq (cu 9 (rD (bh iZ (ae (aq (aR EH (ak 7) (aq (aF (.int 2))))) ar))))
  (sSeq (mC (px 7 (aF (.int 1))))
  (eQ (vE (aN E9 (aq (aR EH (aq (cS aT (ae (ak 6) (ae (ak 4) ar)))) (aq (aF (.int 2))))) (ak 9)) (aN E9 (ak 6) (ak 3))))))
  cz)
  (eQ (vE (aN E9 (aq (cS aT (ae (ak 6) (ae (ak 4) ar)))) (ak 7)) (aN E9 (ak 6) (ak 3))))))))))))))))
def m_law:List D->Res R:=fBody 1 9 Ad
end LW
namespace LW
open PySem PySem.Spec PyProof.Rows L2 NX PV
theorem A6{α:Type}{Q:List α->Prop}(h:∀a,Q [a]):∀us,us.length=1->Q us
 |[a],_=>h a
theorem rL{α:Type}{Q:List α->Prop}(h:∀a b,Q [a,b]):∀us,us.length=2->Q us
 |[a,b],_=>h a b
theorem yw{α:Type}{Q:List α->Prop}(h:∀a b c,Q [a,b,c]):∀us,us.length=3->Q us
 |[a,b,c],_=>h a b c
theorem iL{X:Cx}{tg e:Expr}{f:FX}(h:QE X e f):QI X tg e (FZ (zI f) (FZ (hJ f) (hU f))):=pq (xj h) (pq (jm h) (jn h))
def top(i:Nat):Stmt:=PySem.Challenge.pw_netfinder_k42_spanned_or_not.main.body.getD i (.Pass ⟨0,0,0,0⟩)
theorem Ae:Str.ofString "sum" = S [115,117,109]:=by decide +kernel
theorem B0:Str.ofString "row" = S [114,111,119]:=by decide +kernel
theorem B1:Str.ofString "" = S []:=by decide +kernel
section
variable{P:Program}{w:World}{K:W.Frag}{mg:Str->Option Value}{base:Heap}
abbrev iM:Stmt:=top 1
theorem pA:FnScope ["one","other"] ["one","other"] (defScope iM):=fs
theorem pB(Df:Def K mg "product" iM)(Gj:mg "sum" = none)(Gk:mg "zip" = none):Ct P w K mg base "product" 1 (spF K cH):=
 fI Df pA (fun _ _ _ _ _ _=>rL fun _ _=>rfl) fun f Er A outer s H E hr=>
  (av (bz (aV (qQ rfl) (by rfl) Gj qX (ab (af (cT [none,none] ["number","factor"] rfl (cx (mI (by rfl) Gk (ab (af (az (pv 0))) (ab (af (az (pv 1))) aj)))) (fun _ _ _ _ _=>(have h:=(show List.Nodup (["number","factor"]:List Str) from by decide +kernel);(nS rfl (dn (aG (i:=0) h rfl (lo rfl)) (dn (aG (i:=1) h rfl (lo rfl)) jX))))) (fun _ _ _ _ _=>b6) (fun _ _ _ _ _=>(bo cO (ag (pv 0)) (ag (pv 1)))))) aj))))
abbrev kd:Stmt:=top 2
theorem rM:FnScope ["rows","numbers","width"] ["rows","numbers","width"] (defScope kd):=fs
theorem rN(Df:Def K mg "summed" kd)(Ei:mg "range" = none)(Gj:mg "sum" = none)(Ed:mg "tuple" = none)(Gk:mg "zip" = none):Ct P w K mg base "summed" 1 (spF K dR):=
 fI Df rM (fun _ _ _ _ _ _=>yw fun _ _ _=>rfl) fun f Er A outer s H E hr=>
  (av (bz (bZ fw (by rfl) Ed dj (ab (af (rh [none,some 0,some 1] ["at","rows","numbers"] rfl (cx (c7 (by rfl) Ei (ag (pv 2)))) (fun _ _ _ _ _=>(aG (i:=0) (show List.Nodup (["at","rows","numbers"]:List Str) from by decide +kernel) rfl (lo rfl))) (fun _ _ _ _ _=>b6) (fun _ _ _ _ _=>(aV (qQ rfl) (by rfl) Gj qX (ab (af (cT [none,none,some 0] ["row","number","at"] rfl (cx (mI (by rfl) Gk (ab (af (az (pv 1))) (ab (af (az (pv 2))) aj)))) (fun _ _ _ _ _=>(have h:=(show List.Nodup (["row","number","at"]:List Str) from by decide +kernel);(nS rfl (dn (aG (i:=0) h rfl (lo rfl)) (dn (aG (i:=1) h rfl (lo rfl)) jX))))) (fun _ _ _ _ _=>b6) (fun _ _ _ _ _=>(bo cO (af (cA (ag (pv 0)) (ag (pv 2)))) (ag (pv 1)))))) aj))))) aj))))
abbrev cP:Stmt:=top 3
theorem bQ:FnScope ["one","other","rest"] ["one","other"] (defScope cP):=fs
theorem gM(Df:Def K mg "common_divisor" cP)(He:mg "abs" = none):Ct P w K mg base "common_divisor" 1 (spF K aS):=
 fI Df bQ (fun _ _ _ _ _ _=>rL fun _ _=>rfl) fun f Er A outer s H E hr=>
  (ao (nR 100000 QF (aZ (lx hr.units) (ag (pv 1)) (af au) (a8 _))
  (ao (aW (i:=2) bQ.nd rfl (lo rfl) (bo xC (ag (pv 0)) (ag (pv 1))))
  (ao (aW (i:=0) bQ.nd rfl (lo rfl) (az (pv 1)))
  (av (aW (i:=1) bQ.nd rfl (lo rfl) (az (pv 2)))))))
  (av (bz (aV vR (by rfl) He bt_abs (ab (ag (pv 0)) aj)))))
abbrev ke:Stmt:=top 4
theorem gD:FnScope ["row","divisor","number"] ["row"] (defScope ke):=fs
theorem rO(Df:Def K mg "lowest" ke)(EA:Ct P w K mg base "common_divisor" 1 (spF K aS))(Ed:mg "tuple" = none):Ct P w K mg base "lowest" 2 (spF K bT):=
 fI Df gD (fun _ _ _ _ _ _=>A6 fun _=>rfl) fun f Er A outer s H E hr=>
  (ao (aW (i:=1) gD.nd rfl (lo rfl) au)
  (ao (ll QF rfl (iL (az (pv 0))) (aG (i:=2) gD.nd rfl (lo rfl))
  (av (aW (i:=1) gD.nd rfl (lo rfl) (br EA hr.m (by rfl) (ab (ag (pv 1)) (ab (ag (pv 2)) aj))))))
  (ao (dF (aZ (eU hr.units) (ag (pv 1)) (af au) (a8 _))
  (av (bz (iw (pv 0))))
  bB)
  (av (bz (bZ fw (by rfl) Ed dj (ab (af (cT [none,some 1] ["number","divisor"] rfl (fN (iE (pv 0)) (fN (cx (jm (az (pv 0)))) (cx (jn (az (pv 0)))))) (fun _ _ _ _ _=>(aG (i:=0) (show List.Nodup (["number","divisor"]:List Str) from by decide +kernel) rfl (lo rfl))) (fun _ _ _ _ _=>b6) (fun _ _ _ _ _=>(bo kc (ag (pv 0)) (ag (pv 1)))))) aj)))))))
abbrev iN:Stmt:=top 6
theorem pC:FnScope ["row","column","by"] ["row","column","by"] (defScope iN):=fs
theorem pD(Df:Def K mg "cleared" iN)(Jq:Ct P w K mg base "summed" 1 (spF K dR))(Ek:mg "len" = none):Ct P w K mg base "cleared" 2 (spF K b8):=
 fI Df pC (fun _ _ _ _ _ _=>yw fun _ _ _=>rfl) fun f Er A outer s H E hr=>
  (ao (dF (aZ (eU hr.units) (af (cA (ag (pv 0)) (ag (pv 1)))) (af au) (a8 _))
  (av (bz (iw (pv 0))))
  bB)
  (av (bz (br Jq hr.m (by rfl) (ab (af (eT (bG (az (pv 0)) (bG (az (pv 2)) b7)))) (ab (af (eT (bG (cA (ag (pv 2)) (ag (pv 1))) (bG (lB (af (cA (ag (pv 0)) (ag (pv 1))))) b7)))) (ab (af (aV bW (by rfl) Ek bt_len (ab (ag (pv 0)) aj))) aj)))))))
abbrev dX:Stmt:=top 7
theorem dC:FnScope ["leaders","column","leader","joined","other"] ["leaders","column","leader"] (defScope dX):=fs
theorem i6(Df:Def K mg "with_leader" dX)(Gh:Ct P w K mg base "cleared" 2 (spF K b8))(Fw:Ct P w K mg base "lowest" 2 (spF K bT)):Ct P w K mg base "with_leader" 3 (spM K (.d) bu):=
 lF Df dC (fun _ _ _ _ _ _=>yw fun _ _ _=>rfl) fun f Er A outer s H E hr=>
  (ao (aW (i:=3) dC.nd rfl (lo rfl) qT)
  (ao (mM QF rfl (pv 0) (aG (i:=4) dC.nd rfl (lo rfl))
  (av (vP (hu_of hr) (pv 3) (az (pv 4)) (br Fw hr.m (by rfl) (ab (af (br Gh hr.m (by rfl) (ab (af (q5 (hu_of hr) (ag (pv 0)) (ag (pv 4)))) (ab (ag (pv 1)) (ab (ag (pv 2)) aj))))) aj)))))
  (ao (vP (hu_of hr) (pv 3) (az (pv 1)) (az (pv 2)))
  (av (fZ (i:=0) (iw (pv 3)))))))
abbrev e9:Stmt:=top 8
theorem bx:FnScope ["rows","leaders","row","rest","column","filled"] ["rows"] (defScope e9):=fs
theorem kg(Df:Def K mg "leaders_of" e9)(Gh:Ct P w K mg base "cleared" 2 (spF K b8))(Fw:Ct P w K mg base "lowest" 2 (spF K bT))(GW:Ct P w K mg base "with_leader" 3 (spM K (.d) bu))(E5:mg "enumerate" = none)(Ek:mg "len" = none):Ct P w K mg base "leaders_of" 4 (spF K aE):=
 fI Df bx (fun _ _ _ _ _ _=>A6 fun _=>rfl) fun f Er A outer s H E hr=>
  (ao (aW (i:=1) bx.nd rfl (lo rfl) qT)
  (ao (ll QF rfl (iL (az (pv 0))) (aG (i:=2) bx.nd rfl (lo rfl))
  (ao (aW (i:=3) bx.nd rfl (lo rfl) (az (pv 2)))
  (ao (xG QF rfl (pv 1) (aG (i:=4) bx.nd rfl (lo rfl))
  (av (aW (i:=3) bx.nd rfl (lo rfl) (br Gh hr.m (by rfl) (ab (ag (pv 3)) (ab (ag (pv 4)) (ab (af (q5 (hu_of hr) (ag (pv 1)) (ag (pv 4)))) aj)))))))
  (ao (oh (i:=5) [none,none] ["column","number"] bx.nd rfl (lo rfl) rfl (cx (uB (by rfl) E5 (ab (af (az (pv 3))) aj))) (fun _ _ _ _ _=>(have h:=(show List.Nodup (["column","number"]:List Str) from by decide +kernel);(nS rfl (dn (aG (i:=0) h rfl (lo rfl)) (dn (aG (i:=1) h rfl (lo rfl)) jX))))) (fun _ _ _ _ _=>(jZ (aZ (lx hr.units) (ag (pv 1)) (af au) (a8 _)))) (fun _ _ _ _ _=>(az (pv 0))))
  (av (dF (jk ud (af (aV bW (by rfl) Ek bt_len (ab (ag (pv 5)) aj))) (af au) (a8 _))
  (av (aW (i:=1) bx.nd rfl (lo rfl) (cN (i:=1) GW hr.m (by rfl) (ab (ag (pv 1)) (ab (af (cA (ag (pv 5)) (af au))) (ab (af (br Fw hr.m (by rfl) (ab (ag (pv 3)) aj))) aj))))))
  bB))))))
  (av (bz (iw (pv 1))))))
abbrev fg:Stmt:=top 9
theorem bI:FnScope ["leaders","column","width","scale","at","leading","told"] ["leaders","column","width"] (defScope fg):=fs
theorem kh(Df:Def K mg "kernel_row" fg)(EA:Ct P w K mg base "common_divisor" 1 (spF K aS))(Fw:Ct P w K mg base "lowest" 2 (spF K bT))(He:mg "abs" = none)(Ed:mg "tuple" = none):Ct P w K mg base "kernel_row" 3 (spM K (.d) aD):=
 lF Df bI (fun _ _ _ _ _ _=>yw fun _ _ _=>rfl) fun f Er A outer s H E hr=>
  (ao (aW (i:=3) bI.nd rfl (lo rfl) au)
  (ao (mM QF rfl (pv 0) (aG (i:=4) bI.nd rfl (lo rfl))
  (ao (aW (i:=5) bI.nd rfl (lo rfl) (cA (af (q5 (hu_of hr) (ag (pv 0)) (ag (pv 4)))) (ag (pv 4))))
  (av (aW (i:=3) bI.nd rfl (lo rfl) (bo kc (af (aV vR (by rfl) He bt_abs (ab (af (bo cO (ag (pv 3)) (ag (pv 5)))) aj))) (af (br EA hr.m (by rfl) (ab (ag (pv 3)) (ab (ag (pv 5)) aj)))))))))
  (ao (aW (i:=6) bI.nd rfl (lo rfl) (bo cO (af (eT (bG au b7))) (ag (pv 2))))
  (ao (mJ (pv 6) (az (pv 1)) (az (pv 3)))
  (ao (mM QF rfl (pv 0) (aG (i:=4) bI.nd rfl (lo rfl))
  (av (mJ (pv 6) (az (pv 4)) (bo cO (af (lB (af (cA (af (q5 (hu_of hr) (ag (pv 0)) (ag (pv 4)))) (ag (pv 1)))))) (af (bo kc (ag (pv 3)) (af (cA (af (q5 (hu_of hr) (ag (pv 0)) (ag (pv 4)))) (ag (pv 4))))))))))
  (av (fZ (i:=0) (br Fw hr.m (by rfl) (ab (af (bZ fw (by rfl) Ed dj (ab (ag (pv 6)) aj))) aj)))))))))
abbrev ki:Stmt:=top 10
theorem lN:FnScope ["rows","width","leaders"] ["rows","width"] (defScope ki):=fs
theorem rQ(Df:Def K mg "kernel" ki)(Ff:Ct P w K mg base "kernel_row" 3 (spM K (.d) aD))(Fg:Ct P w K mg base "leaders_of" 4 (spF K aE))(Ei:mg "range" = none):Ct P w K mg base "kernel" 5 (spF K fC):=
 fI Df lN (fun _ _ _ _ _ _=>rL fun _ _=>rfl) fun f Er A outer s H E hr=>
  (ao (aW (i:=2) lN.nd rfl (lo rfl) (br Fg hr.m (by rfl) (ab (ag (pv 0)) aj)))
  (av (bz (uF (j:=2) (k0:=1) [none,some 2,some 1] ["column","leaders","width"] rfl (c7 (by rfl) Ei (ag (pv 1))) (fun _ _ _ _ _=>(aG (i:=0) (show List.Nodup (["column","leaders","width"]:List Str) from by decide +kernel) rfl (lo rfl))) (fun _ _ _ _ _=>(jZ (aZ (mL hr.u65) (ag (pv 0)) (ag (pv 1)) (by with_unfolding_all rfl)))) (fun _ _ _ _ _=>(cN (i:=1) Ff hr.m (by rfl) (ab (ag (pv 1)) (ab (ag (pv 0)) (ab (ag (pv 2)) aj)))))))))
abbrev dY:Stmt:=top 11
theorem fT:FnScope ["rows","width","leaders"] ["rows","width"] (defScope dY):=fs
theorem i7(Df:Def K mg "closing_row" dY)(Ff:Ct P w K mg base "kernel_row" 3 (spM K (.d) aD))(Fg:Ct P w K mg base "leaders_of" 4 (spF K aE)):Ct P w K mg base "closing_row" 5 (spF K bH):=
 fI Df fT (fun _ _ _ _ _ _=>rL fun _ _=>rfl) fun f Er A outer s H E hr=>
  (ao (aW (i:=2) fT.nd rfl (lo rfl) (br Fg hr.m (by rfl) (ab (ag (pv 0)) aj)))
  (ao (dF (aZ (z5 hr.u65) (af (bo lq (ag (pv 1)) (af au))) (ag (pv 2)) (by with_unfolding_all rfl))
  (av (bz vD))
  bB)
  (av (bz (cN (i:=2) Ff hr.m (by rfl) (ab (ag (pv 2)) (ab (af (bo lq (ag (pv 1)) (af au))) (ab (ag (pv 1)) aj))))))))
abbrev iO:Stmt:=top 13
theorem fD:FnScope ["rows","row","joined","columns","closing"] ["rows","row"] (defScope iO):=fs
theorem pE(Df:Def K mg "spanned" iO)(GX:Ct P w K mg base "closing_row" 5 (spF K bH))(Jr:Ct P w K mg base "kernel" 5 (spF K fC))(IG:Ct P w K mg base "product" 1 (spF K cH))(Ek:mg "len" = none)(EV:mg "list" = none)(Ei:mg "range" = none)(Ed:mg "tuple" = none):Ct P w K mg base "spanned" 6 (spF K aT):=
 fI Df fD (fun _ _ _ _ _ _=>rL fun _ _=>rfl) fun f Er A outer s H E hr=>
  (ao (aW (i:=2) fD.nd rfl (lo rfl) (bo eV (af (bZ mE (by rfl) EV jL (ab (ag (pv 0)) aj))) (af (eT (bG (az (pv 1)) b7)))))
  (ao (rF (i:=3) [none,some 2] ["at","joined"] fD.nd rfl (lo rfl) rfl (cx (c7 (by rfl) Ei (af (aV bW (by rfl) Ek bt_len (ab (ag (pv 1)) aj))))) (fun _ _ _ _ _=>(aG (i:=0) (show List.Nodup (["at","joined"]:List Str) from by decide +kernel) rfl (lo rfl))) (fun _ _ _ _ _=>b6) (fun _ _ _ _ _=>(bZ fw (by rfl) Ed dj (ab (af (cT [none,some 0] ["one","at"] rfl (fN (iE (pv 1)) (fN (cx (jm (az (pv 1)))) (cx (jn (az (pv 1)))))) (fun _ _ _ _ _=>(aG (i:=0) (show List.Nodup (["one","at"]:List Str) from by decide +kernel) rfl (lo rfl))) (fun _ _ _ _ _=>b6) (fun _ _ _ _ _=>(cA (ag (pv 0)) (ag (pv 1)))))) aj))))
  (ao (aW (i:=4) fD.nd rfl (lo rfl) (br GX hr.m (by rfl) (ab (ag (pv 3)) (ab (af (aV bW (by rfl) Ek bt_len (ab (ag (pv 2)) aj))) aj))))
  (ao (dF (aZ BP (ag (pv 4)) (af vD) (a8 _))
  (av (bz (zM (bG (eP B0 (by decide)) (bG (cA (af (cT [none,some 1] ["other","row"] rfl (cx (iL (br Jr hr.m (by rfl) (ab (ag (pv 0)) (ab (af (aV bW (by rfl) Ek bt_len (ab (ag (pv 1)) aj))) aj))))) (fun _ _ _ _ _=>(aG (i:=0) (show List.Nodup (["other","row"]:List Str) from by decide +kernel) rfl (lo rfl))) (fun _ _ _ _ _=>(jZ (aZ (lx hr.units) (af (br IG hr.m (by rfl) (ab (ag (pv 0)) (ab (ag (pv 1)) aj)))) (af au) (a8 _)))) (fun _ _ _ _ _=>(az (pv 0))))) (af au)) b7)))))
  bB)
  (av (bz (Ac (eP Ae (by decide)) (cA (ag (pv 4)) (af (lB (af au)))) (cT [none] ["number"] rfl (cx (iL (vQ (ag (pv 4)) qK (qL (lB (af au)))))) (fun _ _ _ _ _=>(aG (i:=0) (show List.Nodup (["number"]:List Str) from by decide +kernel) rfl (lo rfl))) (fun _ _ _ _ _=>b6) (fun _ _ _ _ _=>(lB (ag (pv 0))))))))))))
abbrev dD:Stmt:=top 15
theorem cb:FnScope ["_law_script","_law_most","_law_deck","_law_last"] ["_law_script","_law_most"] (defScope dD):=fs
theorem iP(Df:Def K mg "_law_numbers" dD)(Ek:mg "len" = none)(EV:mg "list" = none)(Fh:mg "reversed" = none)(Gj:mg "sum" = none):Ct P w K mg base "_law_numbers" 1 (spF K bK):=
 fI Df cb (fun _ _ _ _ _ _=>rL fun _ _=>rfl) fun f Er A outer s H E hr=>
  (ao (oh (i:=2) [none] ["_law_cell"] cb.nd rfl (lo rfl) rfl (cx (iL (vQ (ag (pv 0)) qK (qL (az (pv 1)))))) (fun _ _ _ _ _=>(aG (i:=0) (show List.Nodup (["_law_cell"]:List Str) from by decide +kernel) rfl (lo rfl))) (fun _ _ _ _ _=>b6) (fun _ _ _ _ _=>(bo iy (ag (pv 0)) (af (bo jq (af au) (af au))))))
  (ao (aW (i:=3) cb.nd rfl (lo rfl) (bo eV (af au) (af (bo iy (af (aV (qQ rfl) (by rfl) Gj qX (ab (ag (pv 2)) aj))) (af au)))))
  (ao (nR 100000 QF (jk (vM hr.units0) (af (aV bW (by rfl) Ek bt_len (ab (ag (pv 2)) aj))) (ag (pv 1)) (a8 _))
  (ao (aW (i:=3) cb.nd rfl (lo rfl) (bo iy (af (bo eV (af (bo eV (af (bo cO (ag (pv 3)) (ag (pv 3)))) (af (bo cO (af au) (ag (pv 3)))))) (af (aV bW (by rfl) Ek bt_len (ab (ag (pv 2)) aj))))) (af au)))
  (av (qH (qN (pv 2) (az (pv 3)))))))
  (av (bz (z9 rfl (by rfl) EV (by rfl) Fh (ab (ag (pv 2)) aj)))))))
abbrev f6:Stmt:=top 16
theorem lO:FnScope ["_law_deck","_law_most"] ["_law_deck","_law_most"] (defScope f6):=fs
theorem lP(Df:Def K mg "_law_draw" f6):Ct P w K mg base "_law_draw" 1 (spM K (.l .f) aI):=
 lF Df lO (fun _ _ _ _ _ _=>rL fun _ _=>rfl) fun f Er A outer s H E hr=>
  (ao (dF (aZ (eU hr.units) (ag (pv 0)) (af (eT b7)) (a8 _))
  (av (fZ (i:=0) au))
  bB)
  (av (fZ (i:=0) (bo iy (af (z6 (pv 0))) (ag (pv 1))))))
abbrev dZ:Stmt:=top 17
theorem fU:FnScope ["_law_deck","_law_number_here"] ["_law_deck"] (defScope dZ):=fs
theorem i8(Df:Def K mg "_law_number" dZ)(Ep:Ct P w K mg base "_law_draw" 1 (spM K (.l .f) aI)):Ct P w K mg base "_law_number" 2 (spM K (.l .f) bw):=
 lF Df fU (fun _ _ _ _ _ _=>A6 fun _=>rfl) fun f Er A outer s H E hr=>
  (ao (aW (i:=1) fU.nd rfl (lo rfl) (cN (i:=0) Ep hr.m (by rfl) (ab (ag (pv 0)) (ab (af (bo jq (af au) (af au))) aj))))
  (ao (dF (aZ (eU hr.units) (af (bo iy (ag (pv 1)) (af au))) (af au) (a8 _))
  (av (fZ (i:=0) (bo lq (af (bo iy (af (bo qJ (ag (pv 1)) (af au))) (af (bo eV (af (bo cO (af au) (af (bo jq (af au) (af au))))) (af au))))) (af (bo jq (af au) (af au))))))
  bB)
  (av (fZ (i:=0) (bo lq (af (bo iy (af (bo qJ (ag (pv 1)) (af au))) (af au))) (af au))))))
abbrev gN:Stmt:=top 18
theorem mP:FnScope ["_law_deck","_law_width"] ["_law_deck","_law_width"] (defScope gN):=fs
theorem mQ(Df:Def K mg "_law_row" gN)(GY:Ct P w K mg base "_law_number" 2 (spM K (.l .f) bw))(Ei:mg "range" = none)(Ed:mg "tuple" = none):Ct P w K mg base "_law_row" 3 (spM K (.l .f) bL):=
 lF Df mP (fun _ _ _ _ _ _=>rL fun _ _=>rfl) fun f Er A outer s H E hr=>
  (av (fZ (i:=0) (bZ fw (by rfl) Ed dj (ab (af (oq (j:=0) (k0:=1) [none,some 0] ["_law_k","_law_deck"] rfl (c7 (by rfl) Ei (ag (pv 1))) (fun _ _ _ _ _=>(aG (i:=0) (show List.Nodup (["_law_k","_law_deck"]:List Str) from by decide +kernel) rfl (lo rfl))) (fun _ _ _ _ _=>b6) (fun _ _ _ _ _=>(cN (i:=1) GY hr.m (by rfl) (ab (ag (pv 1)) aj))))) aj))))
abbrev dE:Stmt:=top 19
theorem cf:FnScope ["_law_one","_law_other","_law_total","_law_k"] ["_law_one","_law_other"] (defScope dE):=fs
theorem iQ(Df:Def K mg "_law_product" dE)(Ek:mg "len" = none)(Ei:mg "range" = none):Ct P w K mg base "_law_product" 1 (spF K aP):=
 fI Df cf (fun _ _ _ _ _ _=>rL fun _ _=>rfl) fun f Er A outer s H E hr=>
  (ao (aW (i:=2) cf.nd rfl (lo rfl) au)
  (ao (ll QF rfl (c7 (by rfl) Ei (af (aV bW (by rfl) Ek bt_len (ab (ag (pv 0)) aj)))) (aG (i:=3) cf.nd rfl (lo rfl))
  (av (aW (i:=2) cf.nd rfl (lo rfl) (bo eV (ag (pv 2)) (af (bo cO (af (cA (ag (pv 0)) (ag (pv 3)))) (af (cA (ag (pv 1)) (ag (pv 3))))))))))
  (av (bz (iw (pv 2))))))
abbrev gO:Stmt:=top 20
theorem dh:FnScope ["_law_rows","_law_numbers_here","_law_width","_law_due","_law_row_here","_law_number_here","_law_k"] ["_law_rows","_law_numbers_here","_law_width"] (defScope gO):=fs
theorem mR(Df:Def K mg "_law_sum" gO)(Ei:mg "range" = none)(Ed:mg "tuple" = none)(Gk:mg "zip" = none):Ct P w K mg base "_law_sum" 1 (spF K aX):=
 fI Df dh (fun _ _ _ _ _ _=>yw fun _ _ _=>rfl) fun f Er A outer s H E hr=>
  (ao (aW (i:=3) dh.nd rfl (lo rfl) (bo cO (af (eT (bG au b7))) (ag (pv 2))))
  (ao (ll QF rfl (mI (by rfl) Gk (ab (af (az (pv 0))) (ab (af (az (pv 1))) aj))) (nS rfl (dn (aG (i:=4) dh.nd rfl (lo rfl)) (dn (aG (i:=5) dh.nd rfl (lo rfl)) jX)))
  (av (ll QF rfl (c7 (by rfl) Ei (ag (pv 2))) (aG (i:=6) dh.nd rfl (lo rfl))
  (av (mJ (pv 3) (az (pv 6)) (bo eV (af (cA (ag (pv 3)) (ag (pv 6)))) (af (bo cO (af (cA (ag (pv 4)) (ag (pv 6)))) (ag (pv 5))))))))))
  (av (bz (bZ fw (by rfl) Ed dj (ab (ag (pv 3)) aj))))))
abbrev fm:Stmt:=top 21
theorem kj:FnScope ["_law_found"] ["_law_found"] (defScope fm):=fs
theorem kn(Df:Def K mg "_law_whole" fm)(Hm:mg "bool" = none)(Im:mg "int" = none)(D7:mg "isinstance" = none):Ct P w K mg base "_law_whole" 1 (spF K aJ):=
 fI Df kj (fun _ _ _ _ _ _=>A6 fun _=>rfl) fun f Er A outer s H E hr=>
  (av (bz (qG (qR (T:="int") (by decide) (ag (pv 0)) (by rfl) D7 (by rfl) Im zk) (qE (zH (qR (T:="bool") (by decide) (ag (pv 0)) (by rfl) D7 (by rfl) Hm wW))))))
abbrev d8:Stmt:=top 22
theorem i9:FnScope ["_law_told","_law_width"] ["_law_told","_law_width"] (defScope d8):=fs
theorem ja(Df:Def K mg "_law_is_row" d8)(Ey:Ct P w K mg base "_law_whole" 1 (spF K aJ))(D7:mg "isinstance" = none)(Ek:mg "len" = none)(Ed:mg "tuple" = none):Ct P w K mg base "_law_is_row" 2 (spF K bP):=
 fI Df i9 (fun _ _ _ _ _ _=>rL fun _ _=>rfl) fun f Er A outer s H E hr=>
  (ao (dF (QW.qt (t9 (qD (jj (qR (T:="tuple") (by decide) (ag (pv 0)) (by rfl) D7 (by rfl) Ed dj))) (nQ (aZ (lx hr.units) (af (aV bW (by rfl) Ek bt_len (ab (ag (pv 0)) aj))) (ag (pv 1)) (a8 _)))))
  (av (bz qA))
  bB)
  (av (bz (gG (mL hr.u65) (af qA) (af (cT [none] ["_law_number_here"] rfl (fN (iE (pv 0)) (fN (cx (jm (az (pv 0)))) (cx (jn (az (pv 0)))))) (fun _ _ _ _ _=>(aG (i:=0) (show List.Nodup (["_law_number_here"]:List Str) from by decide +kernel) rfl (lo rfl))) (fun _ _ _ _ _=>b6) (fun _ _ _ _ _=>(br Ey hr.m (by rfl) (ab (ag (pv 0)) aj))))) (by with_unfolding_all rfl)))))
abbrev cj:Stmt:=top 23
theorem f7:FnScope ["_law_told","_law_count"] ["_law_told","_law_count"] (defScope cj):=fs
theorem f9(Df:Def K mg "_law_are_numbers" cj)(Ey:Ct P w K mg base "_law_whole" 1 (spF K aJ))(D7:mg "isinstance" = none)(Ek:mg "len" = none)(EV:mg "list" = none):Ct P w K mg base "_law_are_numbers" 2 (spF K aQ):=
 fI Df f7 (fun _ _ _ _ _ _=>rL fun _ _=>rfl) fun f Er A outer s H E hr=>
  (ao (dF (QW.qt (t9 (qD (jj (qR (T:="list") (by decide) (ag (pv 0)) (by rfl) D7 (by rfl) EV jL))) (nQ (aZ (lx hr.units) (af (aV bW (by rfl) Ek bt_len (ab (ag (pv 0)) aj))) (ag (pv 1)) (a8 _)))))
  (av (bz qA))
  bB)
  (av (bz (gG (mL hr.u65) (af qA) (af (cT [none] ["_law_number_here"] rfl (fN (iE (pv 0)) (fN (cx (jm (az (pv 0)))) (cx (jn (az (pv 0)))))) (fun _ _ _ _ _=>(aG (i:=0) (show List.Nodup (["_law_number_here"]:List Str) from by decide +kernel) rfl (lo rfl))) (fun _ _ _ _ _=>b6) (fun _ _ _ _ _=>(br Ey hr.m (by rfl) (ab (ag (pv 0)) aj))))) (by with_unfolding_all rfl)))))
abbrev d9:Stmt:=top 24
theorem fV:FnScope ["_law_told","_law_rows","_law_row_here","_law_width"] ["_law_told","_law_rows","_law_row_here"] (defScope d9):=fs
theorem jb(Df:Def K mg "_law_walked" d9)(F1:Ct P w K mg base "_law_are_numbers" 2 (spF K aQ))(GZ:Ct P w K mg base "_law_is_row" 2 (spF K bP))(Fx:Ct P w K mg base "_law_product" 1 (spF K aP))(EW:Ct P w K mg base "_law_sum" 1 (spF K aX))(Ey:Ct P w K mg base "_law_whole" 1 (spF K aJ))(D7:mg "isinstance" = none)(Ek:mg "len" = none)(Ed:mg "tuple" = none):Ct P w K mg base "_law_walked" 3 (spF K a7):=
 fI Df fV (fun _ _ _ _ _ _=>yw fun _ _ _=>rfl) fun f Er A outer s H E hr=>
  (ao (aW (i:=3) fV.nd rfl (lo rfl) (aV bW (by rfl) Ek bt_len (ab (ag (pv 2)) aj)))
  (ao (dF (QW.qt (t9 (qD (jj (qR (T:="tuple") (by decide) (ag (pv 0)) (by rfl) D7 (by rfl) Ed dj))) (nQ (jk (vM hr.units0) (af (aV bW (by rfl) Ek bt_len (ab (ag (pv 0)) aj))) (af au) (a8 _)))))
  (av (bz (eP B1 (by decide))))
  bB)
  (ao (dF (QW.qt (jl (aZ (eU hr.units) (af (cA (ag (pv 0)) (af au))) (af (eP Ae (by decide))) (a8 _)) (jl (aZ (eU hr.units) (af (aV bW (by rfl) Ek bt_len (ab (ag (pv 0)) aj))) (af au) (a8 _)) (jl (jj (br Ey hr.m (by rfl) (ab (af (cA (ag (pv 0)) (af au))) aj))) (my (jk ud (af (cA (ag (pv 0)) (af au))) (af au) (a8 _)))))))
  (av (dF (jj (br F1 hr.m (by rfl) (ab (af (cA (ag (pv 0)) (af au))) (ab (af (aV bW (by rfl) Ek bt_len (ab (ag (pv 1)) aj))) aj))))
  (av (dF (aZ (eU hr.units) (af (br EW hr.m (by rfl) (ab (ag (pv 1)) (ab (af (cA (ag (pv 0)) (af au))) (ab (ag (pv 3)) aj))))) (af (br EW hr.m (by rfl) (ab (af (eT (bG (az (pv 2)) b7))) (ab (af (eT (bG (cA (ag (pv 0)) (af au)) b7))) (ab (ag (pv 3)) aj))))) (a8 _))
  (av (bz (eP Ae (by decide))))
  bB))
  bB))
  bB)
  (ao (dF (QW.qt (jl (aZ (eU hr.units) (af (cA (ag (pv 0)) (af au))) (af (eP B0 (by decide))) (a8 _)) (jl (aZ (eU hr.units) (af (aV bW (by rfl) Ek bt_len (ab (ag (pv 0)) aj))) (af au) (a8 _)) (my (jj (br GZ hr.m (by rfl) (ab (af (cA (ag (pv 0)) (af au))) (ab (ag (pv 3)) aj))))))))
  (av (dF (aZ (eU hr.units) (af (cT [none,some 0] ["_law_one","_law_told"] rfl (fN (iE (pv 1)) (fN (cx (jm (az (pv 1)))) (cx (jn (az (pv 1)))))) (fun _ _ _ _ _=>(aG (i:=0) (show List.Nodup (["_law_one","_law_told"]:List Str) from by decide +kernel) rfl (lo rfl))) (fun _ _ _ _ _=>(jZ (aZ (lx hr.units) (af (br Fx hr.m (by rfl) (ab (ag (pv 0)) (ab (af (cA (ag (pv 1)) (af au))) aj)))) (af au) (a8 _)))) (fun _ _ _ _ _=>(az (pv 0))))) (af (eT b7)) (a8 _))
  (av (dF (aZ (lx hr.units) (af (br Fx hr.m (by rfl) (ab (ag (pv 2)) (ab (af (cA (ag (pv 0)) (af au))) aj)))) (af au) (a8 _))
  (av (bz (eP B0 (by decide))))
  bB))
  bB))
  bB)
  (av (bz (eP B1 (by decide))))))))
abbrev ko:Stmt:=top 25
theorem eN:FnScope ["_law_script","_law_deck","_law_width","_law_rows","_law_row_here","_law_way","_law_handed","_law_told","_law_verdict","_law_kept"] ["_law_script"] (defScope ko):=fs
theorem Af{f:Addr}{fd:FuncData}(F:Fun K "law" "law" ko f fd)(Ep:Ct P w K mg base "_law_draw" 1 (spM K (.l .f) aI))(GJ:Ct P w K mg base "_law_numbers" 1 (spF K bK))(GK:Ct P w K mg base "_law_row" 3 (spM K (.l .f) bL))(EW:Ct P w K mg base "_law_sum" 1 (spF K aX))(G0:Ct P w K mg base "_law_walked" 3 (spF K a7))(Gi:Ct P w K mg base "spanned" 6 (spF K aT))(EV:mg "list" = none)(Ei:mg "range" = none):FnOk P w K mg base IL 7 f fd ["_law_script"] (spF K m_law):=
 fnok_of F eN fun Er A outer s H E hr=>
  (ao (aW (i:=1) eN.nd rfl (lo rfl) (br GJ hr.m (by rfl) (ab (ag (pv 0)) (ab (af au) aj))))
  (ao (aW (i:=2) eN.nd rfl (lo rfl) (cN (i:=1) Ep hr.m (by rfl) (ab (ag (pv 1)) (ab (af au) aj))))
  (ao (ot (i:=3) (j:=1) (k0:=1) [none,some 1,some 2] ["_law_k","_law_deck","_law_width"] eN.nd rfl (lo rfl) rfl (c7 (by rfl) Ei (af (cN (i:=1) Ep hr.m (by rfl) (ab (ag (pv 1)) (ab (af au) aj))))) (fun _ _ _ _ _=>(aG (i:=0) (show List.Nodup (["_law_k","_law_deck","_law_width"]:List Str) from by decide +kernel) rfl (lo rfl))) (fun _ _ _ _ _=>b6) (fun _ _ _ _ _=>(cN (i:=1) GK hr.m (by rfl) (ab (ag (pv 1)) (ab (ag (pv 2)) aj)))))
  (ao (aW (i:=4) eN.nd rfl (lo rfl) (cN (i:=1) GK hr.m (by rfl) (ab (ag (pv 1)) (ab (ag (pv 2)) aj))))
  (ao (aW (i:=5) eN.nd rfl (lo rfl) (cN (i:=1) Ep hr.m (by rfl) (ab (ag (pv 1)) (ab (af au) aj))))
  (ao (dF (jk ud (ag (pv 5)) (af au) (a8 _))
  (av (aW (i:=4) eN.nd rfl (lo rfl) (br EW hr.m (by rfl) (ab (ag (pv 3)) (ab (af (oq (j:=1) (k0:=1) [none,some 1] ["_law_one","_law_deck"] rfl (iL (az (pv 3))) (fun _ _ _ _ _=>(aG (i:=0) (show List.Nodup (["_law_one","_law_deck"]:List Str) from by decide +kernel) rfl (lo rfl))) (fun _ _ _ _ _=>b6) (fun _ _ _ _ _=>(bo lq (af (cN (i:=1) Ep hr.m (by rfl) (ab (ag (pv 1)) (ab (af (bo cO (af au) (af (bo jq (af au) (af au))))) aj)))) (af (bo jq (af au) (af au))))))) (ab (ag (pv 2)) aj))))))
  bB)
  (ao (dF (aZ (eU hr.units) (ag (pv 5)) (af au) (a8 _))
  (av (ot (i:=3) (j:=1) (k0:=1) [none,some 1,some 2] ["_law_one","_law_deck","_law_width"] eN.nd rfl (lo rfl) rfl (iL (az (pv 3))) (fun _ _ _ _ _=>(aG (i:=0) (show List.Nodup (["_law_one","_law_deck","_law_width"]:List Str) from by decide +kernel) rfl (lo rfl))) (fun _ _ _ _ _=>b6) (fun _ _ _ _ _=>(br EW hr.m (by rfl) (ab (af (eT (bG (az (pv 0)) b7))) (ab (af (eT (bG (bo eV (af au) (af (cN (i:=1) Ep hr.m (by rfl) (ab (ag (pv 1)) (ab (af au) aj))))) b7))) (ab (ag (pv 2)) aj)))))))
  bB)
  (ao (aW (i:=6) eN.nd rfl (lo rfl) (bZ mE (by rfl) EV jL (ab (ag (pv 3)) aj)))
  (ao (aW (i:=7) eN.nd rfl (lo rfl) (br Gi hr.m (by rfl) (ab (ag (pv 6)) (ab (ag (pv 4)) aj))))
  (ao (aW (i:=8) eN.nd rfl (lo rfl) (br G0 hr.m (by rfl) (ab (ag (pv 7)) (ab (ag (pv 3)) (ab (ag (pv 4)) aj)))))
  (ao (dF (QW.qt (t9 (aZ (eU hr.units) (ag (pv 8)) (af (eP B1 (by decide))) (a8 _)) (nQ (QW.qt (jl (jk ud (ag (pv 5)) (af au) (a8 _)) (my (aZ (lx hr.units) (ag (pv 8)) (af (eP Ae (by decide))) (a8 _))))))))
  (av (bz qA))
  bB)
  (ao (dF (aZ (eU hr.units) (ag (pv 8)) (af (eP Ae (by decide))) (a8 _))
  (ao (aW (i:=9) eN.nd rfl (lo rfl) (xB (bZ mE (by rfl) EV jL (ab (af (cA (ag (pv 7)) (af au))) aj))))
  (ao (qH (xI (pv 7) au))
  (av (bz (qG (gG (eU hr.units) (af (cA (af (br Gi hr.m (by rfl) (ab (ag (pv 6)) (ab (ag (pv 4)) aj)))) (af au))) (ag (pv 9)) (a8 _)) (qE (gG (eU hr.units) (ag (pv 6)) (ag (pv 3)) (a8 _))))))))
  bB)
  (av (bz (qG (gG (eU hr.units) (af (br Gi hr.m (by rfl) (ab (ag (pv 6)) (ab (ag (pv 4)) aj)))) (ag (pv 7)) (a8 _)) (qE (gG (eU hr.units) (ag (pv 6)) (ag (pv 3)) (a8 _))))))))))))))))))
end
end LW
namespace PV
open PySem L2 NX
class Cont (α β:Type) where
 run:α->Res β
def Res.bnd{α β:Type}[f:Cont α β](x:Res α):Res β:=x.bind f.run
theorem FD{α β:Type}(a:α)(f:α->Res β):Res.bnd (Res.ok a) (f:=⟨f⟩)=f a:=id rfl
section
variable(env:PV.Env)(i n:Nat)(d:D)(f g:FX)(c c':FT)(fo Ny fo'':FO)(fs:FOs)(fd:FDs)(s t:FS)(op op':D->D->Res R)(F:List D->Res R)(a:FG)(as:JQ)(fi fj:FI)(fp D2:FP)(T:String)
theorem Ls:aF d env=.ok ((.f,d),env):=id rfl
theorem Io:aM i env=match env[i]? with|some (some r)=>.ok ((.f,r.2),env.set i (some (fz r.1,r.2)))|_=>.bad:=id rfl
theorem MW:fz .f=.f:=id rfl
theorem MX(c:O):fz (.l c)=.f:=id rfl
theorem J0(p:Addr):sX (.pin p .f)=true:=id rfl
theorem Js(p:Addr):sX (.pin p .d)=true:=id rfl
theorem J2:lh i env=match env[i]? with|some (some r)=>.ok (r,env.set i none)|_=>.bad:=id rfl
theorem Lu:aq f env=Res.bnd (f env) (f:=⟨fun p=>.ok (.val p.1.2,p.2)⟩):=id rfl
theorem Lv:ak i env=match env[i]? with|some (some _)=>.ok (.var i,env)|_=>.bad:=id rfl
theorem J3:ar env=.ok ([],env):=id rfl
theorem Jt:ae fo fs env=Res.bnd (fo env) (f:=⟨fun p=>Res.bnd (fs p.2) (f:=⟨fun q=>.ok (p.1::q.1,q.2)⟩)⟩):=id rfl
theorem J4:eS env=.ok ([],env):=id rfl
theorem Ju:cw f fd env=Res.bnd (f env) (f:=⟨fun p=>Res.bnd (fd p.2) (f:=⟨fun q=>.ok (p.1.2::q.1,q.2)⟩)⟩):=id rfl
theorem Lw:Gd env (.val d)=.ok d:=id rfl
theorem Lx:Gd env (.var i)=match env[i]? with|some (some r)=>if sX r.1 then .ok r.2 else .bad|_=>.bad:=id rfl
theorem El:pd env (.val d)=.ok d:=id rfl
theorem Em:pd env (.var i)=match env[i]? with|some (some r)=>.ok r.2|_=>.bad:=id rfl
theorem J5:pK env []=.ok []:=id rfl
theorem J6(o:Opd)(os:List Opd):pK env (o::os)=Res.bnd (Gd env o) (f:=⟨fun d=>Res.bnd (pK env os) (f:=⟨fun ds=>.ok (d::ds)⟩)⟩):=id rfl
theorem Jv:iY env []=.ok []:=id rfl
theorem Jw(o:Opd)(os:List Opd):iY env (o::os)=Res.bnd (pd env o) (f:=⟨fun d=>Res.bnd (iY env os) (f:=⟨fun ds=>.ok (d::ds)⟩)⟩):=id rfl
theorem J7:sX .f=true:=id rfl
theorem J8:sX (.l .f)=true:=id rfl
theorem Ly:aR op fo Ny env=Res.bnd (fo env) (f:=⟨fun p=>Res.bnd (Ny p.2) (f:=⟨fun q=>Res.bnd (Gd q.2 p.1) (f:=⟨fun a=>Res.bnd (Gd q.2 q.1) (f:=⟨fun b=>Res.bnd (op a b) (f:=⟨fun r=>.ok (r,q.2)⟩)⟩)⟩)⟩)⟩):=id rfl
theorem J9:aN op fo Ny env=Res.bnd (fo env) (f:=⟨fun p=>Res.bnd (Ny p.2) (f:=⟨fun q=>Res.bnd (pd q.2 p.1) (f:=⟨fun a=>Res.bnd (pd q.2 q.1) (f:=⟨fun b=>Res.bnd (op a b) (f:=⟨fun r=>.ok (r,q.2)⟩)⟩)⟩)⟩)⟩):=id rfl
theorem MY:Es f env=Res.bnd (f env) (f:=⟨fun p=>match p.1.2 with | .bl k=>.ok (k,p.2)|_=>.bad⟩):=id rfl
theorem Lz:t8 c c' env=Res.bnd (c env) (f:=⟨fun p=>if p.1 then c' p.2 else .ok (false,p.2)⟩):=id rfl
theorem MZ:Le c c' env=Res.bnd (c env) (f:=⟨fun p=>if p.1 then .ok (true,p.2) else c' p.2⟩):=id rfl
theorem LA:zy c env=Res.bnd (c env) (f:=⟨fun p=>.ok (!p.1,p.2)⟩):=id rfl
theorem LB:vE f g env=Res.bnd (f env) (f:=⟨fun p=>match p.1.2 with | .bl true=>g p.2 | .bl false=>.ok ((.f,.bl false),p.2)|_=>.bad⟩):=id rfl
theorem LD:BG f env=Res.bnd (f env) (f:=⟨fun p=>match p.1.2 with | .bl k=>.ok ((.f,.bl (!k)),p.2)|_=>.bad⟩):=id rfl
theorem Ka:bh F fs env=Res.bnd (fs env) (f:=⟨fun p=>Res.bnd (pK p.2 p.1) (f:=⟨fun ds=>Res.bnd (F ds) (f:=⟨fun r=>.ok (r,p.2)⟩)⟩)⟩):=id rfl
theorem LF:cS F fs env=Res.bnd (fs env) (f:=⟨fun p=>Res.bnd (iY p.2 p.1) (f:=⟨fun ds=>Res.bnd (F ds) (f:=⟨fun r=>.ok (r,if aB r.1 r.2 then p.2 else p.2.map frz)⟩)⟩)⟩):=id rfl
theorem LG:BK fd env=Res.bnd (fd env) (f:=⟨fun p=>if p.1.length<=1000 then .ok ((.f,.tup p.1),p.2) else .bad⟩):=id rfl
theorem LH:mi fd env=Res.bnd (fd env) (f:=⟨fun p=>if p.1.length<=1000 then .ok ((.l .f,.lst p.1),p.2) else .bad⟩):=id rfl
theorem Kb:ue env=.ok (none,env):=id rfl
theorem Kc:uf f env=Res.bnd (f env) (f:=⟨fun p=>match p.1.2 with | .int i=>.ok (some i,p.2)|_=>.bad⟩):=id rfl
theorem LI:A1 i f env=if qM env i then(Res.bnd (f env) (f:=⟨fun(p:R×PV.Env)=>match p.2[i]? with
 |some (some (.l .f,.lst ds))=>if ds.length<sizeLine then .ok ((.f,.non),p.2.set i (some (.l .f,.lst (ds++[p.1.2])))) else .bad
 |_=>.bad⟩)) else .bad:=id rfl
theorem Kd:qM env i=match env[i]? with|some (some (_,.lst _))=>true|_=>false:=id rfl
theorem M0:Lg T fo env=Res.bnd (fo env) (f:=⟨fun p=>Res.bnd (pd p.2 p.1) (f:=⟨fun d=>.ok ((.f,.bl (pk T d)),p.2)⟩)⟩):=id rfl
theorem Ke(tk:Bool):eNewD tk env=.ok ((.d,.dct tk [] []),env):=id rfl
theorem Kf(ix:List (Option Nat)):di fi ix a c f env=Res.bnd (fi env) (f:=⟨fun p=>Res.bnd (cM a c f p.1 (bC ix p.2)) (f:=⟨fun ds=>if ds.length<=sizeLine then .ok ((.l .f,.lst ds),if D6 ds then p.2 else p.2.map frz) else .bad⟩)⟩):=id rfl
theorem HZ:bC [] env=[]:=id rfl
theorem H0(ix:List (Option Nat)):bC (none::ix) env=none::bC ix env:=id rfl
theorem Ia(ix:List (Option Nat)):bC (some i::ix) env=(match env[i]? with|some (some r)=>some (O.f,r.2)|_=>none)::bC ix env:=id rfl
theorem rR:dq env=.ok (true,env):=id rfl
theorem oB(ds:List D):cM a c f (d::ds) env=Res.bnd (a d env) (f:=⟨fun e=>Res.bnd (c e) (f:=⟨fun p=>if p.1 then(Res.bnd (f p.2) (f:=⟨fun q=>Res.bnd (cM a c f ds q.2) (f:=⟨fun rs=>.ok (q.1.2::rs)⟩)⟩)) else cM a c f ds p.2⟩)⟩):=id rfl
theorem Ag:zI f env=Res.bnd (f env) (f:=⟨fun p=>match p.1.2 with | .lst ds=>.ok (ds,p.2)|_=>.bad⟩):=id rfl
theorem rS:hJ f env=Res.bnd (f env) (f:=⟨fun p=>match p.1.2 with | .tup ds=>.ok (ds,p.2)|_=>.bad⟩):=id rfl
theorem rT:hU f env=Res.bnd (f env) (f:=⟨fun p=>match p.1.2 with | .str l=>.ok (l.map fun c=>.str [c],p.2)|_=>.bad⟩):=id rfl
theorem mS:FZ fi fj env=match fi env with | .ok a=>.ok a|_=>fj env:=by
 unfold FZ;cases fi env <;> rfl
theorem LJ:FZ (zI f) (FZ (hJ f) (hU f)) env=Res.bnd (f env) (f:=⟨fun p=>match p.1.2 with
 | .lst ds=>.ok (ds,p.2)
 | .tup ds=>.ok (ds,p.2)
 | .str l=>.ok (l.map fun c=>.str [c],p.2)
 |_=>.bad⟩):=by
 rw[mS,mS,Ag,rS,rT];cases f env with
 |ok p=>
  obtain⟨⟨o,d⟩,e⟩:=p;cases d <;> rfl
 |exc c=>rfl
 |bad=>rfl
theorem Kg:FZ (i4 i) (FZ (hJ (aM i)) (hU (aM i))) env=match env[i]? with
 |some (some (_,.lst ds))=>.ok (ds,env)
 |some (some (o,.tup ds))=>.ok (ds,env.set i (some (fz o,.tup ds)))
 |some (some (o,.str l))=>.ok (l.map fun c=>.str [c],env.set i (some (fz o,.str l)))
 |_=>.bad:=by
 rw[mS,mS,rS,rT,Io];unfold i4;cases env[i]? with
 |none=>rfl
 |some r=>
  cases r with
  |none=>rfl
  |some r=>
   obtain⟨o,d⟩:=r;cases d <;> rfl
theorem Hf:bV fo env=Res.bnd (fo env) (f:=⟨fun p=>Res.bnd (Gd p.2 p.1) (f:=⟨fun d=>match d with
 | .int j=>if -4611686018427387904<=j/\j<4611686018427387904 then .ok ((List.range j.toNat).map fun(k:Nat)=>D.int (k:Int),p.2) else .bad
 |_=>.bad⟩)⟩):=id rfl
theorem kq(k1 k2:Bool):ph k1 k2 fs env=Res.bnd (fs env) (f:=⟨fun p=>match p.1 with
 |[.val d1,.val d2]=>Res.bnd (gq k1 d1) (f:=⟨fun a=>Res.bnd (gq k2 d2) (f:=⟨fun b=>.ok ((a.zip b).map fun z=>D.tup [z.1,z.2],p.2)⟩)⟩)
 |_=>.bad⟩):=id rfl
theorem Fi:aw i d env=if i<env.length then .ok (env.set i (some (.f,d))) else .bad:=id rfl
theorem Kh:fH [] env=.ok env:=id rfl
theorem Fy(ds:List D):bj a as (d::ds) env=Res.bnd (a d env) (f:=⟨fun e=>as ds e⟩):=id rfl
theorem Ib(ds:List D):lj n as (.tup ds) env=if ds.length=n then as ds env else .bad:=id rfl
theorem Fj:sSeq s t env=Res.bnd (s env) (f:=⟨fun o=>match o with | .nx e=>t e|o=>.ok o⟩):=id rfl
theorem Ki:cz env=.ok (.nx env):=id rfl
theorem LK:cu i f env=Res.bnd (f env) (f:=⟨fun p=>if i<p.2.length then .ok (.nx (p.2.set i (some p.1))) else .bad⟩):=id rfl
theorem Kj:mC f env=Res.bnd (f env) (f:=⟨fun p=>.ok (.nx p.2)⟩):=id rfl
theorem LM:eQ f env=Res.bnd (f env) (f:=⟨fun p=>.ok (.rt p.1)⟩):=id rfl
theorem M1:Ge c s t env=Res.bnd (c env) (f:=⟨fun p=>if p.1 then s p.2 else t p.2⟩):=id rfl
theorem Hn:vG fi a s env=Res.bnd (fi env) (f:=⟨fun p=>eF a s p.1 p.2⟩):=id rfl
theorem ku(ds:List D):eF a s (d::ds) env=Res.bnd (a d env) (f:=⟨fun e=>Res.bnd (s e) (f:=⟨fun o=>match o with
 | .nx e=>eF a s ds e
 | .ct e=>eF a s ds e
 | .bk e=>.ok (.nx e)
 | .rt r=>.ok (.rt r)⟩)⟩):=id rfl
theorem ib:cv c s (n+1) env=Res.bnd (c env) (f:=⟨fun p=>if p.1 then(Res.bnd (s p.2) (f:=⟨fun o=>match o with
  | .nx e=>cv c s n e
  | .ct e=>cv c s n e
  | .bk e=>.ok (.nx e)
  | .rt r=>.ok (.rt r)⟩)) else .ok (.nx p.2)⟩):=id rfl
theorem bJ(ds:List D)(nn:Nat)(h:ds.length=n):fBody n nn s ds=Res.bnd (s (ds.map (fun d=>some (O.f,d))++List.replicate nn none)) (f:=⟨fun o=>match o with
 | .rt r=>.ok r
 | .nx _=>.ok (.f,.non)
 |_=>.bad⟩):=by
 unfold fBody;rw[Px h];all_goals cases s (ds.map (fun d=>some (O.f,d))++List.replicate nn none) with
 |ok o=>cases o <;> rfl
 |exc c=>rfl
 |bad=>rfl
end
theorem line_le{n:Nat}(h:n<=16777216):n<=sizeLine:=by rw[line_eq];exact h
section
variable(a b:Int)(x y:List Nat)(p q:Bool)(ds es:List D)
theorem B2:E9 (.int a) (.int b)=.ok (.f,.bl (a==b)):=by simp only[E9,plainD,D3,P1,Q1]
theorem B3:E9 (.str x) (.str y)=.ok (.f,.bl (x==y)):=by simp only[E9,plainD,D3,P1,Q1]
theorem B4:Gr (.int a) (.int b)=.ok (.f,.bl (!(a==b))):=by simp only[Gr,plainD,D3,P1,Q1]
theorem B5:Gr (.str x) (.str y)=.ok (.f,.bl (!(x==y))):=by simp only[Gr,plainD,D3,P1,Q1]
theorem Ah:uc (.int a) (.int b)=.ok (.f,.int (a-b)):=id rfl
theorem xJ:mD (.int a) (.int b)=if 0<b/\b<1073741824 then .ok (.f,.int (a / b)) else .bad:=id rfl
theorem Ai:mf (.int a) (.int b)=if 0<b then .ok (.f,.int (a%b)) else .bad:=id rfl
theorem Aj:mh (.int a) (.int b)=if 0<=b/\b<=1000000/\a.natAbs<2 ^ 64 then .ok (.f,.int (a ^ b.toNat)) else .bad:=id rfl
theorem B6:L6 (.int a) (.int b)=.ok (.f,.bl (decide (a<b))):=id rfl
theorem B7:JS (.int a) (.int b)=.ok (.f,.bl (decide (b<a))):=id rfl
theorem Ak:fA [.lst ds]=.ok (.f,.int ds.length):=id rfl
theorem Al:fA [.tup ds]=.ok (.f,.int ds.length):=id rfl
theorem xK:iZ [.lst ds]=.ok (.l .f,.lst ds):=id rfl
theorem uI:fM [.lst ds]=.ok (.f,.tup ds):=id rfl
theorem B8:EH (.lst ds) (.int a)=match GU ds a with|some d=>.ok (.f,d)|none=>.bad:=id rfl
theorem Am:EH (.tup ds) (.int a)=match GU ds a with|some d=>.ok (.f,d)|none=>.bad:=id rfl
end
theorem DZ(l:List Int):D6 (l.map D.int)=true:=by
 rw[cX,Sj,P8];intro b _;rfl
theorem flat_strs(l:List (List Nat)):D6 (l.map D.str)=true:=by
 rw[cX,Sj,P8];intro b _;rfl
theorem cD(d:D):aB .f d=dw d:=by rw[aB]
theorem ck(ds:List D):aB (.l .f) (.lst ds)=D6 ds:=by rw[aB,dt]
theorem cm(i:Int):dw (.int i)=true:=by rw[dw];all_goals simp
theorem Gx(i:Bool):dw (.bl i)=true:=by rw[dw];all_goals simp
theorem uJ(i:List Nat):dw (.str i)=true:=by rw[dw];all_goals simp
theorem ic(ds:List D):dw (.tup ds)=D6 ds:=by rw[dw]
theorem cY(n:Nat)(l:List Int):plainDs n (l.map D.int)=true:=by
 induction l with
 |nil=>rfl
 |cons a l ih=>rw[PL,plainDs,ih,plainD];all_goals simp
theorem yx(n:Nat)(l:List (List Nat)):plainDs n (l.map D.str)=true:=by
 induction l with
 |nil=>rfl
 |cons a l ih=>rw[PL,plainDs,ih,plainD];all_goals simp
theorem iR:∀a b:List Int,h9 (a.map D.int) (b.map D.int)=(a==b)
 |[],[]=>by simp[h9]
 |[],_::_=>by simp[h9]
 |_::_,[]=>by simp[h9]
 |a::r,b::t=>by
  rw[PL,PL,h9,D3,iR r t,Qn];simp
theorem uK(a:Int)(l:List Int):sY (.int a) (l.map D.int)=decide (a∈l):=by
 unfold sY;rw[Sk,Qn,RT,Qd];constructor
 ·rintro⟨x,hx,e⟩;have e:D3 (.int x) (.int a)=true:=e;rw[D3,P5]at e;rw[<-e];exact hx
 ·intro h;refine⟨a,h,?_⟩;show D3 (.int a) (.int a)=true;rw[D3,Qc]
theorem A7(a:List Nat)(l:List (List Nat)):sY (.str a) (l.map D.str)=decide (a∈l):=by
 unfold sY;rw[Sk,Qn,RT,Qd];constructor
 ·rintro⟨x,hx,e⟩;have e:D3 (.str x) (.str a)=true:=e;rw[D3,P5]at e;rw[<-e];exact hx
 ·intro h;refine⟨a,h,?_⟩;show D3 (.str a) (.str a)=true;rw[D3,Qc]
theorem CB(a:Int)(l:List Int):KD (.int a) (.lst (l.map D.int))=.ok (.f,.bl (decide (a∈l))):=by
 unfold KD;dsimp only;rw[cY,uK,plainD];all_goals simp
theorem kx{α:Type}{a:FG}{c:FT}{f:FX}{e:α->D}{p:α->Bool}{r:α->D}(I:PV.Env->Prop)(l:List α)
  (h:∀x∈l,∀env,I env->∃DU,a (e x) env=.ok DU/\∃D4,c DU=.ok (p x,D4)/\if p x then ∃o Eo,f D4=.ok ((o,r x),Eo)/\I Eo else I D4):∀env,I env->cM a c f (l.map e) env=.ok ((l.filter p).map r):=by
 induction l with
 |nil=>intro env _;rfl
 |cons x l ih=>
  intro env hI;obtain⟨DU,h1,D4,h2,h3⟩:=h x Pq env hI;have ih:=ih fun y hy=>h y (Pu _ hy)
  rw[PL,oB,h1,FD,h2,FD];cases hp:p x with
  |true=>
   rw[hp]at h3;obtain⟨o,Eo,h4,h5⟩:=h3;rw[Px rfl,h4,FD,ih Eo h5,FD,Sa hp];rfl
  |false=>
   rw[hp]at h3;rw[PJ PF,ih D4 h3,Sb (by rw[hp];exact PF)]
theorem cU{α:Type}{a:FG}{f:FX}{e:α->D}{r:α->D}(I:PV.Env->Prop)(l:List α)
  (h:∀x∈l,∀env,I env->∃DU,a (e x) env=.ok DU/\∃o Eo,f DU=.ok ((o,r x),Eo)/\I Eo):∀env,I env->cM a dq f (l.map e) env=.ok (l.map r):=by
 induction l with
 |nil=>intro env _;rfl
 |cons x l ih=>
  intro env hI;obtain⟨DU,h1,o,Eo,h4,h5⟩:=h x Pq env hI;have ih:=ih fun y hy=>h y (Pu _ hy)
  rw[PL,oB,h1,FD,rR,FD,Px rfl,h4,FD,ih Eo h5];rfl
theorem xM{a:FG}{g:FS}(P:Nat->PV.Env->Prop)(ds:List D)(h:∀i d env,ds[i]?=some d->P i env->∃DU,a d env=.ok DU/\∃D4,(g DU=.ok (.nx D4)\/g DU=.ok (.ct D4))/\P (i+1) D4):
  ∀env,P 0 env->∃env',eF a g ds env=.ok (.nx env')/\P ds.length env':=by
 have key:∀(l:List D) (k:Nat) (env:PV.Env),(∀i d,l[i]?=some d->ds[k+i]?=some d)->P k env->∃env',eF a g l env=.ok (.nx env')/\P (k+l.length) env':=by
  intro l;induction l with
  |nil=>exact fun k env _ hp=>⟨env,rfl,hp⟩
  |cons d l ih=>
   intro k env hd hp;obtain⟨DU,h1,D4,h2,h3⟩:=h k d env (hd 0 d rfl) hp;obtain⟨env',h4,h5⟩:=ih (k+1) D4 (fun i d e=>by have:=hd (i+1) d (by simpa using e);rw[show k+1+i=k+(i+1) by lia];exact this) h3;refine⟨env',?_,by rw[PH,show k+(l.length+1)=k+1+l.length by lia];exact h5⟩;rw[ku,h1,FD];rcases h2 with h2|h2
   ·rw[h2,FD];exact h4
   ·rw[h2,FD];exact h4
 intro env hp;obtain⟨env',h1,h2⟩:=key ds 0 env (fun i d e=>by rw[RZ];exact e) hp;exact⟨env',h1,by rw[RZ]at h2;exact h2⟩
section
variable(env:PV.Env)(fo:FO)(fp D2:FP)(a b:Int)(ds:List D)(x:List Nat)
theorem LN:A2 fo fp D2 env=Res.bnd (fo env) (f:=⟨fun p=>Res.bnd (fp p.2) (f:=⟨fun q=>Res.bnd (D2 q.2) (f:=⟨fun t=>Res.bnd (Gd t.2 p.1) (f:=⟨fun d=>Res.bnd (Li d q.1 t.1) (f:=⟨fun r=>.ok (r,t.2)⟩)⟩)⟩)⟩)⟩):=id rfl
theorem LO:uq fo env=Res.bnd (fo env) (f:=⟨fun p=>Res.bnd (Gd p.2 p.1) (f:=⟨fun d=>match d with
 | .int i=>.ok ((.f,.int (-i)),p.2)
 |_=>.bad⟩)⟩):=id rfl
theorem An(lo hi:Option Int):Li (.lst ds) lo hi=.ok (.l .f,.lst (jr ds lo hi)):=id rfl
theorem rV(lo hi:Option Int)(h:HT.sIx ds.length 0 lo=0/\HT.sIx ds.length ds.length hi=ds.length):jr ds lo hi=ds:=by
 unfold jr;rw[h.1,h.2,SQ,UO,QC (Pt _)]
theorem Ao(lo hi:Option Int):Li (.tup ds) lo hi=.ok (.f,.tup (jr ds lo hi)):=by
 unfold Li;dsimp only;split
 ·rename_i h;rw[rV ds lo hi h]
 ·rename_i h;unfold L5;dsimp only;rw[Px h]
end
section
variable(env:PV.Env)(fo:FO)(fs:FOs)(f g:FX)(a b c:Int)(ds es:List D)(x y:List Nat)
theorem CD(d:D):(∃l,gq true d=.ok l/\gq false d=.bad/\lr d=some l)\/(∃l,gq true d=.bad/\gq false d=.ok l/\lr d=some l)\/(gq true d=.bad/\gq false d=.bad/\lr d=none):=by
 cases d with
 |lst l=>exact .inl ⟨l,rfl,rfl,rfl⟩
 |tup l=>exact .inr (.inl ⟨l,rfl,rfl,rfl⟩)
 |_=>exact .inr (.inr ⟨rfl,rfl,rfl⟩)
def uL(k1 k2:Bool)(e:PV.Env)(d1 d2:D):Res (List D×PV.Env):=(gq k1 d1).bind fun a=>(gq k2 d2).bind fun b=>.ok ((a.zip b).map fun z=>D.tup [z.1,z.2],e)
def B9(e:PV.Env)(d1 d2:D):Res (List D×PV.Env):=match lr d1,lr d2 with|some a,some b=>.ok ((a.zip b).map fun z=>D.tup [z.1,z.2],e)|_,_=>.bad
def KN(a b:Res (List D×PV.Env)):Res (List D×PV.Env):=match a with | .ok a=>.ok a|_=>b
def sZ(g:D->D->Res (List D×PV.Env))(os:List Opd):Res (List D×PV.Env):=match os with|[.val d1,.val d2]=>g d1 d2|_=>.bad
theorem mT(g h:D->D->Res (List D×PV.Env))(os:List Opd):KN (sZ g os) (sZ h os)=sZ (fun a b=>KN (g a b) (h a b)) os:=by
 unfold sZ;split <;> rfl
theorem xN(e:PV.Env)(a b:D):KN (uL true true e a b) (KN (uL true false e a b) (KN (uL false true e a b) (uL false false e a b)))=B9 e a b:=by
 unfold uL B9;rcases CD a with⟨l,h1,h2,h3⟩|⟨l,h1,h2,h3⟩|⟨h1,h2,h3⟩ <;> rcases CD b with⟨m,i1,i2,i3⟩|⟨m,i1,i2,i3⟩|⟨i1,i2,i3⟩ <;> rw[h1,h2,h3,i1,i2,i3] <;> rfl
theorem Kk:mH fs env=Res.bnd (fs env) (f:=⟨fun p=>match p.1 with
 |[.val d1,.val d2]=>(match lr d1,lr d2 with|some a,some b=>.ok ((a.zip b).map fun z=>D.tup [z.1,z.2],p.2)|_,_=>.bad)
 |_=>.bad⟩):=by
 unfold mH;rw[mS,mS,mS,kq,kq,kq,kq];cases fs env with
 |ok p=>
  show KN (sZ (uL true true p.2) p.1) (KN (sZ (uL true false p.2) p.1) (KN (sZ (uL false true p.2) p.1) (sZ (uL false false p.2) p.1)))=sZ (B9 p.2) p.1;rw[mT,mT,mT];exact QN (fun g=>sZ g p.1) (funext fun a=>funext fun b=>xN p.2 a b)
 |_=>rfl
theorem Kl:lr (.lst ds)=some ds:=id rfl
theorem Km:lr (.tup ds)=some ds:=id rfl
theorem Kn(i:Nat):pw i f g env=Res.bnd (g env) (f:=⟨fun(p:R×PV.Env)=>Res.bnd (f p.2) (f:=⟨fun(q:R×PV.Env)=>match p.2[i]?,q.2[i]? with
 |some (some _),some (some (.l .f,.lst ds))=>(match q.1.2 with
  | .int k=>(match ixN ds.length k with
   |some j=>.ok (.nx (q.2.set i (some (.l .f,.lst (ds.set j p.1.2)))))
   |none=>.bad)
  |_=>.bad)
 |_,_=>.bad⟩)⟩):=id rfl
theorem rW:yv (.lst ds) (.int b)=if 0<=b/\b<1000000/\ds.length*b.toNat<=sizeLine then .ok (.l .f,.lst (List.replicate b.toNat ds).flatten) else .bad:=id rfl
theorem Ap:dI false (.str x)=true:=id rfl
theorem xO:mG (.int a) (.int b)=.ok (.f,.int (a+b)):=id rfl
theorem xP:mG (.lst ds) (.lst es)=if ds.length+es.length<=sizeLine then .ok (.l .f,.lst (ds++es)) else .bad:=id rfl
end
section
variable(env:PV.Env)(f g:FX)(ds ks:List D)(i:Nat)
theorem rX:isLf (.l .f)=true:=id rfl
end
section
variable(env:PV.Env)(f:FX)(fs:FOs)(ds:List D)(i:Nat)
theorem Aq:ePop i env=match env[i]? with
 |some (some (ow,.lst ds))=>if isLf ow then(match ds.getLast? with
  |some d=>.ok ((.f,d),env.set i (some (ow,.lst ds.dropLast)))
  |none=>.bad) else .bad
 |_=>.bad:=id rfl
theorem xQ(p:Addr):isLf (.pin p (.l .f))=true:=id rfl
theorem fW:j7 (.l .f) (.l .f)=true:=id rfl
theorem fX(p:Addr):j7 (.l .f) (.pin p (.l .f))=true:=id rfl
theorem bS:iG i f env=Res.bnd (f env) (f:=⟨fun(p:R×PV.Env)=>match p.2[i]? with
 |some (some (.pin q c,d))=>.ok (.rt (.t [p.1.1,.pin q c],.tup [p.1.2,d]))
 |_=>.bad⟩):=by
 first
  |exact id rfl
  |(unfold iG;rfl)
theorem ie(fi:FI)(ix:List (Option Nat))(j k0:Nat)(a:FG)(c:FT):fP fi ix j k0 a c f env=Res.bnd (fi env) (f:=⟨fun(p:List D×PV.Env)=>match p.2[j]? with
 |some (some (ow,.lst d0))=>if isLf ow then Res.bnd (i5 a c f p.1 (fun q=>(bC ix (p.2.set j none)).set k0 (some (.pin q (.l .f),.lst d0))) k0) (f:=⟨fun x=>if x.1.length<=sizeLine/\D6 x.1=true/\D6 x.2=true then .ok ((.l .f,.lst x.1),p.2.set j (some (ow,.lst x.2))) else .bad⟩) else .bad
 |_=>.bad⟩):=id rfl
theorem Ca:A3 [.lst ds]=.ok (.l .f,.lst ds.reverse):=id rfl
theorem gE(np nn:Nat)(c:O)(g:FS)(p:Addr)(d0:D)(h:ds.length+1=np):fO np nn c g p (d0::ds)=Res.bnd (g (some (.pin p c,d0)::(ds.map (fun d=>some (O.f,d))++List.replicate nn none))) (f:=⟨fun o=>match o with
  | .rt r=>.ok r
  |_=>.bad⟩):=by
 unfold fO;dsimp only;rw[Px h];rfl
theorem jz{α:Type}{a:FG}{f:FX}{e:α->D}(I:Nat->PV.Env->List D->Prop):∀(l:List α) (n:Nat) (env:PV.Env) (acc:List D),I n env acc->
  (∀k x env acc,l[k]?=some x->I (n+k) env acc->∃DU,a (e x) env=.ok DU/\∃o r Eo,f DU=.ok ((o,r),Eo)/\I (n+k+1) Eo (acc++[r]))->∃rs D4,compLE a dq f (l.map e) env=.ok (rs,D4)/\I (n+l.length) D4 (acc++rs)
 |[],n,env,acc,h,_=>⟨[],env,rfl,by rw[PU];exact h⟩
 |x::l,n,env,acc,h,hs=>by
  obtain⟨DU,h1,o,r,Eo,h2,h3⟩:=hs 0 x env acc rfl h;obtain⟨rs,D4,h4,h5⟩:=jz I l (n+1) Eo (acc++[r]) h3 fun k y env acc hk hI=>by
   have:=hs (k+1) y env acc (by simpa using hk) (by rw[show n+(k+1)=n+1+k by lia];exact hI);rw[show n+(k+1)+1=n+1+k+1 by lia]at this;exact this
  refine⟨r::rs,D4,?_,?_⟩
  ·rw[PL];show((a (e x) env).bind fun e=>(dq e).bind fun p=>if p.1 then(f p.2).bind fun q=>(compLE a dq f (l.map _) q.2).bind fun rs=>.ok (q.1.2::rs.1,rs.2) else compLE a dq f (l.map _) p.2)=_;rw[h1];show((f DU).bind fun q=>(compLE a dq f (l.map _) q.2).bind fun rs=>.ok (q.1.2::rs.1,rs.2))=_;rw[h2];show((compLE a dq f (l.map _) Eo).bind fun rs=>.ok (r::rs.1,rs.2))=_;rw[h4];rfl
  ·rw[PH,show n+(l.length+1)=n+1+l.length by lia];rw[Ql]at h5;exact h5
end
noncomputable def pv:=(Zz @FD (Zz @Ls (Zz @Io (Zz @J2 (Zz @Lu (Zz @Lv (Zz @J3 (Zz @Jt (Zz @J4 (Zz @Ju (Zz @Lw (Zz @Lx (Zz @El (Zz @Em (Zz @J5 (Zz @J6 (Zz @Jv (Zz @Jw (Zz @J7 (Zz @J8 (Zz @Ly (Zz @J9 (Zz @MY (Zz @Lz (Zz @MZ (Zz @LA (Zz @LB (Zz @LD (Zz @Ka (Zz @LF (Zz @LG (Zz @LH (Zz @LN (Zz @LO (Zz @Kb (Zz @Kc (Zz @LI (Zz @Kd (Zz @M0 (Zz @Ke (Zz @Kf (Zz @HZ (Zz @H0 (Zz @Ia (Zz @LJ (Zz @Kg (Zz @Hf (Zz @Fi (Zz @Kh (Zz @Fy (Zz @Ib (Zz @Fj (Zz @Ki (Zz @LK (Zz @Kj (Zz @LM (Zz @M1 (Zz @Hn (Zz @List.getElem?_cons_zero.{0} (Zz @List.getElem?_cons_succ.{0} (Zz @List.set_cons_zero.{0} (Zz @List.set_cons_succ.{0} (Zz @List.length_cons.{0} (Zz @List.length_nil.{0} (Zz @List.map_cons.{0,0} (Zz @List.map_nil.{0,0} (Zz @List.replicate_succ.{0} (Zz @List.replicate_zero.{0} (Zz @List.cons_append.{0} (Zz @List.nil_append.{0} (Zz @Nat.zero_add (Zz @Kk (Zz @Kl (Zz @Km (Zz @Kn (Zz @MW (Zz @MX (Zz @J0 @Js))))))))))))))))))))))))))))))))))))))))))))))))))))))))))))))))))))))))))))))
noncomputable def op:=(Zz @B2 (Zz @B3 (Zz @B4 (Zz @B5 (Zz @Ah (Zz @B6 (Zz @B7 (Zz @Ak (Zz @Al (Zz @xK (Zz @uI (Zz @B8 (Zz @Am (Zz @An (Zz @Ao (Zz @cD (Zz @ck (Zz @cm (Zz @Gx (Zz @uJ (Zz @DZ (Zz @xO @Ap))))))))))))))))))))))
theorem dV(n:Nat)(w:PV.Env):(∃d,Gd w (.var n)=.ok d)\/Gd w (.var n)=.bad:=by
 unfold Gd;dsimp only;split
 ·split
  ·exact .inl ⟨_,rfl⟩
  ·exact .inr rfl
 ·exact .inr rfl
section
variable(w:PV.Env)(op:D->D->Res R)(F:List D->Res R)(f g h:FX)(n n' n'':Nat)(x y:D)
end
section
variable(a b c d e g h i j k l m:Option R)(z:PV.Env)(r:R)(o:O)(x:D){ρ:Type}
end
end PV
namespace LW
open PySem L2 NX PV
theorem for_list{α:Type}{a:FG}{g:FS}{e:α->D}(l:List α)(P:Nat->PV.Env->Prop)
  (h:∀k x env,l[k]?=some x->P k env->∃DU,a (e x) env=.ok DU/\∃D4,g DU=.ok (.nx D4)/\P (k+1) D4):∀env,P 0 env->∃env',eF a g (l.map e) env=.ok (.nx env')/\P l.length env':=by
 intro env h0;have:=xM (a:=a) (g:=g) P (l.map e) (fun i d env hi hp=>by
  rw[PK,Rm]at hi;obtain⟨x,hx,rfl⟩:=hi;obtain⟨DU,h1,D4,h2,h3⟩:=h i x env hx hp;exact⟨DU,h1,D4,.inl h2,h3⟩) env h0
 rwa [PQ]at this
theorem rY{a:FG}{g:FS}{e:Nat->D}(n:Nat)(P:Nat->PV.Env->Prop)
  (h:∀k env,k<n->P k env->∃DU,a (e k) env=.ok DU/\∃D4,g DU=.ok (.nx D4)/\P (k+1) D4):∀env,P 0 env->∃env',eF a g ((List.range n).map e) env=.ok (.nx env')/\P n env':=by
 intro env h0;have:=for_list (a:=a) (g:=g) (e:=e) (List.range n) P (fun k x env hk hp=>by
  obtain⟨h1,h2⟩:=Pn.mp hk;rw[PM]at h1;rw[R7]at h2;subst h2;exact h k env h1 hp) env h0
 rwa [PM]at this
abbrev LNN:=List (List Nat)
theorem bE{α β:Type}{l:List α}(f:α->β):(l.map f).length=l.length:=PQ f
theorem lQ:(false=true)=False:=SM
theorem yy{α:Type}{l:List α}{i:Nat}{a:α}(h:l[i]?=some a):∃h:i<l.length,l[i]=a:=Pn.mp h
theorem mj{α:Type}{l:List α}{i:Nat}(h:i<l.length):l[i]?=some l[i]:=Pk h
theorem lR{α β:Type}{f:α->β}{a:α}{l:List α}:(a::l).map f=f a::l.map f:=PL
theorem rZ{α:Type}{a b:α}(h:a∈[b]):a=b:=Qf.mp h
theorem pF{α β:Type}{f:α->β}{l:List α}{b:β}(h:b∈l.map f):∃a,a∈l/\f a=b:=SK.mp h
theorem yz{α:Type}{a:α}{s t:List α}(h:a∈s++t):a∈s\/a∈t:=PR.mp h
theorem vU{α:Type}{s t:List α}:(s++t).length=s.length+t.length:=Qo
theorem ax{s t:FS}{env env':PV.Env}(h:s env=.ok (.nx env')):sSeq s t env=t env':=by rw[Fj,h,FD]
theorem r6{ds:List D}(h:ds.length<=16777216):ds.length<=sizeLine:=line_le h
theorem lS{l:List Int}{k:Nat}(h:k<l.length):GU (l.map D.int) (k:Int)=some (.int (l.getD k 0)):=jH (by rw[PK,Pg,mj h];rfl)
theorem iS(x y:D)(t1 t2:Option R)(aO:PV.Env):lj 2 (bj (aw 0) (bj (aw 1) fH)) (.tup [x,y]) (t1::t2::aO)=.ok (some (.f,x)::some (.f,y)::aO):=by
 rw[Ib,Px (by simp),Fy,Fi,Px (by simp),FD,Fy,Fi,Px (by simp),FD];rfl
theorem pG(x b:Int)(h:0<b):0<=x%b/\x%b<b:=⟨Rl _ (by lia),RG _ h⟩
theorem Cb(n:Nat)(h:n<=200):mh (.int 10) (.int (n:Int))=.ok (.f,.int (10 ^ n)):=by
 rw[Aj,Px (by lia),Qu]
theorem xR(x b:Int)(h:0<b):mf (.int x) (.int b)=.ok (.f,.int (x%b)):=by rw[Ai,Px h]
theorem Cc(x b:Int)(h:0<b)(h2:b<1073741824):mD (.int x) (.int b)=.ok (.f,.int (x / b)):=by rw[xJ,Px ⟨h,h2⟩]
theorem uM{α:Type}(l:List α)(k:Nat):jr l none (some (k:Int))=l.take k:=by
 unfold jr;rw[HT.ny,HT.wJ,SQ,UO];by_cases h:k<=l.length
 ·rw[Nat.min_eq_left h]
 ·rw[Nat.min_eq_right (by lia),QC (Pt _),QC (by lia)]
theorem A8(j:Int)(h0:0<=j)(h:j<=1000)(fo:FO)(env env':PV.Env)(o:Opd)(e1:fo env=.ok (o,env'))(e2:Gd env' o=.ok (.int j)):bV fo env=.ok ((List.range j.toNat).map fun(k:Nat)=>D.int (k:Int),env'):=by
 rw[Hf,e1,FD];dsimp only;rw[e2,FD];dsimp only;rw[Px (by lia)]
theorem lT(d:D)(h:plainD 40 d=true):E9 d d=.ok (.f,.bl true):=by
 unfold E9;rw[h,ia d 40 h];rfl
theorem mU(n k:Nat)(h:k<n):ixN n (k:Int)=some k:=by
 unfold ixN;rw[Px (by lia),Px (by lia)];rfl
theorem r9(l:List Int):vI [.lst (l.map D.int)]=.ok (.f,.int l.sum):=by
 unfold vI;dsimp only;have:(lr (D.lst (l.map D.int))).bind dG=some l:=pj l;rw[this]
theorem isT(ds:List D):pk "tuple" (.tup ds)=true:=rfl
theorem lU{c:FT}{g:FS}(P:Nat->PV.Env->Prop)(fin:PV.Env->Prop)(h:∀k env,P k env->(∃DU,c env=.ok (false,DU)/\fin DU)\/(∃DU,c env=.ok (true,DU)/\∃D4 k',g DU=.ok (.nx D4)/\k'<k/\P k' D4)):
  ∀n k env,k<n->P k env->∃env',cv c g n env=.ok (.nx env')/\fin env'
 | 0,k,env,hk,_=>absurd hk (PY _)
 |n+1,k,env,hk,hp=>by
  rcases h k env hp with⟨DU,h1,h2⟩|⟨DU,h1,D4,k',h2,h3,h4⟩
  ·exact⟨DU,by rw[ib,h1,FD];rfl,h2⟩
  ·obtain⟨env',e,hf⟩:=lU P fin h n k' D4 (by lia) h4;refine⟨env',?_,hf⟩;rw[ib,h1,FD];dsimp only;rw[Px rfl,h2,FD];exact e
theorem sd{α β:Type}(f:α->β)(l:List α)(lo hi:Option Int):jr (l.map f) lo hi=(jr l lo hi).map f:=by
 unfold jr;rw[bE,<-List.map_drop,<-List.map_take]
theorem uN{α:Type}{l:List α}(h:l.length<=100000):l.length<sizeLine:=Po (P9 _) (line_le (by lia))
section
variable(env:PV.Env)(f:FX)(fs:FOs)(fo:FO)
theorem cE(i:Nat)(c:O)(F:Addr->List D->Res R):eFunW c F i fs env=Res.bnd (fs env) (f:=⟨fun p=>match p.1 with
 | .var j::os=>if j=i then(match p.2[i]? with
  |some (some (ow,d0))=>if j7 c ow then Res.bnd (iY (p.2.set i none) os) (f:=⟨fun ds=>Res.bnd (iH F c d0 ds) (f:=⟨fun x=>if aB x.1.1 x.1.2&&aB c x.2 then .ok (x.1,(p.2.set i none).set i (some (ow,x.2))) else .ok (x.1,((p.2.set i none).map frz).set i (some (ow,x.2)))⟩)⟩) else .bad
  |_=>.bad) else .bad
 |_=>.bad⟩):=id rfl
theorem Dw(r:R):frz (some r)=some (.f,r.2):=id rfl
theorem Dx:frz none=none:=id rfl
end
theorem pop0(o:O)(h:isLf o=true)(ys:List Int)(x:Int)(env:PV.Env):ePop 0 (some (o,.lst ((ys++[x]).map D.int))::env)=.ok ((.f,.int x),some (o,.lst (ys.map D.int))::env):=by
 rw[Aq];simp only[List.getElem?_cons_zero,Qm,lR,Ry,TV,TY,h,Q1,List.set_cons_zero]
theorem Dy(p:Addr)(ys:List Int)(x:Int)(env:PV.Env):ePop 0 (some (.pin p (.l .f),.lst ((ys++[x]).map D.int))::env)=.ok ((.f,.int x),some (.pin p (.l .f),.lst (ys.map D.int))::env):=pop0 _ rfl ys x env
theorem g6{α:Type}(n k:Nat)(g:Nat->α)(v:α):((List.range n).map g).set k v=(List.range n).map fun i=>if i=k then v else g i:=by
 apply List.ext_getElem
 ·rw[Qb,bE,bE]
 ·intro i h1 h2;rw[List.getElem_set,Sr,Sr,R7];by_cases h:i=k
  ·rw[Px h.symm,Px h]
  ·rw[PJ (Rj h),PJ h]
theorem uO(l:List Int)(k:Nat)(h:k<l.length):(l.take (k+1)).sum=(l.take k).sum+l[k]:=by
 rw[Ru h,Ub,List.sum_cons,UP,QZ]
theorem ky(a b:List Int):E9 (.lst (a.map D.int)) (.lst (b.map D.int))=.ok (.f,.bl (a==b)):=by
 unfold E9;rw[plainD,plainD,cY,cY,D3,iR];rfl
theorem Ar{x:Int}{n:Nat}(hx:x.natAbs<2 ^ n)(hn:n<=900000):x.natAbs.log2<900000:=by
 rcases Ut x.natAbs with e|e
 ·rw[e];decide
 ·have:=(Ve (RI e)).mpr hx;lia
theorem uP{x y:Int}{n m:Nat}(hx:x.natAbs<2 ^ n)(hy:y.natAbs<2 ^ m)(hn:n<=900000)(hm:m<=900000):hV (.int x) (.int y)=.ok (.f,.int (x*y)):=by
 unfold hV;dsimp only;rw[Px ⟨Ar hx hn,Ar hy hm⟩]
theorem OV:(2:Nat) ^ 32=4294967296:=by decide +kernel
theorem CF{x y:Int}(hx:x.natAbs<4294967296)(hy:y.natAbs<4294967296):hV (.int x) (.int y)=.ok (.f,.int (x*y)):=uP (n:=32) (m:=32) (by rw[OV];exact hx) (by rw[OV];exact hy) (by decide) (by decide)
theorem As:mh (.int 10) (.int 59)=.ok (.f,.int (10 ^ 59)):=Cb 59 (by decide)
theorem Cd:mh (.int 10) (.int 30)=.ok (.f,.int (10 ^ 30)):=Cb 30 (by decide)
theorem OW:(0:Int)<10 ^ 59:=by decide +kernel
theorem se(ns:List Int)(h:ns.length<=63):∃d:List Int,d.length=80/\bK [.lst (ns.map D.int),.int 80]=.ok (.l .f,.lst (d.map D.int)):=by
 have ct:jr (ns.map D.int) none (some (80:Int))=(ns.take 80).map D.int:=by
  rw[sd];exact QN (List.map D.int) (uM ns 80)
 have hc:cM (aw 0) dq (aR mf (ak 0) (aq (aR mh (aq (aF (.int 10))) (aq (aF (.int 59)))))) ((ns.take 80).map D.int) [none]=.ok (((ns.take 80).map fun x=>x%10 ^ 59).map D.int):=by
  rw[P7];refine cU (fun env=>∃t,env=[t]) _ ?_ _ ⟨_,rfl⟩;rintro x _ env ⟨t,rfl⟩;refine⟨[some (.f,.int x)],by simp only[pv,↓reduceIte,Nat.reduceAdd,Nat.reduceLT,Nat.reduceLeDiff,Nat.reduceEqDiff],?_⟩;simp only[pv,↓reduceIte,Nat.reduceAdd,Nat.reduceLT,Nat.reduceLeDiff,Nat.reduceEqDiff,op,As,xR _ _ OW];exact⟨_,_,rfl,_,rfl⟩
 have hl:((ns.take 80).map fun x=>x%10 ^ 59).length<=80:=by
  rw[bE,Qs];lia
 generalize (ns.take 80).map (fun x=>x%10 ^ 59)=d0 at hc hl;unfold bK fR;rw[bJ (h:=by rfl)];have fl:(d0.map D.int).length<=sizeLine:=line_le (by rw[bE];lia);rw[ax (env':=[some (.f,.lst (ns.map D.int)),some (.f,.int 80),some (.l .f,.lst (d0.map D.int)),none]) (by simp only[pv,↓reduceIte,Nat.reduceAdd,Nat.reduceLT,Nat.reduceLeDiff,Nat.reduceEqDiff,op,ct,hc,DZ,fl])];have mB:=xR d0.sum 2147483647 (by decide);rw[ax (env':=[some (.f,.lst (ns.map D.int)),some (.f,.int 80),some (.l .f,.lst (d0.map D.int)),some (.f,.int (48271+d0.sum%2147483647))]) (by simp only[pv,↓reduceIte,Nat.reduceAdd,Nat.reduceLT,Nat.reduceLeDiff,Nat.reduceEqDiff,op,r9,mB])];have b0:=pG d0.sum 2147483647 (by decide);have hb:0<=48271+d0.sum%2147483647/\48271+d0.sum%2147483647<4294967296:=by lia
 clear b0 mB;generalize 48271+d0.sum%2147483647=l0 at hb;obtain⟨env',hw,d,l,hd,rfl⟩:=lU (c:=Es (aR L6 (aq (bh fA (ae (ak 2) ar))) (ak 1))) (g:=cB) (fun k env=>∃(d:List Int) (l:Int),d.length+k=80/\0<=l/\l<4294967296/\env=[some (.f,.lst (ns.map D.int)),some (.f,.int 80),some (.l .f,.lst (d.map D.int)),some (.f,.int l)])
  (fun env=>∃(d:List Int) (l:Int),d.length=80/\env=[some (.f,.lst (ns.map D.int)),some (.f,.int 80),some (.l .f,.lst (d.map D.int)),some (.f,.int l)]) (by
   rintro k env ⟨d,l,hk,h0,h1,rfl⟩;by_cases ED:d.length<80
   ·refine .inr ⟨[some (.f,.lst (ns.map D.int)),some (.f,.int 80),some (.l .f,.lst (d.map D.int)),some (.f,.int l)],?_,[some (.f,.lst (ns.map D.int)),some (.f,.int 80),some (.l .f,.lst ((d++[(l*l+48271*l+(d.length:Int))%2147483647]).map D.int)),some (.f,.int ((l*l+48271*l+(d.length:Int))%2147483647))],k-1,?_,by lia,_,_,?_,(pG _ _ (by decide)).1,?_,rfl⟩
    ·have:decide ((d.length:Int)<80)=true:=Qi (by lia);simp only[pv,↓reduceIte,Nat.reduceAdd,Nat.reduceLT,Nat.reduceLeDiff,Nat.reduceEqDiff,op,bE,this]
    ·have e1:=CF (x:=l) (y:=l) (by lia) (by lia);have e2:=CF (x:=48271) (y:=l) (by decide) (by lia);have e3:∀x,mf (.int x) (.int 2147483647)=.ok (.f,.int (x%2147483647)):=fun x=>xR x _ (by decide)
     have e4:(d.map D.int).length<sizeLine:=uN (by rw[bE];lia);rw[Qm];unfold cB;rw[ax (env':=[some (.f,.lst (ns.map D.int)),some (.f,.int 80),some (.l .f,.lst (d.map D.int)),some (.f,.int ((l*l+48271*l+(d.length:Int))%2147483647))]) (by simp only[pv,↓reduceIte,Nat.reduceAdd,Nat.reduceLT,Nat.reduceLeDiff,Nat.reduceEqDiff,op,bE,e1,e2,e3])];simp only[pv,↓reduceIte,Nat.reduceAdd,Nat.reduceLT,Nat.reduceLeDiff,Nat.reduceEqDiff,e4]
    ·rw[vU,PH,Q7];lia
    ·have:=(pG (l*l+48271*l+(d.length:Int)) 2147483647 (by decide)).2;lia
   ·refine .inl ⟨[some (.f,.lst (ns.map D.int)),some (.f,.int 80),some (.l .f,.lst (d.map D.int)),some (.f,.int l)],?_,d,l,by lia,rfl⟩;have:decide ((d.length:Int)<80)=false:=Qa (by lia);simp only[pv,↓reduceIte,Nat.reduceAdd,Nat.reduceLT,Nat.reduceLeDiff,Nat.reduceEqDiff,op,bE,this]) 100000 (80-d0.length) [some (.f,.lst (ns.map D.int)),some (.f,.int 80),some (.l .f,.lst (d0.map D.int)),some (.f,.int l0)] (by lia) ⟨d0,l0,by lia,hb.1,hb.2,rfl⟩
 refine⟨d.reverse,by rw[RV,hd],?_⟩;unfold eJ dJ;rw[ax hw];simp only[pv,↓reduceIte,Nat.reduceAdd,Nat.reduceLT,Nat.reduceLeDiff,Nat.reduceEqDiff,Ca,List.map_reverse]
def dr(d:List Int)(m:Int):Int:=match d.getLast? with
 |some x=>x%m
 |none=>0
theorem Au(p:Addr)(d:List Int)(m:Int)(hm:0<m):aI p [.lst (d.map D.int),.int m]=.ok (.t [.f,.pin p (.l .f)],.tup [.int (dr d m),.lst (d.dropLast.map D.int)]):=by
 unfold aI iK;rw[gE (h:=by rfl)];rcases List.eq_nil_or_concat d with rfl|⟨ys,x,rfl⟩
 ·have e:=ky [] [];rw[Ry]at e;simp only[pv,seval,bS,Ry,e,Qc];rfl
 ·have e:=ky (ys++[x]) [];have ne:((ys++[x])==([]:List Int))=false:=by cases ys <;> rfl
  rw[ne,Ry]at e;rw[List.concat_eq_append];generalize hl:D.lst ((ys++[x]).map D.int)=L at e;simp only[pv,seval,e,lQ];rw[<-hl];simp only[pv,seval,bS,Dy,xR _ _ hm];unfold dr;rw[TV,TY]
theorem jA(d:List Int)(m:Int)(hm:0<m):iH aI (.l .f) (.lst (d.map D.int)) [.int m]=.ok ((.f,.int (dr d m)),.lst (d.dropLast.map D.int)):=gv (r:=(.f,.int (dr d m))) fun p=>Au p d m hm
def nu(d:List Int):Int:=if dr d (10 ^ 59)%4==3 then dr d (10 ^ 59) / 4%(2*10 ^ 30+1)-10 ^ 30 else dr d (10 ^ 59) / 4%7-3
theorem Dz(d:List Int):(nu d).natAbs<=10 ^ 30:=by
 unfold nu;generalize dr d (10 ^ 59) / 4=y;split
 ·have h:=pG y (2*10 ^ 30+1) (by decide +kernel);generalize y%(2*10 ^ 30+1)=z at h;obtain⟨h1,h2⟩:=h;lia
 ·have h:=pG y 7 (by decide);lia
theorem uQ(p:Addr)(d:List Int):bw p [.lst (d.map D.int)]=.ok (.t [.f,.pin p (.l .f)],.tup [.int (nu d),.lst (d.dropLast.map D.int)]):=by
 unfold bw gy;rw[gE (h:=by rfl)];have m4:∀x,mf (.int x) (.int 4)=.ok (.f,.int (x%4)):=fun x=>xR x 4 (by decide)
 have m7:∀x,mf (.int x) (.int 7)=.ok (.f,.int (x%7)):=fun x=>xR x 7 (by decide)
 have m30:∀x,mf (.int x) (.int (2*10 ^ 30+1))=.ok (.f,.int (x%(2*10 ^ 30+1))):=fun x=>xR x _ (by decide +kernel)
 have f4:∀x,mD (.int x) (.int 4)=.ok (.f,.int (x / 4)):=fun x=>Cc x 4 (by decide) (by decide)
 have u2:hV (.int 2) (.int (10 ^ 30))=.ok (.f,.int (2*10 ^ 30)):=uP (n:=2) (m:=200) (by decide) (by decide +kernel) (by decide) (by decide);rw[Ry,Q9];rw[ax (env':=[some (.pin p (.l .f),.lst (d.dropLast.map D.int)),some (.f,.int (dr d (10 ^ 59)))]) (by simp only[pv,↓reduceIte,Nat.reduceAdd,Nat.reduceLT,Nat.reduceLeDiff,Nat.reduceEqDiff,op,As,jA d _ OW,cE,fX,fW,bS,El,Em,cD,ck,cm,DZ,P1,Rf,Q1])];unfold nu;generalize dr d (10 ^ 59)=z;cases h:z%4==3 with
 |true=>
  simp only[pv,↓reduceIte,Nat.reduceAdd,Nat.reduceLT,Nat.reduceLeDiff,Nat.reduceEqDiff,op,m4,m30,f4,u2,Cd,h,bS]
 |false=>
  simp only[pv,↓reduceIte,Nat.reduceAdd,Nat.reduceLT,Nat.reduceLeDiff,Nat.reduceEqDiff,op,m4,m7,f4,h,bS,lQ]
theorem uR(d:List Int):iH bw (.l .f) (.lst (d.map D.int)) []=.ok ((.f,.int (nu d)),.lst (d.dropLast.map D.int)):=gv (r:=(.f,.int (nu d))) fun p=>uQ p d
def it(nx:List Int->List Int):Nat->List Int->List Int
 | 0,d=>d
 |n+1,d=>nx (it nx n d)
theorem uS{f:FX}{v:List Int->D}{nx:List Int->List Int}(aO:PV.Env)(q:Addr)(hf:∀(d:List Int) (k:Int),∃o,f (some (.f,.int k)::some (.pin q (.l .f),.lst (d.map D.int))::aO)=.ok ((o,v d),some (.f,.int k)::some (.pin q (.l .f),.lst ((nx d).map D.int))::aO))(n:Nat)(d:List Int)(t:Option R):
  ∃t',compLE (aw 0) dq f ((List.range n).map fun(k:Nat)=>D.int (k:Int)) (t::some (.pin q (.l .f),.lst (d.map D.int))::aO)=.ok ((List.range n).map (fun i=>v (it nx i d)),t'::some (.pin q (.l .f),.lst ((it nx n d).map D.int))::aO):=by
 obtain⟨rs,D4,h1,t',h2,h3⟩:=jz (a:=aw 0) (f:=f) (e:=fun(k:Nat)=>D.int (k:Int)) (fun n env acc=>∃t',env=t'::some (.pin q (.l .f),.lst ((it nx n d).map D.int))::aO/\acc=(List.range n).map (fun i=>v (it nx i d))) (List.range n) 0 (t::some (.pin q (.l .f),.lst (d.map D.int))::aO) [] ⟨t,rfl,rfl⟩ (by
  rintro k x env acc hk ⟨t',rfl,rfl⟩;rw[RZ];obtain⟨o,e⟩:=hf (it nx k d) (x:Int);exact⟨some (.f,.int (x:Int))::some (.pin q (.l .f),.lst ((it nx k d).map D.int))::aO,by rw[Fi,Px (by rw[PH];exact RL _)];rfl,o,_,_,e,_,rfl,by rw[SF,Qm];rfl⟩)
 rw[RZ,PM]at h2;rw[RZ,PM,Q9]at h3;subst h2 h3;exact⟨t',h1⟩
theorem oC{f:FX}{v:List Int->D}{nx:List Int->List Int}(aO:PV.Env)(hf:∀(q:Addr) (d:List Int) (k:Int),∃o,f (some (.f,.int k)::some (.pin q (.l .f),.lst (d.map D.int))::aO)=.ok ((o,v d),some (.f,.int k)::some (.pin q (.l .f),.lst ((nx d).map D.int))::aO))(n:Nat)(d:List Int)(t:Option R):
  i5 (aw 0) dq f ((List.range n).map fun(k:Nat)=>D.int (k:Int)) (fun q=>t::some (.pin q (.l .f),.lst (d.map D.int))::aO) 1=.ok ((List.range n).map (fun i=>v (it nx i d)),(it nx n d).map D.int):=by
 refine j8 fun q=>?_
 obtain⟨t',h⟩:=uS aO q (hf q) n d t;exact⟨_,h,rfl⟩
def HN(w:Nat)(d:List Int):List Int:=(List.range w).map fun i=>nu (it List.dropLast i d)
theorem mV(w:Nat)(d:List Int):(HN w d).length=w:=by unfold HN;rw[bE,PM]
theorem Av(w:Nat)(d:List Int):∀x∈HN w d,x.natAbs<=10 ^ 30:=by
 intro x hx;unfold HN at hx;obtain⟨i,_,rfl⟩:=pF hx;exact Dz _
theorem Ce(p:Addr)(d:List Int)(w:Nat)(hw:w<=1000):bL p [.lst (d.map D.int),.int (w:Int)]=.ok (.t [.f,.pin p (.l .f)],.tup [.tup ((HN w d).map D.int),.lst ((it List.dropLast w d).map D.int)]):=by
 have hc:=oC (f:=eFunW (.l .f) bw 1 (ae (ak 1) ar)) (v:=fun d=>.int (nu d)) (nx:=List.dropLast) [] (fun q d k=>⟨.f,by simp only[pv,seval,uR,cE,fX,fW,bS,El,Em,cD,ck,cm,DZ,P1,Rf,Q1]⟩) w d none;have e1:(List.range w).map (fun i=>D.int (nu (it List.dropLast i d)))=(HN w d).map D.int:=by
  unfold HN;rw[P7];rfl
 rw[e1]at hc;have hl:((HN w d).map D.int).length<=sizeLine:=line_le (by rw[bE,mV];lia);have hr:-4611686018427387904<=(w:Int)/\(w:Int)<4611686018427387904:=by lia
 unfold bL jx;rw[gE (h:=by rfl)];simp only[lR,Ry,List.replicate_zero,PU,RB,Q9];simp only[pv,seval,op,ie,hr,Qu,xQ,hc,hl,DZ,bS,U7]
theorem Aw(d:List Int)(w:Nat)(hw:w<=1000):iH bL (.l .f) (.lst (d.map D.int)) [.int (w:Int)]=.ok ((.f,.tup ((HN w d).map D.int)),.lst ((it List.dropLast w d).map D.int)):=gv (r:=(.f,.tup ((HN w d).map D.int))) fun p=>Ce p d w hw
theorem cF{α:Type}(l:List α)(k:Nat)(d:α)(h:k<l.length):l.getD k d=l[k]:=by rw[Pg,mj h];rfl
theorem oD(a b:List Int)(k:Nat)(ha:k<a.length)(hb:k<b.length):(((a.zip b).map fun z=>z.1*z.2).take (k+1)).sum=(((a.zip b).map fun z=>z.1*z.2).take k).sum+a.getD k 0*b.getD k 0:=by
 have h:k<((a.zip b).map fun z=>z.1*z.2).length:=by
  rw[bE,Q8];lia
 rw[uO _ k h,Sr,List.getElem_zip,cF _ _ _ ha,cF _ _ _ hb]
theorem sf(rows:List (List Int))(uZ:List Int)(j k:Nat)(ha:j<rows.length)(hb:j<uZ.length):(((rows.zip uZ).take (j+1)).map fun z=>z.1.getD k 0*z.2).sum=(((rows.zip uZ).take j).map fun z=>z.1.getD k 0*z.2).sum+(rows[j].getD k 0)*uZ[j]:=by
 have h:j<(rows.zip uZ).length:=by
  rw[Q8];lia
 rw[Ru h,Qm,Ub,lR,Ry,List.sum_cons,UP,QZ,List.getElem_zip]
theorem eh{l:List Int}{k:Nat}(h:k<l.length):l.getD k 0∈l:=by
 rw[cF _ _ _ h];exact List.getElem_mem h
abbrev Bg(n:Nat)(a:List Int):Prop:=∀x∈a,x.natAbs<2 ^ n
def eR(r:List Int):D:=.tup (r.map D.int)
def dot(a b:List Int):Int:=((a.zip b).map fun z=>z.1*z.2).sum
theorem uT(a b:List Int):((a.map D.int).zip (b.map D.int)).map (fun z=>D.tup [z.1,z.2])=(a.zip b).map fun z=>D.tup [.int z.1,.int z.2]:=by
 rw[List.zip_map,P7];rfl
theorem si{n m:Nat}(hn:n<=900000)(hm:m<=900000)(a b:List Int)(ha:Bg n a)(hb:Bg m b)(hl:a.length<=1000):cH [eR a,eR b]=.ok (.f,.int (dot a b)):=by
 have hc:cM (lj 2 (bj (aw 0) (bj (aw 1) fH))) dq (aR hV (ak 0) (ak 1)) ((a.zip b).map fun z=>D.tup [.int z.1,.int z.2]) [none,none]=.ok (((a.zip b).map fun z=>z.1*z.2).map D.int):=by
  rw[P7];refine cU (fun env=>∃t u,env=[t,u]) _ ?_ _ ⟨_,_,rfl⟩;rintro⟨x,y⟩ hz env ⟨t,u,rfl⟩;have hx:=ha x (Rw hz).1;have hy:=hb y (Rw hz).2;refine⟨_,iS _ _ _ _ _,?_⟩;simp only[pv,seval,uP hx hy hn hm];exact⟨_,_,rfl,_,_,rfl⟩
 have Oh:(((a.zip b).map fun z=>z.1*z.2).map D.int).length<=16777216:=by
  rw[bE,bE,Q8];lia
 unfold cH lK eR;rw[bJ (h:=by rfl)];simp only[pv,seval,op,uT,hc,line_le Oh,DZ,r9];rfl
theorem jB{n m:Nat}(hn:n<=900000)(hm:m<=900000)(a b:List Int)(ha:Bg n a)(hb:Bg m b)(hl:a.length<=1000)(Il:a.length=b.length):aP [eR a,eR b]=.ok (.f,.int (dot a b)):=by
 have hz:((a.zip b).map fun z=>z.1*z.2).take a.length=(a.zip b).map fun z=>z.1*z.2:=by
  rw[QC];rw[bE,Q8];lia
 obtain⟨env',hf,t,rfl⟩:=rY (a:=aw 3) (g:=cC) (e:=fun k=>D.int (k:Int)) a.length (fun k env=>∃t,env=[some (.f,eR a),some (.f,eR b),some (.f,.int (((a.zip b).map fun z=>z.1*z.2).take k).sum),t]) (by
  rintro k env hk ⟨t,rfl⟩;have GH:k<b.length:=Il▸hk;refine⟨[some (.f,eR a),some (.f,eR b),some (.f,.int (((a.zip b).map fun z=>z.1*z.2).take k).sum),some (.f,.int (k:Int))],by simp only[pv,seval],[some (.f,eR a),some (.f,eR b),some (.f,.int (((a.zip b).map fun z=>z.1*z.2).take (k+1)).sum),some (.f,.int (k:Int))],?_,_,rfl⟩;have e1:=lS (l:=a) hk;have e2:=lS (l:=b) GH;have e3:=uP (ha _ (eh hk)) (hb _ (eh GH)) hn hm;rw[oD a b k hk GH];unfold cC eR;simp only[pv,seval,op,e1,e2,e3]) [some (.f,eR a),some (.f,eR b),some (.f,.int 0),none] ⟨_,by rw[SR,UP]⟩
 unfold aP fS;rw[bJ (h:=by rfl)];have hr:bV (aq (bh fA (ae (ak 0) ar))) [some (.f,eR a),some (.f,eR b),some (.f,.int 0),none]=.ok ((List.range a.length).map fun(k:Nat)=>D.int (k:Int),[some (.f,eR a),some (.f,eR b),some (.f,.int 0),none]):=by
  refine(A8 (a.length:Int) (by lia) (by lia) _ _ _ (.val (.int (a.length:Int))) ?_ rfl);unfold eR;simp only[pv,seval,op,bE]
 rw[ax (env':=[some (.f,eR a),some (.f,eR b),some (.f,.int 0),none]) (by simp only[pv,seval])];rw[ax (env':=[some (.f,eR a),some (.f,eR b),some (.f,.int (dot a b)),t]) (by
  unfold eM;rw[Hn,hr,FD];rw[hz]at hf;exact hf)]
 unfold dM;simp only[pv,seval]
def co(rows:List (List Int))(uZ:List Int)(j k:Nat):Int:=(((rows.zip uZ).take j).map fun z=>z.1.getD k 0*z.2).sum
theorem oE(rows:List (List Int))(uZ:List Int):((rows.map eR).zip (uZ.map D.int)).map (fun z=>D.tup [z.1,z.2])=(rows.zip uZ).map fun z=>D.tup [eR z.1,.int z.2]:=by
 rw[List.zip_map,P7];rfl
def Rows(n w:Nat)(rows:List (List Int)):Prop:=∀r∈rows,r.length=w/\Bg n r
theorem iT(rows:List (List Int)):D6 (rows.map eR)=true:=by
 rw[cX,Sj,P8];intro r _;show dw (.tup _)=true;rw[ic,DZ]
theorem Cf{n m:Nat}(hn:n<=900000)(hm:m<=900000)(w k:Nat)(hk:k<w)(rows:List (List Int))(uZ:List Int)(hr:Rows n w rows)(HE:Bg m uZ):cM (lj 2 (bj (aw 0) (bj (aw 1) fH))) dq (aR hV (aq (aR EH (ak 0) (ak 2))) (ak 1)) ((rows.zip uZ).map fun z=>D.tup [eR z.1,.int z.2]) [none,none,some (.f,.int (k:Int))]=.ok (((rows.zip uZ).map fun z=>z.1.getD k 0*z.2).map D.int):=by
 rw[P7];refine cU (fun env=>∃t u,env=[t,u,some (.f,.int (k:Int))]) _ ?_ _ ⟨_,_,rfl⟩;rintro⟨r,y⟩ hz env ⟨t,u,rfl⟩;have KG:=Rw hz;obtain⟨h1,h2⟩:=hr r KG.1;have GH:k<r.length:=h1▸hk;have e1:=lS (l:=r) GH;have e2:=uP (h2 _ (eh GH)) (HE y KG.2) hn hm;refine⟨_,iS _ _ _ _ _,?_⟩;unfold eR;simp only[pv,seval,op,e1,e2];exact⟨_,_,rfl,_,_,rfl⟩
theorem uU{n m:Nat}(hn:n<=900000)(hm:m<=900000)(w:Nat)(hw:w<=1000)(rows:List (List Int))(uZ:List Int)(hr:Rows n w rows)(HE:Bg m uZ)(hl:rows.length<=1000):dR [.lst (rows.map eR),.lst (uZ.map D.int),.int (w:Int)]=.ok (.f,eR ((List.range w).map (co rows uZ rows.length))):=by
 have Nz:∀k,((rows.zip uZ).map fun z=>z.1.getD k 0*z.2).sum=co rows uZ rows.length k:=fun k=>by
  unfold co;rw[QC];rw[Q8];lia
 have Oh:∀k,(((rows.zip uZ).map fun z=>z.1.getD k 0*z.2).map D.int).length<=16777216:=fun k=>by
  rw[bE,bE,Q8];lia
 have hc:cM (aw 0) dq (bh vI (ae (aq (di (mH (ae (aq (aM 1)) (ae (aq (aM 2)) ar))) [none,none,some 0] (lj 2 (bj (aw 0) (bj (aw 1) fH))) dq (aR hV (aq (aR EH (ak 0) (ak 2))) (ak 1)))) ar)) ((List.range w).map fun(k:Nat)=>D.int (k:Int)) [none,some (.f,.lst (rows.map eR)),some (.f,.lst (uZ.map D.int))]=.ok (((List.range w).map (co rows uZ rows.length)).map D.int):=by
  rw[P7];refine cU (fun env=>∃t,env=[t,some (.f,.lst (rows.map eR)),some (.f,.lst (uZ.map D.int))]) _ ?_ _ ⟨_,rfl⟩;rintro k hk env ⟨t,rfl⟩;have hk:k<w:=QM.mp hk;refine⟨[some (.f,.int (k:Int)),some (.f,.lst (rows.map eR)),some (.f,.lst (uZ.map D.int))],by simp only[pv,seval],?_⟩;simp only[pv,seval,op,oE,Cf hn hm w k hk rows uZ hr HE,line_le (Oh k),DZ,r9,Nz];exact⟨_,_,rfl,_,rfl⟩
 have hl3:(((List.range w).map (co rows uZ rows.length)).map D.int).length<=16777216:=by
  rw[bE,bE,PM];lia
 unfold dR oy eR;rw[bJ (h:=by rfl)];have Ko:-4611686018427387904<=(w:Int)/\(w:Int)<4611686018427387904:=by lia
 unfold eR at hc;simp only[pv,seval,op,Ko,Qu,U7,hc,line_le hl3,DZ]
theorem cZ(w k:Nat)(f:Nat->Int)(h:k<w):((List.range w).map f).getD k 0=f k:=by
 rw[cF _ _ _ (by rw[bE,PM];exact h),Sr,R7]
theorem xS(x y:D)(a b c d t1 t2 t3:Option R):lj 2 (bj (aw 4) (bj (aw 5) fH)) (.tup [x,y]) [a,b,c,d,t1,t2,t3]=.ok [a,b,c,d,some (.f,x),some (.f,y),t3]:=by
 rw[Ib,Px (by simp),Fy,Fi,Px (by simp),FD,Fy,Fi,Px (by simp),FD];rfl
theorem xT{n m:Nat}(hn:n<=900000)(hm:m<=900000)(w:Nat)(hw:w<=1000)(R0 N0:D)(f:Nat->Int)(r:List Int)(y:Int)(hr:r.length=w/\Bg n r)(hy:y.natAbs<2 ^ m)(t:Option R):
  ∃t',eZ [some (.f,R0),some (.f,N0),some (.f,.int (w:Int)),some (.l .f,.lst (((List.range w).map f).map D.int)),some (.f,eR r),some (.f,.int y),t] =
   .ok (.nx [some (.f,R0),some (.f,N0),some (.f,.int (w:Int)),some (.l .f,.lst (((List.range w).map fun k=>f k+r.getD k 0*y).map D.int)),some (.f,eR r),some (.f,.int y),t']):=by
 obtain⟨env',hf,t',rfl⟩:=rY (a:=aw 6) (g:=dU) (e:=fun k=>D.int (k:Int)) w (fun k env=>∃t,env=[some (.f,R0),some (.f,N0),some (.f,.int (w:Int)),some (.l .f,.lst (((List.range w).map fun i=>if i<k then f i+r.getD i 0*y else f i).map D.int)),some (.f,eR r),some (.f,.int y),t]) (by
  rintro k env hk ⟨t,rfl⟩;have GH:k<r.length:=hr.1.symm▸hk;generalize hg:(fun i=>if i<k then f i+r.getD i 0*y else f i)=g;have gk:g k=f k:=by rw[<-hg];exact PJ (QH _)
  have e0:GU (((List.range w).map g).map D.int) (k:Int)=some (.int (f k)):=by
   rw[lS (by rw[bE,PM];exact hk),cZ w k g hk,gk]
  have e1:=lS (l:=r) GH;have e2:=uP (hr.2 _ (eh GH)) hy hn hm;have e3:ixN (((List.range w).map g).map D.int).length (k:Int)=some k:=mU _ _ (by rw[bE,bE,PM];exact hk);have e4:(((List.range w).map g).map D.int).set k (.int (f k+r.getD k 0*y))=((List.range w).map fun i=>if i<k+1 then f i+r.getD i 0*y else f i).map D.int:=by
   rw[P7,g6,P7];refine Qx fun i _=>?_
   show(if i=k then D.int _ else D.int (g i))=D.int (if i<k+1 then f i+r.getD i 0*y else f i);by_cases h:i=k
   ·subst h;rw[Px rfl,Px (Nat.lt_add_one _)]
   ·rw[PJ h,<-hg];dsimp only;by_cases h2:i<k
    ·rw[Px h2,Px (by lia)]
    ·rw[PJ h2,PJ (by lia)]
  refine⟨[some (.f,R0),some (.f,N0),some (.f,.int (w:Int)),some (.l .f,.lst (((List.range w).map g).map D.int)),some (.f,eR r),some (.f,.int y),some (.f,.int (k:Int))],by simp only[pv,seval],
   [some (.f,R0),some (.f,N0),some (.f,.int (w:Int)),some (.l .f,.lst (((List.range w).map fun i=>if i<k+1 then f i+r.getD i 0*y else f i).map D.int)),some (.f,eR r),some (.f,.int y),some (.f,.int (k:Int))],?_,_,rfl⟩
  rw[<-e4];unfold dU eR;simp only[pv,seval,op,e0,e1,e2,e3]) [some (.f,R0),some (.f,N0),some (.f,.int (w:Int)),some (.l .f,.lst (((List.range w).map f).map D.int)),some (.f,eR r),some (.f,.int y),t] ⟨t,by simp only[PY,Ul]⟩
 refine⟨t',?_⟩;unfold eZ;rw[Hn,A8 (w:Int) (by lia) (by lia) _ _ _ (.var 2) rfl rfl,FD];refine hf.trans ?_;have:(List.range w).map (fun i=>if i<w then f i+r.getD i 0*y else f i)=(List.range w).map fun k=>f k+r.getD k 0*y:=Qx fun i hi=>Px (QM.mp hi)
 rw[this]
theorem oF{n m:Nat}(hn:n<=900000)(hm:m<=900000)(w:Nat)(hw:w<=1000)(rows:List (List Int))(uZ:List Int)(hr:Rows n w rows)(HE:Bg m uZ)(hl:rows.length<=1000)(Oi:rows.length=uZ.length):aX [.lst (rows.map eR),.lst (uZ.map D.int),.int (w:Int)]=.ok (.f,eR ((List.range w).map (co rows uZ rows.length))):=by
 have zl:(rows.zip uZ).length=rows.length:=by
  rw[Q8];lia
 have e0:hV (.lst [.int 0]) (.int (w:Int))=.ok (.l .f,.lst (((List.range w).map fun _=>(0:Int)).map D.int)):=by
  show yv (.lst [.int 0]) (.int (w:Int))=_;rw[rW,Px ⟨by lia,by lia,line_le (by rw[PH,Q7];lia)⟩,Qu];have:(List.replicate w [D.int 0]).flatten=((List.range w).map fun _=>(0:Int)).map D.int:=by
   rw[P7];clear hw hr;induction w with
   |zero=>rfl
   |succ n ih=>rw[TZ,Uc,ih,SF,Qm];rfl
  rw[this]
 obtain⟨env',hf,t1,t2,t3,rfl⟩:=for_list (a:=lj 2 (bj (aw 4) (bj (aw 5) fH))) (g:=gA) (e:=fun z:List Int×Int=>D.tup [eR z.1,.int z.2]) (rows.zip uZ) (fun j env=>∃t1 t2 t3,env=[some (.f,.lst (rows.map eR)),some (.f,.lst (uZ.map D.int)),some (.f,.int (w:Int)),some (.l .f,.lst (((List.range w).map (co rows uZ j)).map D.int)),t1,t2,t3]) (by
  rintro j ⟨r,y⟩ env hj ⟨t1,t2,t3,rfl⟩;have hz:(r,y)∈rows.zip uZ:=Qj hj;have MG:=Rw hz;obtain⟨q1,q2⟩:=Rr.mp hj;obtain⟨l1,q1⟩:=yy q1;obtain⟨l2,q2⟩:=yy q2;obtain⟨t',hs⟩:=xT hn hm w hw (.lst (rows.map eR)) (.lst (uZ.map D.int)) (co rows uZ j) r y (hr r MG.1) (HE y MG.2) t3;have e:(fun k=>co rows uZ j k+r.getD k 0*y)=co rows uZ (j+1):=funext fun k=>by
   unfold co;rw[sf rows uZ j k l1 l2];dsimp only at q1 q2;rw[q1,q2]
  rw[e]at hs;exact⟨_,xS _ _ _ _ _ _ _ _ _,_,hs,_,_,_,rfl⟩) [some (.f,.lst (rows.map eR)),some (.f,.lst (uZ.map D.int)),some (.f,.int (w:Int)),some (.l .f,.lst (((List.range w).map fun _=>(0:Int)).map D.int)),none,none,none] ⟨_,_,_,by
   have:co rows uZ 0=fun _=>(0:Int):=funext fun k=>by unfold co;rw[SR];rfl
   rw[this]⟩
 unfold aX jy;rw[bJ (h:=by rfl)];rw[ax (env':=[some (.f,.lst (rows.map eR)),some (.f,.lst (uZ.map D.int)),some (.f,.int (w:Int)),some (.l .f,.lst (((List.range w).map fun _=>(0:Int)).map D.int)),none,none,none]) (by simp only[pv,seval,e0])];rw[ax (env':=[some (.f,.lst (rows.map eR)),some (.f,.lst (uZ.map D.int)),some (.f,.int (w:Int)),some (.l .f,.lst (((List.range w).map (co rows uZ rows.length)).map D.int)),t1,t2,t3]) (by
  unfold g0;rw[Hn];simp only[pv,seval,oE];rw[zl]at hf;exact hf)]
 unfold gB;simp only[pv,seval,op];rfl
end LW
namespace LW
theorem OX:∀(k n:Nat) (f:Nat->Nat),k<n->(∀i,i<n->f i<k)->∃i j,i<j/\j<n/\f i=f j
 | 0,n,f,h,hf=>absurd (hf 0 h) (PY _)
 |k+1,0,f,h,hf=>absurd h (PY _)
 |k+1,n+1,f,h,hf=>by
  by_cases hc:∃i,i<n/\f i=f n
  ·obtain⟨i,h1,h2⟩:=hc;exact⟨i,n,h1,P9 n,h2⟩
  ·have hn:∀i,i<n->f i≠f n:=fun i hi e=>hc ⟨i,hi,e⟩
   obtain⟨i,j,h1,h2,h3⟩:=OX k n (fun i=>if f i=k then f n else f i) (by lia) (fun i hi=>by
    have a1:=hf i (by lia);have a2:=hf n (by lia);have a3:=hn i hi;split <;> lia)
   refine⟨i,j,h1,by lia,?_⟩;have b1:=hn i (by lia);have b2:=hn j (by lia);split at h3 <;> split at h3 <;> lia
def sg(n:Nat)(f:Nat->Int):Int:=match n with
 | 0=>0
 |n+1=>sg n f+f n
theorem aK{n:Nat}{f g:Nat->Int}(h:∀k,k<n->f k=g k):sg n f=sg n g:=by
 induction n with
 |zero=>rfl
 |succ n ih=>unfold sg;rw[ih fun k hk=>h k (by lia),h n (by lia)]
theorem eA{n:Nat}{f:Nat->Int}(h:∀k,k<n->f k=0):sg n f=0:=by
 induction n with
 |zero=>rfl
 |succ n ih=>unfold sg;rw[ih fun k hk=>h k (by lia),h n (by lia)];rfl
theorem jC(n:Nat)(f g:Nat->Int):sg n (fun k=>f k+g k)=sg n f+sg n g:=by
 induction n with
 |zero=>rfl
 |succ n ih=>unfold sg;rw[ih];lia
theorem cR(n:Nat)(x:Int)(f:Nat->Int):sg n (fun k=>x*f k)=x*sg n f:=by
 induction n with
 |zero=>exact(P4 x).symm
 |succ n ih=>unfold sg;rw[ih,Ta]
theorem mW(n:Nat)(x:Int)(f:Nat->Int):sg n (fun k=>f k*x)=sg n f*x:=by
 rw[Q0,<-cR];exact aK fun k _=>Q0 _ _
theorem kz(m n:Nat)(f:Nat->Nat->Int):sg m (fun i=>sg n (f i))=sg n fun j=>sg m fun i=>f i j:=by
 induction m with
 |zero=>exact(eA fun _ _=>rfl).symm
 |succ m ih=>
  show sg m (fun i=>sg n (f i))+sg n (f m)=sg n fun j=>(sg m fun i=>f i j)+f m j
  rw[ih,<-jC]
theorem g7{n c:Nat}(h:c<n){f:Nat->Int}(hf:∀k,k<n->k≠c->f k=0):sg n f=f c:=by
 induction n with
 |zero=>lia
 |succ n ih=>
  unfold sg;by_cases hc:c=n
  ·subst hc;rw[eA fun k hk=>hf k (by lia) (by lia),UQ]
  ·rw[ih (by lia) fun k hk=>hf k (by lia),hf n (by lia) (fun e=>hc e.symm),QZ]
theorem Cg{n:Nat}{f:Nat->Int}{M:Nat}(h:∀k,k<n->(f k).natAbs<=M):(sg n f).natAbs<=n*M:=by
 induction n with
 |zero=>show(0:Int).natAbs<=_;rw[Nat.zero_mul];decide
 |succ n ih=>
  unfold sg;have h1:=ih fun k hk=>h k (by lia)
  have h2:=h n (by lia);have h3:=Int.natAbs_add_le (sg n f) (f n);rw[Tw];lia
def Ip(K:Nat):Nat->(Nat->Nat)->Nat
 | 0,_=>0
 |s+1,y=>Ip K s y*K+y s
theorem vV{K:Nat}:∀(s:Nat) (y:Nat->Nat),(∀j,j<s->y j<K)->Ip K s y<K ^ s
 | 0,_,_=>P9 0
 |s+1,y,h=>by
  have h1:=vV s y fun j hj=>h j (by lia)
  have h2:=h s (by lia);show Ip K s y*K+y s<K ^ (s+1);rw[R1];have h3:(Ip K s y+1)*K<=K ^ s*K:=QX K h1;rw[Tw]at h3;lia
theorem sj{K:Nat}:∀(s:Nat) (y z:Nat->Nat),(∀j,j<s->y j<K/\z j<K)->Ip K s y=Ip K s z->∀j,j<s->y j=z j
 | 0,_,_,_,_,j,hj=>absurd hj (PY j)
 |s+1,y,z,h,e,j,hj=>by
  have e:Ip K s y*K+y s=Ip K s z*K+z s:=e;obtain⟨h1,h2⟩:=h s (by lia);have hd:Ip K s y=Ip K s z:=by
   have e1:(Ip K s y*K+y s) / K=(Ip K s z*K+z s) / K:=by rw[e]
   rw[RK,RK (Ip K s z),Nat.mul_add_div (by lia),Nat.mul_add_div (by lia),Nat.div_eq_of_lt h1,Nat.div_eq_of_lt h2]at e1;lia
  rw[hd]at e;by_cases NA:j=s
  ·subst NA;lia
  ·exact sj s y z (fun j hj=>h j (by lia)) hd j (by lia)
def Gv(B n i:Nat):Nat:=n / B ^ i%B
theorem sm{B:Nat}:∀(r n m:Nat),n<B ^ r->m<B ^ r->(∀i,i<r->Gv B n i=Gv B m i)->n=m
 | 0,n,m,hn,hm,_=>by
  rw[Nat.pow_zero]at hn hm;lia
 |r+1,n,m,hn,hm,h=>by
  have h0:=h 0 (by lia);unfold Gv at h0;rw[Nat.pow_zero,Nat.div_one,Nat.div_one]at h0;rw[R1,RK]at hn hm;have hd:n / B=m / B:=sm r (n / B) (m / B) (T1 hn) (T1 hm) fun i hi=>by
   have:=h (i+1) (by lia);unfold Gv at this ⊢;rw[R1,RK,<-To,<-To]at this;exact this
  have e1:=Nat.div_add_mod n B;have e2:=Nat.div_add_mod m B;rw[hd,h0]at e1;lia
theorem vW{r s A:Nat}(h:s<r)(m:Nat->Nat->Int)(hA:∀j,j<s->∀i,i<r->(m j i).natAbs<=A):∃x:Nat->Int,(∃i,i<r/\x i≠0)/\(∀i,i<r->(x i).natAbs<=(2*(r*A)+1) ^ s)/\∀j,j<s->sg r (fun i=>m j i*x i)=0:=by
 generalize hX:(2*(r*A)+1) ^ s=X;have Oj:∀n i,Gv (X+1) n i<=X:=fun n i=>by
  exact Nat.le_of_lt_succ (Nat.mod_lt (n / (X+1) ^ i) (RL X))
 have hy:∀n j,j<s->(sg r fun i=>m j i*(Gv (X+1) n i:Int)).natAbs<=r*A*X:=fun n j hj=>by
  rw[Nat.mul_assoc];refine Cg fun i hi=>?_
  rw[Rh,Qr];exact Sg (hA j hj i hi) (Oj n i)
 generalize hC:r*A=C at hX hy;have ED:∀n j,j<s->((sg r fun i=>m j i*(Gv (X+1) n i:Int))+(C*X:Nat)).toNat<2*(C*X)+1:=fun n j hj=>by
  have:=hy n j hj;generalize (sg r fun i=>m j i*(Gv (X+1) n i:Int))=q at this;generalize C*X=t at this;lia
 have hcmp:(2*(C*X)+1) ^ s<(X+1) ^ r:=by
  have h1:(X+1) ^ (s+1)<=(X+1) ^ r:=RS (RL X) h;have h2:2*(C*X)+1<=(X+1)*(2*C+1):=by
   have:(X+1)*(2*C+1)=2*(C*X)+2*C+X+1:=by
    rw[Nat.mul_add,Nat.add_mul,Vj,Nat.one_mul,RK X,Nat.mul_assoc];lia
   lia
  have h3:(2*(C*X)+1) ^ s<=(X+1) ^ s*X:=by
   rw[<-hX,<-Nat.mul_pow,hX];exact Ud h2 s
  have h4:(X+1) ^ s*X<(X+1) ^ (s+1):=by
   rw[R1];have:0<(X+1) ^ s:=Nat.pow_pos (RL X);exact Nat.mul_lt_mul_of_pos_left (P9 X) this
  lia
 obtain⟨a,b,h1,h2,h3⟩:=OX _ _ (fun n=>Ip (2*(C*X)+1) s fun j=>((sg r fun i=>m j i*(Gv (X+1) n i:Int))+(C*X:Nat)).toNat) hcmp fun n _=>vV s _ fun j hj=>ED n j hj
 have h4:=sj s _ _ (fun j hj=>⟨ED a j hj,ED b j hj⟩) h3;refine⟨fun i=>(Gv (X+1) a i:Int)-(Gv (X+1) b i:Int),?_,fun i _=>?_,fun j hj=>?_⟩
 ·apply P2;intro K3;have:a=b:=sm r a b (by lia) h2 fun i hi=>by
   apply P2;intro IB;exact K3 ⟨i,hi,fun z=>IB (by have z:(Gv (X+1) a i:Int)-(Gv (X+1) b i:Int)=0:=z;lia)⟩
  lia
 ·have:=Oj a i;have:=Oj b i;show((Gv (X+1) a i:Int)-(Gv (X+1) b i:Int)).natAbs<=X;lia
 ·have e:=h4 j hj;have ya:=hy a j hj;have yb:=hy b j hj;have:sg r (fun i=>m j i*((Gv (X+1) a i:Int)-(Gv (X+1) b i:Int)))=(sg r fun i=>m j i*(Gv (X+1) a i:Int))-sg r fun i=>m j i*(Gv (X+1) b i:Int):=by
   have e2:sg r (fun i=>m j i*((Gv (X+1) a i:Int)-(Gv (X+1) b i:Int)))+(sg r fun i=>m j i*(Gv (X+1) b i:Int))=sg r fun i=>m j i*(Gv (X+1) a i:Int):=by
    rw[<-jC];refine aK fun k _=>?_
    rw[<-Ta];congr 1
    lia
   lia
  rw[this];generalize (sg r fun i=>m j i*(Gv (X+1) a i:Int))=qa at e ya;generalize (sg r fun i=>m j i*(Gv (X+1) b i:Int))=qb at e yb;generalize C*X=t at e ya yb;lia
def OY(r w:Nat)(F:Nat->Nat->Int):Prop:=∀x:Nat->Int,(∀k,k<w->sg r (fun i=>x i*F i k)=0)->∀i,i<r->x i=0
def In(r w:Nat)(F:Nat->Nat->Int)(v:Nat->Int):Prop:=∃(d:Int) (x:Nat->Int),d≠0/\∀k,k<w->d*v k=sg r fun i=>x i*F i k
theorem eC{r w:Nat}{F:Nat->Nat->Int}{i:Nat}(h:i<r):In r w F (F i):=by
 refine⟨1,fun j=>if j=i then 1 else 0,by decide,fun k _=>?_⟩;show 1*F i k=sg r fun j=>(if j=i then 1 else 0)*F j k
 rw[g7 h (f:=fun j=>(if j=i then 1 else 0)*F j k) fun j _ hj=>by
  show(if j=i then 1 else 0)*F j k=0;rw[PJ hj,Ra]]
 show 1*F i k=(if i=i then 1 else 0)*F i k;rw[Px rfl]
theorem so{r w:Nat}{F:Nat->Nat->Int}{v:Nat->Int}(h:∀k,k<w->v k=0):In r w F v:=by
 refine⟨1,fun _=>0,by decide,fun k hk=>?_⟩;rw[h k hk,eA fun j _=>Ra _,P4]
theorem in_add{r w:Nat}{F:Nat->Nat->Int}{u v:Nat->Int}(a b:Int)(hu:In r w F u)(hv:In r w F v):In r w F fun k=>a*u k+b*v k:=by
 obtain⟨d,x,h1,h2⟩:=hu;obtain⟨e,y,h3,h4⟩:=hv;refine⟨d*e,fun i=>e*a*x i+d*b*y i,fun z=>(Qg.mp z).elim h1 h3,fun k hk=>?_⟩;have e1:d*e*(a*u k+b*v k)=e*a*(d*u k)+d*b*(e*v k):=by
  rw[Ta];congr 1
  ·simp only[Q0,Ri]
  ·simp only[Q0,Ri]
 rw[e1,h2 k hk,h4 k hk,<-cR,<-cR,<-jC];refine aK fun i _=>?_
 rw[Vk,Qk,Qk,Qk,Qk,Qk,Qk]
theorem g8{r w:Nat}{F:Nat->Nat->Int}{u v:Nat->Int}(d:Int)(hd:d≠0)(h:∀k,k<w->d*v k=u k)(hu:In r w F u):In r w F v:=by
 obtain⟨e,x,h1,h2⟩:=hu;refine⟨e*d,x,fun z=>(Qg.mp z).elim h1 hd,fun k hk=>?_⟩;rw[Qk,h k hk,h2 k hk]
theorem bR{r w:Nat}{F:Nat->Nat->Int}{u v:Nat->Int}(h:∀k,k<w->v k=u k)(hu:In r w F u):In r w F v:=g8 1 (by decide) (fun k hk=>by rw[QV,h k hk]) hu
theorem g9{r w:Nat}{F:Nat->Nat->Int}:∀(n:Nat) (x:Nat->Int) (G:Nat->Nat->Int),(∀i,i<n->In r w F (G i))->In r w F fun k=>sg n fun i=>x i*G i k
 | 0,_,_,_=>so fun _ _=>rfl
 |n+1,x,G,h=>by
  have h1:=g9 n x G fun i hi=>h i (by lia)
  refine bR (fun k _=>?_) (in_add 1 (x n) h1 (h n (by lia)));show sg n (fun i=>x i*G i k)+x n*G n k=_;rw[QV]
theorem fE{r s w:Nat}{F G:Nat->Nat->Int}{v:Nat->Int}(hv:In r w F v)(h:∀i,i<r->In s w G (F i)):In s w G v:=by
 obtain⟨d,x,h1,h2⟩:=hv;exact g8 d h1 h2 (g9 r x F h)
theorem uV{a b w:Nat}{A B:Nat->Nat->Int}(hi:OY a w A)(h:∀i,i<a->In b w B (A i)):a<=b:=by
 apply P2;intro ED;have IK:∃(d:Nat->Int) (m:Nat->Nat->Int),∀i,i<a->d i≠0/\∀k,k<w->d i*A i k=sg b fun j=>m i j*B j k:=by
  have:∀i,∃(p:Int×(Nat->Int)),i<a->p.1≠0/\∀k,k<w->p.1*A i k=sg b fun j=>p.2 j*B j k:=fun i=>by
   by_cases KP:i<a
   ·obtain⟨d,x,h1,h2⟩:=h i KP;exact⟨(d,x),fun _=>⟨h1,h2⟩⟩
   ·exact⟨(0,fun _=>0),fun z=>absurd z KP⟩
  exact⟨fun i=>(this i).choose.1,fun i=>(this i).choose.2,fun i KP=>(this i).choose_spec KP⟩
 obtain⟨d,m,hm⟩:=IK;have hbd:∃M,∀j,j<b->∀i,i<a->(m i j).natAbs<=M:=by
  have h1:∀(n:Nat) (f:Nat->Nat),∃M,∀i,i<n->f i<=M:=fun n f=>by
   induction n with
   |zero=>exact⟨0,fun i hi=>absurd hi (PY _)⟩
   |succ n ih=>
    obtain⟨M,hM⟩:=ih;refine⟨M+f n,fun i hi=>?_⟩;by_cases Jx:i=n
    ·rw[Jx];lia
    ·have:=hM i (by lia);lia
  have h2:∀j,∃M,∀i,i<a->(m i j).natAbs<=M:=fun j=>h1 a fun i=>(m i j).natAbs
  obtain⟨M,hM⟩:=h1 b fun j=>(h2 j).choose
  exact⟨M,fun j hj i KP=>PN ((h2 j).choose_spec i KP) (hM j hj)⟩
 obtain⟨M,hM⟩:=hbd;obtain⟨x,⟨i0,NB,LP⟩,_,hx⟩:=vW (r:=a) (s:=b) (A:=M) (by lia) (fun j i=>m i j) hM;have:=hi (fun i=>x i*d i) (fun k hk=>by
  have e1:sg a (fun i=>x i*d i*A i k)=sg a fun i=>sg b fun j=>x i*(m i j*B j k):=aK fun i KP=>by
   rw[Qk,(hm i KP).2 k hk,cR]
  rw[e1,kz];refine eA fun j hj=>?_
  have e2:sg a (fun i=>x i*(m i j*B j k))=sg a fun i=>m i j*x i*B j k:=aK fun i _=>by rw[<-Qk,Q0 (x i)]
  rw[e2,mW,hx j hj,Ra]) i0 NB
 exact(Qg.mp this).elim LP (hm i0 NB).1
abbrev Vc(l:List Int):Nat->Int:=fun k=>l.getD k 0
abbrev Ef:=List (Nat×List Int)
def D9(L:Ef)(i:Nat):Nat:=(L.getD i (0,[])).1
def Ea(L:Ef)(i:Nat):List Int:=(L.getD i (0,[])).2
structure Rdd(w:Nat)(L:Ef):Prop where
 col:∀i,i<L.length->D9 L i<w
 len:∀i,i<L.length->(Ea L i).length=w
 own:∀i,i<L.length->(Ea L i).getD (D9 L i) 0≠0
 oth:∀i j,i<L.length->j<L.length->i≠j->(Ea L i).getD (D9 L j) 0=0
abbrev Fm(L:Ef):Nat->Nat->Int:=fun i=>Vc (Ea L i)
theorem Rdd.at{w:Nat}{L:Ef}(H:Rdd w L)(x:Nat->Int){j:Nat}(hj:j<L.length):sg L.length (fun i=>x i*Fm L i (D9 L j))=x j*(Ea L j).getD (D9 L j) 0:=
 g7 hj fun i hi LQ=>by
  show x i*(Ea L i).getD (D9 L j) 0=0;rw[H.oth i j hi hj LQ,P4]
theorem Rdd.inj{w:Nat}{L:Ef}(H:Rdd w L){i j:Nat}(hi:i<L.length)(hj:j<L.length)(e:D9 L i=D9 L j):i=j:=by
 apply P2;intro h;have h1:=H.oth j i hj hi (fun z=>h z.symm);rw[e]at h1;exact H.own j hj h1
theorem Rdd.zero{w:Nat}{L:Ef}(H:Rdd w L){v:Nat->Int}(hv:In L.length w (Fm L) v)(h0:∀i,i<L.length->v (D9 L i)=0):∀k,k<w->v k=0:=fun k hk=>by
 obtain⟨d,x,h1,h2⟩:=hv;have hx:∀i,i<L.length->x i=0:=fun i hi=>by
  have h:=h2 (D9 L i) (H.col i hi);rw[h0 i hi,P4,H.at x hi]at h;exact(Qg.mp h.symm).resolve_right (H.own i hi)
 have h:=h2 k hk;rw[eA fun i hi=>by rw[hx i hi,Ra]]at h;exact(Qg.mp h).resolve_left h1
theorem Rdd.line{w:Nat}{L:Ef}(H:Rdd w L){v:Nat->Int}(hv:In L.length w (Fm L) v){j:Nat}(hj:j<L.length)(h0:∀i,i<L.length->i≠j->v (D9 L i)=0):∃d y:Int,d≠0/\∀k,k<w->d*v k=y*Fm L j k:=by
 obtain⟨d,x,h1,h2⟩:=hv;have hx:∀i,i<L.length->i≠j->x i=0:=fun i hi LQ=>by
  have h:=h2 (D9 L i) (H.col i hi);rw[h0 i hi LQ,P4,H.at x hi]at h;exact(Qg.mp h.symm).resolve_right (H.own i hi)
 refine⟨d,x j,h1,fun k hk=>?_⟩;rw[h2 k hk];exact g7 hj fun i hi LQ=>by rw[hx i hi LQ,Ra]
def gl:List Int->Nat->Nat
 |[],g=>g
 |x::r,g=>gl r (Nat.gcd g x.natAbs)
def low(r:List Int):List Int:=if gl r 0=0 then r else r.map fun x=>x.fdiv (gl r 0:Int)
theorem sr:∀(r:List Int) (g:Nat),gl r g ∣ g/\∀x∈r,gl r g ∣ x.natAbs
 |[],g=>⟨Nat.dvd_refl g,fun _ h=>nomatch h⟩
 |x::r,g=>by
  obtain⟨h1,h2⟩:=sr r (Nat.gcd g x.natAbs);refine⟨Uu h1 (Nat.gcd_dvd_left _ _),fun y hy=>?_⟩;rcases Pw.mp hy with rfl|hy
  ·exact Uu h1 (Nat.gcd_dvd_right _ _)
  ·exact h2 y hy
theorem oG:∀(r:List Int) (g d:Nat),d ∣ g->(∀x∈r,d ∣ x.natAbs)->d ∣ gl r g
 |[],_,_,h,_=>h
 |x::r,g,d,h,hr=>oG r _ d (Nat.dvd_gcd h (hr x Pq)) fun y hy=>hr y (Pu _ hy)
theorem su:∀(r:List Int) (g:Nat) (y:Int),gl (r.map fun x=>y*x) (y.natAbs*g)=y.natAbs*gl r g
 |[],_,_=>rfl
 |x::r,g,y=>by
  show gl (r.map fun x=>y*x) (Nat.gcd (y.natAbs*g) (y*x).natAbs)=_;rw[Rh,Nat.gcd_mul_left];exact su r _ y
theorem xU{r:List Int}(h:gl r 0=0):∀x∈r,x=0:=fun x hx=>by
 have:=(sr r 0).2 x hx;rw[h]at this;exact SN.mp (Nat.eq_zero_of_zero_dvd this)
theorem kA(r:List Int):(low r).length=r.length:=by
 unfold low;split
 ·rfl
 ·rw[bE]
theorem iU(r:List Int):∃g:Nat,g≠0/\(∀k,(g:Int)*(low r).getD k 0=r.getD k 0)/\((∃x∈r,x≠0)->gl (low r) 0=1):=by
 by_cases h:gl r 0=0
 ·refine⟨1,by decide,fun k=>?_,fun⟨x,hx,LP⟩=>absurd (xU h x hx) LP⟩;unfold low;rw[Px h];exact QV _
 ·have hm:∀x∈r,(gl r 0:Int)*x.fdiv (gl r 0:Int)=x:=fun x hx=>Sv (Int.ofNat_dvd_left.mpr ((sr r 0).2 x hx))
  refine⟨gl r 0,h,fun k=>?_,fun _=>?_⟩
  ·unfold low;rw[PJ h,Pg,Pg,PK];cases hk:r[k]? with
   |none=>exact P4 _
   |some x=>exact hm x (Qj hk)
  ·have e:=su (low r) 0 (gl r 0:Int);have e2:(low r).map (fun x=>(gl r 0:Int)*x)=r:=by
    unfold low;rw[PJ h,P7];refine(Qx fun x hx=>?_).trans (List.map_id _);exact hm x hx
   rw[e2,Nat.mul_zero,Qr]at e;exact Nat.eq_of_mul_eq_mul_left (by lia) (e.symm.trans (Vj _).symm)
theorem DA{l:List Int}(h1:gl l 0=1){d y:Int}(hd:d≠0){v:Nat->Int}(h:∀k,k<l.length->d*v k=y*l.getD k 0):∃t:Int,∀k,k<l.length->v k=t*l.getD k 0:=by
 have hdy:d.natAbs ∣ y.natAbs:=by
  have h2:=oG (l.map fun x=>y*x) (y.natAbs*0) d.natAbs (by rw[Nat.mul_zero];exact Nat.dvd_zero _) fun x hx=>by
   obtain⟨z,hz,e⟩:=pF hx;obtain⟨k,hk,ez⟩:=Qy hz;have h3:=h k hk;rw[Pg,mj hk,ez]at h3;have h3:d*v k=y*z:=h3;rw[<-e,<-h3,Rh];exact Nat.dvd_mul_right _ _
  rw[su,h1,Vj]at h2;exact h2
 obtain⟨t,ht⟩:=Sm.mp hdy;refine⟨t,fun k hk=>?_⟩;have h3:=h k hk;rw[ht,Qk]at h3;exact Int.eq_of_mul_eq_mul_left hd h3
abbrev Fs(S:List (List Int)):Nat->Nat->Int:=fun i=>Vc (S.getD i [])
structure Inv(w:Nat)(rows:List (List Int))(L:Ef):Prop where
 red:Rdd w L
 pri:∀i,i<L.length->gl (Ea L i) 0=1
 base:∃S:List (List Int),S.length=L.length/\(∀s∈S,s∈rows)/\OY L.length w (Fs S)/\(∀i,i<L.length->In L.length w (Fs S) (Fm L i))/\∀i,i<L.length->In L.length w (Fm L) (Fs S i)
 spn:∀r∈rows,In L.length w (Fm L) (Vc r)
theorem cI{α:Type}{l:List α}{k:Nat}{d:α}(h:k<l.length):l.getD k d∈l:=by
 rw[Pg,mj h];exact List.getElem_mem h
theorem Inv.size{w A:Nat}{rows:List (List Int)}{L:Ef}(H:Inv w rows L)(hA:∀r∈rows,∀k,k<w->(r.getD k 0).natAbs<=A){i:Nat}(hi:i<L.length){k:Nat}(hk:k<w):((Ea L i).getD k 0).natAbs<=L.length*((2*(L.length*A)+1) ^ (L.length-1)*A):=by
 obtain⟨S,s1,s2,s3,s4,s5⟩:=H.base;have hS:∀t,t<L.length->∀k,k<w->(Fs S t k).natAbs<=A:=fun t ht k hk=>hA _ (s2 _ (cI (by lia))) k hk
 obtain⟨x,⟨i0,NB,LP⟩,NC,hx⟩:=vW (r:=L.length) (s:=L.length-1) (A:=A) (by lia) (fun j t=>Fs S t (D9 L (if j<i then j else j+1))) fun j hj t ht=>hS t ht _ (H.red.col _ (by split <;> lia))
 have hv:In L.length w (Fm L) fun k=>sg L.length fun t=>x t*Fs S t k:=g9 _ x (Fs S) s5
 obtain⟨d,y,hd,hy⟩:=H.red.line hv hi fun j hj LR=>by
  have h:=hx (if j<i then j else j-1) (by split <;> lia);have e:(if(if j<i then j else j-1)<i then(if j<i then j else j-1) else(if j<i then j else j-1)+1)=j:=by
   by_cases h1:j<i
   ·rw[Px h1,Px h1]
   ·rw[PJ h1,PJ (by lia)];lia
  rw[e]at h;rw[<-h];exact aK fun t _=>Q0 _ _
 have hlen:=H.red.len i hi;obtain⟨t,ht⟩:=DA (H.pri i hi) hd fun k hk=>hy k (hlen▸hk)
 have ht0:t≠0:=fun z=>LP (s3 x (fun k hk=>by
  have:=ht k (hlen.symm▸hk);rw[z,Ra]at this;exact this) i0 NB)
 have hvk:=ht k (hlen.symm▸hk);have hb:(sg L.length fun t=>x t*Fs S t k).natAbs<=L.length*((2*(L.length*A)+1) ^ (L.length-1)*A):=Cg fun t ht=>by
  rw[Rh];exact Sg (NC t ht) (hS t ht k hk)
 rw[hvk,Rh]at hb;have:1<=t.natAbs:=by lia
 refine PN ?_ hb;exact Tp _ this
def Fz(row:List Int)(c:Nat)(Gw:List Int):List Int:=if row.getD c 0=0 then row else(List.range row.length).map fun k=>row.getD k 0*Gw.getD c 0+Gw.getD k 0 * -(row.getD c 0)
theorem mX(r:List Int)(q:Nat)(l:List Int):(Fz r q l).length=r.length:=by
 unfold Fz;split
 ·rfl
 ·rw[bE,PM]
theorem sv{row:List Int}{c:Nat}{b:List Int}(hb:b.getD c 0≠0):∃x y:Int,x≠0/\(∀k,k<row.length->(Fz row c b).getD k 0=x*row.getD k 0+y*b.getD k 0)/\(c<row.length->(Fz row c b).getD c 0=0):=by
 unfold Fz;by_cases h:row.getD c 0=0
 ·refine⟨1,0,by decide,fun k _=>?_,fun _=>?_⟩
  ·rw[Px h,QV,Ra,QZ]
  ·rw[Px h,h]
 ·refine⟨b.getD c 0,-(row.getD c 0),hb,fun k hk=>?_,fun hc=>?_⟩
  ·rw[PJ h,cZ _ _ _ hk,Q0,Q0 (b.getD k 0)]
  ·rw[PJ h,cZ _ _ _ hc,Q0,<-Ta,Int.add_right_neg,P4]
def Fp(L:Ef)(row:List Int):Nat->List Int
 | 0=>row
 |n+1=>Fz (Fp L row n) (D9 L n) (Ea L n)
theorem gc(L:Ef)(row:List Int):∀n,(Fp L row n).length=row.length
 | 0=>rfl
 |n+1=>by
  show(Fz _ _ _).length=_;rw[mX,gc L row n]
theorem lV{w:Nat}{L:Ef}(H:Rdd w L){row:List Int}(hr:row.length=w):∀n,n<=L.length->∃(d:Int) (x:Nat->Int),d≠0/\(∀k,k<w->(Fp L row n).getD k 0=d*row.getD k 0+sg L.length fun i=>x i*Fm L i k)/\∀i,i<n->(Fp L row n).getD (D9 L i) 0=0
 | 0,_=>⟨1,fun _=>0,by decide,fun k _=>by rw[QV,eA fun i _=>Ra _,QZ];rfl,fun i hi=>absurd hi (PY i)⟩
 |n+1,hn=>by
  obtain⟨d,x,h1,h2,h3⟩:=lV H hr n (by lia);obtain⟨a,b,g1,g2,g3⟩:=sv (row:=Fp L row n) (c:=D9 L n) (b:=Ea L n) (H.own n (by lia));rw[gc,hr]at g2 g3;refine⟨a*d,fun i=>a*x i+if i=n then b else 0,fun z=>(Qg.mp z).elim g1 h1,fun k hk=>?_,fun i hi=>?_⟩
  ·show(Fz _ _ _).getD k 0=_;rw[g2 k hk,h2 k hk];have e:sg L.length (fun i=>(a*x i+if i=n then b else 0)*Fm L i k)=a*sg L.length (fun i=>x i*Fm L i k)+b*Fm L n k:=by
    have e1:sg L.length (fun i=>(if i=n then b else 0)*Fm L i k)=b*Fm L n k:=by
     have:=g7 (n:=L.length) (c:=n) (by lia) (f:=fun i=>(if i=n then b else 0)*Fm L i k) fun i _ Jx=>by
      show(if i=n then b else 0)*Fm L i k=0;rw[PJ Jx,Ra]
     rw[this];show(if n=n then b else 0)*Fm L n k=_;rw[Px rfl]
    rw[<-cR,<-e1,<-jC];refine aK fun i _=>?_
    rw[Vk,Qk]
   rw[e,Ta,Qk,Int.add_assoc]
  ·show(Fz _ _ _).getD _ 0=0;by_cases Jx:i=n
   ·subst Jx;exact g3 (H.col i (by lia))
   ·rw[g2 _ (H.col i (by lia)),h3 i (by lia),H.oth n i (by lia) (by lia) (fun z=>Jx z.symm),P4,P4];rfl
def Fq(L:Ef)(q:Nat)(nl:List Int):Ef:=(L.map fun z=>(z.1,low (Fz z.2 q nl)))++[(q,nl)]
theorem mY(L:Ef)(q:Nat)(nl:List Int):(Fq L q nl).length=L.length+1:=by
 unfold Fq;rw[vU,bE,Ro]
theorem cQ(L:Ef)(q:Nat)(nl:List Int){i:Nat}(h:i<L.length):D9 (Fq L q nl) i=D9 L i/\Ea (Fq L q nl) i=low (Fz (Ea L i) q nl):=by
 unfold D9 Ea Fq;rw[Pg,Rq (by rw[bE];exact h),PK,Pg,mj h];exact⟨rfl,rfl⟩
theorem cG(L:Ef)(q:Nat)(nl:List Int):D9 (Fq L q nl) L.length=q/\Ea (Fq L q nl) L.length=nl:=by
 unfold D9 Ea Fq;rw[Pg,RQ (by rw[bE];exact Pt _),bE,Nat.sub_self];exact⟨rfl,rfl⟩
theorem Ax{r:List Int}{k:Nat}(h:r.getD k 0≠0):∃x∈r,x≠0:=by
 by_cases hk:k<r.length
 ·exact⟨_,cI hk,h⟩
 ·rw[Pg,Sl (by lia)]at h;exact absurd rfl h
theorem lW{r:List Int}{k:Nat}(h:r.getD k 0≠0):(low r).getD k 0≠0/\gl (low r) 0=1:=by
 obtain⟨g,g1,g2,g3⟩:=iU r;refine⟨fun z=>h ?_,g3 (Ax h)⟩;rw[<-g2 k,z,P4]
theorem sx{r:List Int}{k:Nat}(h:r.getD k 0=0):(low r).getD k 0=0:=by
 obtain⟨g,g1,g2,g3⟩:=iU r;have:=g2 k;rw[h]at this;exact(Qg.mp this).resolve_left (by lia)
theorem vX{r w:Nat}{F:Nat->Nat->Int}{l:List Int}(h:In r w F (Vc l)):In r w F (Vc (low l)):=by
 obtain⟨g,g1,g2,_⟩:=iU l;exact g8 (g:Int) (by lia) (fun k _=>g2 k) h
theorem oH{r w:Nat}{F:Nat->Nat->Int}{l:List Int}(h:In r w F (Vc (low l))):In r w F (Vc l):=by
 obtain⟨g,g1,g2,_⟩:=iU l;refine bR (fun k _=>?_) (in_add (g:Int) 0 h (so (v:=fun _=>0) fun _ _=>rfl));rw[P4,QZ];exact(g2 k).symm
theorem xV{α:Type}(S:List α)(x d:α){i:Nat}(h:i<S.length):(S++[x]).getD i d=S.getD i d:=by
 rw[Pg,Rq h,<-Pg]
theorem uW{α:Type}(S:List α)(x d:α):(S++[x]).getD S.length d=x:=by
 rw[Pg,RQ (Pt _),Nat.sub_self];rfl
theorem xW{r w:Nat}{S:List (List Int)}{x:List Int}{v:Nat->Int}(hr:S.length=r)(h:In r w (Fs S) v):In (r+1) w (Fs (S++[x])) v:=by
 refine fE h fun i hi=>bR (fun k _=>?_) (eC (F:=Fs (S++[x])) (i:=i) (by lia))
 show(S.getD i []).getD k 0=((S++[x]).getD i []).getD k 0;rw[xV S x [] (by lia)]
theorem xX{r w:Nat}{S:List (List Int)}{x:List Int}(hr:S.length=r):In (r+1) w (Fs (S++[x])) (Vc x):=by
 refine bR (fun k _=>?_) (eC (F:=Fs (S++[x])) (i:=r) (by lia));show x.getD k 0=((S++[x]).getD r []).getD k 0;rw[<-hr,uW]
theorem Inv.start(w:Nat):Inv w [] []:=
 ⟨⟨fun _ h=>absurd h (PY _),fun _ h=>absurd h (PY _),fun _ h=>absurd h (PY _),fun _ _ h=>absurd h (PY _)⟩,fun _ h=>absurd h (PY _),⟨[],rfl,fun _ h=>(nomatch h),fun _ _ _ h=>absurd h (PY _),fun _ h=>absurd h (PY _),fun _ h=>absurd h (PY _)⟩,fun _ h=>nomatch h⟩
theorem Inv.none{w:Nat}{rows:List (List Int)}{L:Ef}(H:Inv w rows L){row:List Int}(hr:row.length=w)(hz:∀k,k<w->(Fp L row L.length).getD k 0=0):Inv w (rows++[row]) L:=by
 obtain⟨S,s1,s2,s3,s4,s5⟩:=H.base;refine⟨H.red,H.pri,⟨S,s1,fun s hs=>Pp _ (s2 s hs),s3,s4,s5⟩,fun r h=>?_⟩;rcases yz h with h|h
 ·exact H.spn r h
 ·rw[rZ h];obtain⟨d,x,h1,h2,_⟩:=lV H.red hr L.length (Pt _);refine g8 d h1 (u:=fun k=>sg L.length fun i=>-x i*Fm L i k) (fun k hk=>?_) (g9 L.length (fun i=>-x i) (Fm L) fun i hi=>eC hi);have h:=h2 k hk;rw[hz k hk]at h;have e:sg L.length (fun i=>-x i*Fm L i k) = -sg L.length fun i=>x i*Fm L i k:=by
   have:=cR L.length (-1) fun i=>x i*Fm L i k
   rw[Rt,QV]at this;rw[<-this];refine aK fun i _=>?_
   rw[Rt,Rt,QV]
  show d*row.getD k 0=_;rw[e];lia
theorem Inv.more{w:Nat}{rows:List (List Int)}{L:Ef}(H:Inv w rows L){row:List Int}(hr:row.length=w){q:Nat}(hq:q<w)(D8:(Fp L row L.length).getD q 0≠0):Inv w (rows++[row]) (Fq L q (low (Fp L row L.length))):=by
 obtain⟨d,x,h1,h2,h3⟩:=lV H.red hr L.length (Pt _);have M3:=gc L row L.length;generalize Fp L row L.length=aO at D8 h2 h3 M3;obtain⟨n1,n2⟩:=lW D8;have n3:∀i,i<L.length->(low aO).getD (D9 L i) 0=0:=fun i hi=>sx (h3 i hi)
 have M4:=kA aO;have Ol:∀{r:Nat}{F:Nat->Nat->Int},In r w F (Vc aO)->In r w F (Vc (low aO)):=fun h=>vX h
 have Oi:∀{r:Nat}{F:Nat->Nat->Int},In r w F (Vc (low aO))->In r w F (Vc aO):=fun h=>oH h
 generalize low aO=nl at n1 n2 n3 M4 Ol Oi;have Ft:∀i,i<L.length->∃a b:Int,a≠0/\(∀k,k<w->(Fz (Ea L i) q nl).getD k 0=a*(Ea L i).getD k 0+b*nl.getD k 0)/\(Fz (Ea L i) q nl).getD q 0=0:=fun i hi=>by
  obtain⟨a,b,g1,g2,g3⟩:=sv (row:=Ea L i) (c:=q) (b:=nl) n1;rw[H.red.len i hi]at g2 g3;exact⟨a,b,g1,g2,g3 hq⟩
 have M5:∀i,i<L.length->(Fz (Ea L i) q nl).getD (D9 L i) 0≠0:=fun i hi=>by
  obtain⟨a,b,g1,g2,_⟩:=Ft i hi;rw[g2 _ (H.red.col i hi),n3 i hi,P4,QZ];exact fun z=>(Qg.mp z).elim g1 (H.red.own i hi)
 have K5:=mY L q nl;have hpri:∀i,i<(Fq L q nl).length->gl (Ea (Fq L q nl) i) 0=1:=fun i hi=>by
  by_cases h:i<L.length
  ·rw[(cQ L q nl h).2];exact(lW (M5 i h)).2
  ·obtain rfl:i=L.length:=by lia
   rw[(cG L q nl).2];exact n2
 have hred:Rdd w (Fq L q nl):=by
  refine⟨fun i hi=>?_,fun i hi=>?_,fun i hi=>?_,fun i j hi hj LQ=>?_⟩
  ·by_cases h:i<L.length
   ·rw[(cQ L q nl h).1];exact H.red.col i h
   ·obtain rfl:i=L.length:=by lia
    rw[(cG L q nl).1];exact hq
  ·by_cases h:i<L.length
   ·rw[(cQ L q nl h).2,kA,mX];exact H.red.len i h
   ·obtain rfl:i=L.length:=by lia
    rw[(cG L q nl).2,M4,M3,hr]
  ·by_cases h:i<L.length
   ·rw[(cQ L q nl h).2,(cQ L q nl h).1];exact(lW (M5 i h)).1
   ·obtain rfl:i=L.length:=by lia
    rw[(cG L q nl).2,(cG L q nl).1];exact n1
  ·by_cases h:i<L.length
   ·rw[(cQ L q nl h).2];obtain⟨a,b,_,g2,g3⟩:=Ft i h;refine sx ?_;by_cases h':j<L.length
    ·rw[(cQ L q nl h').1,g2 _ (H.red.col j h'),n3 j h',H.red.oth i j h h' LQ,P4,P4];rfl
    ·obtain rfl:j=L.length:=by lia
     rw[(cG L q nl).1];exact g3
   ·obtain rfl:i=L.length:=by lia
    rw[(cG L q nl).2,(cQ L q nl (i:=j) (by lia)).1];exact n3 j (by lia)
 have hold:∀i,i<L.length->In (Fq L q nl).length w (Fm (Fq L q nl)) (Fm L i):=fun i hi=>by
  obtain⟨a,b,g1,g2,_⟩:=Ft i hi;have i1:In (Fq L q nl).length w (Fm (Fq L q nl)) (Vc (Fz (Ea L i) q nl)):=by
   refine oH (bR (fun k _=>?_) (eC (i:=i) (by lia)));show _=(Ea (Fq L q nl) i).getD k 0;rw[(cQ L q nl hi).2]
  have i2:In (Fq L q nl).length w (Fm (Fq L q nl)) (Vc nl):=by
   refine bR (fun k _=>?_) (eC (i:=L.length) (by lia));show _=(Ea (Fq L q nl) L.length).getD k 0;rw[(cG L q nl).2]
  refine g8 a g1 (fun k hk=>?_) (in_add 1 (-b) i1 i2);show a*(Ea L i).getD k 0=1*(Fz (Ea L i) q nl).getD k 0 + -b*nl.getD k 0;rw[g2 k hk,QV,Rt];lia
 have JY:In (Fq L q nl).length w (Fm (Fq L q nl)) (Vc nl):=by
  refine bR (fun k _=>?_) (eC (i:=L.length) (by lia));show _=(Ea (Fq L q nl) L.length).getD k 0;rw[(cG L q nl).2]
 have Ez:In (Fq L q nl).length w (Fm (Fq L q nl)) (Vc row):=by
  refine g8 d h1 (fun k hk=>?_) (in_add 1 (-1) (Oi JY) (g9 L.length x (Fm L) hold));show d*row.getD k 0=1*aO.getD k 0 + -1*_;rw[h2 k hk];lia
 obtain⟨S,s1,s2,s3,s4,s5⟩:=H.base;refine⟨hred,hpri,⟨S++[row],by rw[K5,vU,s1];rfl,fun s hs=>?_,?_,fun i hi=>?_,fun i hi=>?_⟩,fun r h=>?_⟩
 ·rcases yz hs with h|h
  ·exact Pp _ (s2 s h)
  ·exact Pj _ h
 ·rw[K5];intro y hy i hi;have e1:∀k,k<w->sg L.length (fun i=>y i*Fs S i k)+y L.length*row.getD k 0=0:=fun k hk=>by
   refine Wm ?_ (hy k hk);show _=sg L.length (fun i=>y i*Fs (S++[row]) i k)+y L.length*Fs (S++[row]) L.length k;congr 1
   ·refine aK fun i hi=>?_
    show y i*(S.getD i []).getD k 0=y i*((S++[row]).getD i []).getD k 0;rw[xV S row [] (by lia)]
   ·show _=y L.length*((S++[row]).getD L.length []).getD k 0;rw[<-s1,uW]
  have Om:y L.length=0:=by
   apply P2;intro IB;have i1:In L.length w (Fm L) (Vc row):=g8 (y L.length) IB (u:=fun k=>sg L.length fun i=>-y i*Fs S i k) (fun k hk=>by
    have e2:sg L.length (fun i=>-y i*Fs S i k) = -sg L.length fun i=>y i*Fs S i k:=by
     have:=cR L.length (-1) fun i=>y i*Fs S i k
     rw[Rt,QV]at this;rw[<-this];refine aK fun i _=>?_
     rw[Rt,Rt,QV]
    have:=e1 k hk;show y L.length*row.getD k 0=_;rw[e2];lia) (g9 L.length (fun i=>-y i) (Fs S) s5)
   have i2:In L.length w (Fm L) (Vc aO):=bR (fun k hk=>by
    show aO.getD k 0=d*row.getD k 0+1*_;rw[h2 k hk,QV]) (in_add d 1 i1 (g9 L.length x (Fm L) fun i hi=>eC hi))
   exact D8 (H.red.zero i2 h3 q hq)
  by_cases hi2:i<L.length
  ·refine s3 y (fun k hk=>?_) i hi2;have:=e1 k hk;rw[Om,Ra,QZ]at this;exact this
  ·obtain rfl:i=L.length:=by lia
   exact Om
 ·rw[K5];have i0:∀i,i<L.length->In (L.length+1) w (Fs (S++[row])) (Fm L i):=fun i hi=>xW s1 (s4 i hi)
  have i1:In (L.length+1) w (Fs (S++[row])) (Vc aO):=bR (fun k hk=>by
   show aO.getD k 0=d*row.getD k 0+1*_;rw[h2 k hk,QV]) (in_add d 1 (xX s1) (g9 L.length x (Fm L) i0))
  by_cases h:i<L.length
  ·show In _ w _ (Vc (Ea (Fq L q nl) i));rw[(cQ L q nl h).2];obtain⟨a,b,_,g2,_⟩:=Ft i h;exact vX (bR (fun k hk=>g2 k hk) (in_add a b (i0 i h) (Ol i1)))
  ·obtain rfl:i=L.length:=by lia
   show In _ w _ (Vc (Ea (Fq L q nl) L.length));rw[(cG L q nl).2];exact Ol i1
 ·by_cases h:i<L.length
  ·refine fE (bR (fun k _=>?_) (s5 i h)) hold;show((S++[row]).getD i []).getD k 0=(S.getD i []).getD k 0;rw[xV S row [] (by lia)]
  ·obtain rfl:i=L.length:=by lia
   refine bR (fun k _=>?_) Ez;show((S++[row]).getD L.length []).getD k 0=row.getD k 0;rw[<-s1,uW]
 ·rcases yz h with h|h
  ·exact fE (H.spn r h) hold
  ·rw[rZ h];exact Ez
theorem vY{w:Nat}{S:List (List Int)}{r:List Int}(h:r∈S):In S.length w (Fs S) (Vc r):=by
 obtain⟨i,hi,e⟩:=Qy h;refine bR (fun k _=>?_) (eC (F:=Fs S) hi);show r.getD k 0=(S.getD i []).getD k 0;rw[Pg (l:=S),mj hi,e];rfl
def nz(r:List Int):Bool:=r.any fun x=>!(x==0)
theorem CG{r:List Int}(h:nz r=false)(k:Nat):r.getD k 0=0:=by
 apply P2;intro hk;obtain⟨x,hx,LP⟩:=Ax hk;have:=Sf.mp h x hx;rw[P6.mpr LP]at this;exact this rfl
def tf:List Int->Nat
 |[]=>0
 |x::r=>if x=0 then tf r+1 else 0
theorem vZ:∀{r:List Int},nz r=true->tf r<r.length/\r.getD (tf r) 0≠0/\∀j,j<tf r->r.getD j 0=0
 |[],h=>nomatch h
 |x::r,h=>by
  by_cases hx:x=0
  ·have hr:nz r=true:=by
    unfold nz at h ⊢;rw[S8,hx]at h;exact h
   obtain⟨h1,h2,h3⟩:=vZ hr;have e:tf (x::r)=tf r+1:=Px hx;rw[e];refine⟨Nat.succ_lt_succ h1,h2,fun j hj=>?_⟩;cases j with
   |zero=>exact hx
   |succ j=>exact h3 j (by lia)
  ·have e:tf (x::r)=0:=PJ hx;rw[e];exact⟨RL _,hx,fun j hj=>absurd hj (PY _)⟩
def Kp(w c:Nat)(x:Int):List Int:=(List.range w).map fun k=>if k=c then x else 0
theorem xY(w c:Nat)(x:Int):(Kp w c x).length=w:=by unfold Kp;rw[bE,PM]
theorem uX(w c:Nat)(x:Int){k:Nat}(h:k<w):(Kp w c x).getD k 0=if k=c then x else 0:=by
 unfold Kp;rw[cZ _ _ _ h]
def EI(L:Ef):Nat->Nat
 | 0=>1
 |n+1=>Nat.lcm (EI L n) ((Ea L n).getD (D9 L n) 0).natAbs
theorem mZ(L:Ef):∀n i,i<n->((Ea L i).getD (D9 L i) 0).natAbs ∣ EI L n
 | 0,i,h=>absurd h (PY i)
 |n+1,i,h=>by
  by_cases hi:i=n
  ·rw[hi];exact Nat.dvd_lcm_right _ _
  ·exact Uu (mZ L n i (by lia)) (Nat.dvd_lcm_left _ _)
theorem m5{w:Nat}{L:Ef}(H:Rdd w L):∀n,n<=L.length->0<EI L n
 | 0,_=>Nat.one_pos
 |n+1,h=>Nat.lcm_pos (m5 H n (by lia)) (T4.mpr (H.own n (by lia)))
theorem v5{L:Ef}{M:Nat}(hM:∀i,i<L.length->((Ea L i).getD (D9 L i) 0).natAbs<=M):∀n,n<=L.length->EI L n<=M ^ n
 | 0,_=>Pt 1
 |n+1,h=>by
  rw[R1];refine PN ?_ (Sg (v5 hM n (by lia)) (hM n (by lia)));exact Nat.div_le_self _ _
def Gy(L:Ef)(c w:Nat):Nat->List Int
 | 0=>Kp w c (EI L L.length:Int)
 |n+1=>(Gy L c w n).set (D9 L n) (-((Ea L n).getD c 0)*(EI L L.length:Int).fdiv ((Ea L n).getD (D9 L n) 0))
theorem gP(L:Ef)(c w:Nat):∀n,(Gy L c w n).length=w
 | 0=>xY _ _ _
 |n+1=>by
  show((Gy L c w n).set _ _).length=w;rw[Qb,gP L c w n]
theorem oJ(l:List Int)(j k:Nat)(x:Int)(hj:j<l.length):(l.set j x).getD k 0=if k=j then x else l.getD k 0:=by
 rw[Pg,List.getElem?_set];by_cases h:j=k
 ·rw[Px h,Px hj,Px h.symm];rfl
 ·rw[PJ h,PJ (fun z=>h z.symm),<-Pg]
theorem fF{w:Nat}{L:Ef}(H:Rdd w L){c k:Nat}(hk:k<w):∀n,n<=L.length->(∀i,i<n->k≠D9 L i)->(Gy L c w n).getD k 0=if k=c then(EI L L.length:Int) else 0
 | 0,_,_=>uX _ _ _ hk
 |n+1,hn,h=>by
  show((Gy L c w n).set _ _).getD k 0=_;rw[oJ _ _ _ _ (by rw[gP];exact H.col n (by lia)),PJ (h n (by lia)),fF H hk n (by lia) fun i hi=>h i (by lia)]
theorem sy{w:Nat}{L:Ef}(H:Rdd w L)(c:Nat):∀n,n<=L.length->∀i,i<n->(Gy L c w n).getD (D9 L i) 0 = -((Ea L i).getD c 0)*(EI L L.length:Int).fdiv ((Ea L i).getD (D9 L i) 0)
 | 0,_,i,h=>absurd h (PY i)
 |n+1,hn,i,h=>by
  show((Gy L c w n).set _ _).getD _ 0=_;rw[oJ _ _ _ _ (by rw[gP];exact H.col n (by lia))];by_cases hi:i=n
  ·rw[hi,Px rfl]
  ·rw[PJ fun e=>hi (H.inj (by lia) (by lia) e),sy H c n (by lia) i (by lia)]
abbrev yA(L:Ef)(c w:Nat):List Int:=Gy L c w L.length
def kr(L:Ef)(c w:Nat):List Int:=low (yA L c w)
def F7(L:Ef)(c:Nat):Bool:=L.any fun z=>z.1==c
theorem sH{L:Ef}{c:Nat}(h:F7 L c=false):∀i,i<L.length->c≠D9 L i:=fun i hi e=>by
 have:=Sf.mp h _ (cI (d:=(0,[])) hi);exact this (P5.mpr e.symm)
theorem uY{L:Ef}{c:Nat}(h:F7 L c=true):∃i,i<L.length/\c=D9 L i:=by
 obtain⟨z,hz,e⟩:=RT.mp h;obtain⟨i,hi,ez⟩:=Qy hz;refine⟨i,hi,?_⟩;unfold D9;rw[Pg,mj hi,ez];exact(P5.mp e).symm
theorem Ay{n a b:Nat}(ha:a<n)(hb:b<n)(Il:a≠b){f:Nat->Int}(h:∀k,k<n->k≠a->k≠b->f k=0):sg n f=f a+f b:=by
 have e1:sg n (fun k=>(if k=a then f a else 0)+if k=b then f b else 0)=sg n f:=aK fun k hk=>by
  by_cases h1:k=a
  ·rw[Px h1,PJ (by lia),h1,QZ]
  ·rw[PJ h1,UQ];by_cases h2:k=b
   ·rw[Px h2,h2]
   ·rw[PJ h2,h k hk h1 h2]
 rw[<-e1,jC,g7 ha fun k _ hk=>PJ hk,g7 hb fun k _ hk=>PJ hk,Px rfl,Px rfl]
theorem lX{w:Nat}{L:Ef}(H:Rdd w L){c:Nat}(hc:c<w)(hk:F7 L c=false){j:Nat}(hj:j<L.length):sg w (fun k=>(Ea L j).getD k 0*(yA L c w).getD k 0)=0:=by
 have hf:=sH hk;rw[Ay hc (H.col j hj) (hf j hj) fun k GH h1 h2=>by
  by_cases Oo:F7 L k=true
  ·obtain⟨i,hi,e⟩:=uY Oo;rw[e,H.oth j i hj hi (fun z=>h2 (by rw[z];exact e)),Ra]
  ·rw[fF H GH _ (Pt _) (sH (RO.mpr Oo)),PJ h1,P4]]
 rw[fF H hc _ (Pt _) hf,Px rfl,sy H c _ (Pt _) j hj];have hd:(Ea L j).getD (D9 L j) 0*(EI L L.length:Int).fdiv ((Ea L j).getD (D9 L j) 0)=(EI L L.length:Int):=Sv (Sm.mp (by rw[Qr];exact mZ L _ j hj));have e:(Ea L j).getD (D9 L j) 0*(-((Ea L j).getD c 0)*(EI L L.length:Int).fdiv ((Ea L j).getD (D9 L j) 0)) = -((Ea L j).getD c 0)*(EI L L.length:Int):=by
  rw[Ri,hd]
 rw[e,Rt];lia
theorem u0(L:Ef)(c w:Nat):∃g:Nat,g≠0/\∀k,(g:Int)*(kr L c w).getD k 0=(yA L c w).getD k 0:=by
 obtain⟨g,h1,h2,_⟩:=iU (yA L c w);exact⟨g,h1,h2⟩
theorem v7{w:Nat}{rows:List (List Int)}{L:Ef}(H:Inv w rows L){c:Nat}(hc:c<w)(hk:F7 L c=false){r:List Int}(hr:r∈rows):sg w (fun k=>r.getD k 0*(kr L c w).getD k 0)=0:=by
 obtain⟨g,g1,g2⟩:=u0 L c w;obtain⟨d,x,d1,d2⟩:=H.spn r hr;have e:(d*(g:Int))*sg w (fun k=>r.getD k 0*(kr L c w).getD k 0)=0:=by
  rw[<-cR];have e1:sg w (fun k=>d*(g:Int)*(r.getD k 0*(kr L c w).getD k 0))=sg w fun k=>sg L.length fun i=>x i*((Ea L i).getD k 0*(yA L c w).getD k 0):=aK fun k hk=>by
   have e2:d*(g:Int)*(r.getD k 0*(kr L c w).getD k 0)=(d*r.getD k 0)*((g:Int)*(kr L c w).getD k 0):=by
    rw[Qk,Ri (g:Int),<-Qk]
   have d2:d*r.getD k 0=sg L.length fun i=>x i*(Ea L i).getD k 0:=d2 k hk
   rw[e2,g2 k,d2,<-mW];exact aK fun i _=>Qk _ _ _
  rw[e1,<-kz];refine eA fun i hi=>?_
  rw[cR,lX H.red hc hk hi,P4]
 exact(Qg.mp e).resolve_left fun z=>(Qg.mp z).elim d1 (by lia)
def fre(L:Ef)(w:Nat):List Nat:=(List.range w).filter fun c=>!F7 L c
theorem jD(L:Ef)(c w:Nat):(kr L c w).length=w:=by unfold kr;rw[kA,gP]
theorem Az{w:Nat}{L:Ef}(H:Rdd w L){c:Nat}(hc:c<w)(hk:F7 L c=false):(kr L c w).getD c 0≠0:=by
 refine(lW ?_).1;rw[fF H hc _ (Pt _) (sH hk),Px rfl];have:=m5 H L.length (Pt _);lia
theorem AB{w:Nat}{L:Ef}(H:Rdd w L){c k:Nat}(hk:k<w)(GH:F7 L k=false)(h:k≠c):(kr L c w).getD k 0=0:=by
 refine sx ?_;rw[fF H hk _ (Pt _) (sH GH),PJ h]
def kB(L:Ef)(w:Nat):List (List Int):=(fre L w).map fun c=>kr L c w
def Ech(L:Ef):Prop:=∀i,i<L.length->∀j,j<D9 L i->(Ea L i).getD j 0=0
theorem Ech.start:Ech []:=fun _ h=>absurd h (PY _)
theorem Ech.more{w:Nat}{L:Ef}(H:Rdd w L)(E:Ech L){nl:List Int}{q:Nat}(hq:q<w)(D8:nl.getD q 0≠0)(hj:∀j,j<q->nl.getD j 0=0):Ech (Fq L q nl):=fun i hi j LR=>by
 rw[mY]at hi;by_cases h:i<L.length
 ·rw[(cQ L q nl h).1]at LR;rw[(cQ L q nl h).2];refine sx ?_;have hz:=E i h j LR;by_cases h0:(Ea L i).getD q 0=0
  ·unfold Fz;rw[Px h0];exact hz
  ·have OZ:D9 L i<=q:=by
    apply P2;intro ED;exact h0 (E i h q (by lia))
   obtain⟨x,y,_,h2,_⟩:=sv (row:=Ea L i) (c:=q) (b:=nl) D8;rw[h2 j (by rw[H.len i h];lia),hz,hj j (by lia),P4,P4];rfl
 ·obtain rfl:i=L.length:=by lia
  rw[(cG L q nl).1]at LR;rw[(cG L q nl).2];exact hj j LR
theorem xZ{w:Nat}{L:Ef}(H:Rdd w L){c:Nat}(hc:c<w)(hk:F7 L c=false){j:Nat}(hj:j<L.length):sg w (fun k=>(Ea L j).getD k 0*(kr L c w).getD k 0)=0:=by
 obtain⟨g,g1,g2⟩:=u0 L c w;have e:(g:Int)*sg w (fun k=>(Ea L j).getD k 0*(kr L c w).getD k 0)=0:=by
  rw[<-cR];refine Wm (aK fun k _=>?_) (lX H hc hk hj);rw[Ri,g2 k]
 exact(Qg.mp e).resolve_left (by lia)
theorem sI{w:Nat}{L:Ef}(H:Rdd w L){row:List Int}(hr:row.length=w)(h:∀c,c<w->F7 L c=false->sg w (fun k=>row.getD k 0*(kr L c w).getD k 0)=0):∀k,k<w->(Fp L row L.length).getD k 0=0:=fun c hc=>by
 obtain⟨d,x,_,h2,h3⟩:=lV H hr L.length (Pt _);by_cases hk:F7 L c=true
 ·obtain⟨i,hi,e⟩:=uY hk;rw[e];exact h3 i hi
 ·have hk:=RO.mpr hk;have e1:sg w (fun k=>(Fp L row L.length).getD k 0*(kr L c w).getD k 0)=0:=by
   have e2:sg w (fun k=>(Fp L row L.length).getD k 0*(kr L c w).getD k 0)=sg w fun k=>d*(row.getD k 0*(kr L c w).getD k 0)+sg L.length fun i=>x i*((Ea L i).getD k 0*(kr L c w).getD k 0):=aK fun k GH=>by
    rw[h2 k GH,Vk,Qk,<-mW];congr 1
    exact aK fun i _=>Qk _ _ _
   rw[e2,jC,cR,h c hc hk,P4,UQ,kz];refine eA fun i hi=>?_
   rw[cR,xZ H hc hk hi,P4]
  rw[g7 hc fun k GH Lb=>by
   by_cases Ik:F7 L k=true
   ·obtain⟨i,hi,e⟩:=uY Ik;rw[e,h3 i hi,Ra]
   ·rw[AB H GH (RO.mpr Ik) Lb,P4]]at e1
  exact(Qg.mp e1).resolve_right (Az H hc hk)
def pH(rs:List (List Int))(row:List Int)(k:Nat):List Int:=rs.map (fun r=>r.getD k 0)++[row.getD k 0]
def kC(rs:List (List Int))(row:List Int)(w:Nat):List (List Int):=(List.range w).map (pH rs row)
theorem u6(rs:List (List Int))(row:List Int)(k:Nat):(pH rs row k).length=rs.length+1:=by
 unfold pH;rw[vU,bE];rfl
theorem sJ(rs:List (List Int))(row:List Int)(k:Nat){j:Nat}(h:j<rs.length):(pH rs row k).getD j 0=(rs.getD j []).getD k 0:=by
 unfold pH;rw[Pg,Rq (by rw[bE];exact h),PK,mj h,Pg (l:=rs),mj h];rfl
theorem lY(rs:List (List Int))(row:List Int)(k:Nat):(pH rs row k).getD rs.length 0=row.getD k 0:=by
 have:=uW (rs.map fun r=>r.getD k 0) (row.getD k 0) 0;rw[bE]at this;exact this
theorem x4{w:Nat}{rs:List (List Int)}{row:List Int}{L:Ef}(H:Inv (rs.length+1) (kC rs row w) L)(hk:F7 L rs.length=false):∀k,k<w->sg rs.length (fun j=>(rs.getD j []).getD k 0*(kr L rs.length (rs.length+1)).getD j 0)+row.getD k 0*(kr L rs.length (rs.length+1)).getD rs.length 0=0:=fun k LS=>by
 have h:=v7 H (P9 _) hk (r:=pH rs row k) (SK.mpr ⟨k,QM.mpr LS,rfl⟩);have h:sg rs.length (fun j=>(pH rs row k).getD j 0*(kr L rs.length (rs.length+1)).getD j 0)+(pH rs row k).getD rs.length 0*(kr L rs.length (rs.length+1)).getD rs.length 0=0:=h;rw[lY,aK fun j hj=>by rw[sJ rs row k hj]]at h;exact h
theorem AD{w:Nat}{L:Ef}(H:Rdd w L){c:Nat}(hc:c<w)(hk:F7 L c=false):1<=(kr L c w).getD c 0:=by
 obtain⟨g,g1,g2⟩:=u0 L c w;have h:=g2 c;rw[fF H hc _ (Pt _) (sH hk),Px rfl]at h;have hp:=m5 H L.length (Pt _);apply P2;intro hn;have:(g:Int)*(kr L c w).getD c 0<=0:=Int.mul_nonpos_of_nonneg_of_nonpos (by lia) (by lia);lia
theorem v9{w:Nat}{rs:List (List Int)}{row:List Int}{L:Ef}(H:Inv (rs.length+1) (kC rs row w) L)(E:Ech L)(hk:F7 L rs.length=true):¬ In rs.length w (Fs rs) (Vc row):=fun D8=>by
 obtain⟨d,x,h1,h2⟩:=D8;obtain⟨i,hi,e⟩:=uY hk;have hz:∀r∈kC rs row w,sg (rs.length+1) (fun j=>(if j=rs.length then -d else x j)*r.getD j 0)=0:=fun r hr=>by
  obtain⟨k,LS,er⟩:=pF hr;rw[<-er];show sg rs.length (fun j=>(if j=rs.length then -d else x j)*(pH rs row k).getD j 0)+(if rs.length=rs.length then -d else x rs.length)*(pH rs row k).getD rs.length 0=0;rw[Px rfl,lY,aK (g:=fun j=>x j*Fs rs j k) fun j hj=>by
   rw[PJ (by lia),sJ rs row k hj]]
  have:=h2 k (QM.mp LS);rw[<-this,Rt];show d*row.getD k 0+_=0;lia
 obtain⟨S,s1,s2,_,s4,_⟩:=H.base;obtain⟨dd,y,g1,g2⟩:=s4 i hi;have hl:sg (rs.length+1) (fun j=>(if j=rs.length then -d else x j)*(Ea L i).getD j 0)=0:=by
  have e1:dd*sg (rs.length+1) (fun j=>(if j=rs.length then -d else x j)*(Ea L i).getD j 0)=0:=by
   rw[<-cR];have e2:sg (rs.length+1) (fun j=>dd*((if j=rs.length then -d else x j)*(Ea L i).getD j 0))=sg (rs.length+1) fun j=>sg L.length fun t=>y t*((if j=rs.length then -d else x j)*Fs S t j):=aK fun j hj=>by
    rw[Ri];have g2:dd*(Ea L i).getD j 0=sg L.length fun t=>y t*Fs S t j:=g2 j hj
    rw[g2,<-cR];exact aK fun t _=>Ri _ _ _
   rw[e2,<-kz];refine eA fun t ht=>?_
   rw[cR,hz _ (s2 _ (cI (d:=[]) (by lia))),P4]
  exact(Qg.mp e1).resolve_left g1
 rw[g7 (c:=rs.length) (P9 _) fun j hj hjm=>by rw[E i hi j (by lia),P4],Px rfl]at hl;have ho:=H.red.own i hi;rw[<-e]at ho;exact(Qg.mp hl).elim (fun z=>h1 (by lia)) ho
theorem sL{w:Nat}{rs:List (List Int)}{row:List Int}{L M:Ef}(H:Inv (rs.length+1) (kC rs row w) L)(E:Ech L)(hk:F7 L rs.length=true)(HM:Inv w rs M)(hr:row.length=w):∃c,c<w/\F7 M c=false/\sg w (fun k=>row.getD k 0*(kr M c w).getD k 0)≠0:=by
 apply P2;intro K3;have hz:=sI HM.red hr fun c hc Lb=>P2 fun IB=>K3 ⟨c,hc,Lb,IB⟩
 have H2:=HM.none hr hz;refine v9 H E hk (fE (H2.spn row (Pj _ (Qf.mpr rfl))) fun i hi=>?_);obtain⟨S,s1,s2,_,s4,_⟩:=HM.base;exact fE (s4 i hi) fun j hj=>vY (s2 _ (cI (by lia)))
end LW
namespace LW
open PySem L2 NX PV
theorem AE(a:Int){b:Int}(h:b≠0):Aa (.int a) (.int b)=.ok (.f,.int (a.fmod b)):=by
 unfold Aa;dsimp only;rw[Px h]
theorem m6(a:Int){b:Int}{n:Nat}(h:b≠0)(h2:b.natAbs<2 ^ n)(hn:n<=9000):ka (.int a) (.int b)=.ok (.f,.int (a.fdiv b)):=by
 have:b.natAbs.log2<9000:=by
  have:=(Ve (fun z=>h (SN.mp z))).mpr h2;lia
 unfold ka;dsimp only;rw[Px ⟨h,this⟩]
theorem jE(a:Int){b:Int}(h:0<b):a.fmod b=a%b:=by
 rw[Int.fmod_eq_emod,Px (.inl (TR h)),QZ]
theorem DB(a:Int){b:Int}(h:b≠0):(a.fmod b).natAbs<b.natAbs:=by
 rcases Uv h with hb|hb
 ·have e:a.fmod b = -((-a)%(-b)):=by
   rw[<-jE (-a) (b:=-b) (by lia),Te,Vl]
  have h1:=Rl (-a) (b:=-b) (by lia);have h2:=RG (-a) (b:=-b) (by lia);lia
 ·rw[jE a hb];have h1:=Rl a (b:=b) (by lia);have h2:=RG a hb;lia
theorem oK{a b:Int}(hb:0<b)(hr:0<a%b):2*(b%(a%b))<b:=by
 have h1:=RG a hb;have h2:=RG b hr;have h3:=Rl b (b:=a%b) (by lia);have h4:=Int.mul_ediv_add_emod b (a%b);have h5:1<=b / (a%b):=by
  have:=Int.ediv_nonneg (TR hb) (TR hr);rcases Int.lt_or_eq_of_le this with h|h
  ·lia
  ·rw[<-h,P4]at h4;lia
 have h6:a%b*1<=a%b*(b / (a%b)):=Int.mul_le_mul_of_nonneg_left h5 (TR hr);lia
theorem DE{a b:Int}(hb:b≠0)(hr:a.fmod b≠0):2*(b.fmod (a.fmod b)).natAbs<b.natAbs:=by
 rcases Uv hb with h|h
 ·have e:a.fmod b = -((-a)%(-b)):=by
   rw[<-jE (-a) (b:=-b) (by lia),Te,Vl]
  have h0:=Rl (-a) (b:=-b) (by lia);have hp:0<(-a)%(-b):=by lia
  have e2:b.fmod (a.fmod b) = -((-b)%((-a)%(-b))):=by
   rw[e,<-jE (-b) hp,<-Te,Vl]
  have:=oK (a:=-a) (b:=-b) (by lia) hp;have:=Rl (-b) (b:=(-a)%(-b)) (by lia);lia
 ·rw[jE a h]at hr ⊢;have h0:=Rl a (b:=b) (by lia);have hp:0<a%b:=by lia
  rw[jE b hp];have:=oK (a:=a) h hp;have:=Rl b (b:=a%b) (by lia);lia
theorem wa(a b:Int):Int.gcd b (a.fmod b)=Int.gcd a b:=by rw[Int.fmod_def,Int.gcd_sub_mul_left_right,Int.gcd_comm]
abbrev pI:FT:=Es (aN Gr (ak 1) (aq (aF (.int 0))))
theorem m8(F:Nat)(a:Int)(t:Option R):cv pI aH (F+1) [some (.f,.int a),some (.f,.int 0),t]=.ok (.nx [some (.f,.int a),some (.f,.int 0),t]):=by
 have hc:pI [some (.f,.int a),some (.f,.int 0),t]=.ok (false,[some (.f,.int a),some (.f,.int 0),t]):=by
  have e:((0:Int)==0)=true:=rfl;simp only[pv,seval,op,e,RP]
 rw[ib,hc,FD];dsimp only;rw[PJ PF]
theorem AF(F:Nat)(a b:Int)(hb:b≠0)(t:Option R):cv pI aH (F+1) [some (.f,.int a),some (.f,.int b),t]=cv pI aH F [some (.f,.int b),some (.f,.int (a.fmod b)),some (.f,.int (a.fmod b))]:=by
 have hc:pI [some (.f,.int a),some (.f,.int b),t]=.ok (true,[some (.f,.int a),some (.f,.int b),t]):=by
  have e:(b==0)=false:=P6.mpr hb;simp only[pv,seval,op,e,SU]
 have Oq:aH [some (.f,.int a),some (.f,.int b),t]=.ok (.nx [some (.f,.int b),some (.f,.int (a.fmod b)),some (.f,.int (a.fmod b))]):=by
  unfold aH;have hm:=AE a hb;rw[ax (env':=[some (.f,.int a),some (.f,.int b),some (.f,.int (a.fmod b))]) (by simp only[pv,seval,op,hm])];rw[ax (env':=[some (.f,.int b),some (.f,.int b),some (.f,.int (a.fmod b))]) (by simp only[pv,seval,op])];simp only[pv,seval,op]
 rw[ib,hc,FD];dsimp only;rw[Px rfl,Oq,FD]
theorem sM:∀(n F:Nat) (a b:Int) (t:Option R),b.natAbs<2 ^ n->2*n+1<=F->∃(c:Int) (u:Option R),c.natAbs=Int.gcd a b/\cv pI aH F [some (.f,.int a),some (.f,.int b),t]=.ok (.nx [some (.f,.int c),some (.f,.int 0),u])
 | 0,F,a,b,t,h,hF=>by
  have:b=0:=by
   have:b.natAbs<1:=h;lia
  subst this;obtain⟨F,rfl⟩:∃G,F=G+1:=⟨F-1,by lia⟩
  exact⟨a,t,(SO a).symm,m8 F a t⟩
 |n+1,F,a,b,t,h,hF=>by
  obtain⟨F,rfl⟩:∃G,F=G+1:=⟨F-1,by lia⟩
  by_cases hb:b=0
  ·subst hb;exact⟨a,t,(SO a).symm,m8 F a t⟩
  rw[AF F a b hb t,<-wa a b];obtain⟨F,rfl⟩:∃G,F=G+1:=⟨F-1,by lia⟩
  by_cases hr:a.fmod b=0
  ·rw[hr];exact⟨b,_,(SO b).symm,m8 F b _⟩
  rw[AF F b _ hr,<-wa b (a.fmod b)];refine sM n F _ _ _ ?_ (by lia);have:=DE hb hr;rw[R1]at h;lia
theorem AG(c:Int):yu [.int c]=.ok (.f,.int (c.natAbs:Int)):=by
 show Res.ok (O.f,D.int (if c<0 then -c else c))=_;split <;> (congr 3;lia)
theorem wb{n:Nat}(hn:n<=9000)(a b:Int)(h:b.natAbs<2 ^ n):aS [.int a,.int b]=.ok (.f,.int (Int.gcd a b:Int)):=by
 obtain⟨c,u,hc,e⟩:=sM n 100000 a b none h (by lia);have ha:=AG c;unfold aS eG;rw[bJ (h:=by rfl)];rw[ax (env':=[some (.f,.int c),some (.f,.int 0),u]) (by
  unfold du;exact e)]
 unfold c9;rw[<-hc];simp only[pv,seval,op,ha]
theorem AH{n:Nat}:∀(r:List Int) (g:Nat),Bg n r->g<2 ^ n->gl r g<2 ^ n
 |[],g,_,h=>h
 |x::r,g,hb,h=>AH r _ (fun y hy=>hb y (Pu _ hy)) (by
  rcases Ut g with e|e
  ·rw[e,Nat.gcd_zero_left];exact hb x Pq
  ·exact Qp (Nat.gcd_le_left _ e) h)
theorem oM{n:Nat}(hn:n<=9000)(E0:Option R):∀(r:List Int) (g:Nat) (t:Option R),Bg n r->∃u,eF (aw 2) dS (r.map D.int) [E0,some (.f,.int (g:Int)),t]=.ok (.nx [E0,some (.f,.int (gl r g:Int)),u])
 |[],g,t,_=>⟨t,rfl⟩
 |x::r,g,t,hb=>by
  have hd:=wb hn (g:Int) x (hb x Pq);have eg:Int.gcd (g:Int) x=Nat.gcd g x.natAbs:=rfl;rw[eg]at hd;obtain⟨u,e⟩:=oM hn E0 r (Nat.gcd g x.natAbs) (some (.f,.int x)) fun y hy=>hb y (Pu _ hy)
  have ha:aw 2 (.int x) [E0,some (.f,.int (g:Int)),t]=.ok [E0,some (.f,.int (g:Int)),some (.f,.int x)]:=rfl;have Oq:dS [E0,some (.f,.int (g:Int)),some (.f,.int x)]=.ok (.nx [E0,some (.f,.int ((Nat.gcd g x.natAbs:Nat):Int)),some (.f,.int x)]):=by
   unfold dS;simp only[pv,seval,op,hd]
  refine⟨u,?_⟩;rw[lR,ku,ha,FD,Oq,FD];exact e
theorem kF{n:Nat}(hn:n<=9000)(r:List Int)(hb:Bg n r)(hl:r.length<=1000):bT [eR r]=.ok (.f,eR (low r)):=by
 obtain⟨u,e⟩:=oM hn (some (.f,eR r)) r 0 none hb;have hg:=AH r 0 hb (TU n);unfold bT oz;rw[bJ (h:=by rfl)];rw[ax (env':=[some (.f,eR r),some (.f,.int ((0:Nat):Int)),none]) (by
  generalize eR r=ER;simp only[pv,seval,op] <;> rfl)]
 rw[ax (env':=[some (.f,eR r),some (.f,.int (gl r 0:Int)),u]) (by
  unfold jw eR;simp only[pv,seval,op];exact e)]
 unfold iI low;by_cases h0:gl r 0=0
 ·rw[Px h0];have e0:(((gl r 0:Nat):Int)==0)=true:=by rw[h0];rfl
  rw[Fj];generalize eR r=ER;simp only[pv,seval,op,e0]
 ·rw[PJ h0];have e0:(((gl r 0:Nat):Int)==0)=false:=P6.mpr (by lia);have hz:((gl r 0:Nat):Int)≠0:=by lia
  have hc:cM (aw 0) dq (aR ka (ak 0) (ak 1)) (r.map D.int) [none,some (.f,.int (gl r 0:Int))]=.ok ((r.map fun x=>x.fdiv (gl r 0:Int)).map D.int):=by
   rw[P7];refine cU (fun env=>∃t,env=[t,some (.f,.int (gl r 0:Int))]) _ ?_ _ ⟨_,rfl⟩;rintro x _ env ⟨t,rfl⟩;have hf:=m6 x hz (by rw[Qr];exact hg) hn;refine⟨[some (.f,.int x),some (.f,.int (gl r 0:Int))],rfl,.f,[some (.f,.int x),some (.f,.int (gl r 0:Int))],?_,_,rfl⟩;simp only[pv,seval,op,hf];rfl
  have hlen:((r.map fun x=>x.fdiv (gl r 0:Int)).map D.int).length<=sizeLine:=r6 (by rw[bE,bE];lia);have L9:=DZ (r.map fun x=>x.fdiv (gl r 0:Int));rw[ax (env':=[some (.f,eR r),some (.f,.int (gl r 0:Int)),u]) (by
   generalize eR r=ER;simp only[pv,seval,op,e0,lQ])]
  unfold eR;generalize (aR ka (ak 0) (ak 1))=FZ1 at hc ⊢;simp only[pv,seval,op,hc,hlen,L9]
end LW
namespace PV
open PySem L2 NX
theorem oN{fs:FOs}{env:PV.Env}:ju fs env=Res.bnd (fs env) (f:=⟨fun p=>match p.1 with
 |[.val d]=>(match d with | .lst a=>.ok (rq a,p.2) | .tup a=>.ok (rq a,p.2)|_=>.bad)
 |_=>.bad⟩):=by
 unfold ju FZ ou;cases fs env with
 |ok p=>
  obtain⟨os,e⟩:=p;match os with
  |[]=>rfl
  |[.val d]=>cases d <;> rfl
  |[.var _]=>rfl
  | .val _::_::_=>rfl
  | .var _::_::_=>rfl
 |_=>rfl
theorem x5{i:Nat}{a:FG}{g:FS}{env env':PV.Env}{ks vs:List D}(hi:env[i]?=some (some (.d,.dct false ks vs)))(h:∀p,∃e,eF a g ks (env.set i (some (.pin p .f,.dct false ks vs)))=.ok (.nx e)/\j9 i p e=true/\lJ i e=true/\e.set i (some (.d,.dct false ks vs))=env'):rK i a g env=.ok (.nx env'):=by
 unfold rK;rw[hi];refine xE fun p=>?_
 obtain⟨e,h1,h2,h3,h4⟩:=h p;rw[h1];show(if j9 i p e&&lJ i e then Res.ok (Out.nx (e.set i (some (.d,.dct false ks vs)))) else .bad)=_;rw[h2,h3,h4];rfl
theorem forD_eq{i:Nat}{a:FG}{g:FS}{env env':PV.Env}{p:Addr}{ks vs:List D}(hi:env[i]?=some (some (.pin p .d,.dct false ks vs))){e:PV.Env}(h1:eF a g ks (env.set i (some (.pin p .f,.dct false ks vs)))=.ok (.nx e))(h2:j9 i p e=true)(h3:cleanE i e=true)(h4:e.set i (some (.pin p .d,.dct false ks vs))=env'):lG i a g env=.ok (.nx env'):=by
 unfold lG;rw[hi];show(eF a g ks (env.set i (some (.pin p .f,.dct false ks vs)))).bind (rp i p (.dct false ks vs))=_;rw[h1];show(if j9 i p e&&cleanE i e then Res.ok (Out.nx (e.set i (some (.pin p .d,.dct false ks vs)))) else .bad)=_;rw[h2,h3,h4];rfl
end PV
namespace LW
open PySem L2 NX PV
def Kq(r:List Int):List Int:=(r.zipIdx.filter fun z=>!(z.1==0)).map fun z=>(z.2:Int)
theorem u7(r:List Int):rq (r.map D.int)=r.zipIdx.map fun z=>D.tup [.int (z.2:Int),.int z.1]:=by
 unfold rq;rw[List.zipIdx_map,P7];rfl
theorem lZ(r:List Int):cM (lj 2 (bj (aw 0) (bj (aw 1) fH))) (Es (aN Gr (ak 1) (aq (aF (.int 0))))) (aM 0) (rq (r.map D.int)) [none,none]=.ok ((Kq r).map D.int):=by
 rw[u7];rw[kx (p:=fun z:Int×Nat=>!(z.1==0)) (r:=fun z:Int×Nat=>D.int (z.2:Int)) (fun env=>∃t1 t2,env=[t1,t2]) r.zipIdx ?_ _ ⟨_,_,rfl⟩]
 ·unfold Kq;rw[P7];rfl
 ·rintro z _ env ⟨t1,t2,rfl⟩;refine⟨[some (.f,.int (z.2:Int)),some (.f,.int z.1)],by simp only[pv,seval],[some (.f,.int (z.2:Int)),some (.f,.int z.1)],by simp only[pv,seval,op],?_⟩;cases h:(z.1==0) with
  |true=>exact⟨_,_,rfl⟩
  |false=>exact⟨.f,_,rfl,_,_,rfl⟩
theorem AI(r:List Int):(Kq r).length<=r.length:=by
 unfold Kq;rw[bE];exact PN (Sn _ _) (Tx (Us))
theorem Ma{r:List Int}{c:Nat}(h:c<r.length):EH (eR r) (.int (c:Int))=.ok (.f,.int (r.getD c 0)):=by
 unfold eR;rw[Am,jH (j:=c) (v:=D.int (r.getD c 0)) (by rw[PK,mj h,cF r c 0 h];rfl)]
theorem l5{n:Nat}(O0:n<=900000)(row Gw:List Int)(c:Nat)(hc:c<row.length)(hl:Gw.length=row.length)(h1:Bg n row)(h2:Bg n Gw)(hw:row.length<=1000):b8 [eR row,.int (c:Int),eR Gw]=.ok (.f,eR (Fz row c Gw)):=by
 have i1:=Ma hc;have i2:=Ma (r:=Gw) (c:=c) (by lia);unfold b8 lM;rw[bJ (h:=by rfl)];unfold Fz;by_cases h0:row.getD c 0=0
 ·rw[Px h0];have e0:(row.getD c 0==0)=true:=by rw[h0];rfl
  rw[Fj];generalize eR row=ER at i1 ⊢;simp only[pv,seval,op,i1,e0]
 ·rw[PJ h0];have e0:(row.getD c 0==0)=false:=P6.mpr h0;have hn:Bg n [Gw.getD c 0,-(row.getD c 0)]:=fun x hx=>by
   rcases Pw.mp hx with rfl|hx
   ·exact h2 _ (eh (by lia))
   ·rw[rZ hx,Sh];exact h1 _ (eh hc)
  have hr:Rows n row.length [row,Gw]:=fun x hx=>by
   rcases Pw.mp hx with rfl|hx
   ·exact⟨rfl,h1⟩
   ·rw[rZ hx];exact⟨hl,h2⟩
  have hs:=uU O0 O0 row.length hw [row,Gw] [Gw.getD c 0,-(row.getD c 0)] hr hn (by show 2<=1000;decide);have ec:((List.range row.length).map (co [row,Gw] [Gw.getD c 0,-(row.getD c 0)] 2))=(List.range row.length).map fun k=>row.getD k 0*Gw.getD c 0+Gw.getD k 0 * -(row.getD c 0):=by
   refine Qx fun k _=>?_
   unfold co;simp
  have hs:dR [.lst [eR row,eR Gw],.lst [.int (Gw.getD c 0),.int (-(row.getD c 0))],.int (row.length:Int)]=.ok (.f,eR ((List.range row.length).map (co [row,Gw] [Gw.getD c 0,-(row.getD c 0)] 2))):=hs;rw[ec]at hs;have KQ:fA [eR row]=.ok (.f,.int (row.length:Int)):=by
   show Res.ok (O.f,D.int (((row.map D.int).length:Nat):Int))=_;rw[bE]
  generalize eR ((List.range row.length).map fun k=>row.getD k 0*Gw.getD c 0+Gw.getD k 0 * -(row.getD c 0))=RES at hs ⊢;rw[ax (env':=[some (.f,eR row),some (.f,.int (c:Int)),some (.f,eR Gw)]) (by
   generalize eR row=ER at i1 ⊢;generalize eR Gw=EB;simp only[pv,seval,op,i1,e0,lQ])]
  generalize eR row=ER at i1 hs KQ ⊢;generalize eR Gw=EB at i2 hs ⊢;simp only[pv,seval,op,i1,i2,hs,KQ]
def kL(L:Ef):List D:=L.map fun z=>D.int (z.1:Int)
def vL(L:Ef):List D:=L.map fun z=>eR z.2
def dL(L:Ef):D:=.dct false (kL L) (vL L)
theorem M6(a b:Nat):D3 (.int (a:Int)) (.int (b:Int))=(a==b):=by
 rw[D3,Qn,P5,P5];lia
theorem CH:∀(L:Ef) (i:Nat),i<L.length->(∀j,j<i->D9 L j≠D9 L i)->PV.getD (kL L) (vL L) (.int (D9 L i:Int))=some (eR (Ea L i))
 |[],i,h,_=>absurd h (PY i)
 |(c,r)::L,0,_,_=>by
  show(((D.int (c:Int),eR r)::(kL L).zip (vL L)).find? (fun p=>D3 (.int (c:Int)) p.1)).map (·.2)=some (eR r);rw[RE (by show D3 (.int (c:Int)) (.int (c:Int))=true;rw[M6,Qc])];rfl
 |(c,r)::L,i+1,h,hj=>by
  have hc:c≠D9 L i:=hj 0 (RL i);have:=CH L i (Tq h) fun j LR=>hj (j+1) (Nat.succ_lt_succ LR)
  show(((D.int (c:Int),eR r)::(kL L).zip (vL L)).find? (fun p=>D3 (.int (D9 L i:Int)) p.1)).map (·.2)=some (eR (Ea L i));rw[RF (by show ¬ D3 (.int (D9 L i:Int)) (.int (c:Int))=true;rw[M6,P5];exact fun e=>hc e.symm)];exact this
theorem ND{w:Nat}{L:Ef}(H:Rdd w L){i:Nat}(hi:i<L.length):JG (dL L) (.int (D9 L i:Int))=.ok (.f,eR (Ea L i)):=by
 unfold JG dL;dsimp only;rw[Px (show dI false (.int (D9 L i:Int))=true from rfl),CH L i hi fun j hj e=>by have:=H.inj (by lia) hi e;lia]
theorem CI(L:Ef)(q:Nat)(l:List Int)(h:∀i,i<L.length->D9 L i≠q):lz (kL L) (vL L) (.int (q:Int)) (eR l)=(kL (L++[(q,l)]),vL (L++[(q,l)])):=by
 have ha:(kL L).any (D3 (.int (q:Int)))=false:=by
  unfold kL;rw[Sk,Sf];intro z hz;obtain⟨i,hi,e⟩:=Qy hz;have hq:=h i hi;unfold D9 at hq;rw[Pg,mj hi,e]at hq;show ¬ D3 (.int (q:Int)) (.int (z.1:Int))=true;rw[M6,P5];exact fun e=>hq e.symm
 unfold lz;rw[ha,PJ PF];unfold kL vL;rw[Qm,Qm];rfl
theorem cJ(r:List Int):dw (eR r)=true:=by
 unfold eR;rw[ic,DZ]
theorem sN(L:Ef):D6 (vL L)=true:=by
 unfold vL;rw[cX,Sj,P8];exact fun z _=>cJ z.2
theorem fG(L:Ef):aB .d (dL L)=true:=sN L
theorem Bg.mono{n m:Nat}{a:List Int}(h:Bg n a)(hn:n<=m):Bg m a:=fun x hx=>Po (h x hx) (RS (by decide) hn)
theorem Bg.at{n:Nat}{a:List Int}(h:Bg n a)(k:Nat):(a.getD k 0).natAbs<2 ^ n:=by
 by_cases hk:k<a.length
 ·exact h _ (eh hk)
 ·rw[Pg,Sl (by lia)];exact TU n
theorem l6{x y:Int}{n m:Nat}(hx:x.natAbs<2 ^ n)(hy:y.natAbs<2 ^ m):(x*y).natAbs<2 ^ (n+m):=by
 rw[Rh,Nat.pow_add];exact Nat.mul_lt_mul_of_lt_of_lt hx hy
theorem sO{n m:Nat}{row b:List Int}(h1:Bg n row)(h2:Bg m b)(c:Nat):Bg (n+m+1) (Fz row c b):=by
 unfold Fz;split
 ·exact h1.mono (by lia)
 ·intro x hx;obtain⟨k,_,e⟩:=pF hx;rw[<-e];have a1:=l6 (h1.at k) (h2.at c);have a2:=l6 (h2.at k) (show(-(row.getD c 0)).natAbs<2 ^ n by rw[Sh];exact h1.at c);rw[Nat.add_comm m n]at a2;have a3:=Int.natAbs_add_le (row.getD k 0*b.getD c 0) (b.getD k 0 * -(row.getD c 0));rw[R1];lia
def GS(t:Option R):Bool:=match t with
 |some r=>aB r.1 r.2
 |none=>true
abbrev FL(L:Ef)(q:Nat)(nl:List Int)(k:Nat):Ef:=(L.take k).map fun z=>(z.1,low (Fz z.2 q nl))
theorem wc(L:Ef)(q:Nat)(nl:List Int){k i:Nat}(hk:k<=L.length)(h:i<(FL L q nl k).length):D9 (FL L q nl k) i=D9 L i:=by
 have hl:i<k:=by
  rw[bE,Qs]at h;lia
 unfold D9 FL;rw[Pg,PK,Uw,Px hl,mj (by lia),Pg,mj (by lia)];rfl
theorem x6{w n:Nat}(hw:w<=1000)(hn:n+n+1<=9000){L:Ef}(H:Rdd w L)(hb:∀i,i<L.length->Bg n (Ea L i))(hL:L.length<=1000){q:Nat}(hq:q<w){nl:List Int}(IU:nl.length=w)(HE:Bg n nl)(p:Addr):∃t4,GS t4=true/\eF (aw 4) bU (kL L) [some (.pin p .f,dL L),some (.f,.int (q:Int)),some (.f,eR nl),some (.d,dL []),none]=.ok (.nx [some (.pin p .f,dL L),some (.f,.int (q:Int)),some (.f,eR nl),some (.d,dL (FL L q nl L.length)),t4]):=by
 obtain⟨env',hf,t4,h4,rfl⟩:=for_list (a:=aw 4) (g:=bU) (e:=fun z:Nat×List Int=>D.int (z.1:Int)) L (fun k env=>∃t4,GS t4=true/\env=[some (.pin p .f,dL L),some (.f,.int (q:Int)),some (.f,eR nl),some (.d,dL (FL L q nl k)),t4]) (by
  rintro k x env hx ⟨t4,h4,rfl⟩;obtain⟨hk,ex⟩:=yy hx;have ec:D9 L k=x.1:=by unfold D9;rw[Pg,hx];rfl
  have er:Ea L k=x.2:=by unfold Ea;rw[Pg,hx];rfl
  have hd:=ND H hk;have hc:=l5 (n:=n) (by lia) (Ea L k) nl q (by rw[H.len k hk];exact hq) (by rw[H.len k hk,IU]) (hb k hk) HE (by rw[H.len k hk];exact hw);have Hv:=kF hn (Fz (Ea L k) q nl) (sO (hb k hk) HE q) (by rw[mX,H.len k hk];exact hw);have hp:=CI (FL L q nl k) (D9 L k) (low (Fz (Ea L k) q nl)) fun i hi e=>by
   have Oo:i<k:=by
    rw[bE,Qs]at hi;lia
   rw[wc L q nl (by lia) hi]at e;have:=H.inj (by lia) hk e;lia
  have ej:FL L q nl k++[(D9 L k,low (Fz (Ea L k) q nl))]=FL L q nl (k+1):=by
   unfold FL;rw[Ru hk,Qm,ex,ec,er];rfl
  rw[ej]at hp;have M7:(kL (FL L q nl k)).length<sizeLine:=uN (by unfold kL;rw[bE,bE,Qs];lia);rw[<-ec];refine⟨[some (.pin p .f,dL L),some (.f,.int (q:Int)),some (.f,eR nl),some (.d,dL (FL L q nl k)),some (.f,.int (D9 L k:Int))],rfl,[some (.pin p .f,dL L),some (.f,.int (q:Int)),some (.f,eR nl),some (.d,dL (FL L q nl (k+1))),some (.f,.int (D9 L k:Int))],?_,_,rfl,rfl⟩;have KR:=cJ (low (Fz (Ea L k) q nl));have O1:=cJ (Fz (Ea L k) q nl);unfold bU;generalize dL L=DL at hd ⊢;have e1:cS bT (ae (aq (cS b8 (ae (aq (aR JG (ak 0) (ak 4))) (ae (ak 1) (ae (ak 2) ar))))) ar) [some (.pin p .f,DL),some (.f,.int (q:Int)),some (.f,eR nl),some (.d,dL (FL L q nl k)),some (.f,.int (D9 L k:Int))]=.ok ((.f,eR (low (Fz (Ea L k) q nl))),[some (.pin p .f,DL),some (.f,.int (q:Int)),some (.f,eR nl),some (.d,dL (FL L q nl k)),some (.f,.int (D9 L k:Int))]):=by
   generalize dL (FL L q nl k)=DJ;generalize eR (low (Fz (Ea L k) q nl))=E1 at Hv KR ⊢;generalize eR (Fz (Ea L k) q nl)=E2 at Hv hc O1;generalize eR (Ea L k)=E3 at hd hc;generalize eR nl=E4 at hc ⊢;simp only[pv,seval,op,hd,hc,Hv,KR,O1]
  unfold zW;rw[e1];show(if dI false (.int (D9 L k:Int))&&decide ((kL (FL L q nl k)).length<sizeLine) then _ else _)=_;rw[Qi M7];show Res.ok (Out.nx [some (.pin p .f,DL),some (.f,.int (q:Int)),some (.f,eR nl),some (.d,.dct false (lz (kL (FL L q nl k)) (vL (FL L q nl k)) (.int (D9 L k:Int)) (eR (low (Fz (Ea L k) q nl)))).1 (lz (kL (FL L q nl k)) (vL (FL L q nl k)) (.int (D9 L k:Int)) (eR (low (Fz (Ea L k) q nl)))).2),some (.f,.int (D9 L k:Int))])=_;rw[hp];rfl) [some (.pin p .f,dL L),some (.f,.int (q:Int)),some (.f,eR nl),some (.d,dL []),none] ⟨none,rfl,rfl⟩
 exact⟨t4,h4,hf⟩
theorem forD_eq{i:Nat}{a:FG}{g:FS}{env env':PV.Env}{p:Addr}{ks vs:List D}(hi:env[i]?=some (some (.pin p .d,.dct false ks vs))){e:PV.Env}(h1:eF a g ks (env.set i (some (.pin p .f,.dct false ks vs)))=.ok (.nx e))(h2:j9 i p e=true)(h3:cleanE i e=true)(h4:e.set i (some (.pin p .d,.dct false ks vs))=env'):lG i a g env=.ok (.nx env'):=PV.forD_eq hi h1 h2 h3 h4
theorem AJ{w n:Nat}(hw:w<=1000)(hn:n+n+1<=9000){L:Ef}(H:Rdd w L)(hb:∀i,i<L.length->Bg n (Ea L i))(hL:L.length<=1000){q:Nat}(hq:q<w)(OZ:∀i,i<L.length->D9 L i≠q){nl:List Int}(IU:nl.length=w)(HE:Bg n nl)(p:Addr):bu p [dL L,.int (q:Int),eR nl]=.ok (.t [.d,.pin p .d],.tup [dL (Fq L q nl),dL L]):=by
 obtain⟨t4,h4,e⟩:=x6 hw hn H hb hL hq IU HE p;have e1:de [some (.pin p .d,dL L),some (.f,.int (q:Int)),some (.f,eR nl),some (.d,dL []),none]=.ok (.nx [some (.pin p .d,dL L),some (.f,.int (q:Int)),some (.f,eR nl),some (.d,dL (FL L q nl L.length)),t4]):=by
  unfold de;refine forD_eq (ks:=kL L) (vs:=vL L) rfl e (by show decide (p=p)=true;exact Qi rfl) ?_ rfl;show(List.all [none,some (O.f,D.int (q:Int)),some (.f,eR nl),some (.d,dL (FL L q nl L.length)),t4] GS)=true;have c1:GS (some (.f,eR nl))=true:=cJ nl;have c2:GS (some (.f,.int (q:Int)))=true:=rfl;have c3:GS (some (.d,dL (FL L q nl L.length)))=true:=fG _;have c0:GS none=true:=rfl;simp only[Rz,TQ,c0,c1,c2,c3,h4,P1]
 have hj:FL L q nl L.length++[(q,nl)]=Fq L q nl:=by
  unfold FL Fq;rw[List.take_length]
 have hp:=CI (FL L q nl L.length) q nl fun i hi e=>by
  rw[wc L q nl (Pt _) hi]at e;rw[bE,Qs]at hi;exact OZ i (by lia) e
 rw[hj]at hp;have M7:(kL (FL L q nl L.length)).length<sizeLine:=uN (by unfold kL;rw[bE,bE,Qs];lia);unfold bu gw;rw[gE (h:=by rfl)];simp only[List.map,List.replicate,RB,Q9];rw[ax (env':=[some (.pin p .d,dL L),some (.f,.int (q:Int)),some (.f,eR nl),some (.d,dL []),none]) (by
  show _=Res.ok (Out.nx [some (.pin p .d,dL L),some (.f,.int (q:Int)),some (.f,eR nl),some (.d,.dct false [] []),none]);generalize dL L=D0;generalize eR nl=EN;simp only[pv,seval,op])]
 rw[ax e1];unfold eI;rw[ax (env':=[some (.pin p .d,dL L),some (.f,.int (q:Int)),some (.f,eR nl),some (.d,dL (Fq L q nl)),t4]) (by
  show(if dI false (.int (q:Int))&&decide ((kL (FL L q nl L.length)).length<sizeLine) then _ else _)=_;rw[Qi M7];show Res.ok (Out.nx [some (.pin p .d,dL L),some (.f,.int (q:Int)),some (.f,eR nl),some (.d,.dct false (lz (kL (FL L q nl L.length)) (vL (FL L q nl L.length)) (.int (q:Int)) (eR nl)).1 (lz (kL (FL L q nl L.length)) (vL (FL L q nl L.length)) (.int (q:Int)) (eR nl)).2),t4])=_;rw[hp];rfl)]
 rfl
def Ic(t:Option R):Bool:=match t with
 |some r=>okO r.1 r.2
 |none=>true
theorem kG:∀r:List Int,rH (r.map D.int)=true
 |[]=>rfl
 |x::r=>by
  rw[lR,rH,kG r];rfl
theorem AK(r:List Int):noD (eR r)=true:=by
 unfold eR;rw[noD,kG]
theorem wd:∀rows:List (List Int),rH (rows.map eR)=true
 |[]=>rfl
 |x::r=>by rw[lR,rH,wd r,AK];rfl
theorem AL(a c d e f g:Option R)(h:Ic a=true/\Ic c=true/\Ic d=true/\Ic e=true/\Ic f=true):lJ 1 [a,g,c,d,e,f]=true:=by
 obtain⟨h1,h2,h3,h4,h5⟩:=h;show(List.all [a,none,c,d,e,f] _)=true;show(List.all [a,none,c,d,e,f] Ic)=true;simp only[Rz,TQ,h1,h2,h3,h4,h5,S9];rfl
theorem u9(rows:List (List Int)):Ic (some (.f,.lst (rows.map eR)))=true:=by
 show noD (.lst (rows.map eR))=true;rw[noD,wd]
theorem AM(r:List Int):Ic (some (.f,eR r))=true:=AK r
theorem Ci(l:List Int):Ic (some (.l .f,.lst (l.map D.int)))=true:=kG l
theorem m9{n a:Nat}{L:Ef}(hb:∀i,i<L.length->Bg n (Ea L i)){row:List Int}(hr:Bg a row):∀k,k<=L.length->Bg (a+k*(n+1)) (Fp L row k)
 | 0,_=>hr.mono (by lia)
 |k+1,h=>by
  have:=sO (m9 hb hr k (by lia)) (hb k (by lia)) (D9 L k);refine this.mono ?_;rw[Tw];lia
def IH(L:Ef)(t4:Option R)(k:Nat):Option R:=if k=0 then t4 else some (.f,.int (D9 L (k-1):Int))
theorem we(L:Ef){t4:Option R}(h:Ic t4=true)(k:Nat):Ic (IH L t4 k)=true:=by
 unfold IH;split
 ·exact h
 ·rfl
theorem AN(rows:List (List Int)){w n a:Nat}(hw:w<=1000){L:Ef}(H:Rdd w L)(hb:∀i,i<L.length->Bg n (Ea L i)){r:List Int}(hr:r.length=w)(HP:Bg a r)(hz:a+L.length*(n+1)+n<=900000)(t4 t5:Option R)(h4:Ic t4=true)(h5:Ic t5=true):dy [some (.f,.lst (rows.map eR)),some (.d,dL L),some (.f,eR r),some (.f,eR r),t4,t5]=.ok (.nx [some (.f,.lst (rows.map eR)),some (.d,dL L),some (.f,eR r),some (.f,eR (Fp L r L.length)),IH L t4 L.length,t5]):=by
 have key:∀p,eF (aw 4) b9 (kL L) [some (.f,.lst (rows.map eR)),some (.pin p .f,dL L),some (.f,eR r),some (.f,eR r),t4,t5]=.ok (.nx [some (.f,.lst (rows.map eR)),some (.pin p .f,dL L),some (.f,eR r),some (.f,eR (Fp L r L.length)),IH L t4 L.length,t5]):=fun p=>by
  obtain⟨env',hf,rfl⟩:=for_list (a:=aw 4) (g:=b9) (e:=fun z:Nat×List Int=>D.int (z.1:Int)) L (fun k env=>env=[some (.f,.lst (rows.map eR)),some (.pin p .f,dL L),some (.f,eR r),some (.f,eR (Fp L r k)),IH L t4 k,t5]) (by
   rintro k x env hx rfl;obtain⟨hk,ex⟩:=yy hx;have ec:D9 L k=x.1:=by unfold D9;rw[Pg,hx];rfl
   have hd:=ND H hk;have hkm:k*(n+1)<=L.length*(n+1):=QX _ (RW hk);have hc:=l5 (n:=a+k*(n+1)+n) (by lia) (Fp L r k) (Ea L k) (D9 L k) (by rw[gc,hr];exact H.col k hk) (by rw[gc,hr];exact H.len k hk) ((m9 hb HP k (by lia)).mono (by lia)) ((hb k hk).mono (by lia)) (by rw[gc,hr];exact hw);have fl:=cJ (Fz (Fp L r k) (D9 L k) (Ea L k));rw[<-ec];refine⟨[some (.f,.lst (rows.map eR)),some (.pin p .f,dL L),some (.f,eR r),some (.f,eR (Fp L r k)),some (.f,.int (D9 L k:Int)),t5],rfl,[some (.f,.lst (rows.map eR)),some (.pin p .f,dL L),some (.f,eR r),some (.f,eR (Fp L r (k+1))),IH L t4 (k+1),t5],?_,rfl⟩;show _=Res.ok (Out.nx [some (.f,.lst (rows.map eR)),some (.pin p .f,dL L),some (.f,eR r),some (.f,eR (Fz (Fp L r k) (D9 L k) (Ea L k))),some (.f,.int (D9 L k:Int)),t5]);unfold b9;generalize dL L=DL at hd ⊢;generalize eR (Ea L k)=EL at hc hd ⊢;generalize eR (Fz (Fp L r k) (D9 L k) (Ea L k))=EC at hc fl ⊢;generalize eR (Fp L r k)=ES at hc ⊢;generalize eR r=ER;simp only[pv,seval,op,hd,hc,fl]) [some (.f,.lst (rows.map eR)),some (.pin p .f,dL L),some (.f,eR r),some (.f,eR r),t4,t5] rfl
  exact hf
 unfold dy;exact x5 (ks:=kL L) (vs:=vL L) rfl fun p=>⟨_,key p,(by show decide (p=p)=true;exact Qi rfl),AL _ _ _ _ _ _ ⟨u9 rows,AM r,AM _,we L h4 _,h5⟩,rfl⟩
theorem x9(R0:Option R)(DL:D)(ER:Option R)(aO:List Int)(hl:aO.length<=1000)(h:Kq aO=[])(t4 t5:Option R):bD [R0,some (.d,DL),ER,some (.f,eR aO),t4,t5]=.ok (.nx [R0,some (.d,DL),ER,some (.f,eR aO),t4,some (.l .f,.lst [])]):=by
 have hc:=lZ aO;rw[h]at hc;have hc:cM (lj 2 (bj (aw 0) (bj (aw 1) fH))) (Es (aN Gr (ak 1) (aq (aF (.int 0))))) (aM 0) (rq (aO.map D.int)) [none,none]=.ok []:=hc;unfold bD eR;generalize (lj 2 (bj (aw 0) (bj (aw 1) fH)))=AA at hc ⊢;generalize (Es (aN Gr (ak 1) (aq (aF (.int 0)))))=BB at hc ⊢;rw[ax (env':=[R0,some (.d,DL),ER,some (.f,.tup (aO.map D.int)),t4,some (.l .f,.lst [])]) (by
  have f0:D6 []=true:=rfl;have z0:0<=sizeLine:=QA _;simp only[pv,seval,op,oN,hc,f0,z0,Q7])]
 have c0:decide ((0:Int)<((([]:List D).length:Nat):Int))=false:=rfl;simp only[pv,seval,op,c0,Q7,Int.cast_ofNat_Int,decide_false,lQ] <;> rfl
theorem yc(R0:Option R)(ER:Option R){L:Ef}(aO:List Int){n:Nat}(hn:n<=9000)(hb:Bg n aO)(hl:aO.length<=1000)(q:Nat)(more:List Int)(h:Kq aO=(q:Int)::more)(hpw:∀p,bu p [dL L,.int (q:Int),eR (low aO)]=.ok (.t [.d,.pin p .d],.tup [dL (Fq L q (low aO)),dL L]))(t4 t5:Option R):bD [R0,some (.d,dL L),ER,some (.f,eR aO),t4,t5]=.ok (.nx [R0,some (.d,dL (Fq L q (low aO))),ER,some (.f,eR aO),t4,some (.l .f,.lst (((q:Int)::more).map D.int))]):=by
 have hc:=lZ aO;have hle:=AI aO;rw[h]at hc hle;have Hv:=kF hn aO hb hl;have KR:=cJ (low aO);have hw:=gv (F:=bu) (c:=.d) (r:=(.d,dL (Fq L q (low aO)))) (d':=dL L) hpw;have hz:(((q:Int)::more).map D.int).length<=sizeLine:=line_le (by rw[bE];lia);have hf:=DZ ((q:Int)::more);have Jo:GU (((q:Int)::more).map D.int) (0:Int)=some (.int (q:Int)):=jH (j:=0) rfl;have c0:decide ((0:Int)<(((((q:Int)::more).map D.int).length:Nat):Int))=true:=Qi (by rw[bE,PH];lia);have cd:=fG (Fq L q (low aO));have cn:=fG L;generalize dL (Fq L q (low aO))=D1 at hw cd ⊢;generalize dL L=D0 at hw cn ⊢;generalize ((q:Int)::more).map D.int=LL at hc hz hf Jo c0 ⊢;generalize eR (low aO)=ELO at Hv hw KR;unfold bD;have Ot:ju (ae (aq (aM 3)) ar) [R0,some (.d,D0),ER,some (.f,eR aO),t4,t5]=.ok (rq (aO.map D.int),[R0,some (.d,D0),ER,some (.f,eR aO),t4,t5]):=by
  unfold eR;simp only[pv,seval,oN]
 generalize hAA:(lj 2 (bj (aw 0) (bj (aw 1) fH)))=AA at hc ⊢;generalize hBB:(Es (aN Gr (ak 1) (aq (aF (.int 0)))))=BB at hc ⊢;clear hAA hBB;generalize ju (ae (aq (aM 3)) ar)=IE at Ot ⊢;generalize eR aO=ERR at Ot Hv ⊢;rw[ax (env':=[R0,some (.d,D0),ER,some (.f,ERR),t4,some (.l .f,.lst LL)]) (by
  simp only[pv,seval,op,Ot,hc,hz,hf])]
 have own:j7 .d .d=true:=rfl;simp only[pv,seval,op,c0,Jo,Hv,KR,cE,own,hw,cd,cn,El,Em,P1,Q1]
theorem yd{r:List Int}(h:∀x∈r,x=0):Kq r=[]:=by
 unfold Kq;rw[Tr.mpr ?_]
 ·rfl
 ·intro z hz;have:=h z.1 (List.fst_mem_of_mem_zipIdx hz);rw[this];decide
theorem oO:∀(r:List Int) (n q:Nat),q<r.length->r.getD q 0≠0->(∀j,j<q->r.getD j 0=0)->∃more,((r.zipIdx n).filter fun z=>!(z.1==0)).map (fun z=>(z.2:Int))=((n+q:Nat):Int)::more
 |[],n,q,h,_,_=>by simp at h
 |x::r,n,0,h,h0,_=>by
  have h0:x≠0:=h0;rw[So,Sa (by simpa using h0),lR];exact⟨_,rfl⟩
 |x::r,n,q+1,h,h0,hj=>by
  have hx:x=0:=hj 0 (by lia);rw[So,Sb (by rw[hx];exact PF)];obtain⟨more,e⟩:=oO r (n+1) q (by rw[PH]at h;lia) h0 fun j hjq=>hj (j+1) (by lia)
  exact⟨more,by rw[e,show n+1+q=n+(q+1) by lia]⟩
theorem sP{r:List Int}{q:Nat}(h:q<r.length)(h0:r.getD q 0≠0)(hj:∀j,j<q->r.getD j 0=0):∃more,Kq r=(q:Int)::more:=by
 obtain⟨more,e⟩:=oO r 0 q h h0 hj;rw[RZ]at e;exact⟨more,e⟩
theorem ye{w:Nat}{rows:List (List Int)}{L:Ef}(H:Inv w rows L):L.length<=rows.length:=by
 obtain⟨S,s1,s2,s3,_,_⟩:=H.base;exact uV (B:=Fs rows) s3 fun i hi=>vY (s2 _ (cI (by lia)))
theorem kH{w:Nat}{rows:List (List Int)}(h6:rows.length<=6)(hr:∀r∈rows,r.length=w/\Bg 175 r){L:Ef}(H:Inv w rows L):L.length<=rows.length/\∀i,i<L.length->Bg 1260 (Ea L i):=by
 have hl:=ye H;refine⟨hl,fun i hi x hx=>?_⟩;obtain⟨k,hk,e⟩:=Qy hx;have LS:k<w:=by rw[<-H.red.len i hi];exact hk
 have h:=H.size (A:=2 ^ 175) (fun r h k _=>RW ((hr r h).2.at k)) hi LS;rw[cF _ _ _ hk,e]at h;refine Qp h ?_;have O2:L.length<=6:=by lia
 have h1:2*(L.length*2 ^ 175)+1<=2*(6*2 ^ 175)+1:=Nat.succ_le_succ (Nat.mul_le_mul_left 2 (QX _ O2));have h2:(2*(L.length*2 ^ 175)+1) ^ (L.length-1)<=(2*(6*2 ^ 175)+1) ^ 5:=PN (Ud h1 _) (RS (RL _) (by lia));exact Qp (Sg O2 (QX _ h2)) (by decide +kernel)
theorem iV{rows:List (List Int)}{w:Nat}(hw:w<=7)(h6:rows.length<=6)(hr:∀r∈rows,r.length=w/\Bg 175 r):∀(rs ps:List (List Int)) (L:Ef),ps++rs=rows->Inv w ps L->Ech L->∀t2 t3 t4 t5:Option R,Ic t4=true->Ic t5=true->
  ∃(L':Ef) (u2 u3 u4 u5:Option R),Inv w rows L'/\Ech L'/\eF (aw 2) bO (rs.map eR) [some (.f,.lst (rows.map eR)),some (.d,dL L),t2,t3,t4,t5]=.ok (.nx [some (.f,.lst (rows.map eR)),some (.d,dL L'),u2,u3,u4,u5])
 |[],ps,L,e,H,EL,t2,t3,t4,t5,_,_=>⟨L,t2,t3,t4,t5,by rw[<-e,PU];exact H,EL,rfl⟩
 |r::rs,ps,L,e,H,EL,t2,t3,t4,t5,h4,h5=>by
  have FE:ps.length+1<=6:=by
   have:=QN List.length e;rw[vU,PH]at this;lia
  have O3:∀s∈ps,s.length=w/\Bg 175 s:=fun s hs=>hr s (by rw[<-e];exact Pp _ hs)
  obtain⟨rl,rb⟩:=hr r (by rw[<-e];exact Pj _ Pq);obtain⟨l1,l2⟩:=kH (by lia) O3 H;have hl721:L.length*(1260+1)<=6*1261:=QX _ (by lia);have ha:aw 2 (eR r) [some (.f,.lst (rows.map eR)),some (.d,dL L),t2,t3,t4,t5]=.ok [some (.f,.lst (rows.map eR)),some (.d,dL L),some (.f,eR r),t3,t4,t5]:=rfl;have e1:=AN rows (by lia) H.red l2 rl rb (by lia) t4 t5 h4 h5;have M3:(Fp L r L.length).length=w:=by rw[gc,rl]
  have Ou:Bg 7800 (Fp L r L.length):=(m9 l2 rb L.length (Pt _)).mono (by lia);have O4:=we L h4 L.length;have e':(ps++[r])++rs=rows:=by rw[Ql];exact e
  have O5:∀(D':D) (u5:Option R),bD [some (.f,.lst (rows.map eR)),some (.d,dL L),some (.f,eR r),some (.f,eR (Fp L r L.length)),IH L t4 L.length,t5]=.ok (.nx [some (.f,.lst (rows.map eR)),some (.d,D'),some (.f,eR r),some (.f,eR (Fp L r L.length)),IH L t4 L.length,u5])->bO [some (.f,.lst (rows.map eR)),some (.d,dL L),some (.f,eR r),t3,t4,t5]=.ok (.nx [some (.f,.lst (rows.map eR)),some (.d,D'),some (.f,eR r),some (.f,eR (Fp L r L.length)),IH L t4 L.length,u5]):=fun D' u5 e2=>by
   unfold bO;rw[ax (env':=[some (.f,.lst (rows.map eR)),some (.d,dL L),some (.f,eR r),some (.f,eR r),t4,t5]) (by
    generalize dL L=D0;generalize eR r=ER;simp only[pv,seval,op]),ax e1,e2]
  by_cases hz:nz (Fp L r L.length)=true
  ·obtain⟨f1,f2,f3⟩:=vZ hz;obtain⟨more,hf⟩:=sP f1 f2 f3;have hq:tf (Fp L r L.length)<w:=by rw[M3]at f1;exact f1
   have H':=H.more rl hq f2;obtain⟨m1,m2⟩:=kH (by rw[vU];exact FE) (fun s hs=>by
    rcases yz hs with h|h
    ·exact O3 s h
    ·rw[rZ h];exact⟨rl,rb⟩) H'
   have HE:Bg 1260 (low (Fp L r L.length)):=by
    have:=m2 L.length (by rw[mY];lia);rw[(cG L _ _).2]at this;exact this
   obtain⟨d,x,_,_,Ja⟩:=lV H.red rl L.length (Pt _);have e2:=yc (some (.f,.lst (rows.map eR))) (some (.f,eR r)) (Fp L r L.length) (n:=7800) (by decide) Ou (by lia) (tf (Fp L r L.length)) more hf (fun p=>AJ (n:=1260) (by lia) (by decide) H.red l2 (by lia) hq (fun i hi e=>f2 (by rw[<-e];exact Ja i hi)) (by rw[kA];exact M3) HE p) (IH L t4 L.length) t5;obtain⟨L',u2,u3,u4,u5,H2,E2,e3⟩:=iV hw h6 hr rs (ps++[r]) _ e' H' (EL.more H.red hq (lW f2).1 fun j hj=>sx (f3 j hj)) (some (.f,eR r)) (some (.f,eR (Fp L r L.length))) (IH L t4 L.length) (some (.l .f,.lst (((tf (Fp L r L.length):Int)::more).map D.int))) O4 (Ci _);refine⟨L',u2,u3,u4,u5,H2,E2,?_⟩;rw[lR,ku,ha,FD,O5 _ _ e2,FD];exact e3
  ·have hz0:∀x∈Fp L r L.length,x=0:=fun x hx=>by
    obtain⟨k,hk,ek⟩:=Qy hx;have:=CG (RO.mpr hz) k;rw[cF _ _ _ hk,ek]at this;exact this
   have e2:=x9 (some (.f,.lst (rows.map eR))) (dL L) (some (.f,eR r)) (Fp L r L.length) (by lia) (yd hz0) (IH L t4 L.length) t5;obtain⟨L',u2,u3,u4,u5,H2,E2,e3⟩:=iV hw h6 hr rs (ps++[r]) L e' (H.none rl fun k _=>CG (RO.mpr hz) k) EL (some (.f,eR r)) (some (.f,eR (Fp L r L.length))) (IH L t4 L.length) (some (.l .f,.lst [])) O4 rfl;refine⟨L',u2,u3,u4,u5,H2,E2,?_⟩;rw[lR,ku,ha,FD,O5 _ _ e2,FD];exact e3
theorem l7{rows:List (List Int)}{w:Nat}(hw:w<=7)(h6:rows.length<=6)(hr:∀r∈rows,r.length=w/\Bg 175 r):∃L,Inv w rows L/\Ech L/\aE [.lst (rows.map eR)]=.ok (.d,dL L):=by
 obtain⟨L,u2,u3,u4,u5,H,E,e⟩:=iV hw h6 hr rows [] [] rfl (Inv.start w) Ech.start none none none none rfl rfl;refine⟨L,H,E,?_⟩;unfold aE gY;rw[bJ (h:=by rfl)];rw[ax (env':=[some (.f,.lst (rows.map eR)),some (.d,dL []),none,none,none,none]) (by
  show _=Res.ok (Out.nx [some (.f,.lst (rows.map eR)),some (.d,.dct false [] []),none,none,none,none]);simp only[pv,seval,op])]
 rw[ax (env':=[some (.f,.lst (rows.map eR)),some (.d,dL L),u2,u3,u4,u5]) (by
  unfold fQ;generalize hD:dL []=D0 at e ⊢;generalize rows.map eR=RR at e ⊢;generalize bO=BB at e ⊢;simp only[pv,seval,op];exact e)]
 unfold eW;generalize dL L=D1;simp only[pv,seval,op]
structure KOk(w:Nat)(L:Ef):Prop where
 red:Rdd w L
 big:∀i,i<L.length->Bg 1260 (Ea L i)
 few:L.length<=6
 wid:w<=7
theorem Cj(c:Int):yu [.int c]=.ok (.f,.int (c.natAbs:Int)):=AG c
theorem yf{w:Nat}{L:Ef}(H:KOk w L){k:Nat}(hk:k<=L.length):EI L k<2 ^ 7561:=by
 have h:=v5 (L:=L) (M:=2 ^ 1260) (fun i hi=>RW ((H.big i hi).at _)) k hk;rw[<-Nat.pow_mul]at h;have hk6:1260*k<=7560:=by have:=H.few;lia
 exact Qp h (Nat.pow_lt_pow_right (by decide) (by lia))
theorem oP(a b c d e f g:Option R):cleanE 0 [a,b,c,d,e,f,g]=(GS b&&(GS c&&(GS d&&(GS e&&(GS f&&GS g))))):=by
 show(List.all [none,b,c,d,e,f,g] GS)=_;simp only[Rz,TQ,S9];rfl
theorem AO(a:Nat){l:Int}(hl:l≠0):(((a:Int)*l).natAbs:Int).fdiv ((Int.gcd (a:Int) l:Nat):Int)=(Nat.lcm a l.natAbs:Int):=by
 rw[Rh,Qr,<-Int.ofNat_fdiv];rfl
theorem DF(p:Addr){w:Nat}{L:Ef}(H:KOk w L)(c:Nat):∃u4 u5,GS u4=true/\GS u5=true/\dB [some (.pin p .d,dL L),some (.f,.int (c:Int)),some (.f,.int (w:Int)),some (.f,.int 1),none,none,none]=.ok (.nx [some (.pin p .d,dL L),some (.f,.int (c:Int)),some (.f,.int (w:Int)),some (.f,.int (EI L L.length:Int)),u4,u5,none]):=by
 obtain⟨env',hf,u4,u5,h4,h5,rfl⟩:=for_list (a:=aw 4) (g:=dg) (e:=fun z:Nat×List Int=>D.int (z.1:Int)) L (fun k env=>∃u4 u5,GS u4=true/\GS u5=true/\env=[some (.pin p .f,dL L),some (.f,.int (c:Int)),some (.f,.int (w:Int)),some (.f,.int (EI L k:Int)),u4,u5,none]) (by
  rintro k x env hx ⟨u4,u5,_,_,rfl⟩;obtain⟨hk,ex⟩:=yy hx;have ec:D9 L k=x.1:=by unfold D9;rw[Pg,hx];rfl
  have hd:=ND H.red hk;have E7:=Ma (r:=Ea L k) (c:=D9 L k) (by rw[H.red.len k hk];exact H.red.col k hk);have NH:=H.red.own k hk;have NI:=(H.big k hk).at (D9 L k)
  have Ou:=yf H (k:=k) (by lia);have esc:(EI L (k+1):Int)=(Nat.lcm (EI L k) ((Ea L k).getD (D9 L k) 0).natAbs:Int):=rfl;rw[<-ec,esc];generalize (Ea L k).getD (D9 L k) 0=l at E7 NH NI;have hm:=uP (x:=(EI L k:Int)) (y:=l) (n:=7561) (m:=1260) (by rw[Qr];exact Ou) NI (by decide) (by decide);have Il:=Cj ((EI L k:Int)*l);have Hu:=wb (n:=1260) (by decide) (EI L k:Int) l NI;have hg0:Int.gcd (EI L k:Int) l≠0:=fun z=>NH (Int.gcd_eq_zero_iff.mp z).2
  have hgb:((Int.gcd (EI L k:Int) l:Nat):Int).natAbs<2 ^ 1260:=by
   rw[Qr];exact Qp (Nat.gcd_le_right _ (T4.mpr NH)) NI
  have Kr:=m6 ((((EI L k:Int)*l).natAbs:Nat):Int) (b:=((Int.gcd (EI L k:Int) l:Nat):Int)) (by lia) hgb (by decide);rw[AO _ NH]at Kr;refine⟨[some (.pin p .f,dL L),some (.f,.int (c:Int)),some (.f,.int (w:Int)),some (.f,.int (EI L k:Int)),some (.f,.int (D9 L k:Int)),u5,none],rfl,[some (.pin p .f,dL L),some (.f,.int (c:Int)),some (.f,.int (w:Int)),some (.f,.int (Nat.lcm (EI L k) l.natAbs:Int)),some (.f,.int (D9 L k:Int)),some (.f,.int l),none],?_,_,_,rfl,rfl,rfl⟩;unfold dg;generalize dL L=DL at hd ⊢;generalize eR (Ea L k)=EL at hd E7 ⊢;generalize ((Int.gcd (EI L k:Int) l:Nat):Int)=GG at Hu Kr;generalize ((((EI L k:Int)*l).natAbs:Nat):Int)=AA at Il Kr;generalize ((Nat.lcm (EI L k) l.natAbs:Nat):Int)=LC at Kr ⊢;generalize (EI L k:Int)=SC at hm Il Hu ⊢;rw[ax (env':=[some (.pin p .f,DL),some (.f,.int (c:Int)),some (.f,.int (w:Int)),some (.f,.int SC),some (.f,.int (D9 L k:Int)),some (.f,.int l),none]) (by simp only[pv,seval,op,hd,E7])];simp only[pv,seval,op,hm,Il,Hu,Kr]) [some (.pin p .f,dL L),some (.f,.int (c:Int)),some (.f,.int (w:Int)),some (.f,.int 1),none,none,none] ⟨none,none,rfl,rfl,rfl⟩
 refine⟨u4,u5,h4,h5,?_⟩;unfold dB;refine PV.forD_eq (ks:=kL L) (vs:=vL L) rfl hf (by show decide (p=p)=true;exact Qi rfl) ?_ rfl;rw[oP,h4,h5];rfl
theorem yg(l:List Int):aB (.l .f) (.lst (l.map D.int))=true:=by
 rw[aB,dt,DZ]
theorem Ck(l:List Int)(k:Nat)(h:k<l.length):ixN (l.map D.int).length (k:Int)=some k:=mU _ _ (by rw[bE];exact h)
theorem AQ{w:Nat}{L:Ef}(H:KOk w L){k:Nat}(hk:k<L.length):((EI L L.length:Int).fdiv ((Ea L k).getD (D9 L k) 0)).natAbs<2 ^ 7561:=by
 have hd:(Ea L k).getD (D9 L k) 0*(EI L L.length:Int).fdiv ((Ea L k).getD (D9 L k) 0)=(EI L L.length:Int):=Sv (Sm.mp (by rw[Qr];exact mZ L _ k hk));have h0:=H.red.own k hk;have hb:=yf H (Pt L.length);generalize (EI L L.length:Int).fdiv ((Ea L k).getD (D9 L k) 0)=q at hd;have e:=QN Int.natAbs hd;rw[Rh,Qr]at e;have h1:1*q.natAbs<=((Ea L k).getD (D9 L k) 0).natAbs*q.natAbs:=QX _ (T4.mpr h0);rw[Nat.one_mul]at h1;lia
theorem ng{w:Nat}{L:Ef}(H:KOk w L)(c:Nat):∀k,k<=L.length->Bg 8821 (Gy L c w k)
 | 0,_=>fun x hx=>by
  unfold Gy Kp at hx;obtain⟨j,_,e⟩:=pF hx;have hb:=yf H (Pt L.length);by_cases hj:j=c
  ·rw[Px hj]at e;rw[<-e,Qr];exact Po hb (RS (by decide) (by decide))
  ·rw[PJ hj]at e;rw[<-e];exact TU 8821
 |k+1,hk=>fun x hx=>by
  have hx:x∈(Gy L c w k).set (D9 L k) (-((Ea L k).getD c 0)*(EI L L.length:Int).fdiv ((Ea L k).getD (D9 L k) 0)):=hx;rcases List.mem_or_eq_of_mem_set hx with h|h
  ·exact ng H c k (by lia) x h
  ·rw[h];exact l6 (n:=1260) (m:=7561) (by rw[Sh];exact(H.big k (by lia)).at c) (AQ H (by lia))
theorem DG(p:Addr){w:Nat}{L:Ef}(H:KOk w L){c:Nat}(hc:c<w)(u4 u5:Option R)(h4:GS u4=true)(h5:GS u5=true):∃v4,dA [some (.pin p .d,dL L),some (.f,.int (c:Int)),some (.f,.int (w:Int)),some (.f,.int (EI L L.length:Int)),u4,u5,some (.l .f,.lst ((Gy L c w 0).map D.int))]=.ok (.nx [some (.pin p .d,dL L),some (.f,.int (c:Int)),some (.f,.int (w:Int)),some (.f,.int (EI L L.length:Int)),v4,u5,some (.l .f,.lst ((Gy L c w L.length).map D.int))]):=by
 obtain⟨env',hf,v4,g4,rfl⟩:=for_list (a:=aw 4) (g:=df) (e:=fun z:Nat×List Int=>D.int (z.1:Int)) L (fun k env=>∃v4,GS v4=true/\env=[some (.pin p .f,dL L),some (.f,.int (c:Int)),some (.f,.int (w:Int)),some (.f,.int (EI L L.length:Int)),v4,u5,some (.l .f,.lst ((Gy L c w k).map D.int))]) (by
  rintro k x env hx ⟨v4,_,rfl⟩;obtain⟨hk,ex⟩:=yy hx;have ec:D9 L k=x.1:=by unfold D9;rw[Pg,hx];rfl
  have hd:=ND H.red hk;have i1:=Ma (r:=Ea L k) (c:=c) (by rw[H.red.len k hk];exact hc);have i2:=Ma (r:=Ea L k) (c:=D9 L k) (by rw[H.red.len k hk];exact H.red.col k hk);have Kr:=m6 (EI L L.length:Int) (H.red.own k hk) ((H.big k hk).at (D9 L k)) (by decide);have hm:=uP (x:=-((Ea L k).getD c 0)) (y:=(EI L L.length:Int).fdiv ((Ea L k).getD (D9 L k) 0)) (n:=1260) (m:=7561) (by rw[Sh];exact(H.big k hk).at c) (AQ H hk) (by decide) (by decide);have e3:=Ck (Gy L c w k) (D9 L k) (by rw[gP];exact H.red.col k hk);have e4:((Gy L c w k).map D.int).set (D9 L k) (.int (-((Ea L k).getD c 0)*(EI L L.length:Int).fdiv ((Ea L k).getD (D9 L k) 0)))=(Gy L c w (k+1)).map D.int:=by
   rw[<-List.map_set];rfl
  rw[<-ec];refine⟨[some (.pin p .f,dL L),some (.f,.int (c:Int)),some (.f,.int (w:Int)),some (.f,.int (EI L L.length:Int)),some (.f,.int (D9 L k:Int)),u5,some (.l .f,.lst ((Gy L c w k).map D.int))],rfl,[some (.pin p .f,dL L),some (.f,.int (c:Int)),some (.f,.int (w:Int)),some (.f,.int (EI L L.length:Int)),some (.f,.int (D9 L k:Int)),u5,some (.l .f,.lst ((Gy L c w (k+1)).map D.int))],?_,_,rfl,rfl⟩;rw[<-e4];unfold df;generalize (EI L L.length:Int).fdiv ((Ea L k).getD (D9 L k) 0)=QQ at Kr hm ⊢;generalize (EI L L.length:Int)=SC at Kr ⊢;generalize dL L=DL at hd ⊢;generalize eR (Ea L k)=EL at hd i1 i2 ⊢;generalize (Gy L c w k).map D.int=UU at e3 ⊢;simp only[pv,seval,op,hd,i1,i2,Kr,hm,e3]) [some (.pin p .f,dL L),some (.f,.int (c:Int)),some (.f,.int (w:Int)),some (.f,.int (EI L L.length:Int)),u4,u5,some (.l .f,.lst ((Gy L c w 0).map D.int))] ⟨u4,h4,rfl⟩
 refine⟨v4,?_⟩;unfold dA;refine PV.forD_eq (ks:=kL L) (vs:=vL L) rfl hf (by show decide (p=p)=true;exact Qi rfl) ?_ rfl;have c6:GS (some (.l .f,.lst ((Gy L c w L.length).map D.int)))=true:=yg _;rw[oP,g4,h5,c6];rfl
theorem ve(w c:Nat)(x:Int):((((List.range w).map fun _=>(0:Int)).map D.int).set c (.int x))=(Kp w c x).map D.int:=by
 unfold Kp;rw[P7,g6,P7];refine Qx fun i _=>?_
 show(if i=c then D.int x else D.int 0)=D.int (if i=c then x else 0);split <;> rfl
theorem DH(w:Nat)(hw:w<=1000):hV (.lst [.int 0]) (.int (w:Int))=.ok (.l .f,.lst (((List.range w).map fun _=>(0:Int)).map D.int)):=by
 show yv (.lst [.int 0]) (.int (w:Int))=_;rw[rW,Px ⟨by lia,by lia,line_le (by rw[PH,Q7];lia)⟩,Qu];have:(List.replicate w [D.int 0]).flatten=((List.range w).map fun _=>(0:Int)).map D.int:=by
  rw[P7];clear hw;induction w with
  |zero=>rfl
  |succ n ih=>rw[TZ,Uc,ih,SF,Qm];rfl
 rw[this]
theorem l8{w:Nat}{L:Ef}(H:KOk w L){c:Nat}(hc:c<w)(p:Addr):aD p [dL L,.int (c:Int),.int (w:Int)]=.ok (.t [.f,.pin p .d],.tup [eR (kr L c w),dL L]):=by
 have hw:=H.wid;obtain⟨u4,u5,h4,h5,e2⟩:=DF p H c;obtain⟨v4,e1⟩:=DG p H hc u4 u5 h4 h5;have Hv:=kF (n:=8821) (by decide) (yA L c w) (ng H c _ (Pt _)) (by rw[gP];lia);have KR:=cJ (kr L c w);have hz:=DH w (by lia);have e3:ixN (((List.range w).map fun _=>(0:Int)).map D.int).length (c:Int)=some c:=mU _ _ (by rw[bE,bE,PM];exact hc);have ez:=ve w c (EI L L.length:Int);unfold aD gZ;rw[gE (h:=by rfl)];simp only[List.map,List.replicate,RB,Q9];rw[ax (env':=[some (.pin p .d,dL L),some (.f,.int (c:Int)),some (.f,.int (w:Int)),some (.f,.int 1),none,none,none]) (by
  generalize dL L=DL;simp only[pv,seval,op])]
 rw[ax e2];unfold eY;rw[ax (env':=[some (.pin p .d,dL L),some (.f,.int (c:Int)),some (.f,.int (w:Int)),some (.f,.int (EI L L.length:Int)),u4,u5,some (.l .f,.lst (((List.range w).map fun _=>(0:Int)).map D.int))]) (by
  generalize dL L=DL;simp only[pv,seval,op,hz])]
 rw[ax (env':=[some (.pin p .d,dL L),some (.f,.int (c:Int)),some (.f,.int (w:Int)),some (.f,.int (EI L L.length:Int)),u4,u5,some (.l .f,.lst ((Gy L c w 0).map D.int))]) (by
  show _=Res.ok (Out.nx [some (.pin p .d,dL L),some (.f,.int (c:Int)),some (.f,.int (w:Int)),some (.f,.int (EI L L.length:Int)),u4,u5,some (.l .f,.lst ((Kp w c (EI L L.length:Int)).map D.int))]);rw[<-ez];generalize dL L=DL;generalize ((List.range w).map fun _=>(0:Int)).map D.int=ZZ at e3 ⊢;simp only[pv,seval,op,e3])]
 rw[ax e1];unfold eX;have Hv:bT [.tup ((Gy L c w L.length).map D.int)]=.ok (.f,eR (kr L c w)):=Hv;generalize eR (kr L c w)=EK at Hv KR ⊢;generalize dL L=DL;simp only[pv,seval,op,Hv,KR,bS]
theorem cK{w:Nat}{L:Ef}(H:KOk w L){c:Nat}(hc:c<w):iH aD .d (dL L) [.int (c:Int),.int (w:Int)]=.ok ((.f,eR (kr L c w)),dL L):=gv (r:=(.f,eR (kr L c w))) (l8 H hc)
theorem sQ(L:Ef)(c:Nat):(PV.getD (kL L) (vL L) (.int (c:Int))).isSome=F7 L c:=by
 induction L with
 |nil=>rfl
 |cons z L ih=>
  show((((D.int (z.1:Int),eR z.2)::(kL L).zip (vL L)).find? (fun p=>D3 (.int (c:Int)) p.1)).map (·.2)).isSome=(z.1==c||F7 L c)
  by_cases h:z.1=c
  ·rw[RE (by show D3 (.int (c:Int)) (.int (z.1:Int))=true;rw[M6,P5];exact h.symm),P5.mpr h];rfl
  ·rw[RF (by show ¬ D3 (.int (c:Int)) (.int (z.1:Int))=true;rw[M6,P5];exact fun e=>h e.symm),P6.mpr h,Up];exact ih
theorem AR(L:Ef)(c:Nat):oj (.int (c:Int)) (dL L)=.ok (.f,.bl (!F7 L c)):=by
 unfold oj dL;dsimp only;rw[Px (show dI false (.int (c:Int))=true from rfl),sQ]
theorem hW{α β:Type}(x:α)(f:α->Res β):(Res.ok x).bind f=f x:=rfl
theorem l9{w:Nat}{L:Ef}(H:KOk w L)(p:Addr):∀(cs:List Nat),(∀c∈cs,c<w)->∀t:Option R,∃t',compLE (aw 0) (Es (aN oj (ak 0) (ak 1))) (eFunW (.d) aD 1 (ae (ak 1) (ae (ak 0) (ae (ak 2) ar)))) (cs.map fun(c:Nat)=>D.int (c:Int)) [t,some (.pin p .d,dL L),some (.f,.int (w:Int))]=.ok (((cs.filter fun c=>!F7 L c).map fun c=>kr L c w).map eR,[t',some (.pin p .d,dL L),some (.f,.int (w:Int))])
 |[],_,t=>⟨t,rfl⟩
 |c::cs,h,t=>by
  have hn:=AR L c;have hk:=cK H (h c Pq);have cd:=fG L;have fk:=cJ (kr L c w);obtain⟨t',e⟩:=l9 H p cs (fun x hx=>h x (Pu _ hx)) (some (.f,.int (c:Int)));refine⟨t',?_⟩;rw[lR];unfold compLE;have ha:aw 0 (.int (c:Int)) [t,some (.pin p .d,dL L),some (.f,.int (w:Int))]=.ok [some (.f,.int (c:Int)),some (.pin p .d,dL L),some (.f,.int (w:Int))]:=rfl;rw[ha,hW];have ec:(Es (aN oj (ak 0) (ak 1))) [some (.f,.int (c:Int)),some (.pin p .d,dL L),some (.f,.int (w:Int))]=.ok (!F7 L c,[some (.f,.int (c:Int)),some (.pin p .d,dL L),some (.f,.int (w:Int))]):=by
   generalize dL L=DL at hn ⊢;simp only[pv,seval,op,hn]
  rw[ec,hW];cases hb:F7 L c with
  |true=>
   rw[Sb (by rw[hb];exact PF)];exact e
  |false=>
   rw[Sa (by rw[hb];rfl),lR,lR];have ef:eFunW (.d) aD 1 (ae (ak 1) (ae (ak 0) (ae (ak 2) ar))) [some (.f,.int (c:Int)),some (.pin p .d,dL L),some (.f,.int (w:Int))]=.ok ((.f,eR (kr L c w)),[some (.f,.int (c:Int)),some (.pin p .d,dL L),some (.f,.int (w:Int))]):=by
    have own:j7 .d (.pin p .d)=true:=rfl;generalize dL L=DL at hk cd ⊢;generalize eR (kr L c w)=EK at hk fk ⊢;simp only[pv,seval,op,cE,own,hk,fk,cd,El,Em,cD,P1,Q1]
   rw[Px (by rfl),ef,hW,e,hW]
theorem kI(rows:List (List Int)):D6 (rows.map eR)=true:=iT rows
theorem oQ(L:Ef)(w:Nat):(kB L w).length<=w:=by
 unfold kB;rw[bE];exact PN (Sn _ _) (Tx PM)
theorem vf{w:Nat}{rows:List (List Int)}{L:Ef}(H:KOk w L)(hl:aE [.lst (rows.map eR)]=.ok (.d,dL L)):fC [.lst (rows.map eR),.int (w:Int)]=.ok (.l .f,.lst ((kB L w).map eR)):=by
 have hw:=H.wid;have cd:=fG L;obtain⟨ks,vs,ed,fv⟩:∃ks vs,dL L=.dct false ks vs/\D6 vs=true:=⟨_,_,rfl,sN L⟩
 have hlen:((kB L w).map eR).length<=sizeLine:=line_le (by rw[bE];have:=oQ L w;lia);have L9:=kI (kB L w);have Hu:mN (aw 0) (Es (aN oj (ak 0) (ak 1))) (eFunW (.d) aD 1 (ae (ak 1) (ae (ak 0) (ae (ak 2) ar)))) ((List.range w).map fun(c:Nat)=>D.int (c:Int)) (fun q=>[none,some (.pin q .d,.dct false ks vs),some (.f,.int (w:Int))]) 1 (.dct false ks vs)=.ok ((kB L w).map eR):=by
  refine uD fun q=>?_
  obtain⟨t',e⟩:=l9 H q (List.range w) (fun c hc=>QM.mp hc) none;rw[ed]at e;exact⟨_,e,rfl⟩
 unfold fC oA;rw[bJ (h:=by rfl)];rw[ax (env':=[some (.f,.lst (rows.map eR)),some (.f,.int (w:Int)),some (.d,dL L)]) (by
  generalize dL L=DL at hl cd ⊢;simp only[pv,seval,op,hl,cd])]
 rw[ed];have hr:=A8 (w:Int) (by lia) (by lia) (ak 1) [some (.f,.lst (rows.map eR)),some (.f,.int (w:Int)),some (.d,.dct false ks vs)] [some (.f,.lst (rows.map eR)),some (.f,.int (w:Int)),some (.d,.dct false ks vs)] (.var 1) rfl rfl;rw[Qu]at hr;have ec:jv (bV (ak 1)) [none,some 2,some 1] 2 1 (aw 0) (Es (aN oj (ak 0) (ak 1))) (eFunW (.d) aD 1 (ae (ak 1) (ae (ak 0) (ae (ak 2) ar)))) [some (.f,.lst (rows.map eR)),some (.f,.int (w:Int)),some (.d,.dct false ks vs)]=.ok ((.l .f,.lst ((kB L w).map eR)),[some (.f,.lst (rows.map eR)),some (.f,.int (w:Int)),some (.d,.dct false ks vs)]):=by
  unfold jv;rw[hr];show(mN (aw 0) (Es (aN oj (ak 0) (ak 1))) (eFunW (.d) aD 1 (ae (ak 1) (ae (ak 0) (ae (ak 2) ar)))) ((List.range w).map fun(c:Nat)=>D.int (c:Int)) (fun q=>[none,some (.pin q .d,.dct false ks vs),some (.f,.int (w:Int))]) 1 (.dct false ks vs)).bind _=_;rw[Hu];show(if((kB L w).map eR).length<=sizeLine/\D6 ((kB L w).map eR)=true/\D6 vs=true then _ else _)=_;rw[Px ⟨hlen,L9,fv⟩]
 generalize jv (bV (ak 1)) [none,some 2,some 1] 2 1 (aw 0) (Es (aN oj (ak 0) (ak 1))) (eFunW (.d) aD 1 (ae (ak 1) (ae (ak 0) (ae (ak 2) ar))))=EE at ec ⊢;simp only[pv,seval,op,ec]
theorem Cm(L:Ef)(c:Nat):MI (.int (c:Int)) (dL L)=.ok (.f,.bl (F7 L c)):=by
 unfold MI dL;dsimp only;rw[Px (show dI false (.int (c:Int))=true from rfl),sQ]
def JH(L:Ef)(n:Nat):D:=if F7 L (n-1) then .non else eR (kr L (n-1) n)
theorem sR{n:Nat}(h1:1<=n){rows:List (List Int)}{L:Ef}(H:KOk n L)(hl:aE [.lst (rows.map eR)]=.ok (.d,dL L)):bH [.lst (rows.map eR),.int (n:Int)]=.ok (.f,JH L n):=by
 have hi:=Cm L (n-1);have hk:=cK H (c:=n-1) (by lia);rw[show(((n-1:Nat)):Int)=(n:Int)-1 by lia]at hi hk;have cd:=fG L;have fk:=cJ (kr L (n-1) n);have own:j7 .d .d=true:=rfl;unfold bH gx JH;rw[bJ (h:=by rfl)];generalize dL L=DL at hl hi hk cd ⊢;rw[ax (env':=[some (.f,.lst (rows.map eR)),some (.f,.int (n:Int)),some (.d,DL)]) (by
  simp only[pv,seval,op,hl,cd])]
 cases hb:F7 L (n-1) with
 |true=>
  rw[hb]at hi;rw[Px rfl,Fj];simp only[pv,seval,op,hi]
 |false=>
  rw[hb]at hi;rw[PJ PF];rw[ax (env':=[some (.f,.lst (rows.map eR)),some (.f,.int (n:Int)),some (.d,DL)]) (by
   simp only[pv,seval,op,hi,lQ])]
  generalize eR (kr L (n-1) n)=EK at hk fk ⊢;simp only[pv,seval,op,cE,own,hk,fk,cd,El,Em,cD,P1,Q1]
theorem sS{w:Nat}{L:Ef}(H:KOk w L)(c:Nat):Bg 8821 (kr L c w):=fun x hx=>by
 obtain⟨g,g1,g2⟩:=u0 L c w;obtain⟨k,hk,e⟩:=Qy hx;have h:=g2 k;rw[cF _ _ _ hk,e]at h;have hb:=(ng H c L.length (Pt _)).at k;rw[<-h,Rh,Qr]at hb;refine Qp ?_ hb;exact Tp _ (Nat.pos_of_ne_zero g1)
theorem vg{α:Type}(l:List α):jr l none (some (-1))=l.take (l.length-1):=by
 have e:HT.sIx l.length l.length (some (-1))=l.length-1:=by
  show(if(-1:Int)<0 then((-1:Int)+(l.length:Int)).toNat else min (-1:Int).toNat l.length)=_;rw[Px (by decide)];lia
 unfold jr;rw[HT.ny,SQ,UO,e]
theorem yh{r:List Int}(h:0<r.length):GU (r.map D.int) (-1:Int)=some (.int (r.getD (r.length-1) 0)):=by
 have e:(r.map D.int)[r.length-1]?=some (.int (r.getD (r.length-1) 0)):=by
  rw[PK,mj (by lia),cF r _ 0 (by lia)];rfl
 have hi:ixN (r.map D.int).length (-1:Int)=some (r.length-1):=by
  unfold ixN;rw[bE,PJ (by decide),Px (by lia)];congr 1
  lia
 unfold GU;rw[hi];exact e
def ma(rs:List (List Int))(w:Nat):List (List Int):=(List.range w).map fun k=>rs.map fun r=>r.getD k 0
theorem vh(rs:List (List Int))(k:Nat)(h:∀r∈rs,k<r.length):cM (aw 0) dq (aR EH (ak 0) (ak 1)) (rs.map eR) [none,some (.f,.int (k:Int))]=.ok ((rs.map fun r=>r.getD k 0).map D.int):=by
 rw[cU (r:=fun r:List Int=>D.int (r.getD k 0)) (fun env=>∃t,env=[t,some (.f,.int (k:Int))]) rs ?_ _ ⟨none,rfl⟩]
 ·rw[P7];rfl
 ·rintro r hr env ⟨t,rfl⟩;have i1:=Ma (h r hr);refine⟨[some (.f,eR r),some (.f,.int (k:Int))],rfl,.f,[some (.f,eR r),some (.f,.int (k:Int))],?_,_,rfl⟩;generalize eR r=ER at i1 ⊢;simp only[pv,seval,op,i1]
abbrev NJ:FX:=bh fM (ae (aq (di (FZ (i4 1) (FZ (hJ (aM 1)) (hU (aM 1)))) [none,some 0] (aw 0) dq (aR EH (ak 0) (ak 1)))) ar)
theorem sT(rs:List (List Int))(w:Nat)(hl:rs.length<=1000)(h:∀r∈rs,r.length=w):cM (aw 0) dq NJ ((List.range w).map fun(k:Nat)=>D.int (k:Int)) [none,some (.f,.lst (rs.map eR))]=.ok ((ma rs w).map eR):=by
 rw[cU (r:=fun k:Nat=>eR (rs.map fun r=>r.getD k 0)) (fun env=>∃t,env=[t,some (.f,.lst (rs.map eR))]) (List.range w) ?_ _ ⟨none,rfl⟩]
 ·unfold ma;rw[P7];rfl
 ·rintro k hk env ⟨t,rfl⟩;have hc:=vh rs k fun r hr=>by rw[h r hr];exact QM.mp hk
  have hz:((rs.map fun r=>r.getD k 0).map D.int).length<=sizeLine:=line_le (by rw[bE,bE];lia);have hf:=DZ (rs.map fun r=>r.getD k 0);refine⟨[some (.f,.int (k:Int)),some (.f,.lst (rs.map eR))],rfl,.f,[some (.f,.int (k:Int)),some (.f,.lst (rs.map eR))],?_,_,rfl⟩;unfold NJ eR;rw[show(rs.map fun r=>D.tup (r.map D.int))=rs.map eR from rfl];generalize (aR EH (ak 0) (ak 1))=FF at hc ⊢;generalize (rs.map fun r=>r.getD k 0).map D.int=LL at hc hz hf ⊢;generalize rs.map eR=RR at hc ⊢;simp only[pv,seval,op,hc,hz,hf]
theorem vi(r:List Int):cM (aw 0) dq (uq (ak 0)) (r.map D.int) [none]=.ok ((r.map fun x=>-x).map D.int):=by
 rw[cU (r:=fun x:Int=>D.int (-x)) (fun env=>∃t,env=[t]) r ?_ _ ⟨none,rfl⟩]
 ·rw[P7];rfl
 ·rintro x hx env ⟨t,rfl⟩;exact⟨[some (.f,.int x)],rfl,.f,[some (.f,.int x)],by simp only[pv,seval,op],_,rfl⟩
theorem oR{rows:List (List Int)}{row:List Int}{w:Nat}(hw:w<=900)(hr:∀r∈rows,r.length=w)(Ez:row.length=w)(hl:rows.length<=900){L:Ef}(H:KOk (rows.length+1) L)(Ks:aE [.lst ((ma (rows++[row]) w).map eR)]=.ok (.d,dL L))(T:FS):
  sSeq (cu 2 (aR mG (aq (bh iZ (ae (ak 0) ar))) (aq (mi (cw (aM 1) eS)))))
  (sSeq (cu 3 (di (bV (aq (bh fA (ae (ak 1) ar)))) [none,some 2] (aw 0) dq NJ))
  (sSeq (cu 4 (cS bH (ae (ak 3) (ae (aq (bh fA (ae (ak 2) ar))) ar)))) T)) [some (.f,.lst (rows.map eR)),some (.f,eR row),none,none,none]=T [some (.f,.lst (rows.map eR)),some (.f,eR row),some (.l .f,.lst ((rows++[row]).map eR)),some (.l .f,.lst ((ma (rows++[row]) w).map eR)),some (.f,JH L (rows.length+1))]:=by
 have Ft:=sR (n:=rows.length+1) (by lia) H Ks;have OL:∀r∈rows++[row],r.length=w:=fun r hx=>by
  rcases yz hx with h|h
  ·exact hr r h
  ·rw[rZ h];exact Ez
 have KW:=sT (rows++[row]) w (by rw[vU,Ro];lia) OL;have M8:mG (.lst (rows.map eR)) (.lst [eR row])=.ok (.l .f,.lst ((rows++[row]).map eR)):=by
  rw[xP,Px (line_le (by rw[bE,Ro];lia)),Qm];rfl
 have KQ:fA [eR row]=.ok (.f,.int (w:Int)):=by
  show Res.ok (O.f,D.int (((row.map D.int).length:Nat):Int))=_;rw[bE,Ez]
 have O6:fA [.lst ((rows++[row]).map eR)]=.ok (.f,.int ((rows.length+1:Nat):Int)):=by
  show Res.ok (O.f,D.int ((((rows++[row]).map eR).length:Nat):Int))=_;rw[bE,vU,Ro]
 have O7:((ma (rows++[row]) w).map eR).length<=sizeLine:=line_le (by unfold ma;rw[bE,bE,PM];lia);have O8:=kI (ma (rows++[row]) w);have O9:dw (JH L (rows.length+1))=true:=by
  unfold JH;split
  ·rfl
  ·exact cJ _
 rw[ax (env':=[some (.f,.lst (rows.map eR)),some (.f,eR row),some (.l .f,.lst ((rows++[row]).map eR)),none,none]) (by
  generalize eR row=ER at M8 ⊢;simp only[pv,seval,op,M8])]
 have Ko:=A8 (w:Int) (by lia) (by lia) (aq (bh fA (ae (ak 1) ar))) [some (.f,.lst (rows.map eR)),some (.f,eR row),some (.l .f,.lst ((rows++[row]).map eR)),none,none] [some (.f,.lst (rows.map eR)),some (.f,eR row),some (.l .f,.lst ((rows++[row]).map eR)),none,none] (.val (.int (w:Int))) (by
  generalize eR row=ER at KQ ⊢;simp only[pv,seval,op,KQ]) rfl
 rw[Qu]at Ko;generalize JH L (rows.length+1)=CL at Ft O9 ⊢;generalize NJ=IC at KW ⊢;rw[ax (env':=[some (.f,.lst (rows.map eR)),some (.f,eR row),some (.l .f,.lst ((rows++[row]).map eR)),some (.l .f,.lst ((ma (rows++[row]) w).map eR)),none]) (by
  generalize bV (aq (bh fA (ae (ak 1) ar)))=IR at Ko ⊢;generalize (ma (rows++[row]) w).map eR=CC at KW O7 O8 ⊢;generalize (rows++[row]).map eR=JJ at Ko KW ⊢;generalize eR row=ER at Ko ⊢;simp only[pv,seval,op,Ko,KW,O7,O8])]
 rw[ax (env':=[some (.f,.lst (rows.map eR)),some (.f,eR row),some (.l .f,.lst ((rows++[row]).map eR)),some (.l .f,.lst ((ma (rows++[row]) w).map eR)),some (.f,CL)]) (by
  generalize (ma (rows++[row]) w).map eR=CC at Ft ⊢;generalize (rows++[row]).map eR=JJ at O6 ⊢;generalize eR row=ER;simp only[pv,seval,op,O6,Ft,O9])]
def jF:List Nat:=[115,117,109]
def iW:List Nat:=[114,111,119]
section
variable{rows:List (List Int)}{row:List Int}{w:Nat}{L:Ef}
theorem AS(fa fb fc:FX)(env:PV.Env):BZ fa fb fc env=Res.bnd (fa env) (f:=⟨fun p=>Res.bnd (fb p.2) (f:=⟨fun q=>Res.bnd (fc q.2) (f:=⟨fun t=>.ok ((.t [.f,.f,t.1.1],.tup [p.1.2,q.1.2,t.1.2]),t.2)⟩)⟩)⟩):=id rfl
theorem kJ(hw:w<=900)(hr:∀r∈rows,r.length=w)(Ez:row.length=w)(hl:rows.length<=900)(H:KOk (rows.length+1) L)(Ks:aE [.lst ((ma (rows++[row]) w).map eR)]=.ok (.d,dL L))(hk:F7 L rows.length=false):
  aT [.lst (rows.map eR),eR row]=.ok (tL3,.tup [.str jF,.int ((kr L rows.length (rows.length+1)).getD rows.length 0),.lst ((((kr L rows.length (rows.length+1)).take rows.length).map fun x=>-x).map D.int)]):=by
 have st:=fun T=>oR hw hr Ez hl H Ks T
 have ec:JH L (rows.length+1)=eR (kr L rows.length (rows.length+1)):=by
  unfold JH;rw[show rows.length+1-1=rows.length from rfl,hk,PJ PF]
 rw[ec]at st;have kl:=jD L rows.length (rows.length+1);generalize kr L rows.length (rows.length+1)=K at st kl;have Jo:=yh (r:=K) (by lia);rw[kl,show rows.length+1-1=rows.length from rfl]at Jo;have hcut:jr (K.map D.int) none (some (-1))=(K.take rows.length).map D.int:=by
  rw[sd,vg,kl];rfl
 have Ov:=vi (K.take rows.length);have hz:(((K.take rows.length).map fun x=>-x).map D.int).length<=sizeLine:=line_le (by rw[bE,bE,Qs];lia);have NK:Lf (eR K) .non=.ok (.f,.bl false):=id rfl;unfold aT iJ;rw[bJ (h:=by rfl)];simp only[List.map,List.replicate,RB,Q9];rw[st];clear st;rw[ax (env':=[some (.f,.lst (rows.map eR)),some (.f,eR row),some (.l .f,.lst ((rows++[row]).map eR)),some (.l .f,.lst ((ma (rows++[row]) w).map eR)),some (.f,eR K)]) (by
  generalize eR K=EK at NK ⊢;generalize eR row=ER;simp only[pv,seval,op,NK,lQ])]
 unfold eR jF;generalize ((K.take rows.length).map fun x=>-x).map D.int=NN at Ov hz ⊢;generalize (uq (ak 0))=NG at Ov ⊢;simp only[pv,seval,op,AS,Jo,hcut,Ov,hz]
theorem vj(ks:List (List Int))(row:List Int)(hb:Bg 175 row)(hk:∀k∈ks,Bg 8821 k/\k.length<=1000):cM (aw 0) (Es (aN Gr (aq (cS cH (ae (ak 0) (ae (ak 1) ar)))) (aq (aF (.int 0))))) (aM 0) (ks.map eR) [none,some (.f,eR row)]=.ok ((ks.filter fun o=>!(dot o row==0)).map eR):=by
 refine kx (p:=fun o:List Int=>!(dot o row==0)) (fun env=>∃t,env=[t,some (.f,eR row)]) ks ?_ _ ⟨none,rfl⟩;rintro k Ik env ⟨t,rfl⟩;have hp:=si (n:=8821) (m:=175) (by decide) (by decide) k row (hk k Ik).1 hb (hk k Ik).2;refine⟨[some (.f,eR k),some (.f,eR row)],rfl,[some (.f,eR k),some (.f,eR row)],?_,?_⟩
 ·generalize eR k=EK at hp ⊢;generalize eR row=ER at hp ⊢;simp only[pv,seval,op,hp]
 ·cases hd:(dot k row==0) with
  |true=>exact⟨_,rfl⟩
  |false=>exact⟨.f,[some (.f,eR k),some (.f,eR row)],rfl,_,rfl⟩
theorem kK(hw:w<=900)(hr:∀r∈rows,r.length=w)(Ez:row.length=w)(hbr:Bg 175 row)(hl:rows.length<=900)(H:KOk (rows.length+1) L)(Ks:aE [.lst ((ma (rows++[row]) w).map eR)]=.ok (.d,dL L))(hk:F7 L rows.length=true){L2:Ef}(H2:KOk w L2)(hld2:aE [.lst (rows.map eR)]=.ok (.d,dL L2)){o:List Int}{more:List (List Int)}(hf:(kB L2 w).filter (fun o=>!(dot o row==0))=o::more):
  aT [.lst (rows.map eR),eR row]=.ok (.f,.tup [.str iW,eR o]):=by
 have st:=fun T=>oR hw hr Ez hl H Ks T
 have ec:JH L (rows.length+1)=.non:=by
  unfold JH;rw[show rows.length+1-1=rows.length from rfl,hk,Px rfl]
 rw[ec]at st;have M9:=vf (rows:=rows) H2 hld2;have KQ:fA [eR row]=.ok (.f,.int (w:Int)):=by
  show Res.ok (O.f,D.int (((row.map D.int).length:Nat):Int))=_;rw[bE,Ez]
 have Mb:=vj (kB L2 w) row hbr fun k hk=>by
  unfold kB at hk;obtain⟨c,hc,e⟩:=pF hk;rw[<-e];exact⟨sS H2 c,by rw[jD];lia⟩
 have hfz:=PN (Sn (fun o=>!(dot o row==0)) (kB L2 w)) (oQ L2 w);rw[hf]at Mb hfz;have hz:((o::more).map eR).length<=sizeLine:=line_le (by rw[bE];lia);have L9:=kI (o::more);have Nx:=kI (kB L2 w);have Jo:GU ((o::more).map eR) (0:Int)=some (eR o):=jH (j:=0) rfl;have NK:Lf .non .non=.ok (.f,.bl true):=id rfl;unfold aT iJ;rw[bJ (h:=by rfl)];simp only[List.map,List.replicate,RB,Q9];rw[st];clear st;rw[Fj];generalize (Es (aN Gr (aq (cS cH (ae (ak 0) (ae (ak 1) ar)))) (aq (aF (.int 0)))))=BB at Mb ⊢;generalize (o::more).map eR=OM at Mb hz L9 Jo ⊢;generalize (kB L2 w).map eR=KK at M9 Mb Nx ⊢;generalize (rows++[row]).map eR=JJ;generalize (ma (rows++[row]) w).map eR=CC;unfold iW;generalize eR row=ER at KQ Mb ⊢;generalize eR o=EO at Jo ⊢;simp only[pv,seval,op,NK,KQ,M9,Nx,Mb,hz,L9,Jo]
end
theorem dot_sg{a b:List Int}(h:a.length=b.length):dot a b=sg a.length fun k=>a.getD k 0*b.getD k 0:=by
 have key:∀n,n<=a.length->(((a.zip b).map fun z=>z.1*z.2).take n).sum=sg n fun k=>a.getD k 0*b.getD k 0:=fun n=>by
  induction n with
  |zero=>intro _;rfl
  |succ n ih=>
   intro hn;rw[oD a b n (by lia) (by lia),ih (by lia)];rfl
 have:=key a.length (Pt _);rw[QC (by rw[bE,Q8];lia)]at this;exact this
theorem AU(rows:List (List Int))(row:List Int)(w:Nat):ma (rows++[row]) w=kC rows row w:=by
 unfold ma kC pH;refine Qx fun k _=>?_
 rw[Qm];rfl
theorem vk{rows:List (List Int)}{row:List Int}{w n:Nat}(hr:∀r∈rows,r.length=w/\Bg n r)(HP:Bg n row):∀c∈kC rows row w,c.length=rows.length+1/\Bg n c:=fun c hc=>by
 obtain⟨k,_,e⟩:=pF hc;rw[<-e];refine⟨u6 _ _ _,fun x hx=>?_⟩;unfold pH at hx;rcases yz hx with h|h
 ·obtain⟨r,h1,h2⟩:=pF h;rw[<-h2];exact(hr r h1).2.at k
 ·rw[rZ h];exact HP.at k
theorem AV{rows:List (List Int)}{row:List Int}{w:Nat}(hw:w<=6)(hl:rows.length<=6)(hr:∀r∈rows,r.length=w/\Bg 175 r)(Ez:row.length=w)(HP:Bg 175 row):
  (∃(km:Int) (ns:List Int),1<=km/\km.natAbs<2 ^ 8821/\ns.length=rows.length/\Bg 8821 ns/\(∀k,k<w->sg rows.length (fun j=>(rows.getD j []).getD k 0*ns.getD j 0)=row.getD k 0*km)/\aT [.lst (rows.map eR),eR row]=.ok (tL3,.tup [.str jF,.int km,.lst (ns.map D.int)]))\/
  (∃o:List Int,o.length=w/\Bg 8821 o/\(∀r∈rows,dot r o=0)/\dot row o≠0/\¬ In rows.length w (Fs rows) (Vc row)/\aT [.lst (rows.map eR),eR row]=.ok (.f,.tup [.str iW,eR o])):=by
 have Ft:(kC rows row w).length=w:=by unfold kC;rw[bE,PM]
 have Nz:=vk (w:=w) hr HP;obtain⟨L,H,E,Ks⟩:=l7 (w:=rows.length+1) (by lia) (by lia) Nz;obtain⟨l1,l2⟩:=kH (by lia) Nz H;have KO:KOk (rows.length+1) L:=⟨H.red,l2,by lia,by lia⟩
 rw[<-AU]at Ks;have Mc:∀r∈rows,r.length=w:=fun r h=>(hr r h).1
 cases hk:F7 L rows.length with
 |false=>
  left;have hs:=kJ (by lia) Mc Ez (by lia) KO Ks hk;have Na:=x4 H hk;have Nb:=AD H.red (P9 _) hk;have Nc:=sS KO rows.length;have M7:=jD L rows.length (rows.length+1);generalize kr L rows.length (rows.length+1)=K at hs Na Nb Nc M7;refine⟨K.getD rows.length 0,(K.take rows.length).map fun x=>-x,Nb,Nc.at _,by rw[bE,Qs];lia,fun x hx=>?_,fun k LS=>?_,hs⟩
  ·obtain⟨y,hy,e⟩:=pF hx;rw[<-e,Sh];exact Nc y (List.mem_of_mem_take hy)
  ·have h:=Na k LS;have e:sg rows.length (fun j=>(rows.getD j []).getD k 0*((K.take rows.length).map fun x=>-x).getD j 0) = -sg rows.length fun j=>(rows.getD j []).getD k 0*K.getD j 0:=by
    have hm:=cR rows.length (-1) fun j=>(rows.getD j []).getD k 0*K.getD j 0
    rw[Rt,QV]at hm;rw[<-hm];refine aK fun j hj=>?_
    have:((K.take rows.length).map fun x=>-x).getD j 0 = -(K.getD j 0):=by
     rw[Pg,PK,Uw,Px hj,mj (by lia),Pg,mj (by lia)];rfl
    rw[this,Int.mul_neg,Rt,QV]
   rw[e];lia
 |true=>
  right;obtain⟨M,HM,_,hldM⟩:=l7 (w:=w) (by lia) hl hr;obtain⟨m1,m2⟩:=kH hl hr HM;have KM:KOk w M:=⟨HM.red,m2,by lia,by lia⟩
  obtain⟨c,hc,Lb,IB⟩:=sL H E hk HM Ez;have ID:kr M c w∈(kB M w).filter fun o=>!(dot o row==0):=by
   refine RH.mpr ⟨SK.mpr ⟨c,RH.mpr ⟨QM.mpr hc,by rw[Lb];rfl⟩,rfl⟩,?_⟩;have hd:dot (kr M c w) row≠0:=by
    rw[dot_sg (by rw[jD,Ez]),jD];intro z;exact IB (Wm (aK fun k _=>Q0 _ _) z)
   rw[P6.mpr hd];rfl
  obtain⟨o,more,hf⟩:∃o more,(kB M w).filter (fun o=>!(dot o row==0))=o::more:=by
   cases hq:(kB M w).filter fun o=>!(dot o row==0) with
   |nil=>rw[hq]at ID;cases ID
   |cons o more=>exact⟨o,more,rfl⟩
  have ho:o∈(kB M w).filter fun o=>!(dot o row==0):=by rw[hf];exact Pq
  obtain⟨ho1,FJ⟩:=RH.mp ho;obtain⟨c',LV,eo⟩:=pF ho1;obtain⟨hc1,Ih⟩:=RH.mp LV;rw[Bool.not_eq_true']at Ih;have Nd:o.length=w:=by rw[<-eo];exact jD M c' w
  have hs:=kK (by lia) Mc Ez HP (by lia) KO Ks hk KM hldM hf;refine⟨o,Nd,by rw[<-eo];exact sS KM c',fun r h=>?_,?_,v9 H E hk,hs⟩
  ·rw[dot_sg (by rw[Mc r h,Nd]),Mc r h,<-eo];exact v7 HM (QM.mp hc1) Ih h
  ·rw[Bool.not_eq_true',P6,dot_sg (by rw[Nd,Ez]),Nd]at FJ;rw[dot_sg (by rw[Nd,Ez]),Ez];intro z;exact FJ (Wm (aK fun k _=>Q0 _ _) z)
theorem sU(x:Int):aJ [.int x]=.ok (.f,.bl true):=by
 have h1:pk "int" (.int x)=true:=rfl;have h2:pk "bool" (.int x)=false:=rfl;unfold aJ g5;rw[bJ (h:=by rfl)];simp only[pv,seval,op,h1,h2,SU]
theorem jG(l:List Int):cM (aw 0) dq (cS aJ (ae (ak 0) ar)) (l.map D.int) [none]=.ok ((l.map fun _=>true).map D.bl):=by
 rw[cU (r:=fun _:Int=>D.bl true) (fun env=>∃t,env=[t]) l ?_ _ ⟨none,rfl⟩]
 ·rw[P7];rfl
 ·rintro x _ env ⟨t,rfl⟩;have h:=sU x;exact⟨[some (.f,.int x)],rfl,.f,[some (.f,.int x)],by simp only[pv,seval,op,h],_,rfl⟩
theorem wg(l:List Int):oj (.bl false) (.lst ((l.map fun _=>true).map D.bl))=.ok (.f,.bl true):=by
 have hp:plainDs 40 ((l.map fun _=>true).map D.bl)=true:=by
  induction l with
  |nil=>rfl
  |cons a l ih=>rw[lR,lR,plainDs,ih];rfl
 have e1:sY (.bl false) ((l.map fun _=>true).map D.bl)=false:=by
  unfold sY;rw[Sk,Sk,Sf];intro x _;exact PF
 show zS (.bl false) (.lst ((l.map fun _=>true).map D.bl))=_;unfold zS KD;dsimp only;rw[hp,show plainD 40 (.bl false)=true from rfl,P1,Px rfl,e1];rfl
theorem wj(l:List Int)(h:l.length<=1000):((l.map fun _=>true).map D.bl).length<=sizeLine:=line_le (by rw[bE,bE];lia)
theorem Gx(l:List Int):D6 ((l.map fun _=>true).map D.bl)=true:=by
 rw[cX,Sj,P8];exact fun _ _=>rfl
theorem vm{r:List Int}{w:Nat}(h:r.length=w)(hw:w<=1000):bP [eR r,.int (w:Int)]=.ok (.f,.bl true):=by
 have h1:pk "tuple" (.tup (r.map D.int))=true:=rfl;have hc:=jG r;have hn:=wg r;have hz:=wj r (by lia);have hf:=Gx r;have hq:((w:Int)==(w:Int))=true:=Qc _;unfold bP gC;rw[bJ (h:=by rfl)];unfold eR;rw[ax (env':=[some (.f,.tup (r.map D.int)),some (.f,.int (w:Int))]) (by
  simp only[pv,seval,op,h1,bE,h,hq,RP,lQ])]
 generalize (cS aJ (ae (ak 0) ar))=FW at hc ⊢;generalize ((r.map fun _=>true).map D.bl)=BL at hc hn hz hf;simp only[pv,seval,op,hc,hn,hz,hf]
theorem Cn{l:List Int}{n:Nat}(h:l.length=n)(hn0:n<=1000):aQ [.lst (l.map D.int),.int (n:Int)]=.ok (.f,.bl true):=by
 have h1:pk "list" (.lst (l.map D.int))=true:=rfl;have hc:=jG l;have hn:=wg l;have hz:=wj l (by lia);have hf:=Gx l;have hq:((n:Int)==(n:Int))=true:=Qc _;unfold aQ dv;rw[bJ (h:=by rfl)];rw[ax (env':=[some (.f,.lst (l.map D.int)),some (.f,.int (n:Int))]) (by
  simp only[pv,seval,op,h1,bE,h,hq,RP,lQ])]
 generalize (cS aJ (ae (ak 0) ar))=FW at hc ⊢;generalize ((l.map fun _=>true).map D.bl)=BL at hc hn hz hf;simp only[pv,seval,op,hc,hn,hz,hf]
theorem rep_int(n:Nat):(List.replicate n [D.int 0]).flatten=(List.replicate n (0:Int)).map D.int:=by
 induction n with
 |zero=>rfl
 |succ n ih=>rw[Qw,Q6,ih,Qw];rfl
theorem DI(a b:List Int)(h:a=b):E9 (eR a) (eR b)=.ok (.f,.bl true):=by
 subst h;unfold E9 eR;rw[plainD,cY,D3,iR];simp
theorem yi{rows:List (List Int)}{ns:List Int}(h:ns.length=rows.length)(k:Nat):co rows ns rows.length k=sg rows.length fun j=>(rows.getD j []).getD k 0*ns.getD j 0:=by
 have key:∀n,n<=rows.length->co rows ns n k=sg n fun j=>(rows.getD j []).getD k 0*ns.getD j 0:=fun n=>by
  induction n with
  |zero=>intro _;rfl
  |succ n ih=>
   intro hn;have:=sf rows ns n k (by lia) (by lia);show co rows ns (n+1) k=sg n _+(rows.getD n []).getD k 0*ns.getD n 0;rw[<-ih (by lia),cF rows n [] (by lia),cF ns n 0 (by lia)];exact this
 exact key rows.length (Pt _)
theorem Co:E9 (.lst []) (.lst [])=.ok (.f,.bl true):=rfl
section
variable{rows:List (List Int)}{row:List Int}{w:Nat}
theorem Cp(hw:w<=6)(hl:rows.length<=6)(hr:∀r∈rows,r.length=w/\Bg 175 r)(Ez:row.length=w)(HP:Bg 175 row){km:Int}{ns:List Int}(hk:1<=km)(Nc:km.natAbs<2 ^ 8821)(IU:ns.length=rows.length)(HE:Bg 8821 ns)(hs:∀k,k<w->sg rows.length (fun j=>(rows.getD j []).getD k 0*ns.getD j 0)=row.getD k 0*km):
  a7 [.tup [.str jF,.int km,.lst (ns.map D.int)],.lst (rows.map eR),eR row]=.ok (.f,.str jF):=by
 have h1:pk "tuple" (.tup [.str jF,.int km,.lst (ns.map D.int)])=true:=rfl;obtain⟨n3,h3,q2,q3⟩:∃n:Int,fA [.tup [.str jF,.int km,.lst (ns.map D.int)]]=.ok (.f,.int n)/\decide (n<2)=false/\(n==3)=true:=⟨3,rfl,rfl,rfl⟩
 have i0:EH (.tup [.str jF,.int km,.lst (ns.map D.int)]) (.int 0)=.ok (.f,.str jF):=rfl;have i1:EH (.tup [.str jF,.int km,.lst (ns.map D.int)]) (.int 1)=.ok (.f,.int km):=rfl;have i2:EH (.tup [.str jF,.int km,.lst (ns.map D.int)]) (.int 2)=.ok (.f,.lst (ns.map D.int)):=rfl;have q0:(jF==[115,117,109])=true:=rfl;have hwh:=sU km;have hgt:decide (0<km)=true:=Qi (by lia);have Pa:=Cn (l:=ns) (n:=rows.length) IU (by lia);have Pb:fA [.lst (rows.map eR)]=.ok (.f,.int (rows.length:Int)):=by
  show Res.ok (O.f,D.int (((rows.map eR).length:Nat):Int))=_;rw[bE]
 have Nf:fA [eR row]=.ok (.f,.int (w:Int)):=by
  show Res.ok (O.f,D.int (((row.map D.int).length:Nat):Int))=_;rw[bE,Ez]
 have s1:=oF (n:=175) (m:=8821) (by decide) (by decide) w (by lia) rows ns hr HE (by lia) IU.symm;have s2:=oF (n:=175) (m:=8821) (by decide) (by decide) w (by lia) [row] [km] (fun r hx=>by rw[rZ hx];exact⟨Ez,HP⟩) (fun x hx=>by rw[rZ hx];exact Nc) (by show 1<=1000;decide) rfl;have s2:aX [.lst [eR row],.lst [.int km],.int (w:Int)]=.ok (.f,eR ((List.range w).map (co [row] [km] 1))):=s2;have he:=DI ((List.range w).map (co rows ns rows.length)) ((List.range w).map (co [row] [km] 1)) (Qx fun k hk=>by
  rw[yi IU,hs k (QM.mp hk)];show _=row.getD k 0*km+0;rw[QZ])
 have f1:=cJ ((List.range w).map (co rows ns rows.length));have f2:=cJ ((List.range w).map (co [row] [km] 1));unfold a7 dW;rw[bJ (h:=by rfl)];generalize hT:D.tup [.str jF,.int km,.lst (ns.map D.int)]=TT at h1 h3 i0 i1 i2 ⊢;clear hT;generalize eR row=ER at Nf s2 ⊢;generalize eR ((List.range w).map (co rows ns rows.length))=E1 at s1 he f1;generalize eR ((List.range w).map (co [row] [km] 1))=E2 at s2 he f2;generalize rows.map eR=RR at Pb s1 ⊢;generalize ns.map D.int=NN at i2 Pa s1;rw[ax (env':=[some (.f,TT),some (.f,.lst RR),some (.f,ER),some (.f,.int (w:Int))]) (by
  simp only[pv,seval,op,Nf])]
 rw[ax (env':=[some (.f,TT),some (.f,.lst RR),some (.f,ER),some (.f,.int (w:Int))]) (by
  simp only[pv,seval,op,h1,h3,q2,RP,lQ])]
 rw[Fj];have har2:aQ [.lst NN,.int (rows.length:Int)]=.ok (.f,.bl true):=Pa;simp only[pv,seval,op,i0,i1,i2,h3,q3,q0,hwh,hgt,Pb,har2,s1,s2,he,f1,f2];rfl
theorem Cq(hw:w<=6)(hl:rows.length<=6)(hr:∀r∈rows,r.length=w/\Bg 175 r)(Ez:row.length=w)(HP:Bg 175 row){o:List Int}(ho:o.length=w)(KC:Bg 8821 o)(h0:∀r∈rows,dot r o=0)(IB:dot row o≠0):
  a7 [.tup [.str iW,eR o],.lst (rows.map eR),eR row]=.ok (.f,.str iW):=by
 have h1:pk "tuple" (.tup [.str iW,eR o])=true:=rfl;obtain⟨n3,h3,q2,q3⟩:∃n:Int,fA [.tup [.str iW,eR o]]=.ok (.f,.int n)/\decide (n<2)=false/\(n==2)=true:=⟨2,rfl,rfl,rfl⟩
 have i0:EH (.tup [.str iW,eR o]) (.int 0)=.ok (.f,.str iW):=rfl;have i1:EH (.tup [.str iW,eR o]) (.int 1)=.ok (.f,eR o):=rfl;have q0:(iW==[115,117,109])=false:=rfl;have q1:(iW==[114,111,119])=true:=rfl;have Nf:fA [eR row]=.ok (.f,.int (w:Int)):=by
  show Res.ok (O.f,D.int (((row.map D.int).length:Nat):Int))=_;rw[bE,Ez]
 have Pc:=vm ho (by lia);have hen:=Co;have NL:=jB (n:=175) (m:=8821) (by decide) (by decide) row o HP KC (by lia) (by lia);have Pd:(dot row o==0)=false:=P6.mpr IB;have HQ:cM (aw 0) (Es (aN Gr (aq (cS aP (ae (ak 0) (ae (aq (aR EH (ak 1) (aq (aF (.int 1))))) ar)))) (aq (aF (.int 0))))) (aM 0) (rows.map eR) [none,some (.f,.tup [.str iW,eR o])]=.ok []:=by
  generalize hT:D.tup [.str iW,eR o]=TT at i1 ⊢;clear hT;have h:=kx (a:=aw 0) (c:=(Es (aN Gr (aq (cS aP (ae (ak 0) (ae (aq (aR EH (ak 1) (aq (aF (.int 1))))) ar)))) (aq (aF (.int 0)))))) (f:=aM 0) (p:=fun _:List Int=>false) (r:=eR) (e:=eR) (fun env=>∃t,env=[t,some (.f,TT)]) rows (by
   rintro x hx env ⟨t,rfl⟩;have hp:=jB (n:=175) (m:=8821) (by decide) (by decide) x o (hr x hx).2 KC (by rw[(hr x hx).1];lia) (by rw[(hr x hx).1,ho]);rw[h0 x hx]at hp;have e0:((0:Int)==0)=true:=rfl;refine⟨[some (.f,eR x),some (.f,TT)],rfl,[some (.f,eR x),some (.f,TT)],?_,_,rfl⟩;generalize eR x=EX at hp ⊢;generalize eR o=EO at hp i1;simp only[pv,seval,op,i1,hp,e0,RP]) [none,some (.f,TT)] ⟨none,rfl⟩
  rw[h,Tr.mpr fun _ _=>PF];rfl
 unfold a7 dW;rw[bJ (h:=by rfl)];generalize hT:D.tup [.str iW,eR o]=TT at h1 h3 i0 i1 HQ ⊢;clear hT;generalize eR o=EO at i1 Pc NL;generalize eR row=ER at Nf NL ⊢;generalize dot row o=DT at NL Pd;generalize rows.map eR=RR at HQ ⊢;rw[ax (env':=[some (.f,TT),some (.f,.lst RR),some (.f,ER),some (.f,.int (w:Int))]) (by
  simp only[pv,seval,op,Nf])]
 rw[ax (env':=[some (.f,TT),some (.f,.lst RR),some (.f,ER),some (.f,.int (w:Int))]) (by
  simp only[pv,seval,op,h1,h3,q2,RP,lQ])]
 rw[ax (env':=[some (.f,TT),some (.f,.lst RR),some (.f,ER),some (.f,.int (w:Int))]) (by
  simp only[pv,seval,op,i0,q0,lQ])]
 rw[Fj];generalize (Es (aN Gr (aq (cS aP (ae (ak 0) (ae (aq (aR EH (ak 1) (aq (aF (.int 1))))) ar)))) (aq (aF (.int 0)))))=CC at HQ ⊢;have z0:0<=sizeLine:=QA _;have f0:D6 []=true:=rfl;simp only[pv,seval,op,i0,i1,h3,q1,q3,Pc,HQ,z0,f0,hen,NL,Pd,Q7,SU];rfl
end
theorem dr_b(d:List Int)(m:Int)(h:0<m):0<=dr d m/\dr d m<m:=by
 unfold dr;split
 ·exact pG _ _ h
 ·exact⟨Int.le_refl _,h⟩
def gd{α β:Type}(v:α->List Int->β):List α->List Int->List β
 |[],_=>[]
 |x::l,d=>v x d::gd v l d.dropLast
def hZ{α:Type}:List α->List Int->List Int
 |[],d=>d
 |_::l,d=>hZ l d.dropLast
theorem kM{α β:Type}(v:α->List Int->β):∀(l:List α) (d:List Int),(gd v l d).length=l.length
 |[],_=>rfl
 |_::l,d=>QN (·+ 1) (kM v l d.dropLast)
theorem oS{α β γ:Type}(v:α->List Int->β)(f:β->γ):∀(l:List α) (d:List Int),(gd v l d).map f=gd (fun x d=>f (v x d)) l d
 |[],_=>rfl
 |_::l,d=>by
  show f _::(gd v l d.dropLast).map f=_;rw[oS v f l];rfl
theorem vals_at{α β:Type}(v:α->List Int->β)(a0:α)(b0:β):∀(l:List α) (d:List Int) (j:Nat),j<l.length->∃d',(gd v l d).getD j b0=v (l.getD j a0) d'
 |[],_,j,h=>absurd h (PY j)
 |_::_,d,0,_=>⟨d,rfl⟩
 |_::l,d,j+1,h=>vals_at v a0 b0 l d.dropLast j (Tq h)
theorem sV{α:Type}{f:FX}{e:α->D}{v:α->List Int->D}(aO:PV.Env)(q:Addr)(hf:∀(x:α) (d:List Int),∃o,f (some (.f,e x)::some (.pin q (.l .f),.lst (d.map D.int))::aO)=.ok ((o,v x d),some (.f,e x)::some (.pin q (.l .f),.lst (d.dropLast.map D.int))::aO)):∀(l:List α) (d:List Int) (t:Option R),
  ∃t',compLE (aw 0) dq f (l.map e) (t::some (.pin q (.l .f),.lst (d.map D.int))::aO)=.ok (gd v l d,t'::some (.pin q (.l .f),.lst ((hZ l d).map D.int))::aO)
 |[],d,t=>⟨t,rfl⟩
 |x::l,d,t=>by
  obtain⟨o,h1⟩:=hf x d;obtain⟨t',h2⟩:=sV aO q hf l d.dropLast (some (.f,e x));refine⟨t',?_⟩;have ha:aw 0 (e x) (t::some (.pin q (.l .f),.lst (d.map D.int))::aO)=.ok (some (.f,e x)::some (.pin q (.l .f),.lst (d.map D.int))::aO):=by
   rw[Fi,Px (by rw[PH];exact RL _)];rfl
  rw[lR];unfold compLE;rw[ha,hW,rR,hW,Px rfl,h1,hW,h2,hW];rfl
theorem yj{α:Type}{f:FX}{e:α->D}{v:α->List Int->D}(aO:PV.Env)(hf:∀(q:Addr) (x:α) (d:List Int),∃o,f (some (.f,e x)::some (.pin q (.l .f),.lst (d.map D.int))::aO)=.ok ((o,v x d),some (.f,e x)::some (.pin q (.l .f),.lst (d.dropLast.map D.int))::aO))(l:List α)(d:List Int)(t:Option R):
  i5 (aw 0) dq f (l.map e) (fun q=>t::some (.pin q (.l .f),.lst (d.map D.int))::aO) 1=.ok (gd v l d,(hZ l d).map D.int):=by
 refine j8 fun q=>?_
 obtain⟨t',h⟩:=sV aO q (hf q) l d t;exact⟨_,h,rfl⟩
theorem Cr:mh (.int 10) (.int 20)=.ok (.f,.int (10 ^ 20)):=Cb 20 (by decide)
def nh(w:Nat)(c:Nat)(d:List Int):List (List Int):=(List.range c).map fun i=>HN w (it (it List.dropLast w) i d)
theorem vn(w c:Nat)(d:List Int):∀r∈nh w c d,r.length=w/\Bg 100 r:=by
 intro r hr;unfold nh at hr;obtain⟨i,_,rfl⟩:=pF hr;exact⟨mV _ _,fun x hx=>Qp (Av _ _ x hx) (by decide +kernel)⟩
theorem sW(w c:Nat)(d:List Int):(nh w c d).length=c:=by unfold nh;rw[bE,PM]
def me(_:List Int)(d:List Int):Int:=dr d (2*10 ^ 20)-10 ^ 20
theorem AW(x d:List Int):(me x d).natAbs<2 ^ 70:=by
 have h:=dr_b d (2*10 ^ 20) (by decide +kernel);unfold me;have e1:(2:Int)*10 ^ 20=200000000000000000000:=by decide +kernel
 have e2:(10:Int) ^ 20=100000000000000000000:=by decide +kernel
 have e3:(2:Nat) ^ 70=1180591620717411303424:=by decide +kernel
 rw[e1]at h ⊢;rw[e2,e3];lia
def jd(w:Nat)(r:List Int)(d:List Int):List Int:=(List.range w).map (co [r] [1+dr d 6] 1)
theorem yk{w k:Nat}(hk:k<w)(r d:List Int):(jd w r d).getD k 0=(1+dr d 6)*r.getD k 0:=by
 unfold jd;rw[cZ _ _ _ hk];show r.getD k 0*(1+dr d 6)+0=_;rw[QZ,Q0]
theorem ym{w n:Nat}{r:List Int}(hb:Bg n r)(d:List Int):(jd w r d).length=w/\Bg (n+3) (jd w r d):=by
 have hd:=dr_b d 6 (by decide);refine⟨by unfold jd;rw[bE,PM],fun x hx=>?_⟩;unfold jd at hx;obtain⟨k,_,e⟩:=pF hx;have e1:co [r] [1+dr d 6] 1 k=r.getD k 0*(1+dr d 6):=by
  show r.getD k 0*(1+dr d 6)+0=_;rw[QZ]
 rw[<-e,e1];refine l6 (m:=3) (hb.at k) ?_;show _<8;lia
theorem yn(env:PV.Env)(f:FX):rD f env=Res.bnd (f (env.map frz)) (f:=⟨fun p=>.ok (p.1,if aB p.1.1 p.1.2 then env else env.map frz)⟩):=id rfl
theorem yo(i:Nat)(f:FX)(env:PV.Env):px i f env=match env[i]? with
 |some (some (.t [.f,.f,.l .f],.tup [_,_,.lst _]))=>Res.bnd (f env) (f:=⟨fun(q:R×PV.Env)=>(match q.2[i]? with
  |some (some (.t [.f,.f,.l .f],.tup [d,c,.lst ds]))=>if ds.length<sizeLine then .ok ((.f,.non),q.2.set i (some (.t [.f,.f,.l .f],.tup [d,c,.lst (ds++[q.1.2])]))) else .bad
  |_=>.bad)⟩)
 |_=>.bad:=id rfl
theorem pJ(n:Nat)(rows:List (List Int)):plainDs (n+1) (rows.map eR)=true:=by
 induction rows with
 |nil=>rfl
 |cons r rows ih=>rw[lR,plainDs,ih];show(plainD (n+1) (.tup _)&&true)=true;rw[plainD,cY];rfl
theorem yp(rows:List (List Int)):E9 (.lst (rows.map eR)) (.lst (rows.map eR))=.ok (.f,.bl true):=lT _ (by rw[plainD];exact pJ _ _)
theorem yq(l:List Int):E9 (.lst (l.map D.int)) (.lst (l.map D.int))=.ok (.f,.bl true):=by rw[ky,Qc]
theorem yr(o:List Int):E9 (.tup [.str iW,eR o]) (.tup [.str iW,eR o])=.ok (.f,.bl true):=lT _ (by
 unfold eR;simp only[plainD,plainDs,cY,P1])
section
variable{rows:List (List Int)}{row:List Int}{w:Nat}
theorem AX(S0:D)(DD:List D)(o3:O)(ho:sX o3=true)(way:Int)(hy:way=0\/0<way)(hw:w<=6)(hl:rows.length<=6)(hr:∀r∈rows,r.length=w/\Bg 175 r)(Ez:row.length=w)(HP:Bg 175 row)(Jx:0<way->In rows.length w (Fs rows) (Vc row)):
  ∃o,sSeq (cu 6 (bh iZ (ae (ak 3) ar))) (sSeq (cu 7 (cS aT (ae (ak 6) (ae (ak 4) ar)))) (sSeq (cu 8 (cS a7 (ae (ak 7) (ae (ak 3) (ae (ak 4) ar))))) (sSeq (Ge (Le (Es (aN E9 (ak 8) (aq (aF (.str []))))) (t8 (Es (aR JS (ak 5) (aq (aF (.int 0))))) (Es (aN Gr (ak 8) (aq (aF (.str [115,117,109]))))))) (eQ (aF (.bl false))) cz) (sSeq (Ge (Es (aN E9 (ak 8) (aq (aF (.str [115,117,109]))))) (sSeq (cu 9 (rD (bh iZ (ae (aq (aR EH (ak 7) (aq (aF (.int 2))))) ar)))) (sSeq (mC (px 7 (aF (.int 1)))) (eQ (vE (aN E9 (aq (aR EH (aq (cS aT (ae (ak 6) (ae (ak 4) ar)))) (aq (aF (.int 2))))) (ak 9)) (aN E9 (ak 6) (ak 3)))))) cz) (eQ (vE (aN E9 (aq (cS aT (ae (ak 6) (ae (ak 4) ar)))) (ak 7)) (aN E9 (ak 6) (ak 3)))))))) [some (.f,S0),some (.l .f,.lst DD),some (.f,.int (w:Int)),some (o3,.lst (rows.map eR)),some (.f,eR row),some (.f,.int way),none,none,none,none]=.ok (.rt (o,.bl true)):=by
 have fr:=iT rows;have q1:=yp rows;refine⟨.f,?_⟩;rw[ax (env':=[some (.f,S0),some (.l .f,.lst DD),some (.f,.int (w:Int)),some (o3,.lst (rows.map eR)),some (.f,eR row),some (.f,.int way),some (.l .f,.lst (rows.map eR)),none,none,none]) (by
  generalize rows.map eR=RR at fr ⊢;generalize eR row=ER;simp only[pv,seval,op,ho,fr])]
 rcases AV hw hl hr Ez HP with⟨km,ns,k1,k2,k3,k4,k5,hs⟩|⟨o,o1,o2,o3',o4,o5,hs⟩
 ·have Jy:=Cp hw hl hr Ez HP k1 k2 k3 k4 k5;have Ft:aB tL3 (.tup [.str jF,.int km,.lst (ns.map D.int)])=true:=by
   show(true&&(true&&(aB (.l .f) (.lst (ns.map D.int))&&true)))=true;rw[show aB (.l .f) (.lst (ns.map D.int))=true by rw[aB,dt,DZ]];rfl
  have fn:=DZ ns;have q2:=yq ns;have hz:(ns.map D.int).length<sizeLine:=uN (by rw[bE];lia);have e0:(jF==([]:List Nat))=false:=rfl;have e1:(jF==[115,117,109])=true:=rfl;have i2:EH (.tup [.str jF,.int km,.lst (ns.map D.int)]) (.int 2)=.ok (.f,.lst (ns.map D.int)):=rfl;have Ft:aB (.t [.f,.f,.l .f]) (.tup [.str jF,.int km,.lst (ns.map D.int)])=true:=Ft;have hs:aT [.lst (rows.map eR),eR row]=.ok (.t [.f,.f,.l .f],.tup [.str jF,.int km,.lst (ns.map D.int)]):=hs;generalize rows.map eR=RR at hs Jy q1 ⊢;generalize eR row=ER at hs Jy ⊢;generalize ns.map D.int=NN at hs Jy Ft fn q2 hz i2;generalize jF=SS at hs Jy e0 e1 Ft i2;rw[ax (env':=[some (.f,S0),some (.l .f,.lst DD),some (.f,.int (w:Int)),some (o3,.lst RR),some (.f,ER),some (.f,.int way),some (.l .f,.lst RR),some (.t [.f,.f,.l .f],.tup [.str SS,.int km,.lst NN]),none,none]) (by
   simp only[pv,seval,op,hs,Ft])]
  rw[ax (env':=[some (.f,S0),some (.l .f,.lst DD),some (.f,.int (w:Int)),some (o3,.lst RR),some (.f,ER),some (.f,.int way),some (.l .f,.lst RR),some (.t [.f,.f,.l .f],.tup [.str SS,.int km,.lst NN]),some (.f,.str SS),none]) (by
   simp only[pv,seval,op,Jy,ho])]
  rw[ax (env':=[some (.f,S0),some (.l .f,.lst DD),some (.f,.int (w:Int)),some (o3,.lst RR),some (.f,ER),some (.f,.int way),some (.l .f,.lst RR),some (.t [.f,.f,.l .f],.tup [.str SS,.int km,.lst NN]),some (.f,.str SS),none]) (by
   cases hg:decide (0<way) <;> simp only[pv,seval,op,e0,e1,hg,RP,lQ])]
  rw[Fj];have ej:Ge (Es (aN E9 (ak 8) (aq (aF (.str [115,117,109]))))) (sSeq (cu 9 (rD (bh iZ (ae (aq (aR EH (ak 7) (aq (aF (.int 2))))) ar)))) (sSeq (mC (px 7 (aF (.int 1)))) (eQ (vE (aN E9 (aq (aR EH (aq (cS aT (ae (ak 6) (ae (ak 4) ar)))) (aq (aF (.int 2))))) (ak 9)) (aN E9 (ak 6) (ak 3)))))) cz [some (.f,S0),some (.l .f,.lst DD),some (.f,.int (w:Int)),some (o3,.lst RR),some (.f,ER),some (.f,.int way),some (.l .f,.lst RR),some (.t [.f,.f,.l .f],.tup [.str SS,.int km,.lst NN]),some (.f,.str SS),none]=.ok (.rt (.f,.bl true)):=by
   have hi:∀T,T=D.tup [.str SS,.int km,.lst NN]->EH T (.int 2)=.ok (.f,.lst NN):=fun T h=>by rw[h];exact i2
   simp only[pv,seval,op,e1,yn,yo,Dw,Dx,hi,i2,fn,hz,hs,Ft,q1,q2,ho]
  rw[ej,FD]
 ·have Om:way=0:=by
   rcases hy with h|h
   ·exact h
   ·exact absurd (Jx h) o5
  have Jy:=Cq hw hl hr Ez HP o1 o2 o3' o4;have Ft:dw (.tup [.str iW,eR o])=true:=by
   rw[ic];simp only[D6,cJ,dw,P1]
  have q2:=yr o;have e0:(iW==([]:List Nat))=false:=rfl;have e1:(iW==[115,117,109])=false:=rfl;have hg:decide (0<way)=false:=Qa (by lia);generalize rows.map eR=RR at hs Jy q1 ⊢;generalize eR row=ER at hs Jy ⊢;generalize D.tup [.str iW,eR o]=TT at hs Jy Ft q2;generalize iW=SS at Jy e0 e1;rw[ax (env':=[some (.f,S0),some (.l .f,.lst DD),some (.f,.int (w:Int)),some (o3,.lst RR),some (.f,ER),some (.f,.int way),some (.l .f,.lst RR),some (.f,TT),none,none]) (by
   simp only[pv,seval,op,hs,Ft])]
  rw[ax (env':=[some (.f,S0),some (.l .f,.lst DD),some (.f,.int (w:Int)),some (o3,.lst RR),some (.f,ER),some (.f,.int way),some (.l .f,.lst RR),some (.f,TT),some (.f,.str SS),none]) (by
   simp only[pv,seval,op,Jy,ho])]
  rw[ax (env':=[some (.f,S0),some (.l .f,.lst DD),some (.f,.int (w:Int)),some (o3,.lst RR),some (.f,ER),some (.f,.int way),some (.l .f,.lst RR),some (.f,TT),some (.f,.str SS),none]) (by
   simp only[pv,seval,op,e0,e1,hg,SU,lQ])]
  rw[ax (env':=[some (.f,S0),some (.l .f,.lst DD),some (.f,.int (w:Int)),some (o3,.lst RR),some (.f,ER),some (.f,.int way),some (.l .f,.lst RR),some (.f,TT),some (.f,.str SS),none]) (by
   simp only[pv,seval,op,e1,lQ])]
  simp only[pv,seval,op,hs,Ft,q1,q2,ho]
end
section
variable{rows:List (List Int)}{w:Nat}
noncomputable abbrev AY:FX:=aR uc (aq (eFunW (.l .f) aI 1 (ae (ak 1) (ae (aq (aR hV (aq (aF (.int 2))) (aq (aR mh (aq (aF (.int 10))) (aq (aF (.int 20))))))) ar)))) (aq (aR mh (aq (aF (.int 10))) (aq (aF (.int 20)))))
theorem AZ(rows:List (List Int))(d:List Int):i5 (aw 0) dq AY (rows.map eR) (fun q=>none::some (.pin q (.l .f),.lst (d.map D.int))::[]) 1=.ok ((gd me rows d).map D.int,(hZ rows d).map D.int):=by
 have h:=yj (f:=AY) (e:=eR) (v:=fun x d=>D.int (me x d)) [] (fun q x d=>by
  have Pe:=Cr;have hm:hV (.int 2) (.int (10 ^ 20))=.ok (.f,.int (2*10 ^ 20)):=uP (n:=2) (m:=100) (by decide) (by decide +kernel) (by decide) (by decide);have hc:=jA d (2*10 ^ 20) (by decide +kernel);refine⟨.f,?_⟩;unfold AY me;generalize dr d (2*10 ^ 20)=z at hc ⊢;generalize (2:Int)*10 ^ 20=M at hm hc;generalize (10:Int) ^ 20=P at Pe hm ⊢;generalize eR x=EX;simp only[pv,↓reduceIte,Nat.reduceAdd,Nat.reduceLT,Nat.reduceLeDiff,Nat.reduceEqDiff,op,Pe,hm,hc,cE,fX,fW,bS,El,Em,cD,ck,cm,DZ,P1,Rf,Q1]) rows d none
 rw[oS];exact h
noncomputable abbrev yB:FX:=cS aX (ae (aq (mi (cw (aM 0) eS))) (ae (aq (mi (cw (aR mG (aq (aF (.int 1))) (aq (eFunW (.l .f) aI 1 (ae (ak 1) (ae (aq (aF (.int 6))) ar))))) eS))) (ae (ak 2) ar)))
theorem wm(hw:w<=6)(q:Addr):∀(l:List (List Int)) (d:List Int) (t:Option R),(∀r∈l,r.length=w/\Bg 100 r)->∃t',compLE (aw 0) dq yB (l.map eR) [t,some (.pin q (.l .f),.lst (d.map D.int)),some (.f,.int (w:Int))]=.ok ((gd (jd w) l d).map eR,[t',some (.pin q (.l .f),.lst ((hZ l d).map D.int)),some (.f,.int (w:Int))])
 |[],d,t,_=>⟨t,rfl⟩
 |r::l,d,t,h=>by
  obtain⟨r1,r2⟩:=h r Pq;obtain⟨t',h2⟩:=wm hw q l d.dropLast (some (.f,eR r)) fun s hs=>h s (Pu _ hs)
  refine⟨t',?_⟩;have hb:=dr_b d 6 (by decide);have hc:=jA d 6 (by decide);have hs:=oF (n:=100) (m:=3) (by decide) (by decide) w (by lia) [r] [1+dr d 6] (fun s hs=>by rw[rZ hs];exact⟨r1,r2⟩) (fun x hx=>by rw[rZ hx];show _<8;lia) (by show 1<=1000;decide) rfl;have hs:aX [.lst [eR r],.lst [.int (1+dr d 6)],.int (w:Int)]=.ok (.f,eR (jd w r d)):=hs;have fl:=cJ (jd w r d);have fr:=cJ r;have ha:aw 0 (eR r) [t,some (.pin q (.l .f),.lst (d.map D.int)),some (.f,.int (w:Int))]=.ok [some (.f,eR r),some (.pin q (.l .f),.lst (d.map D.int)),some (.f,.int (w:Int))]:=rfl;have hf:yB [some (.f,eR r),some (.pin q (.l .f),.lst (d.map D.int)),some (.f,.int (w:Int))]=.ok ((.f,eR (jd w r d)),[some (.f,eR r),some (.pin q (.l .f),.lst (d.dropLast.map D.int)),some (.f,.int (w:Int))]):=by
   unfold yB;generalize eR (jd w r d)=ET at hs fl ⊢;generalize eR r=ER at hs fr ⊢;generalize dr d 6=z at hc hs;simp only[pv,seval,op,hc,hs,fl,cE,fX,fW,bS,El,Em,cD,ck,cm,DZ,P1,Rf,Q1]
  rw[lR];unfold compLE;rw[ha,hW,rR,hW,Px rfl,hf,hW,h2,hW];rfl
theorem s_D(S0:D)(d:List Int)(way:Int)(hw:w<=6)(hl:rows.length<=6)(hr:∀r∈rows,r.length=w/\Bg 100 r){row:List Int}(Ez:row.length=w)(HP:Bg 175 row):∃(X d':List Int),X.length=w/\Bg 175 X/\(0<way->In rows.length w (Fs rows) (Vc X))/\
  Ge (Es (aR JS (ak 5) (aq (aF (.int 0))))) (cu 4 (cS aX (ae (ak 3) (ae (aq (fP (uH (aM 3)) [none,some 1] 1 1 (aw 0) dq AY)) (ae (ak 2) ar))))) cz [some (.f,S0),some (.l .f,.lst (d.map D.int)),some (.f,.int (w:Int)),some (.l .f,.lst (rows.map eR)),some (.f,eR row),some (.f,.int way),none,none,none,none]=.ok (.nx [some (.f,S0),some (.l .f,.lst (d'.map D.int)),some (.f,.int (w:Int)),some (if 0<way then .f else .l .f,.lst (rows.map eR)),some (.f,eR X),some (.f,.int way),none,none,none,none]):=by
 by_cases hy:0<way
 ·have hd:decide (0<way)=true:=Qi hy;have HQ:=AZ rows d;have IU:=kM me rows d;have HE:Bg 70 (gd me rows d):=fun x hx=>by
   obtain⟨j,hj,e⟩:=Qy hx;obtain⟨d',e2⟩:=vals_at me [] 0 rows d j (by rw[<-IU];exact hj);rw[cF _ _ _ hj,e]at e2;rw[e2];exact AW _ _
  have hs:=oF (n:=100) (m:=70) (by decide) (by decide) w (by lia) rows (gd me rows d) hr HE (by lia) IU.symm;have hz:((gd me rows d).map D.int).length<=sizeLine:=line_le (by rw[bE];lia);have f1:=DZ (gd me rows d);have f2:=DZ (hZ rows d);have fr:=iT rows;refine⟨(List.range w).map (co rows (gd me rows d) rows.length),hZ rows d,by rw[bE,PM],fun x hx=>?_,fun _=>?_,?_⟩
  ·obtain⟨k,_,e⟩:=pF hx;rw[<-e,yi IU];refine Qp (Cg (M:=2 ^ (100+70)) fun j hj=>RW (l6 ((hr _ (cI hj)).2.at k) (HE.at j))) ?_;exact Qp (QX _ hl) (by decide +kernel)
  ·refine⟨1,fun j=>(gd me rows d).getD j 0,by decide,fun k hk=>?_⟩;show 1*((List.range w).map (co rows (gd me rows d) rows.length)).getD k 0=_;rw[QV,cZ _ _ _ hk,yi IU];exact aK fun j _=>Q0 _ _
  ·rw[Px hy];have fx:=cJ ((List.range w).map (co rows (gd me rows d) rows.length));generalize eR ((List.range w).map (co rows (gd me rows d) rows.length))=EX at hs fx ⊢;generalize (gd me rows d).map D.int=NV at HQ hs hz f1;generalize (hZ rows d).map D.int=DV at HQ f2 ⊢;generalize rows.map eR=RR at HQ hs fr ⊢;generalize eR row=ER;generalize AY=NF at HQ ⊢;simp only[pv,seval,op,ie,rX,hd,HQ,hz,f1,f2,hs,fx,fr,U7,Q1]
 ·have hd:decide (0<way)=false:=Qa hy;refine⟨row,d,Ez,HP,fun h=>absurd h hy,?_⟩;rw[PJ hy];generalize rows.map eR=RR;generalize eR row=ER;simp only[pv,seval,op,hd,lQ]
theorem s_E(S0:D)(d:List Int)(way:Int)(hw:w<=6)(hl:rows.length<=6)(hr:∀r∈rows,r.length=w/\Bg 100 r){X:List Int}(Jx:0<way->In rows.length w (Fs rows) (Vc X)):∃(o3:O) (R:List (List Int)) (d':List Int),sX o3=true/\R.length<=6/\(∀r∈R,r.length=w/\Bg 175 r)/\(0<way->In R.length w (Fs R) (Vc X))/\
  Ge (Es (aN E9 (ak 5) (aq (aF (.int 2))))) (cu 3 (fP (uH (aM 3)) [none,some 1,some 2] 1 1 (aw 0) dq yB)) cz [some (.f,S0),some (.l .f,.lst (d.map D.int)),some (.f,.int (w:Int)),some (if 0<way then .f else .l .f,.lst (rows.map eR)),some (.f,eR X),some (.f,.int way),none,none,none,none]=.ok (.nx [some (.f,S0),some (.l .f,.lst (d'.map D.int)),some (.f,.int (w:Int)),some (o3,.lst (R.map eR)),some (.f,eR X),some (.f,.int way),none,none,none,none]):=by
 by_cases hy:way=2
 ·have hd:(way==2)=true:=P5.mpr hy;have HQ:i5 (aw 0) dq yB (rows.map eR) (fun q=>[none,some (.pin q (.l .f),.lst (d.map D.int)),some (.f,.int (w:Int))]) 1=.ok ((gd (jd w) rows d).map eR,(hZ rows d).map D.int):=j8 fun q=>by
   obtain⟨t',h⟩:=wm hw q rows d none hr;exact⟨_,h,rfl⟩
  have hvl:=kM (jd w) rows d;have hz:((gd (jd w) rows d).map eR).length<=sizeLine:=line_le (by rw[bE];lia);have f1:=iT (gd (jd w) rows d);have f2:=DZ (hZ rows d);refine⟨.l .f,gd (jd w) rows d,hZ rows d,rfl,by lia,fun r h=>?_,fun _=>?_,?_⟩
  ·obtain⟨j,hj,e⟩:=Qy h;have NA:j<rows.length:=by rw[<-hvl];exact hj
   obtain⟨d',e2⟩:=vals_at (jd w) [] [] rows d j NA;rw[cF _ _ _ hj,e]at e2;have:=ym (w:=w) (hr _ (cI (d:=[]) NA)).2 d';rw[e2];exact⟨this.1,this.2.mono (by decide)⟩
  ·refine fE (Jx (by lia)) fun j hj=>?_
   obtain⟨d',e2⟩:=vals_at (jd w) [] [] rows d j hj;have hb:=dr_b d' 6 (by decide);refine g8 (1+dr d' 6) (by lia) (fun k hk=>?_) (eC (F:=Fs (gd (jd w) rows d)) (i:=j) (by lia));show(1+dr d' 6)*(rows.getD j []).getD k 0=((gd (jd w) rows d).getD j []).getD k 0;rw[e2,yk hk]
  ·rw[Px (by lia)];generalize (gd (jd w) rows d).map eR=NV at HQ hz f1 ⊢;generalize (hZ rows d).map D.int=DV at HQ f2 ⊢;generalize rows.map eR=RR at HQ ⊢;generalize eR X=ER;generalize yB=NF at HQ ⊢;simp only[pv,seval,op,ie,rX,hd,HQ,hz,f1,f2,U7,Q1]
 ·have hd:(way==2)=false:=P6.mpr hy;refine⟨if 0<way then .f else .l .f,rows,d,by split <;> rfl,hl,fun r h=>⟨(hr r h).1,(hr r h).2.mono (by decide)⟩,Jx,?_⟩;generalize rows.map eR=RR;generalize eR X=ER;simp only[pv,seval,op,hd,lQ]
end
theorem law_plain(ns:List Int)(h:ns.length<=63):∃o,m_law [.lst (ns.map D.int)]=.ok (o,.bl true):=by
 obtain⟨d0,_,e0⟩:=se ns h;generalize hS:(.lst (ns.map D.int):D)=S0 at e0;unfold m_law Ad;rw[bJ (h:=by rfl)];rw[ax (env':=[some (.f,S0),some (.l .f,.lst (d0.map D.int)),none,none,none,none,none,none,none,none]) (by simp only[pv,seval,op,e0,cE,fX,fW,bS,El,Em,cD,ck,cm,DZ,P1,Rf,Q1])];have b1:=dr_b d0 7 (by decide);have c1:=jA d0 7 (by decide);obtain⟨w,hw⟩:=Tb b1.1;rw[hw]at b1 c1;generalize d0.dropLast=d1 at c1;rw[ax (env':=[some (.f,S0),some (.l .f,.lst (d1.map D.int)),some (.f,.int (w:Int)),none,none,none,none,none,none,none]) (by simp only[pv,seval,op,c1,cE,fX,fW,bS,El,Em,cD,ck,cm,DZ,P1,Rf,Q1])];have Ow:w<=6:=by lia
 have b2:=dr_b d1 7 (by decide);have c2:=jA d1 7 (by decide);obtain⟨n,hn⟩:=Tb b2.1;rw[hn]at b2 c2;generalize d1.dropLast=d2 at c2;have hm:=oC (f:=eFunW (.l .f) bL 1 (ae (ak 1) (ae (ak 2) ar))) (v:=fun d=>.tup ((HN w d).map D.int)) (nx:=it List.dropLast w) [some (.f,.int (w:Int))] (fun q d k=>⟨.f,by simp only[pv,seval,Aw d w (by lia:w<=1000),cE,fX,fW,bS,El,Em,cD,ck,cm,DZ,P1,Rf,Q1,ic]⟩) n d2 none;have e1:(List.range n).map (fun i=>D.tup ((HN w (it (it List.dropLast w) i d2)).map D.int))=(nh w n d2).map eR:=by
  unfold nh;rw[P7];rfl
 rw[e1]at hm;have Mc:=sW w n d2;have Ox:=vn w n d2;generalize it (it List.dropLast w) n d2=d3 at hm;generalize nh w n d2=rows at hm Mc Ox;have hz:(rows.map eR).length<=sizeLine:=line_le (by rw[bE];lia);have fr:=iT rows;have Ko:-4611686018427387904<=(n:Int)/\(n:Int)<4611686018427387904:=by lia
 rw[ax (env':=[some (.f,S0),some (.l .f,.lst (d3.map D.int)),some (.f,.int (w:Int)),some (.l .f,.lst (rows.map eR)),none,none,none,none,none,none]) (by
  generalize rows.map eR=RR at hm hz fr ⊢;simp only[pv,seval,ie,c2,cE,fX,fW,bS,El,Em,cD,ck,cm,DZ,P1,Rf,Q1,Ko,Qu,rX,hm,hz,fr,U7])]
 have c3:=Aw d3 w (by lia);have c3:iH bL (.l .f) (.lst (d3.map D.int)) [.int (w:Int)]=.ok ((.f,eR (HN w d3)),.lst ((it List.dropLast w d3).map D.int)):=c3;have Pf:=mV w d3;have NC:Bg 175 (HN w d3):=fun x hx=>Qp (Av w d3 x hx) (by decide +kernel)
 generalize HN w d3=row at c3 Pf NC;generalize it List.dropLast w d3=d4 at c3;have fx:=cJ row;rw[ax (env':=[some (.f,S0),some (.l .f,.lst (d4.map D.int)),some (.f,.int (w:Int)),some (.l .f,.lst (rows.map eR)),some (.f,eR row),none,none,none,none,none]) (by
  generalize rows.map eR=RR;generalize eR row=ER at c3 fx ⊢;simp only[pv,seval,op,c3,fx,cE,fX,fW,bS,El,Em,cD,ck,cm,DZ,P1,Rf,Q1])]
 have b5:=dr_b d4 3 (by decide);have c5:=jA d4 3 (by decide);generalize dr d4 3=way at b5 c5;generalize d4.dropLast=d5 at c5;rw[ax (env':=[some (.f,S0),some (.l .f,.lst (d5.map D.int)),some (.f,.int (w:Int)),some (.l .f,.lst (rows.map eR)),some (.f,eR row),some (.f,.int way),none,none,none,none]) (by
  generalize rows.map eR=RR;generalize eR row=ER;simp only[pv,seval,op,c5,cE,fX,fW,bS,El,Em,cD,ck,cm,DZ,P1,Rf,Q1])]
 obtain⟨X,d6,x1,x2,x3,e6⟩:=s_D S0 d5 way Ow (by lia) Ox Pf NC;rw[ax e6];obtain⟨o3,R,d7,y1,y2,y3,y4,e7⟩:=s_E S0 d6 way Ow (by lia) Ox x3;rw[ax e7];obtain⟨o,e8⟩:=AX S0 (d7.map D.int) o3 y1 way (by lia) Ow y2 y3 x1 x2 y4;rw[e8,FD];exact⟨o,rfl⟩
end LW
namespace FIN
open PySem PySem.Spec PyProof.Rows L2 NX PV LW
theorem A0{l:PySem.W.OpenLaw}{w:World}{K:W.Frag}{h:Heap}{mg:Str->Option Value}{fa f:Addr}{od an:Option Addr}{sl:Array (Option Value)}{oc kV dc pm cd ct:Value}(X:K.In h)(G:h.Ns mainGlobals mg)(hfa:mg "law" = some (.ref fa))
  (aL:PySem.W.nsIn K mainGlobals "law" = some (some (.ref f))) (lL:K.lookup f=some ⟨oc,od,.func (PySem.W.fnOf "law" "law" (dN ko) (cy ko) (defScope ko) .none kV dc pm an cd ct),sl⟩) (cL:PySem.W.codeIn K cd "law" = true) (kL:PySem.W.keepIn K (.ref f)=true)
  (Hg:Def K mg "product" iM) (HF:Def K mg "summed" kd) (Fc:Def K mg "common_divisor" cP) (HG:Def K mg "lowest" ke) (Hh:Def K mg "cleared" iN) (FN:Def K mg "with_leader" dX) (F8:Def K mg "leaders_of" e9) (F9:Def K mg "kernel_row" fg) (HI:Def K mg "kernel" ki) (FQ:Def K mg "closing_row" dY) (Hi:Def K mg "spanned" iO) (FA:Def K mg "_law_numbers" dD) (Gm:Def K mg "_law_draw" f6) (FR:Def K mg "_law_number" dZ) (GL:Def K mg "_law_row" gN) (FC:Def K mg "_law_product" dE) (GN:Def K mg "_law_sum" gO) (Ga:Def K mg "_law_whole" fm) (FU:Def K mg "_law_is_row" d8) (EY:Def K mg "_law_are_numbers" cj) (FV:Def K mg "_law_walked" d9)
  (He:PySem.W.nsIn K mainGlobals "abs" = some none) (Hm:PySem.W.nsIn K mainGlobals "bool" = some none) (E5:PySem.W.nsIn K mainGlobals "enumerate" = some none) (Im:PySem.W.nsIn K mainGlobals "int" = some none) (D7:PySem.W.nsIn K mainGlobals "isinstance" = some none) (Ek:PySem.W.nsIn K mainGlobals "len" = some none) (EV:PySem.W.nsIn K mainGlobals "list" = some none) (Ei:PySem.W.nsIn K mainGlobals "range" = some none) (Fh:PySem.W.nsIn K mainGlobals "reversed" = some none) (Gj:PySem.W.nsIn K mainGlobals "sum" = some none) (Ed:PySem.W.nsIn K mainGlobals "tuple" = some none) (Gk:PySem.W.nsIn K mainGlobals "zip" = some none):
  ∃fd:FuncData,(∀(s:Shared) (v:Value),BindsTo s fd ⟨[v],[]⟩ [("_law_script",v)])/\∀base:Heap,K.In base->base.Ns mainGlobals mg->FnOk l.prog w K mg base IL 7 fa fd ["_law_script"] (uo K):=by
 have e:=hfa.symm.trans (PySem.W.mg_of X G aL);cases e;have F:=vA (st:=ko) lL cL kL;have KS:=Qh X G He;have y_bool:=Qh X G Hm;have HJ:=Qh X G E5;have Ng:=Qh X G Im;have EJ:=Qh X G D7;have Gn:=Qh X G Ek;have Ho:=Qh X G EV;have Fl:=Qh X G Ei;have Ie:=Qh X G Fh;have Jz:=Qh X G Gj;have E6:=Qh X G Ed;have JA:=Qh X G Gk;refine⟨PySem.W.fnOf "law" "law" (dN ko) (cy ko) (defScope ko) .none kV dc pm an cd ct,fun s v=>.of_eq rfl,fun base KB GB=>?_⟩;have II:Ct l.prog w K mg base "product" 1 (spF K cH):=pB Hg Jz JA;have JB:Ct l.prog w K mg base "summed" 1 (spF K dR):=rN HF Fl Jz E6 JA;have Fd:Ct l.prog w K mg base "common_divisor" 1 (spF K aS):=gM Fc KS;have GO:Ct l.prog w K mg base "lowest" 2 (spF K bT):=rO HG Fd E6;have Hj:Ct l.prog w K mg base "cleared" 2 (spF K b8):=pD Hh JB Gn;have G9:Ct l.prog w K mg base "with_leader" 3 (spM K (.d) bu):=i6 FN Hj GO;have Gb:Ct l.prog w K mg base "leaders_of" 4 (spF K aE):=kg F8 Hj GO G9 HJ Gn;have cK:Ct l.prog w K mg base "kernel_row" 3 (spM K (.d) aD):=kh F9 Fd GO KS E6;have JC:Ct l.prog w K mg base "kernel" 5 (spF K fC):=rQ HI cK Gb Fl;have Ha:Ct l.prog w K mg base "closing_row" 5 (spF K bH):=i7 FQ cK Gb;have IJ:Ct l.prog w K mg base "spanned" 6 (spF K aT):=pE Hi Ha JC II Gn Ho Fl E6;have GP:Ct l.prog w K mg base "_law_numbers" 1 (spF K bK):=iP FA Gn Ho Ie Jz;have Gp:Ct l.prog w K mg base "_law_draw" 1 (spM K (.l .f) aI):=lP Gm;have Hb:Ct l.prog w K mg base "_law_number" 2 (spM K (.l .f) bw):=i8 FR Gp;have Ig:Ct l.prog w K mg base "_law_row" 3 (spM K (.l .f) bL):=mQ GL Hb Fl E6;have GQ:Ct l.prog w K mg base "_law_product" 1 (spF K aP):=iQ FC Gn Fl;have GR:Ct l.prog w K mg base "_law_sum" 1 (spF K aX):=mR GN Fl E6 JA;have Fn:Ct l.prog w K mg base "_law_whole" 1 (spF K aJ):=kn Ga y_bool Ng EJ;have Hc:Ct l.prog w K mg base "_law_is_row" 2 (spF K bP):=ja FU Fn EJ Gn E6;have F2:Ct l.prog w K mg base "_law_are_numbers" 2 (spF K aQ):=f9 EY Fn EJ Gn Ho;have Hd:Ct l.prog w K mg base "_law_walked" 3 (spF K a7):=jb FV F2 Hc GQ GR Fn EJ Gn E6;exact(Af F Gp GP Ig GR Hd IJ Ho Fl).imp (zY law_plain)
end FIN
def PySem.W.Fast.tw10238358959337442997:=0
def PySem.W.Fast.tw12466474977871830217:=0
def PySem.W.Fast.tw14806988785728339664:=0
def PySem.W.Fast.tw1112362160732129374:=0
def PySem.W.Fast.tw5368271286142717044:=0
def PySem.W.Fast.tw18137011154293454100:=0
def PySem.W.Fast.tw10797484648982810400:=0
def PySem.W.Fast.tw14405298276482706199:=0
def PySem.W.Fast.tw4058928878102353399:=0
def PySem.W.Fast.tw18281287287397772165:=0
def PySem.W.Fast.tw12885665130969541861:=0
def PySem.W.Fast.tw12373311155604133646:=0
def PySem.W.Fast.tw11810716429629546213:=0
def PySem.W.Fast.tw15679874577422605440:=0
def PySem.W.Fast.tw12690904539804371721:=0
def PySem.W.Fast.tw6090989881938714225:=0
def PySem.W.Fast.tw14534670113793675630:=0
def PySem.W.Fast.tw16691666826508503721:=0
def PySem.W.Fast.tw10135228500590399601:=0
def PySem.W.Fast.tw7000404960498842841:=0
open PySem PySem.W PyProof.Rows
set_option maxRecDepth 100000 in
set_option maxHeartbeats 0 in
theorem PySem.Challenge.cw_netfinder_k42_spanned_or_not_holds : PySem.Challenge.rw_netfinder_k42_spanned_or_not.Holds := by
  w_on; o_law; k_head; (case hw => w_witness2)
  k_fill
  refine PV.Dr (l := PySem.Challenge.rw_netfinder_k42_spanned_or_not) (k := 7) (x := "_law_script") rfl rfl ⟨rfl, by decide, by decide⟩ (fun w h Y => PySem.W.kIn_of Y) ?F
  case F =>
    intro w mg fa h KX G Mo
    refine' FIN.A0 KX G Mo ?aL ?lL ?cL ?kL ?Hg ?HF ?Fc ?HG ?Hh ?FN ?F8 ?F9 ?HI ?FQ ?Hi ?FA ?Gm ?FR ?GL ?FC ?GN ?Ga ?FU ?EY ?FV ?He ?Hm ?E5 ?Im ?D7 ?Ek ?EV ?Ei ?Fh ?Gj ?Ed ?Gk
    (case aL => k_is); (case lL => k_is); (case cL => k_is); (case kL => k_is)
    iterate 21 (refine' PV.zZ KX G ?a ?l ?c ?k; (case a => k_is); (case l => k_is); (case c => k_is); (case k => k_is))
    iterate 12 k_is
