import PyProof.Rows.All
import Wide.All
import OpenK.AllK
import Wide.FinOn
import Lean
import PyProof.EqAt
import PyProof.EqKinds
import PyProof.TupleCall
import PySem.Challenge.RW_netfinder_k22_runs_walked
set_option Elab.async false
set_option linter.all false
set_option maxRecDepth 100000
set_option compiler.extract_closed false
set_option bootstrap.genMatcherCode false
noncomputable section
theorem Zz{a b:Prop}(x:a)(y:b):a∧b:=⟨x,y⟩
def OR:=@PySem.wpAny_bind
def OS:=@List.size_toArray
def OT:=@List.length_map
def OU:=@PySem.wpAny_pure
def OV:=@List.mem_append_right
def OW:=@Nat.le_refl
def OX:=@List.mem_cons_self
def OY:=@PySem.Heap.lt_size
def OZ:=@if_pos
def O0:=@Bool.false_ne_true
def O1:=@Bool.and_eq_true
def O2:=@List.length_cons
def O3:=@List.mem_append_left
def O4:=@Nat.lt_of_lt_of_le
def O5:=@if_neg
def O6:=@List.mem_cons
def O7:=@List.mem_cons_of_mem
def O8:=@List.append_nil
def O9:=@decide_eq_true_eq
def Pa:=@decide_eq_false
def Pb:=@List.map_cons
def Pc:=@Nat.ne_of_lt
def Pd:=@List.length_singleton
def Pe:=@List.map_append
def Pf:=@List.map_map
def Pg:=@List.nodup_append
def Ph:=@decide_eq_true
def Pj:=@List.mem_append
def Pk:=@Bool.eq_iff_iff
def Pm:=@List.all_eq_true
def Pn:=@Option.some.inj
def Po:=@List.append_assoc
def Pp:=@Option.map_eq_some_iff
def Pq:=@List.map_nil
def Pr:=@List.mem_singleton
def Pt:=@PySem.W.mg_none_of
def Pu:=@List.length_range
def Pw:=@List.length_append
def Px:=@Option.bind_eq_some_iff
def Py:=@List.length_take
def Pz:=@PySem.PassesOwn.never
def PB:=@Nat.le_trans
def PD:=@Nat.zero_le
def PF:=@PySem.wpAny_call_entry
def PH:=@PySem.wpAny_mono
def PJ:=@PySem.wpAny_newObj_type
def PK:=@decide_eq_false_iff_not
def PL:=@PySem.sizeLine_eq
def PM:=@List.mem_of_getElem?
def PN:=@beq_iff_eq
def PQ:=@List.mem_range
def PR:=@List.foldl_cons
def PU:=@List.eq_nil_of_length_eq_zero
def PY:=@beq_self_eq_true
def PZ:=@List.lookup_cons
def P0:=@Bool.and_self
def P1:=@Bool.not_true
def P2:=@Option.isSome_iff_exists
def P4:=@congrArg
def P5:=@PySem.wpAny_field
def P6:=@List.zip_cons_cons
def P7:=@PySem.wpAny_truthy_bool
def P8:=@Array.length_toList
def P9:=@PyProof.Rows.slot_tuple_getitem
def Qa:=@List.replicate_succ
def Qb:=@List.map_congr_left
def Qc:=@List.nodup_cons
def Qd:=@List.all_map
def Qe:=@Nat.le_succ
def Qf:=@Nat.lt_succ_self
def Qg:=@PySem.wpAny_typeNameOfWhole_keyiter
def Qh:=@List.any_eq_true
def Qi:=@PySem.F.slot_dict_keyiterator_next
def Qj:=@PySem.F.plainAttrs_list
def Qk:=@Int.eq_ofNat_of_zero_le
def Ql:=@Int.toNat_natCast
def Qm:=@List.flatten_cons
def Qn:=@of_decide_eq_true
def Qo:=@beq_eq_false_iff_ne
def Qp:=@PySem.mem_of_lookup
def Qq:=@PyProof.Rows.KeyOrd.kle_refl
def Qr:=@PySem.W.kia_one
def Qs:=@List.idxOf_lt_length_of_mem
def Qt:=@PySem.F.slot_tuple_iterator_next
def Qu:=@PySem.wpAny_pyIter_tuple
def Qv:=@PySem.wpAny_holding
def Qw:=@List.mem_map
def Qx:=@Bool.false_eq_true
def Qy:=@PySem.wpAny_setField_rec
def Qz:=@List.mem_iff_getElem?
def QA:=@List.pairwise_cons
def QB:=@PySem.wpAny_seqItems
def QC:=@List.nodup_nil
def QD:=@PySem.wpAny_passesOwn
def QF:=@PySem.wpAny_pyIter_list
def QH:=@List.of_mem_zip
def QJ:=@List.length_set
def QK:=@List.length_nil
def QL:=@PySem.F.slot_tuple_index
def QM:=@List.filterMap_cons_none
def QN:=@List.filterMap_cons_some
def QQ:=@Nat.lt_irrefl
def QR:=@Ne.symm
def QU:=@List.cons.inj
def QV:=@PySem.wpAny_execs_cons
def QY:=@PySem.Heap.size_push
def QZ:=@List.take_of_length_le
def Q0:=@PySem.wpAny_Call_Name_kw
def Q1:=@PyProof.Rows.callWith_type1
def Q2:=@List.length_zip
def Q3:=@List.nodup_iff_pairwise_ne
def Q4:=@PySem.Calls.call_function_entry
def Q5:=@List.getElem_mem
def Q6:=@List.not_mem_nil
def Q7:=@PySem.Heap.SameBut.update
def Q8:=@PySem.F.args_tuple_add_2
def Q9:=@PySem.wpAny_typeOf
def Ra:=@List.any_map
def Rb:=@PySem.F.type_tuple_index
def Rc:=@decide_false
def Rf:=@PySem.wpAny_execs_nil
def Rg:=@PySem.F.entry_tuple_add
def Rh:=@if_true
def Ri:=@PySem.Obj.data_mapFields
def Rj:=@PySem.tupleKind_room_in1
def Rk:=@Bool.and_true
def Rl:=@PySem.F.slot_tuple_add
def Rm:=@PySem.Calls.callWith_builtin
def Ro:=@PyProof.Rows.KeyOrd.kle_of_klt
def Rp:=@List.ext_getElem?
def Rq:=@PySem.wpAny_dictEntries
def Rr:=@List.pairwise_map
def Rt:=@decide_true
def Ru:=@List.findIdx_cons
def Rv:=@PySem.F.args_dict_keyiterator_next_1
def Rw:=@List.length_drop
def Rx:=@PyProof.Rows.KeyOrd.kle_trans
def Ry:=@PySem.F.entry_dict_keyiterator_next
def Rz:=@PySem.Calls.evalArgs_plain
def RA:=@PySem.wpAny_updateSeq_pair
def RB:=@PySem.Paired.length
def RC:=@PySem.F.args_tuple_iterator_next_1
def RE:=@PySem.W.mg_of
def RF:=@List.all_cons
def RG:=@List.dropLast_cons_of_ne_nil
def RH:=@PySem.W.hideAll_get
def RI:=@List.filterMap_cons
def RJ:=@List.toList_toArray
def RK:=@List.forIn_cons
def RL:=@PySem.F.entry_tuple_iterator_next
def RM:=@PySem.F.slot_zip_next
def RN:=@Array.getD_eq_getD_getElem?
def RO:=@PySem.Calls.Name_function_global
def RP:=@List.mem_filterMap
def RQ:=@if_false
def RS:=@of_decide_eq_false
def RT:=@List.set_set
def RU:=@PySem.wpAny_setField
def RV:=@List.pairwise_iff_getElem
def RW:=@List.drop_eq_getElem_cons
def RX:=@Bool.not_false
def RY:=@List.take_sublist
def RZ:=@PySem.wpAny_getItem_list_slice
def R0:=@bne_self_eq_false
def R1:=@PySem.wpAny_comprehension_free
def R3:=@Nat.lt_succ_of_lt
def R4:=@Option.isSome_map
def R5:=@PySem.AutoSeq1.sub_tuple_tuple
def R6:=@List.zip_nil_left
def R7:=@PySem.F.slot_list_append
def R8:=@PySem.F.type_list_append
def R9:=@List.idxOf_lt_length_iff
def Sa:=@PySem.wpAny_onRaise
def Sb:=@PySem.wpAny_attempt
def Sd:=@List.not_lt
def Se:=@PySem.F.slot_list_index
def Sf:=@PySem.F.slot_list_clear
def Sg:=@PySem.F.type_list_clear
def Sh:=@PySem.noFill_tuple_add
def Si:=@Option.getD_none
def Sj:=@PySem.wpAny_forIn_list
def Sk:=@List.cons_append
def Sl:=@List.range'_succ
def Sm:=@PySem.W.cellsFrom_some
def Ss:=@List.Perm.append_right
def Su:=@Nat.le_of_lt
def Sw:=@PySem.codeAny_mono
def Sy:=@PySem.concat_meets
def Sz:=@List.range_succ
def SA:=@Bool.or_eq_true
def SE:=@PySem.wpAny_dictEpoch
def SG:=@List.Perm.append_left
def SH:=@List.perm_append_comm
def SI:=@List.nil_append
def SJ:=@Classical.choose_spec
def SK:=@Nat.min_eq_left
def SM:=@PySem.typeIs_str
def SN:=@PySem.typeIs_int
def SO:=@PySem.call_meets
def SR:=@List.getElem_toArray
def SS:=@List.mem_of_mem_take
def SU:=@List.drop_zero
def SV:=@List.forIn_nil
def SW:=@Bool.and_false
def SY:=@PySem.wpAny_letGo
def S2:=@List.take_succ_cons
def S3:=@List.drop_succ_cons
def S6:=@PySem.W.of_hideAll
def S7:=@PySem.W.callWith_K
def S8:=@PySem.seq_tuple_add
def Tb:=@Nat.lt_of_le_of_lt
def Tc:=@PySem.wpAny_standAt
def Te:=@PySem.wpAny_newList
def Tf:=@List.any_cons
def Tg:=@List.getElem_range
def Th:=@List.sum_cons
def Ti:=@List.set_cons_succ
def Tj:=@List.map_take
def Tw:=@PySem.wpAny_rule
def TF:=@Nat.ne_of_gt
def TK:=@Nat.mul_comm
def TL:=@Nat.zero_add
def TM:=@Nat.sub_self
def Uc:=@or_false
def US:=@bne_iff_ne
namespace L2
open PySem PySem.Spec PyProof.Rows
def IsTupN(h:Heap)(a:Addr)(items:Array Value):Prop:=∃o,h.get? a=some o/\o.cls=.type "tuple"/\(∃n,o.data=.seq items n)/\o.dict=none
theorem IsTupN.tup{h:Heap}{a:Addr}{items:Array Value}(p:IsTupN h a items):IsTup h a items:=by
 obtain⟨o,e,c,n,_⟩:=p;exact⟨o,e,c,n⟩
theorem IsTupN.new(h:Heap)(items:Array Value):IsTupN (h.push {cls:=.type "tuple",data:=.seq items}) h.objs.size items:=⟨_,Heap.get?_push_size _ rfl,rfl,⟨_,rfl⟩,rfl⟩
abbrev Key:=Sum Int Str
def pM:Key->Value->Bool
 | .inl k,v=>Value.isInt k v
 | .inr x,v=>Value.isStrOf x v
def Dg(w:World):Key->Int
 | .inl k=>hashInt k
 | .inr x=>hashStr w x
theorem bx:∀{k:Key}{v:Value},pM k v=true->(∃i t,k=Sum.inl i/\v=Value.int i t)\/(∃x t,k=Sum.inr x/\v=Value.str x t)
 | .inl i,v,h=>by
  obtain⟨t,e⟩:=Value.isInt_shape (k:=i) (v:=v) h;exact .inl ⟨i,t,rfl,e⟩
 | .inr x,v,h=>by
  obtain⟨t,e⟩:=Value.isStrOf_shape (x:=x) (v:=v) h;exact .inr ⟨x,t,rfl,e⟩
theorem qk(i:Int)(t:Tok):pM (.inl i) (.int i t)=true:=by simp[pM,Value.isInt]
theorem ql(x:Str)(t:Tok):pM (.inr x) (.str x t)=true:=by simp[pM,Value.isStrOf]
theorem yV(a b:Int):decide ((Sum.inl a:Key)=Sum.inl b)=(a==b):=by
 by_cases e:a=b
 ·subst e;simp
 ·have h:¬ (Sum.inl a:Key)=Sum.inl b:=fun q=>e (Sum.inl.inj q)
  rw[Pa h];exact(Qo.mpr e).symm
theorem yW(a b:Str):decide ((Sum.inr a:Key)=Sum.inr b)=decide (a=b):=by
 by_cases e:a=b
 ·subst e;simp
 ·have h:¬ (Sum.inr a:Key)=Sum.inr b:=fun q=>e (Sum.inr.inj q)
  rw[Pa h,Pa e]
theorem yX(a:Int)(b:Str):decide ((Sum.inl a:Key)=Sum.inr b)=false:=Pa (fun q=>nomatch q)
theorem yY(a:Str)(b:Int):decide ((Sum.inr a:Key)=Sum.inl b)=false:=Pa (fun q=>nomatch q)
noncomputable def mixKind(prog:Program)(w:World):PySem.KeyKind prog w Key where
 is:=pM
 hash:=Dg w
 inj:=fun v a b ha hb=>by
  rcases bx ha with⟨i,t,rfl,rfl⟩|⟨x,t,rfl,rfl⟩
  ·rcases bx hb with⟨j,u,rfl,e⟩|⟨y,u,rfl,e⟩
   ·injection e with e1 _;rw[e1]
   ·exact nomatch e
  ·rcases bx hb with⟨j,u,rfl,e⟩|⟨y,u,rfl,e⟩
   ·exact nomatch e
   ·injection e with e1 _;rw[e1]
 byValue:=fun k v h=>by
  rcases bx h with⟨i,t,rfl,rfl⟩|⟨x,t,rfl,rfl⟩ <;> rfl
 pyHash:=fun hv h=>by
  rcases bx hv with⟨i,t,rfl,rfl⟩|⟨x,t,rfl,rfl⟩
  ·exact wpAny_pyHash_int h
  ·exact wpAny_pyHash_str h
 eqBool:=fun hu hv h=>by
  rcases bx hu with⟨i,t,rfl,rfl⟩|⟨x,t,rfl,rfl⟩
  ·rcases bx hv with⟨j,u,rfl,rfl⟩|⟨y,u,rfl,rfl⟩
   ·rw[yV]at h;exact wpAny_eqBool_int h
   ·rw[yX]at h;exact SeqAt.EqAt.int_str i t y u _ _ _ _ h
  ·rcases bx hv with⟨j,u,rfl,rfl⟩|⟨y,u,rfl,rfl⟩
   ·rw[yY]at h;exact SeqAt.EqAt.str_int x t j u _ _ _ _ h
   ·rw[yW]at h;exact wpAny_eqBool_str h
 «strs»:=fun k x t v h=>by
  rcases bx h with⟨i,u,rfl,e⟩|⟨y,u,rfl,e⟩
  ·exact nomatch e
  ·injection e with e1 _;subst e1;cases v <;> rfl
theorem nu(prog:Program)(w:World)(i:Int)(t:Tok):(mixKind prog w).is (.inl i) (.int i t)=true:=qk i t
theorem nv(prog:Program)(w:World)(x:Str)(t:Tok):(mixKind prog w).is (.inr x) (.str x t)=true:=ql x t
inductive V where
 |non|bl (b:Bool)|int (i:Int)|str (x:Str)|byt (b:Array UInt8)|flt (b:UInt64)|ref (a:Addr)|ty (n:String)
 deriving DecidableEq
noncomputable def RelV:V->Value->Prop
 | .non,u=>u=Value.none
 | .bl b,u=>u=Value.bool b
 | .int i,u=>∃t,u=Value.int i t
 | .str x,u=>∃t,u=Value.str x t
 | .byt b,u=>∃t,u=Value.bytes b t
 | .flt b,u=>∃t,u=Value.float b t
 | .ref a,u=>u=Value.ref a
 | .ty n,u=>u=Value.type n
abbrev Vals:List V->List Value->Prop:=Paired RelV
theorem Vals.length{xs:List V}{us:List Value}(r:Vals xs us):xs.length=us.length:=RB r
theorem Vals.get:∀{xs:List V}{us:List Value}{i:Nat}{x:V},Vals xs us->xs[i]?=some x->∃u,us[i]?=some u/\RelV x u
 |_,_,_,_,.nil,e=>by simp at e
 |_,_,0,_,.cons r _,e=>by simp at e;subst e;exact⟨_,rfl,r⟩
 |_,_,i+1,x,.cons _ t,e=>by
  obtain⟨u,h1,h2⟩:=Vals.get (i:=i) (x:=x) t (by simpa using e);exact⟨u,by simpa using h1,h2⟩
theorem Vals.set{x:V}{u:Value}(r:RelV x u):∀{xs:List V}{us:List Value}(i:Nat),Vals xs us->Vals (xs.set i x) (us.set i u)
 |_,_,_,.nil=>.nil
 |_,_,0,.cons _ t=>.cons r t
 |_,_,i+1,.cons q t=>.cons q (Vals.set r i t)
theorem Vals.append:∀{xs ys:List V}{us ws:List Value},Vals xs us->Vals ys ws->Vals (xs++ys) (us++ws)
 |_,_,_,_,.nil,s=>s
 |_,_,_,_,.cons r t,s=>.cons r (Vals.append t s)
theorem Vals.take:∀{xs:List V}{us:List Value}(n:Nat),Vals xs us->Vals (xs.take n) (us.take n)
 |_,_,0,_=>.nil
 |_,_,_+1,.nil=>.nil
 |_,_,n+1,.cons r t=>.cons r (Vals.take n t)
theorem Vals.drop:∀{xs:List V}{us:List Value}(n:Nat),Vals xs us->Vals (xs.drop n) (us.drop n)
 |_,_,0,r=>r
 |_,_,_+1,.nil=>.nil
 |_,_,n+1,.cons _ t=>Vals.drop n t
theorem Vals.none_of:∀{xs:List V}{us:List Value}{i:Nat},Vals xs us->xs[i]?=none->us[i]?=none:=fun{xs us i} r e=>by
 have h1:=r.length;have h2:xs.length<=i:=List.getElem?_eq_none_iff.mp e;exact List.getElem?_eq_none_iff.mpr (by lia)
def RelO:Option V->Option Value->Prop
 |some v,some u=>RelV v u
 |none,none=>True
 |_,_=>False
def KV{κ:Type}:List (κ×V)->List (κ×Value)->Prop:=Paired fun(p:κ×V) (q:κ×Value)=>p.1=q.1/\RelV p.2 q.2
def kV:Key->V
 | .inl i=>.int i
 | .inr x=>.str x
inductive HO where
 |lst (xs:List V)
 |tup (xs:List V)
 |dK (kvs:List (Key×V))|dT (kvs:List (List Key×V))
 |set (S:Int->Bool) (n:Nat)
 |ins (C dx:Addr) (fs:List (Str×V))
 |own (x:Addr)
 |xd (fs:List (Str×V))
 |met (f x:Addr)
 |rng (lo hi:Int)
 |frz (o:Obj) (u:HO)
 |tbl (ps:Array Value)
 |ext (φ:Heap->Prop)
abbrev Hp:=Addr->Option HO
def upd(H:Hp)(a:Addr)(o:HO):Hp:=fun b=>if b=a then some o else H b
theorem aM{H:Hp}{a:Addr}{o:HO}:upd H a o a=some o:=by unfold upd;rw[OZ rfl]
theorem ay{H:Hp}{a b:Addr}{o:HO}(h:b≠a):upd H a o b=H b:=by unfold upd;rw[O5 h]
theorem yZ{H:Hp}{a b:Addr}{o u:HO}(h:H a=some o)(h':H b=some u)(d:o≠u):a≠b:=by
 intro e;subst e;rw[h]at h';exact d (Pn h')
theorem aP{H:Hp}{a b:Addr}{o:HO}(h:H a=some o)(h':H b=none):a≠b:=by
 intro e;subst e;rw[h]at h';cases h'
section
variable(P:Program)(w:World)
noncomputable def ObjOk(H:Hp)(h:Heap)(a:Addr):HO->Prop
 | .lst xs=>xs.length<=sizeLine/\∃(Eg:List Value) (n:Nat),Vals xs Eg/\h.get? a=some {cls:=.type "list",data:=.seq Eg.toArray n}
 | .tup xs=>xs.length<=sizeLine/\∃Eg:List Value,Vals xs Eg/\IsTupN h a Eg.toArray
 | .dK kvs=>kvs.length<=sizeLine/\(a==sysModules)=false/\∃vs,KV kvs vs/\h.DictOf (mixKind P w) a vs
 | .dT kvs=>kvs.length<=sizeLine/\(a==sysModules)=false/\∃xs:List (List Key×Addr×Value),
   Paired (fun(p:List Key×V) (q:List Key×Addr×Value)=>p.1=q.1/\H q.2.1=some (.tup (p.1.map kV))/\RelV p.2 q.2.2) kvs xs/\
   ∃o es ep,h.get? a=some o/\o.ExactDict/\o.data=.dict es ep/\es.toList=xs.map (entryOfKey (tupleKind (mixKind P w)))/\(xs.map (·.1)).Nodup
 | .set S n=>h.SetOf (intKind P w) a S n
 | .ins C dx fs=>H dx=some (.own a)/\fs.length<=1000/\dx≠a/\h.get? a=some (PySem.W.instObj C dx)/\
   ∃mA,h.Ns1 dx mA/\(∀f,RelO (fs.lookup f) (mA f))/\PySem.Within mA (fs.map (·.1))
 | .own _=>∃o,h.get? a=some o
 | .xd fs=>∃mA,h.Ns1 a mA/\∀f,RelO (fs.lookup f) (mA f)
 | .rng lo hi=>∃t u v,h.get? a=some {cls:=.type "range",data:=.fields #[.int lo t,.int hi u,.int 1 v]}
 | .frz o u=>h.get? a=some o/\ObjOk H h a u
 | .tbl ps=>h.get? a=some {cls:=.none,data:=.fields ps}
 | .met f x=>h.get? a=some (PySem.W.methodObj (.ref f) (.ref x))
 | .ext φ=>φ h/\(∃o,h.get? a=some o)/\∀h1 h2:Heap,φ h1->(∀o,h1.get? a=some o->h2.get? a=some o)->φ h2
def HOk(H:Hp)(h:Heap):Prop:=∀a o,H a=some o->ObjOk P w H h a o
end
section
variable{P:Program}{w:World}{H H':Hp}{h h':Heap}{a:Addr}{o:HO}
theorem ObjOk.lt(x:ObjOk P w H h a o):a<h.objs.size:=by
 cases o with
 |lst xs=>obtain⟨_,_,_,_,e⟩:=x;exact OY e
 |tup xs=>obtain⟨_,_,_,p⟩:=x;exact p.tup.lt
 |dK kvs=>obtain⟨_,_,_,_,o,_,_,e,_⟩:=x;exact OY e
 |dT kvs=>obtain⟨_,_,_,_,o,_,_,e,_⟩:=x;exact OY e
 |set S n=>obtain⟨o,_,_,_,e,_⟩:=x;exact OY e
 |ins C dx fs=>obtain⟨_,_,_,e,_⟩:=x;exact OY e
 |own y=>obtain⟨_,e⟩:=x;exact OY e
 |xd fs=>obtain⟨_,⟨_,_,_,e,_⟩,_⟩:=x;exact OY e
 |rng lo hi=>obtain⟨_,_,_,e⟩:=x;exact OY e
 |frz ob u=>obtain⟨e,_⟩:=x;exact OY e
 |tbl ps=>exact OY (show h.get? a=some _ from x)
 |met f y=>exact OY (show h.get? a=some _ from x)
 |ext φ=>obtain⟨_,⟨_,e⟩,_⟩:=x;exact OY e
theorem Paired.mapP{α β:Type}{F G:α->β->Prop}:∀{l₁:List α}{l₂:List β},Paired F l₁ l₂->(∀a b,F a b->G a b)->Paired G l₁ l₂
 |_,_,.nil,_=>.nil
 |_,_,.cons r t,f=>.cons (f _ _ r) (Paired.mapP t f)
theorem ObjOk.stay(x:ObjOk P w H h a o)(k:∀b u,(b=a\/H b=some (.own a))->h.get? b=some u->h'.get? b=some u)
  (ho:∀b,H b=some (.own a)->H' b=some (.own a)) (ht:∀b xs,H b=some (.tup xs)->H' b=some (.tup xs)):ObjOk P w H' h' a o:=by
 induction o with
 |lst xs=>obtain⟨z,Eg,n,r,e⟩:=x;exact⟨z,Eg,n,r,k _ _ (.inl rfl) e⟩
 |tup xs=>obtain⟨z,Eg,r,ob,e,c⟩:=x;exact⟨z,Eg,r,ob,k _ _ (.inl rfl) e,c⟩
 |dK kvs=>obtain⟨z,y,vs,r,ob,es,ep,e,c⟩:=x;exact⟨z,y,vs,r,ob,es,ep,k _ _ (.inl rfl) e,c⟩
 |dT kvs=>
  obtain⟨z,y,xs,r,ob,es,ep,e,c⟩:=x;exact⟨z,y,xs,Paired.mapP r fun p q z=>⟨z.1,ht _ _ z.2.1,z.2.2⟩,ob,es,ep,k _ _ (.inl rfl) e,c⟩
 |set S n=>obtain⟨ob,es,ep,t,e,c⟩:=x;exact⟨ob,es,ep,t,k _ _ (.inl rfl) e,c⟩
 |ins C dx fs=>
  obtain⟨d,z,ne,e,mA,⟨od,es,ep,e2,c⟩,r⟩:=x;exact⟨ho _ d,z,ne,k _ _ (.inl rfl) e,mA,⟨od,es,ep,k _ _ (.inr d) e2,c⟩,r⟩
 |own y=>obtain⟨ob,e⟩:=x;exact⟨ob,k _ _ (.inl rfl) e⟩
 |xd fs=>obtain⟨mA,⟨od,es,ep,e,c⟩,r⟩:=x;exact⟨mA,⟨od,es,ep,k _ _ (.inl rfl) e,c⟩,r⟩
 |rng lo hi=>obtain⟨t,u,v,e⟩:=x;exact⟨t,u,v,k _ _ (.inl rfl) e⟩
 |frz ob u ih=>obtain⟨e,q⟩:=x;exact⟨k _ _ (.inl rfl) e,ih q⟩
 |tbl ps=>
  have e:h.get? a=some {cls:=.none,data:=.fields ps}:=x;show h'.get? a=some {cls:=.none,data:=.fields ps};exact k a _ (.inl rfl) e
 |met f y=>
  have e:h.get? a=some (PySem.W.methodObj (.ref f) (.ref y)):=x;show h'.get? a=some (PySem.W.methodObj (.ref f) (.ref y));exact k a _ (.inl rfl) e
 |ext φ=>obtain⟨p,⟨o,e⟩,st⟩:=x;exact⟨st _ _ p fun o q=>k _ _ (.inl rfl) q,⟨o,k _ _ (.inl rfl) e⟩,st⟩
theorem HOk.lt(x:HOk P w H h)(e:H a=some o):a<h.objs.size:=(x a o e).lt
theorem HOk.fresh(x:HOk P w H h)(e:h.objs.size<=a):H a=none:=by
 cases q:H a with
 |none=>rfl
 |some u=>exact absurd (O4 (x.lt q) e) (QQ _)
theorem HOk.kept(x:HOk P w H h)(k:∀b u,h.get? b=some u->h'.get? b=some u):HOk P w H h':=fun a o e=>
 (x a o e).stay (fun b u _ q=>k b u q) (fun _ q=>q) fun _ _ q=>q
theorem HOk.laid(x:HOk P w H h)(k:∀b u,h.get? b=some u->h'.get? b=some u)(hp:h.objs.size<=a)(new:ObjOk P w (upd H a o) h' a o):HOk P w (upd H a o) h':=fun b u e=>by
 have hn:=x.fresh hp;by_cases hb:b=a
 ·subst hb;rw[aM]at e;cases e;exact new
 ·rw[ay hb]at e;exact(x b u e).stay (fun c v _ q=>k c v q) (fun c q=>by rw[ay (aP q hn)];exact q) fun c xs q=>by rw[ay (aP q hn)];exact q
end
def Rd(H:Hp)(a:Addr)(u:HO):Prop:=H a=some u\/∃o,H a=some (.frz o u)
theorem Rd.ok{P:Program}{w:World}{H:Hp}{h:Heap}{a:Addr}{u:HO}(r:Rd H a u)(x:HOk P w H h):ObjOk P w H h a u:=by
 rcases r with r|⟨o,r⟩
 ·exact x a u r
 ·obtain⟨_,q⟩:=x a _ r;exact q
def LB:Option HO->Prop
 |some (.lst _)=>True
 |some (.dK _)=>True
 |some (.dT _)=>True
 |some (.set _ _)=>True
 |some (.ins _ _ _)=>True
 |some (.ext _)=>True
 |_=>False
section
variable{P:Program}{w:World}{H:Hp}{h h':Heap}{x e:Addr}{o':HO}
theorem HOk.write(ok:HOk P w H h)(mu:LB (H x))(he:e=x\/H e=some (.own x))(k:∀b u,b≠e->h.get? b=some u->h'.get? b=some u)(Ll:∃u,h'.get? e=some u)
  (new:ObjOk P w (upd H x o') h' x o'):HOk P w (upd H x o') h':=fun b u q=>by
 have Ic:∀c y,H c=some (.own y)->c≠x:=fun c y r z=>by subst z;rw[r]at mu;exact mu
 have ntup:∀c xs,H c=some (.tup xs)->c≠x:=fun c xs r z=>by subst z;rw[r]at mu;exact mu
 by_cases hb:b=x
 ·subst hb;rw[aM]at q;cases q;exact new
 ·rw[ay hb]at q;by_cases hbe:b=e
  ·have q':H b=some (.own x):=by
    rcases he with z|z
    ·exact absurd (hbe.trans z) hb
    ·rw[hbe];exact z
   rw[q]at q';cases q';obtain⟨v,hv⟩:=Ll;exact⟨v,by rw[hbe];exact hv⟩
  ·refine(ok b u q).stay (fun c v hc r=>k c v ?_ r) (fun c r=>by rw[ay (Ic c b r)];exact r) fun c xs r=>by rw[ay (ntup c xs r)];exact r
   rcases hc with rfl|hc
   ·exact hbe
   ·rintro rfl;rcases he with z|z
    ·exact Ic c b hc z
    ·rw[hc]at z;cases z;exact hb rfl
end
structure Un(fs ex:List Addr)(H H':Hp)(h h':Heap):Prop where
 keep:∀b o,h.get? b=some o->H b=none->b∉fs->b∉ex->h'.get? b=some o
 slot:∀b o,h.get? b=some o->H b=none->b∈fs->b∉ex->∃sl,h'.get? b=some {o with slots:=sl}
 free:∀b o,h.get? b=some o->H b=none->b∉ex->H' b=none
 there:∀b o,h.get? b=some o->b∉ex->∃o',h'.get? b=some o'
 tups:∀b xs,H b=some (.tup xs)->H' b=some (.tup xs)
 frzs:∀b o u,H b=some (.frz o u)->H' b=some (.frz o u)
 tbls:∀b ps,H b=some (.tbl ps)->∃more,H' b=some (.tbl (ps++more))
section
variable{fs fs' ex ex':List Addr}{H H1 H2:Hp}{h h1 h2 h':Heap}{a x e:Addr}{o:HO}
theorem Un.any(u:Un fs ex H H1 h h1){b:Addr}{ob:Obj}(q:h.get? b=some ob)(n:H b=none)(hx:b∉ex):∃sl,h1.get? b=some {ob with slots:=sl}:=by
 by_cases hb:b∈fs
 ·exact u.slot b ob q n hb hx
 ·exact⟨ob.slots,u.keep b ob q n hb hx⟩
theorem Un.kept(k:∀b u,h.get? b=some u->h'.get? b=some u):Un fs ex H H h h':=
 ⟨fun b ob q _ _ _=>k b ob q,fun b ob q _ _ _=>⟨ob.slots,k b ob q⟩,fun _ _ _ n _=>n,fun b ob q _=>⟨ob,k b ob q⟩,fun _ _ q=>q,fun _ _ _ q=>q,fun _ ps q=>⟨#[],by rw[q];simp⟩⟩
theorem Un.refl:Un fs ex H H h h:=Un.kept fun _ _ q=>q
theorem Un.laid(k:∀b u,h.get? b=some u->h'.get? b=some u)(hp:h.objs.size<=a)(hn:H a=none):Un fs ex H (upd H a o) h h' where
 keep:=fun b u q _ _ _=>k b u q
 slot:=fun b u q _ _ _=>⟨u.slots,k b u q⟩
 free:=fun b u q n _=>by rw[ay (Pc (O4 (OY q) hp))];exact n
 there:=fun b u q _=>⟨u,k b u q⟩
 tups:=fun b xs q=>by rw[ay (aP q hn)];exact q
 frzs:=fun b u xs q=>by rw[ay (aP q hn)];exact q
 tbls:=fun b ps q=>⟨#[],by rw[ay (aP q hn),q];simp⟩
theorem Un.write(mu:LB (H x))(he:e=x\/H e=some (.own x))(k:∀b u,b≠e->h.get? b=some u->h'.get? b=some u)(Ll:∃u,h'.get? e=some u):Un fs ex H (upd H x o) h h':=by
 have hx:∀b,H b=none->b≠x:=fun b n z=>by subst z;rw[n]at mu;exact mu
 have hb:∀b,H b=none->b≠e:=fun b n z=>by
  subst z;rcases he with r|r
  ·exact hx b n r
  ·rw[n]at r;cases r
 have hm:∀b u,H b=some u->¬ LB (some u)->b≠x:=fun b u q nm z=>by subst z;rw[q]at mu;exact nm mu
 refine⟨fun b u q n _ _=>k b u (hb b n) q,fun b u q n _ _=>⟨u.slots,k b u (hb b n) q⟩,fun b u q n _=>by rw[ay (hx b n)];exact n,fun b u q _=>?_,
  fun b xs q=>by rw[ay (hm b _ q fun z=>z)];exact q,fun b u xs q=>by rw[ay (hm b _ q fun z=>z)];exact q,fun b ps q=>⟨#[],by rw[ay (hm b _ q fun z=>z),q];simp⟩⟩
 by_cases hbe:b=e
 ·subst hbe;exact Ll
 ·exact⟨u,k b u hbe q⟩
end
def trk(h:Heap)(H:Hp):List Addr:=(List.range h.objs.size).filter fun a=>(H a).isSome
def tG(h:Heap)(H:Hp):Heap:=PySem.W.hideAll h (trk h H)
theorem qm(h:Heap)(H:Hp):(tG h H).objs.size=h.objs.size:=PySem.W.hideAll_size _ _
theorem tH{h:Heap}{H:Hp}{b:Addr}{o:Obj}(e:h.get? b=some o)(n:H b=none):(tG h H).get? b=some o:=
 RH _ e fun hm=>by
  have q:(H b).isSome=true:=(List.mem_filter.mp hm).2;rw[n]at q;simp at q
theorem wC{h:Heap}{H:Hp}{b:Addr}{o:Obj}(e:(tG h H).get? b=some o):h.get? b=some o/\H b=none:=by
 have e':h.get? b=some o:=S6 (trk h H) e;refine⟨e',?_⟩;cases q:H b with
 |none=>rfl
 |some x=>
  have hm:b∈trk h H:=List.mem_filter.mpr ⟨PQ.mpr (OY e'),by simp[q]⟩;have z:(tG h H).get? b=none:=PySem.W.hideAll_none (trk h H) hm;rw[z]at e;cases e
def wD(g h:Heap)(L:Addr):List (Addr×Obj):=(List.range h.objs.size).filterMap fun a=>if a=L\/(g.get? a).isSome=true then none else(h.get? a).map fun o=>(a,o)
def dg(g h:Heap)(L d:Addr):List (Addr×Obj):=(wD g h L).filter fun p=>decide (p.1≠d)
structure Mod(K:W.Frag)(mg:Str->Option Value)(base:Heap):Prop where
 kin:K.In base
 glob:base.Ns mainGlobals mg
 blt:∃mb,base.Ns builtinsNs mb/\∀x:Str,x≠"__name__"->mb x=bootBuiltins x
 nolimit:base.NoLimit
structure Cx where
 prog:Program
 w:World
 K:W.Frag
 mg:Str->Option Value
 base:Heap
 A:Around
 N:List Str
 s₀:Shared
 H₀:Hp
 env:Env
 outer:List Env
 stack:List Env
 ex:List Addr
 fn:Str->Bool
 calm:Bool
 pn:List (Addr×Obj)
 xe:Value->Shared->Prop
def F6(l:List Env):List Addr:=l.filterMap (·.frame)
abbrev Cx.fs(X:Cx):List Addr:=F6 X.outer
def M4(sc:Scope)(x:Str):Prop:=sc.names.lookup x=some .local\/sc.names.lookup x=some .cell\/sc.names.lookup x=some .free
def Loc(sc:Scope)(x:Str):Prop:=sc.names.lookup x=some .local\/sc.names.lookup x=some .cell
def CV(sc:Scope)(x:Str):Bool:=match sc.names.lookup x with
 |some .local=>true
 |some .cell=>true
 |_=>false
theorem lo{sc:Scope}{x:Str}(h:CV sc x=true):Loc sc x:=by
 unfold CV at h;split at h
 ·exact .inl (by assumption)
 ·exact .inr (by assumption)
 ·cases h

def Dh(env:Env)(h:Heap)(m:Str->Option Value)(x:Str)(u:Value):Prop:=
 (env.kindOf x=some .local/\m x=some u)\/((env.kindOf x=some .cell\/env.kindOf x=some .free)/\∃c,env.cells.lookup x=some c/\h.IsCell c (some u))
structure Cx.Ok(X:Cx):Prop where
 mod:Mod X.K X.mg X.base
 kind:X.env.scope.kind=.function
 glob:X.env.globals=mainGlobals
 blt:X.env.builtins=builtinsNs
 above:X.s₀.heap.objs.size<=X.env.locals
 inj:∀x y c,X.env.cells.lookup x=some c->X.env.cells.lookup y=some c->x=y
 has:∀x,(X.env.kindOf x=some .cell\/X.env.kindOf x=some .free)->∃c,X.env.cells.lookup x=some c
 cab:∀x c,X.fn x=true->X.env.cells.lookup x=some c->X.s₀.heap.objs.size<=c
 hd:X.calm=true->X.A.handled=none
 frames:X.A.frames=some X.stack
 stk:X.stack=X.outer\/(X.stack=X.env::X.outer/\X.env.frame=some X.env.locals)
 exf:∀b∈X.ex,b≠X.env.locals/\∀x c,X.env.cells.lookup x=some c->c≠b
 bs:∀b o,X.base.get? b=some o->X.s₀.heap.get? b=some o/\X.H₀ b=none
 bsz:X.base.objs.size<=X.s₀.heap.objs.size
 noex:∀b o,X.base.get? b=some o->b∉X.ex
 exfs:∀b∈X.ex,b∉X.fs
 funs:X.s₀.heap.FunFrames X.base X.outer
 frf:∀b∈X.fs,X.H₀ b=none
structure Inv(X:Cx)(pr:List (Addr×Obj))(σ:List (Option V))(H:Hp)(s:Shared):Prop where
 ok:X.Ok
 os:s.os=X.s₀.os
 bare:AllBare s.gens
 base:Un X.fs X.ex X.H₀ H X.s₀.heap s.heap
 loc:∃m,s.heap.Ns X.env.locals m/\∀(i:Nat) (x:Str) (v:V),X.N[i]?=some x->σ[i]?=some (some v)->M4 X.env.scope x->∃u,RelV v u/\Dh X.env s.heap m x u
 cell:∀x c,X.env.cells.lookup x=some c->∃v,s.heap.IsCell c v
 free:H X.env.locals=none
 freeC:∀x c,X.env.cells.lookup x=some c->H c=none
 pin:∀p∈X.pn++pr,s.heap.get? p.1=some p.2/\H p.1=none/\p.1≠X.env.locals/\p.1∉X.fs/\∀v,p.2.data≠.cell v
 hok:HOk X.prog X.w H s.heap
 len:σ.length=X.N.length
section
variable{X:Cx}{pr:List (Addr×Obj)}{σ:List (Option V)}{H H':Hp}{s:Shared}{h':Heap}
theorem Cx.Ok.nofr(ok:X.Ok){b:Addr}{o:Obj}(e:X.base.get? b=some o):b∉X.fs:=fun hb=>by
 have:=(ok.funs.mem hb).1;rw[e]at this;cases this
theorem Inv.bs(I:Inv X pr σ H s):∀b o,X.base.get? b=some o->s.heap.get? b=some o/\H b=none:=fun b o e=>
 ⟨I.base.keep b o (I.ok.bs b o e).1 (I.ok.bs b o e).2 (I.ok.nofr e) (I.ok.noex b o e),I.base.free b o (I.ok.bs b o e).1 (I.ok.bs b o e).2 (I.ok.noex b o e)⟩
theorem Inv.bk(I:Inv X pr σ H s):∀b o,X.base.get? b=some o->s.heap.get? b=some o:=fun b o e=>(I.bs b o e).1
theorem Inv.mod(I:Inv X pr σ H s):Mod X.K X.mg X.base:=I.ok.mod
theorem Inv.kIn(I:Inv X pr σ H s):X.K.In s.heap:=I.ok.mod.kin.keeps I.bk
theorem Inv.lt(I:Inv X pr σ H s):X.env.locals<s.heap.objs.size:=let⟨_,hn,_⟩:=I.loc;hn.lt
theorem Inv.sz(I:Inv X pr σ H s):X.s₀.heap.objs.size<=s.heap.objs.size:=PB I.ok.above (Su I.lt)
theorem Inv.nofs(I:Inv X pr σ H s){a:Addr}(h:s.heap.objs.size<=a):a∉X.fs:=fun hb=>by
 obtain⟨_,o,ho,_⟩:=I.ok.funs.mem hb;exact absurd (O4 (OY ho) (PB I.sz h)) (QQ _)
theorem Inv.cne(I:Inv X pr σ H s):∀x c,X.env.cells.lookup x=some c->c≠X.env.locals:=fun x c e z=>by
 obtain⟨v,o,ho,hd⟩:=I.cell x c e;obtain⟨m,⟨o',es,ep,Ie,LC,_⟩,_⟩:=I.loc;rw[z,Ie]at ho;cases ho;rw[LC]at hd;cases hd
theorem Inv.funs(I:Inv X pr σ H s):s.heap.FunFrames X.base X.outer:=by
 have all:∀(l:List Env),(∀b∈F6 l,b∈X.fs)->X.s₀.heap.FunFrames X.base l->s.heap.FunFrames X.base l:=by
  intro l;induction l with
  |nil=>intro _ _;trivial
  |cons env r ih=>
   intro hs hl;obtain⟨hk,⟨L,o,hf,hn,ho,hd⟩,hr⟩:=hl;have hL:L∈X.fs:=hs L (by unfold F6;rw[RI,hf];exact OX);obtain⟨sl,e⟩:=I.base.slot L o ho (I.ok.frf L hL) hL fun z=>I.ok.exfs L z hL
   exact⟨hk,⟨L,_,hf,hn,e,hd⟩,ih (fun b hb=>hs b (by unfold F6;rw[RI,hf];exact O7 _ hb)) hr⟩
 exact all X.outer (fun _ hb=>hb) I.ok.funs
theorem Inv.stack(I:Inv X pr σ H s):s.heap.FunFrames X.base X.stack:=by
 rcases I.ok.stk with e|⟨e,hf⟩
 ·rw[e];exact I.funs
 ·rw[e];obtain⟨m,hn,_⟩:=I.loc;refine .cons (by rw[I.ok.kind];decide) hf hn ?_ I.funs;exact Heap.get?_none_of_le (PB I.ok.bsz I.ok.above)
theorem Inv.stkSub(I:Inv X pr σ H s):∀b∈F6 X.stack,b∈X.env.locals::X.fs:=fun b hb=>by
 rcases I.ok.stk with e|⟨e,hf⟩
 ·rw[e]at hb;exact O7 _ hb
 ·rw[e]at hb;unfold F6 at hb;rw[RI,hf]at hb;exact hb
theorem Inv.stkFree(I:Inv X pr σ H s):∀b∈F6 X.stack,H b=none:=fun b hb=>by
 rcases O6.mp (I.stkSub b hb) with e|hb
 ·rw[e];exact I.free
 ·obtain⟨_,o,ho,_⟩:=I.ok.funs.mem hb;exact I.base.free b o ho (I.ok.frf b hb) fun z=>I.ok.exfs b z hb
theorem Inv.step{g':Array GenState}{t':Nat}{d':Drawn}{ch:List Addr}(I:Inv X pr σ H s)
  (Iv:∀b∈ch,(b∈X.ex\/X.s₀.heap.objs.size<=b)/\b≠X.env.locals/\(∀x c,X.env.cells.lookup x=some c->c≠b)/\∀p∈X.pn++pr,p.1≠b)
  (keep:∀b o,b≠X.env.locals->b∉X.fs->b∉ch->s.heap.get? b=some o->H b=none->h'.get? b=some o)
  (slot:∀b o,b≠X.env.locals->b∈X.fs->b∉ch->s.heap.get? b=some o->H b=none->∃sl,h'.get? b=some {o with slots:=sl}) (free:∀b o,b∉ch->s.heap.get? b=some o->H b=none->H' b=none)
  (there:∀b o,b∉ch->s.heap.get? b=some o->∃o',h'.get? b=some o')
  (tups:∀b xs,H b=some (.tup xs)->H' b=some (.tup xs)) (frzs:∀b o u,H b=some (.frz o u)->H' b=some (.frz o u)) (tbls:∀b ps,H b=some (.tbl ps)->∃more,H' b=some (.tbl (ps++more)))
  (ns:∀m,s.heap.Ns X.env.locals m->h'.Ns X.env.locals m) (hok:HOk X.prog X.w H' h') (hg:AllBare g'):
  Inv X pr σ H' {s with heap:=h',gens:=g',drawn:=d',toks:=t'}:=by
 have N3:∀b o,X.s₀.heap.get? b=some o->b≠X.env.locals:=fun b o e=>Pc (O4 (OY e) I.ok.above)
 have MC:∀b o,X.s₀.heap.get? b=some o->b∉X.ex->b∉ch:=fun b o e hx hb=>by
  rcases(Iv b hb).1 with z|z
  ·exact hx z
  ·exact absurd (O4 (OY e) z) (QQ _)
 have cellK:∀x c,X.env.cells.lookup x=some c->∀v,s.heap.IsCell c v->h'.IsCell c v:=fun x c e v Er=>by
  obtain⟨o,ho,hd⟩:=Er;have LD:c∉ch:=fun z=>(Iv c z).2.2.1 x c e rfl
  by_cases hc:c∈X.fs
  ·obtain⟨sl,q⟩:=slot c o (I.cne x c e) hc LD ho (I.freeC x c e);exact⟨_,q,hd⟩
  ·exact⟨o,keep c o (I.cne x c e) hc LD ho (I.freeC x c e),hd⟩
 refine⟨I.ok,I.os,hg,⟨fun b o e n hb hx=>?_,fun b o e n hb hx=>?_,fun b o e n hx=>?_,fun b o e hx=>?_,fun b xs e=>tups b xs (I.base.tups b xs e),fun b o xs e=>frzs b o xs (I.base.frzs b o xs e),fun b ps e=>?_⟩,?_,fun x c e=>?_,?_,fun x c e=>?_,fun p hp=>?_,hok,I.len⟩
 ·exact keep b o (N3 b o e) hb (MC b o e hx) (I.base.keep b o e n hb hx) (I.base.free b o e n hx)
 ·obtain⟨sl,e1⟩:=I.base.slot b o e n hb hx;obtain⟨sl',e2⟩:=slot b _ (N3 b o e) hb (MC b o e hx) e1 (I.base.free b o e n hx);exact⟨sl',e2⟩
 ·obtain⟨o',e1⟩:=I.base.there b o e hx;exact free b o' (MC b o e hx) e1 (I.base.free b o e n hx)
 ·obtain⟨o',e1⟩:=I.base.there b o e hx;exact there b o' (MC b o e hx) e1
 ·obtain⟨m1,e1⟩:=I.base.tbls b ps e;obtain⟨m2,e2⟩:=tbls b _ e1;exact⟨m1++m2,by rw[e2,Array.append_assoc]⟩
 ·obtain⟨m,hn,hl⟩:=I.loc;refine⟨m,ns m hn,fun i x v e1 e2 e3=>?_⟩;obtain⟨u,r,l⟩:=hl i x v e1 e2 e3;refine⟨u,r,?_⟩;rcases l with l|⟨k,c,e,z⟩
  ·exact .inl l
  ·exact .inr ⟨k,c,e,cellK x c e _ z⟩
 ·obtain⟨v,z⟩:=I.cell x c e;exact⟨v,cellK x c e v z⟩
 ·obtain⟨m,⟨o,_,_,ho,_⟩,_⟩:=I.loc;exact free _ o (fun z=>(Iv _ z).2.1 rfl) ho I.free
 ·obtain⟨v,o,ho,hd⟩:=I.cell x c e;exact free c o (fun z=>(Iv c z).2.2.1 x c e rfl) ho (I.freeC x c e)
 ·obtain⟨e,n,ne,nf,d⟩:=I.pin p hp;have LD:p.1∉ch:=fun z=>(Iv p.1 z).2.2.2 p hp rfl
  exact⟨keep p.1 p.2 ne nf LD e n,free p.1 p.2 LD e n,ne,nf,d⟩
theorem Inv.un{t':Nat}(I:Inv X pr σ H s)(u:Un X.fs [] H H' s.heap h')(hok:HOk X.prog X.w H' h'):Inv X pr σ H' {s with heap:=h',toks:=t'}:=by
 obtain⟨m,⟨o,es,ep,ho,r⟩,_⟩:=id I.loc;obtain⟨sl,hL⟩:=u.any ho I.free (by simp);exact I.step (g':=s.gens) (d':=s.drawn) (ch:=[]) (fun _ z=>nomatch z) (fun b o _ hb _ e n=>u.keep b o e n hb (by simp)) (fun b o _ hb _ e n=>u.slot b o e n hb (by simp)) (fun b o _ e n=>u.free b o e n (by simp)) (fun b o _ e=>u.there b o e (by simp)) u.tups u.frzs u.tbls (fun m' hm=>by
  obtain⟨o',Kf,M5,Ie,r'⟩:=hm;rw[ho]at Ie;cases Ie;exact⟨_,Kf,M5,hL,r'⟩) hok I.bare
theorem Inv.call{g':Array GenState}{t':Nat}{d':Drawn}{ch:List Addr}(I:Inv X pr σ H s)(u:Un (F6 X.stack) ch H H' s.heap h')(hok:HOk X.prog X.w H' h')(hg:AllBare g')
  (Iv:∀b∈ch,(b∈X.ex\/X.s₀.heap.objs.size<=b)/\b≠X.env.locals/\(∀x c,X.env.cells.lookup x=some c->c≠b)/\∀p∈X.pn++pr,p.1≠b):
  Inv X pr σ H' {s with heap:=h',gens:=g',drawn:=d',toks:=t'}:=by
 obtain⟨m,⟨o,es,ep,ho,r⟩,_⟩:=id I.loc;obtain⟨sl,hL⟩:=u.any ho I.free fun z=>(Iv _ z).2.1 rfl
 exact I.step (ch:=ch) Iv (fun b o hL hb hc e n=>u.keep b o e n (fun z=>(O6.mp (I.stkSub b z)).elim hL hb) hc) (fun b o _ _ hc e n=>u.any e n hc) (fun b o hc e n=>u.free b o e n hc) (fun b o hc e=>u.there b o e hc) u.tups u.frzs u.tbls (fun m' hm=>by
  obtain⟨o',Kf,M5,Ie,r'⟩:=hm;rw[ho]at Ie;cases Ie;exact⟨_,Kf,M5,hL,r'⟩) hok hg
theorem Inv.turned{t':Nat}{it:Addr}(I:Inv X pr σ H s)(k:∀b o,b≠it->s.heap.get? b=some o->h'.get? b=some o)(hn:H it=none)(hL:it≠X.env.locals)
  (h1:it∈X.ex\/X.s₀.heap.objs.size<=it) (h2:∀x c,X.env.cells.lookup x=some c->c≠it) (h3:∀p∈X.pn++pr,p.1≠it):Inv X pr σ H {s with heap:=h',toks:=t'}:=by
 have N4:∀b u,H b=some u->b≠it:=fun b u e z=>by rw[z,hn]at e;cases e
 refine I.step (g':=s.gens) (d':=s.drawn) (ch:=[it]) (fun b hb=>?_) (fun b o _ _ hc e _=>k b o (fun z=>hc (by simp[z])) e) (fun b o _ _ hc e _=>⟨o.slots,k b o (fun z=>hc (by simp[z])) e⟩) (fun _ _ _ _ n=>n)
  (fun b o hc e=>⟨o,k b o (fun z=>hc (by simp[z])) e⟩) (fun _ _ e=>e) (fun _ _ _ e=>e) (fun b ps e=>⟨#[],by rw[e];simp⟩) (fun m hm=>?_) (fun b u e=>?_) I.bare
 ·have e:b=it:=by simpa using hb
  subst e;exact⟨h1,hL,h2,h3⟩
 ·obtain⟨o,es,ep,ho,r⟩:=hm;exact⟨o,es,ep,k _ o (QR hL) ho,r⟩
 ·refine(I.hok b u e).stay (fun c v hc q=>k c v ?_ q) (fun _ q=>q) fun _ _ q=>q
  rcases hc with z|z
  ·rw[z];exact N4 b u e
  ·exact N4 c _ z
theorem Inv.tok(I:Inv X pr σ H s)(t:Nat):Inv X pr σ H {s with toks:=t}:=I.un (h':=s.heap) (t':=t) Un.refl I.hok
theorem Inv.kept{t':Nat}(I:Inv X pr σ H s)(k:∀b u,s.heap.get? b=some u->h'.get? b=some u):Inv X pr σ H {s with heap:=h',toks:=t'}:=I.un (Un.kept k) (I.hok.kept k)
theorem Inv.laid{a:Addr}{o:HO}{t':Nat}(I:Inv X pr σ H s)(k:∀b u,s.heap.get? b=some u->h'.get? b=some u)(hp:s.heap.objs.size<=a)(new:ObjOk X.prog X.w (upd H a o) h' a o):
  Inv X pr σ (upd H a o) {s with heap:=h',toks:=t'}:=I.un (Un.laid k hp (I.hok.fresh hp)) (I.hok.laid k hp new)
theorem Inv.write{x e:Addr}{o:HO}{t':Nat}(I:Inv X pr σ H s)(mu:LB (H x))(he:e=x\/H e=some (.own x))(k:∀b u,b≠e->s.heap.get? b=some u->h'.get? b=some u)(Ll:∃u,h'.get? e=some u)
  (new:ObjOk X.prog X.w (upd H x o) h' x o):Inv X pr σ (upd H x o) {s with heap:=h',toks:=t'}:=I.un (Un.write mu he k Ll) (I.hok.write mu he k Ll new)
theorem Inv.pins_of{J3:List (Addr×Obj)}(I:Inv X pr σ H s)(h:∀p∈J3,s.heap.get? p.1=some p.2/\H p.1=none/\p.1≠X.env.locals/\p.1∉X.fs/\∀v,p.2.data≠.cell v):Inv X J3 σ H s:=
 ⟨I.ok,I.os,I.bare,I.base,I.loc,I.cell,I.free,I.freeC,fun p hp=>(Pj.mp hp).elim (fun z=>I.pin p (O3 _ z)) (h p),I.hok,I.len⟩
theorem oC{N:List Str}(hN:N.Nodup){i j:Nat}{x:Str}(a:N[i]?=some x)(b:N[j]?=some x):i=j:=by
 obtain⟨h1,e1⟩:=List.getElem?_eq_some_iff.mp a;obtain⟨h2,e2⟩:=List.getElem?_eq_some_iff.mp b;exact(List.getElem_inj hN).mp (e1.trans e2.symm)
theorem lO{M:Model}{A:Around}{E:Value->Shared->Prop}{i:Nat}{x:Str}{v:V}{u:Value}{Q:Unit->Shared->Prop}(I:Inv X pr σ H s)(hN:X.N.Nodup)(hi:X.N[i]?=some x)(hx:Loc X.env.scope x)(r:RelV v u)
  (h:∀s',Inv X pr (σ.set i (some v)) H s'->(∃a,Heap.SameBut a s.heap s'.heap/\(a=X.env.locals\/X.env.cells.lookup x=some a))->Q () s') (hf:X.fn x=true\/X.env.scope.names.lookup x=some .local:=by first|exact .inl rfl|exact .inr rfl|assumption):wpAny M A (storeName X.env x u) Q E s:=by
 obtain⟨m,hn,hl⟩:=id I.loc;have hcls:(X.env.scope.kind==.class||(X.env.scope.kind==.module&&X.env.locals != X.env.globals))=false:=by rw[I.ok.kind];rfl
 have hiσ:i<σ.length:=by rw[I.len];exact(List.getElem?_eq_some_iff.mp hi).1
 have cne:=I.cne;have tracked:∀{a:Addr}{h':Heap},(∃o,s.heap.get? a=some o/\H a=none)->Heap.SameBut a s.heap h'->HOk X.prog X.w H h':=fun{a h'} ha hs b ob e=>by
  obtain⟨_,_,J4⟩:=ha;refine(I.hok b ob e).stay (fun c w' hc q=>(hs.2 c ?_).trans q) (fun _ q=>q) fun _ _ q=>q
  rintro rfl;rcases hc with rfl|hc
  ·rw[J4]at e;cases e
  ·rw[J4]at hc;cases hc
 rcases hx with hk|hk
 ·refine wpAny_storeName_local hk hn (fun h' hn' hs=>?_) hcls;obtain⟨oL,_,_,hoL,_⟩:=id hn;refine h _ ⟨I.ok,I.os,I.bare,⟨fun b o e n hb hx=>?_,fun b o e n hb hx=>?_,I.base.free,fun b o e hx=>?_,I.base.tups,I.base.frzs,I.base.tbls⟩,⟨_,hn',fun j y v' e1 e2 e3=>?_⟩,fun y c e=>?_,I.free,I.freeC,fun p hp=>?_,tracked ⟨oL,hoL,I.free⟩ hs,by simpa using I.len⟩ ⟨_,hs,.inl rfl⟩
  ·exact(hs.2 b (Pc (O4 (OY e) I.ok.above))).trans (I.base.keep b o e n hb hx)
  ·obtain⟨sl,e1⟩:=I.base.slot b o e n hb hx;exact⟨sl,(hs.2 b (Pc (O4 (OY e) I.ok.above))).trans e1⟩
  ·obtain⟨o',e1⟩:=I.base.there b o e hx;exact⟨o',(hs.2 b (Pc (O4 (OY e) I.ok.above))).trans e1⟩
  ·by_cases hj:j=i
   ·subst hj;rw[hi]at e1;cases e1;rw[List.getElem?_set_self hiσ]at e2;cases e2;exact⟨u,r,.inl ⟨hk,by simp⟩⟩
   ·rw[List.getElem?_set_ne (QR hj)]at e2;obtain⟨u',r',q⟩:=hl j y v' e1 e2 e3;refine⟨u',r',?_⟩;rcases q with⟨k,e⟩|⟨k,c,e,z⟩
    ·refine .inl ⟨k,?_⟩;have:y≠x:=fun e=>hj (oC hN e1 (e▸hi))
     simp[this,e]
    ·exact .inr ⟨k,c,e,z.sameBut hs (cne y c e)⟩
  ·obtain⟨w',z⟩:=I.cell y c e;exact⟨w',z.sameBut hs (cne y c e)⟩
  ·obtain⟨e,n,ne,nf,d⟩:=I.pin p hp;exact⟨(hs.2 p.1 ne).trans e,n,ne,nf,d⟩
 ·have Kg:X.fn x=true:=by
   rcases hf with z|z
   ·exact z
   ·rw[z]at hk;cases hk
  obtain⟨c,hc⟩:=I.ok.has x (.inl hk);obtain⟨w',z⟩:=I.cell x c hc;refine wpAny_storeName_cell I.ok.kind hk hc z (fun h' MD hs=>?_);obtain⟨oc,N5,hocd⟩:=id z;refine h {s with heap:=h'} ⟨I.ok,I.os,I.bare,⟨fun b o e n hb hx=>?_,fun b o e n hb hx=>?_,I.base.free,fun b o e hx=>?_,I.base.tups,I.base.frzs,I.base.tbls⟩,⟨m,hn.sameBut hs (QR (cne x c hc)),fun j y v' e1 e2 e3=>?_⟩,fun y c' e=>?_,I.free,I.freeC,fun p hp=>?_,tracked ⟨oc,N5,I.freeC x c hc⟩ hs,by simpa using I.len⟩ ⟨c,hs,.inr hc⟩
  ·exact(hs.2 b (Pc (O4 (OY e) (I.ok.cab x c Kg hc)))).trans (I.base.keep b o e n hb hx)
  ·obtain⟨sl,e1⟩:=I.base.slot b o e n hb hx;exact⟨sl,(hs.2 b (Pc (O4 (OY e) (I.ok.cab x c Kg hc)))).trans e1⟩
  ·obtain⟨o',e1⟩:=I.base.there b o e hx;exact⟨o',(hs.2 b (Pc (O4 (OY e) (I.ok.cab x c Kg hc)))).trans e1⟩
  ·by_cases hj:j=i
   ·subst hj;rw[hi]at e1;cases e1;rw[List.getElem?_set_self hiσ]at e2;cases e2;exact⟨u,r,.inr ⟨.inl hk,c,hc,MD⟩⟩
   ·rw[List.getElem?_set_ne (QR hj)]at e2;obtain⟨u',r',q⟩:=hl j y v' e1 e2 e3;refine⟨u',r',?_⟩;rcases q with q|⟨k,c',e,z'⟩
    ·exact .inl q
    ·refine .inr ⟨k,c',e,z'.sameBut hs ?_⟩;rintro rfl;exact hj (oC hN e1 (I.ok.inj _ _ _ e hc▸hi))
  ·by_cases hcc:c'=c
   ·subst hcc;exact⟨_,MD⟩
   ·obtain⟨w2,z2⟩:=I.cell y c' e;exact⟨w2,z2.sameBut hs hcc⟩
  ·obtain⟨e,n,ne,nf,d⟩:=I.pin p hp;refine⟨(hs.2 p.1 ?_).trans e,n,ne,nf,d⟩;intro q;rw[q,N5]at e;have q':oc=p.2:=Pn e;exact d w' (by rw[<-q'];exact hocd)
theorem oD{M:Model}{A:Around}{E:Value->Shared->Prop}{i:Nat}{x:Str}{v:V}{u:Value}{Q:Unit->Shared->Prop}(I:Inv X pr σ H s)(hN:X.N.Nodup)(hi:X.N[i]?=some x)(hx:Loc X.env.scope x)(r:RelV v u)
  (h:∀s',Inv X pr (σ.set i (some v)) H s'->Q () s') (hf:X.fn x=true\/X.env.scope.names.lookup x=some .local:=by first|exact .inl rfl|exact .inr rfl|assumption):wpAny M A (storeName X.env x u) Q E s:=
 lO I hN hi hx r (fun s' I' _=>h s' I') hf
theorem Inv.call'{s':Shared}{ch:List Addr}(I:Inv X pr σ H s)(ho:s'.os=s.os)(u:Un (F6 X.stack) ch H H' s.heap s'.heap)(hok:HOk X.prog X.w H' s'.heap)(hg:AllBare s'.gens)
  (Iv:∀b∈ch,(b∈X.ex\/X.s₀.heap.objs.size<=b)/\b≠X.env.locals/\(∀x c,X.env.cells.lookup x=some c->c≠b)/\∀p∈X.pn++pr,p.1≠b):Inv X pr σ H' s':=by
 obtain⟨h',g',d',t',o'⟩:=s';have e:o'=s.os:=ho;subst e;exact I.call (g':=g') (t':=t') (d':=d') u hok hg Iv
end
abbrev XK:=Value->Option Addr->Hp->Prop
abbrev St:=List (Option V)
abbrev VK:=V->Hp->Prop
abbrev TE:=St->Hp->VK->Prop
abbrev TT:=St->Hp->(Bool->Hp->Prop)->Prop
abbrev TA:=St->Hp->(List V->Hp->Prop)->Prop
structure Ends where
 nx:St->Hp->Prop
 rt:VK
 bk:St->Hp->Prop:=fun _ _=>False
 ct:St->Hp->Prop:=fun _ _=>False
abbrev TS:=Ends->St->Hp->Prop
def EP(X:Cx)(pr:List (Addr×Obj))(σ:St)(Q:VK)(u:Value)(s':Shared):Prop:=∃v H',Inv X pr σ H' s'/\RelV v u/\Q v H'
def TP(X:Cx)(pr:List (Addr×Obj))(σ:St)(Q:Bool->Hp->Prop)(b:Bool)(s':Shared):Prop:=∃H',Inv X pr σ H' s'/\Q b H'
def AP(X:Cx)(pr:List (Addr×Obj))(σ:St)(Q:List V->Hp->Prop)(us:List Value)(s':Shared):Prop:=∃vs H',Inv X pr σ H' s'/\Vals vs us/\Q vs H'
def SP(X:Cx)(pr:List (Addr×Obj))(D:Ends)(f:Flow)(s':Shared):Prop:=
 match f with
 | .next=>∃σ' H',Inv X pr σ' H' s'/\D.nx σ' H'
 | .brk=>∃σ' H',Inv X pr σ' H' s'/\D.bk σ' H'
 | .cont=>∃σ' H',Inv X pr σ' H' s'/\D.ct σ' H'
 | .ret u=>∃v σ' H',Inv X pr σ' H' s'/\RelV v u/\D.rt v H'
def PE(X:Cx)(e:Expr)(t:TE):Prop:=
 ∀(pr:List (Addr×Obj)) (s:Shared) (σ:St) (H:Hp) (Q:VK),Inv X pr σ H s->t σ H Q->wpAny (model X.prog X.w) X.A (eval e X.env) (EP X pr σ Q) X.xe s
def PT(X:Cx)(e:Expr)(t:TT):Prop:=
 ∀(pr:List (Addr×Obj)) (s:Shared) (σ:St) (H:Hp) (Q:Bool->Hp->Prop),Inv X pr σ H s->t σ H Q->wpAny (model X.prog X.w) X.A (isTrue e X.env (eval e X.env)) (TP X pr σ Q) X.xe s
def PW(X:Cx)(e:Expr)(t:TT):Prop:=
 ∀(whole:Sem Value) (pr:List (Addr×Obj)) (s:Shared) (σ:St) (H:Hp) (Q:Bool->Hp->Prop),Inv X pr σ H s->t σ H Q->wpAny (model X.prog X.w) X.A (isTrue e X.env whole) (TP X pr σ Q) X.xe s
theorem PW.pt{X:Cx}{e:Expr}{t:TT}(h:PW X e t):PT X e t:=h _
def PA(X:Cx)(es:List Expr)(t:TA):Prop:=
 ∀(pos:Pos) (pr:List (Addr×Obj)) (s:Shared) (σ:St) (H:Hp) (Q:List V->Hp->Prop),Inv X pr σ H s->t σ H Q->wpAny (model X.prog X.w) X.A (spliced (backTo pos (starEach es X.env))) (AP X pr σ Q) X.xe s
def PS(X:Cx)(st:Stmt)(t:TS):Prop:=
 ∀(pr:List (Addr×Obj)) (s:Shared) (σ:St) (H:Hp) (D:Ends),Inv X pr σ H s->t D σ H->wpAny (model X.prog X.w) X.A (exec st X.env) (SP X pr D) X.xe s
def PSs(X:Cx)(st:List Stmt)(t:TS):Prop:=
 ∀(pr:List (Addr×Obj)) (s:Shared) (σ:St) (H:Hp) (D:Ends),Inv X pr σ H s->t D σ H->wpAny (model X.prog X.w) X.A (execs st X.env) (SP X pr D) X.xe s
theorem Ey{α:Type}{t:Sem α}{Q Q':α->Shared->Prop}{M:Model}{A:Around}{E:Value->Shared->Prop}{s:Shared}(h:wpAny M A t Q E s)(hQ:∀a s,Q a s->Q' a s):wpAny M A t Q' E s:=PH h hQ fun _ _ x=>x
section
variable{X:Cx}
theorem bin{a b:Expr}{ta tb:TE}(ha:PE X a ta)(hb:PE X b tb){pr:List (Addr×Obj)}{s:Shared}{σ:St}{H:Hp}{R:V->V->Hp->Prop}(I:Inv X pr σ H s)(h:ta σ H fun x H1=>tb σ H1 fun y H2=>R x y H2)
  {α:Type}{Q:α->Shared->Prop}{f:Value->Value->Sem α}
  (hf:∀v u s2 x y H2,Inv X pr σ H2 s2->RelV x v->RelV y u->R x y H2->wpAny (model X.prog X.w) X.A (f v u) Q X.xe s2):
  wpAny (model X.prog X.w) X.A (eval a X.env) (fun v s₁=>wpAny (model X.prog X.w) X.A (eval b X.env) (fun u s₂=>wpAny (model X.prog X.w) X.A (f v u) Q X.xe s₂) X.xe s₁) X.xe s:=by
 refine Ey (ha pr s σ H _ I h) fun v s1 Ez=>?_
 obtain⟨x,H1,I1,r1,q1⟩:=Ez;refine Ey (hb pr s1 σ H1 _ I1 q1) fun u s2 Ez=>?_
 obtain⟨y,H2,I2,r2,q2⟩:=Ez;exact hf v u s2 x y H2 I2 r1 r2 q2
def ny(i:Nat):TE:=fun σ H Q=>∃v,σ[i]?=some (some v)/\Q v H
def tC(v:V):TE:=fun _ H Q=>Q v H
theorem y0{i:Nat}{x:Str}{pos:Pos}(hN:X.N[i]?=some x)(hv:M4 X.env.scope x)(hd:(x==("__debug__" : Str))=false:=by decide)(GU:(x==("__classdict__" : Str))=false:=by decide):PE X (.Name x pos) (ny i):=by
 intro pr s σ H Q I h;obtain⟨v,e,h⟩:=h;obtain⟨m,hn,hl⟩:=I.loc;obtain⟨u,r,l⟩:=hl i x v hN e hv;have fin:EP X pr σ Q u s:=⟨v,H,I,r,h⟩
 rcases l with⟨hk,hm⟩|⟨hk,c,hc,E2⟩
 ·exact wpAny_Name (wpAny_loadName_local I.ok.kind hk hn hm fin) hd
 ·rcases hk with hk|hk
  ·exact wpAny_Name (wpAny_loadName_cell I.ok.kind hk hc E2 fin) hd
  ·exact wpAny_Name (wpAny_loadName_free I.ok.kind hk hc E2 fin GU) hd
theorem jg{i j pos}:PE X (.Constant (.int i) j pos) (tC (.int i)):=fun _ _ _ H _ I h=>wpAny_Constant_int ⟨.int i,H,I.tok _,⟨_,rfl⟩,h⟩
theorem BK{b j pos}:PE X (.Constant (.bool b) j pos) (tC (.bl b)):=fun _ _ _ H _ I h=>Constant_bool ⟨.bl b,H,I,rfl,h⟩
theorem y3{j pos}:PE X (.Constant .none j pos) (tC .non):=fun _ _ _ H _ I h=>Constant_none ⟨.non,H,I,rfl,h⟩
theorem y4{x j pos}:PE X (.Constant (.str x) j pos) (tC (.str x)):=fun _ _ _ H _ I h=>Calls.Constant_str ⟨.str x,H,I.tok _,⟨_,rfl⟩,h⟩
def Gl(X:Cx)(x:Str):Prop:=X.env.kindOf x=some .globalImplicit
theorem jh{E:Value->Shared->Prop}{pr:List (Addr×Obj)}{s:Shared}{σ:St}{H:Hp}{x:Str}{u:Value}{pos:Pos}{Q:Value->Shared->Prop}(I:Inv X pr σ H s)(hg:Gl X x)(hm:X.mg x=some u)(h:Q u s)
  (hd:(x==("__debug__" : Str))=false:=by decide):wpAny (model X.prog X.w) X.A (eval (.Name x pos) X.env) Q E s:=
 RO I.ok.kind hg (Calls.loadGlobal_global (by rw[I.ok.glob];exact I.mod.glob.keeps I.bk) hm h) hd
theorem lP{E:Value->Shared->Prop}{pr:List (Addr×Obj)}{s:Shared}{σ:St}{H:Hp}{x:Str}{u:Value}{pos:Pos}{Q:Value->Shared->Prop}(I:Inv X pr σ H s)(hg:Gl X x)(hm:X.mg x=none)(hv:bootBuiltins x=some u)(h:Q u s)
  (hn:x≠"__name__":=by decide) (hd:(x==("__debug__" : Str))=false:=by decide):wpAny (model X.prog X.w) X.A (eval (.Name x pos) X.env) Q E s:=by
 obtain⟨mb,h1,h2⟩:=I.mod.blt;exact RO I.ok.kind hg (Calls.loadGlobal_builtin (by rw[I.ok.glob];exact I.mod.glob.keeps I.bk) hm (by rw[I.ok.blt];exact h1.keeps I.bk) ((h2 x hn).trans hv) h) hd
theorem wF{x:Str}{v:V}{u:Value}{pos:Pos}(hg:Gl X x)(hm:X.mg x=some u)(r:RelV v u)(hd:(x==("__debug__" : Str))=false:=by decide):PE X (.Name x pos) (tC v):=
 fun _ _ _ H _ I h=>jh I hg hm ⟨v,H,I,r,h⟩ hd
theorem wG{x:Str}{v:V}{u:Value}{pos:Pos}(hg:Gl X x)(hm:X.mg x=none)(hv:bootBuiltins x=some u)(r:RelV v u)(hn:x≠"__name__":=by decide)(hd:(x==("__debug__" : Str))=false:=by decide):PE X (.Name x pos) (tC v):=
 fun _ _ _ H _ I h=>lP I hg hm hv ⟨v,H,I,r,h⟩ hn hd
variable{a b:Expr}{ta tb:TE}{pos:Pos}
def PC(X:Cx)(op:CmpOp)(a b:Expr)(t:TE):Prop:=
 ∀(pr:List (Addr×Obj)) (s:Shared) (σ:St) (H:Hp) (Q:VK),Inv X pr σ H s->t σ H Q->
  wpAny (model X.prog X.w) X.A (eval a X.env) (fun v s₁=>wpAny (model X.prog X.w) X.A (eval b X.env) (fun u s₂=>wpAny (model X.prog X.w) X.A (compareOp op v u) (EP X pr σ Q) X.xe s₂) X.xe s₁) X.xe s
theorem tI(b:Expr){op:CmpOp}(h:op≠.In)(h2:op≠.NotIn):behindInMarks op b=false:=by
 have e1:(op==CmpOp.In)=false:=by cases op <;> first|rfl|exact absurd rfl h
 have e2:(op==CmpOp.NotIn)=false:=by cases op <;> first|rfl|exact absurd rfl h2
 cases b <;> simp[behindInMarks,e1,e2]
def tB(t:TE):TT:=fun σ H Q=>t σ H fun x H1=>∃c,x=.bl c/\Q c H1
theorem CW{op:CmpOp}{t:TE}(h:PC X op a b t)(h1:behindInMarks op b=false:=by first|exact tI _ (by decide) (by decide)|rfl):PT X (.Compare a [op] [b] pos) (tB t):=by
 intro pr s σ H Q I hw;refine wpAny_isTrue_Compare1 (Ey (h pr s σ H _ I hw) fun v s1 h1=>Ey h1 fun u s2 h2=>Ey h2 fun c s3 ⟨x,H1,I1,r1,q1⟩=>?_) h1;obtain⟨d,rfl,q⟩:=q1;cases r1;exact P7 ⟨H1,I1,q⟩
theorem y6{e:Expr}{t:TE}(h:PE X e t)(he:∀whole,isTrue e X.env whole=(do let v <-whole;standAt e.pos;holding [v] (truthy v)):=by intro _;rfl):PT X e (tB t):=by
 intro pr s σ H Q I hw;refine isTrue_plain (Ey (h pr s σ H _ I hw) fun v s1 ⟨x,H1,I1,r1,q1⟩=>?_) (he _);obtain⟨d,rfl,q⟩:=q1;cases r1;exact P7 ⟨H1,I1,q⟩
variable{tA N6:TT}{dg:List Expr}
def tOr(t u:TT):TT:=fun σ H Q=>t σ H fun c H1=>if c=true then Q true H1 else u σ H1 Q
def Di(t:TT):TT:=fun σ H Q=>t σ H fun c H1=>Q (!c) H1
theorem y7(ha:PT X a tA):PW X (.BoolOp .Or [a] pos) tA:=by
 intro wh pr s σ H Q I h;refine isTrue_or (Ey (ha pr s σ H Q I h) fun c s1 e=>?_);cases c with
 |false=>exact isTrue_or_nil e
 |true=>exact e
theorem BL(ha:PT X a tA)(hb:PW X (.BoolOp .Or (b::dg) pos) N6):PW X (.BoolOp .Or (a::b::dg) pos) (tOr tA N6):=by
 intro wh pr s σ H Q I h;refine isTrue_or (Ey (ha pr s σ H _ I h) fun c s1 Ez=>?_);obtain⟨H1,I1,q1⟩:=Ez;cases c with
 |true=>exact⟨H1,I1,q1⟩
 |false=>exact hb wh pr s1 σ H1 Q I1 q1
theorem y8(ha:PT X a tA):PT X (.UnaryOp .Not a pos) (Di tA):=by
 intro pr s σ H Q I h;exact isTrue_not (ha pr s σ H (fun c H1=>Q (!c) H1) I h)
def BM(ta tb:TE):TE:=fun σ H Q=>ta σ H fun x H1=>∃c,x=.bl c/\if c=true then tb σ H1 Q else Q (.bl false) H1
def BN(ta:TE):TE:=fun σ H Q=>ta σ H fun x H1=>∃c,x=.bl c/\Q (.bl (!c)) H1
theorem y9{op}{t:TE}(h:PE X a t):PE X (.BoolOp op [a] pos) t:=fun pr s σ H Q I hw=>BoolOp_one (h pr s σ H Q I hw)
theorem za(ha:PE X a ta)(hb:PE X (.BoolOp .And (b::dg) pos) tb):PE X (.BoolOp .And (a::b::dg) pos) (BM ta tb):=by
 intro pr s σ H Q I h;refine BoolOp_and (Ey (ha pr s σ H _ I h) fun v s1 Ez=>?_);obtain⟨x,H1,I1,r1,q1⟩:=Ez;obtain⟨c,rfl,q1⟩:=q1;cases r1;refine P7 ?_;cases c with
 |true=>exact hb pr s1 σ H1 Q I1 q1
 |false=>exact⟨.bl false,H1,I1,rfl,q1⟩
theorem zb(ha:PE X a ta):PE X (.UnaryOp .Not a pos) (BN ta):=by
 intro pr s σ H Q I h;refine UnaryOp_ (Ey (ha pr s σ H _ I h) fun v s1 Ez=>?_);obtain⟨x,H1,I1,r1,q1⟩:=Ez;obtain⟨c,rfl,q1⟩:=q1;cases r1;exact not_of (P7 ⟨.bl (!c),H1,I1,rfl,q1⟩)
end
def SqL(K:W.Frag)(H:Hp)(a:Addr)(xs:List V):Prop:=
 Rd H a (.lst xs)\/
  ∃(o:Obj) (Eg:Array Value) (n:Nat),K.lookup a=some o/\o.cls=.type "list"/\o.dict=none/\o.data=.seq Eg n/\Eg.size<=sizeLine/\Vals xs Eg.toList
def SqT(K:W.Frag)(H:Hp)(a:Addr)(xs:List V):Prop:=
 Rd H a (.tup xs)\/
  ∃(o:Obj) (Eg:Array Value) (n:Nat),K.lookup a=some o/\o.cls=.type "tuple"/\o.dict=none/\o.data=.seq Eg n/\Eg.size<=sizeLine/\Vals xs Eg.toList
def Dj:Value->Option V
 | .none=>some .non
 | .bool b=>some (.bl b)
 | .int i _=>some (.int i)
 | .str x _=>some (.str x)
 | .bytes b _=>some (.byt b)
 | .float b _=>some (.flt b)
 | .ref a=>some (.ref a)
 | .type n=>some (.ty n)
 |_=>none
theorem RelV.abs{x:V}{u:Value}(r:RelV x u):Dj u=some x:=by
 cases x with
 |non=>cases r;rfl
 |bl _=>cases r;rfl
 |int _=>obtain⟨t,rfl⟩:=r;rfl
 |str _=>obtain⟨t,rfl⟩:=r;rfl
 |byt _=>obtain⟨t,rfl⟩:=r;rfl
 |flt _=>obtain⟨t,rfl⟩:=r;rfl
 |ref _=>cases r;rfl
 |ty _=>cases r;rfl
theorem RelV.inj{x y:V}{u:Value}(r:RelV x u)(q:RelV y u):x=y:=Pn (r.abs.symm.trans q.abs)
theorem Vals.inj:∀{xs ys:List V}{us:List Value},Vals xs us->Vals ys us->xs=ys
 |_,_,_,.nil,.nil=>rfl
 |_,_,_,.cons r t,.cons r' t'=>by rw[r.inj r',Vals.inj t t']
section
variable{X:Cx}{pr:List (Addr×Obj)}{σ:St}{H:Hp}{s:Shared}{a:Addr}{xs ys:List V}
theorem SqL.of{K:W.Frag}(h:H a=some (.lst xs)):SqL K H a xs:=.inl (.inl h)
theorem SqT.of{K:W.Frag}(h:H a=some (.tup xs)):SqT K H a xs:=.inl (.inl h)
theorem Inv.list(I:Inv X pr σ H s)(h:SqL X.K H a xs):∃Eg:List Value,Vals xs Eg/\PlainL s.heap a Eg.toArray/\xs.length<=sizeLine:=by
 rcases h with h|⟨o,Eg,n,hk,hc,hd,hs,hz,r⟩
 ·obtain⟨z,Eg,n,r,e⟩:=h.ok I.hok;exact⟨Eg,r,⟨_,n,e,rfl,rfl,rfl⟩,z⟩
 ·refine⟨Eg.toList,r,⟨o,n,I.kIn a o hk,hc,hd,by simpa using hs⟩,?_⟩;have e:=r.length;simp only[P8]at e;lia
theorem Inv.tupleN(I:Inv X pr σ H s)(h:SqT X.K H a xs):∃Eg:List Value,Vals xs Eg/\IsTupN s.heap a Eg.toArray/\xs.length<=sizeLine:=by
 rcases h with h|⟨o,Eg,n,hk,hc,hdn,hs,hz,r⟩
 ·obtain⟨z,Eg,r,p⟩:=h.ok I.hok;exact⟨Eg,r,p,z⟩
 ·refine⟨Eg.toList,r,⟨o,I.kIn a o hk,hc,⟨n,by simpa using hs⟩,hdn⟩,?_⟩;have e:=r.length;simp only[P8]at e;lia
theorem Inv.tuple(I:Inv X pr σ H s)(h:SqT X.K H a xs):∃Eg:List Value,Vals xs Eg/\IsTup s.heap a Eg.toArray/\xs.length<=sizeLine:=by
 obtain⟨Eg,r,p,z⟩:=I.tupleN h;exact⟨Eg,r,p.tup,z⟩
theorem Inv.list_inj(I:Inv X pr σ H s)(h:SqL X.K H a xs)(h':SqL X.K H a ys):xs=ys:=by
 obtain⟨Eg,r,⟨o,n,e,_,_,d⟩,_⟩:=I.list h;obtain⟨its',r',⟨o',n',e',_,_,d'⟩,_⟩:=I.list h';rw[e]at e';cases e';rw[d]at d';injection d' with d1 _;have:Eg=its':=by simpa using P4 Array.toList d1
 subst this;exact r.inj r'
theorem Inv.tuple_inj(I:Inv X pr σ H s)(h:SqT X.K H a xs)(h':SqT X.K H a ys):xs=ys:=by
 obtain⟨Eg,r,⟨o,e,_,n,d⟩,_⟩:=I.tuple h;obtain⟨its',r',⟨o',e',_,n',d'⟩,_⟩:=I.tuple h';rw[e]at e';cases e';rw[d]at d';injection d' with d1 _;have:Eg=its':=by simpa using P4 Array.toList d1
 subst this;exact r.inj r'
end
abbrev Cx.wish(X:Cx)(E:Value->Shared->Prop):Cx:={X with xe:=E}
abbrev Cx.nox(X:Cx):Cx:=X.wish fun _ _=>False
theorem Cx.Ok.wish{X:Cx}(ok:X.Ok)(E:Value->Shared->Prop):(X.wish E).Ok:=
 ⟨ok.mod,ok.kind,ok.glob,ok.blt,ok.above,ok.inj,ok.has,ok.cab,ok.hd,ok.frames,ok.stk,ok.exf,ok.bs,ok.bsz,ok.noex,ok.exfs,ok.funs,ok.frf⟩
theorem Cx.Ok.unwish{X:Cx}{E:Value->Shared->Prop}(ok:(X.wish E).Ok):X.Ok:=
 ⟨ok.mod,ok.kind,ok.glob,ok.blt,ok.above,ok.inj,ok.has,ok.cab,ok.hd,ok.frames,ok.stk,ok.exf,ok.bs,ok.bsz,ok.noex,ok.exfs,ok.funs,ok.frf⟩
section
variable{X:Cx}{pr:List (Addr×Obj)}{σ:St}{H:Hp}{s:Shared}{E:Value->Shared->Prop}
theorem Inv.wish(I:Inv X pr σ H s)(E:Value->Shared->Prop):Inv (X.wish E) pr σ H s:=⟨I.ok.wish E,I.os,I.bare,I.base,I.loc,I.cell,I.free,I.freeC,I.pin,I.hok,I.len⟩
theorem Inv.unwish(I:Inv (X.wish E) pr σ H s):Inv X pr σ H s:=⟨I.ok.unwish,I.os,I.bare,I.base,I.loc,I.cell,I.free,I.freeC,I.pin,I.hok,I.len⟩
theorem SP.unwish{D:Ends}{f:Flow}{s':Shared}(h:SP (X.wish E) pr D f s'):SP X pr D f s':=by
 cases f with
 |next=>obtain⟨σ',H',I,q⟩:=h;exact⟨σ',H',I.unwish,q⟩
 |brk=>obtain⟨σ',H',I,q⟩:=h;exact⟨σ',H',I.unwish,q⟩
 |cont=>obtain⟨σ',H',I,q⟩:=h;exact⟨σ',H',I.unwish,q⟩
 |ret u=>obtain⟨v,σ',H',I,r,q⟩:=h;exact⟨v,σ',H',I.unwish,r,q⟩
theorem PT.nox{e:Expr}{t:TT}(h:PT X.nox e t):PT X e t:=fun pr s σ H Q I hw=>
 PH (h pr s σ H Q (I.wish _) hw) (fun _ _ ⟨H',I',q⟩=>⟨H',I'.unwish,q⟩) fun _ _ z=>False.elim z
theorem PSs.nox{st:List Stmt}{t:TS}(h:PSs X.nox st t):PSs X st t:=fun pr s σ H D I hw=>
 PH (h pr s σ H D (I.wish _) hw) (fun _ _ q=>q.unwish) fun _ _ z=>False.elim z
end
section
variable{X:Cx}{st:Stmt}{dg:List Stmt}{t u:TS}{e:Expr}{te:TE}{pos:Pos}
def BO:TS:=fun D σ H=>D.nx σ H
def Dk(t u:TS):TS:=fun D σ H=>t {D with nx:=u D} σ H
theorem wH:PSs X [] BO:=fun _ _ σ H _ I h=>Rf ⟨σ,H,I,h⟩
theorem tJ(h1:PS X st t)(h2:PSs X dg u):PSs X (st::dg) (Dk t u):=by
 intro pr s σ H D I h;refine QV (Ey (h1 pr s σ H {D with nx:=u D} I h) fun f s1 q=>?_);cases f with
 |next=>
  obtain⟨σ',H',I',q⟩:=q;exact h2 pr s1 σ' H' D I' q
 |ret v=>exact q
 |brk=>exact q
 |cont=>exact q
theorem wI(h1:PS X st t):PSs X [st] t:=by
 intro pr s σ H D I h;refine QV (Ey (h1 pr s σ H D I h) fun f s1 q=>?_);cases f with
 |next=>exact Rf q
 |ret v=>exact q
 |brk=>exact q
 |cont=>exact q
theorem Inv.quiet{pr:List (Addr×Obj)}{σ:St}{H:Hp}{s:Shared}(I:Inv X pr σ H s):interactive X.env=false:=by simp[interactive,I.ok.kind]
def BP(te:TE):TS:=fun D σ H=>te σ H fun _ H1=>D.nx σ H1
theorem wJ(he:PE X e te)(hs:swapsWith e none pos.line X.env=pure false:=by rfl):PS X (.Expr e pos) (BP te):=by
 intro pr s σ H D I h;exact wpAny_Expr_any (Ey (he pr s σ H _ I h) fun v s1 ⟨x,H1,I1,r1,q1⟩=>⟨σ,H1,I1,q1⟩) I.quiet hs
def Dl(te:TE):TS:=fun D σ H=>te σ H D.rt
theorem vG(he:PE X e te):PS X (.Return (some e) pos) (Dl te):=by
 intro pr s σ H D I h;exact wpAny_Return_some (Ey (he pr s σ H _ I h) fun v s1 ⟨x,H1,I1,r1,q1⟩=>⟨x,σ,H1,I1,r1,q1⟩)
def Dm(c:TT)(t u:TS):TS:=fun D σ H=>c σ H fun b H1=>if b=true then t D σ H1 else u D σ H1
theorem BQ{c:Expr}{a b:List Stmt}{tc:TT}(hc:PT X c tc)(ha:PSs X a t)(hb:PSs X b u):PS X (.If c a b pos) (Dm tc t u):=by
 intro pr s σ H D I h;refine wpAny_If (Ey (hc pr s σ H _ I h) fun d s1 Ez=>?_);obtain⟨H1,I1,q1⟩:=Ez;cases d with
 |true=>exact ha pr s1 σ H1 D I1 q1
 |false=>exact hb pr s1 σ H1 D I1 q1
def zc:TS:=fun _ _ _=>False
theorem tN:PS X st zc:=fun _ _ _ _ _ _ h=>h.elim
end
abbrev TG:=V->St->Hp->(St->Hp->Prop)->Prop
abbrev J5:=List V->St->Hp->(St->Hp->Prop)->Prop
def PG(X:Cx)(target:Expr)(t:TG):Prop:=
 ∀(pr:List (Addr×Obj)) (s:Shared) (σ:St) (H:Hp) (v:V) (u:Value) (Q:St->Hp->Prop),Inv X pr σ H s->RelV v u->t v σ H Q->
  wpAny (model X.prog X.w) X.A (assign target X.env u) (fun _ s'=>∃σ' H',Inv X pr σ' H' s'/\Q σ' H') X.xe s
def Kh(X:Cx)(ts:List Expr)(t:J5):Prop:=
 ∀(pr:List (Addr×Obj)) (s:Shared) (σ:St) (H:Hp) (vs:List V) (us:List Value) (Q:St->Hp->Prop),Inv X pr σ H s->Vals vs us->t vs σ H Q->
  wpAny (model X.prog X.w) X.A (assignInOrder ((assignEach ts X.env).map (·.2)) us) (fun _ s'=>∃σ' H',Inv X pr σ' H' s'/\Q σ' H') X.xe s
abbrev Dn:=V->V->V->Hp->(Hp->Prop)->Prop
def Dp(X:Cx)(t:Dn):Prop:=
 ∀(pr:List (Addr×Obj)) (s:Shared) (σ:St) (H:Hp) (o i v:V) (ov iv u:Value) (Q:Hp->Prop),Inv X pr σ H s->RelV o ov->RelV i iv->RelV v u->t o i v H Q->
  wpAny (model X.prog X.w) X.A (setItem ov iv u) (fun _ s'=>∃H',Inv X pr σ H' s'/\Q H') X.xe s
section
variable{X:Cx}{pos:Pos}
def ze(i:Nat):TG:=fun v σ H Q=>Q (σ.set i (some v)) H
theorem nE{i:Nat}{x:Str}(hN:X.N.Nodup)(hi:X.N[i]?=some x)(hx:Loc X.env.scope x)(hf:X.fn x=true\/X.env.scope.names.lookup x=some .local:=by first|exact .inl rfl|exact .inr rfl|assumption):PG X (.Name x pos) (ze i):=by
 intro pr s σ H v u Q I r h;exact wpAny_assign_Name (oD I hN hi hx r (fun s' I'=>⟨_,H,I',h⟩) hf)
def Dq:J5:=fun vs σ H Q=>vs=[]/\Q σ H
def BR(t:TG)(u:J5):J5:=fun vs σ H Q=>∃v r,vs=v::r/\t v σ H fun σ' H'=>u r σ' H' Q
theorem qo:Kh X [] Dq:=by
 intro pr s σ H vs us Q I r h;obtain⟨e,h⟩:=h;subst e;cases r;exact assignInOrder_nil ⟨σ,H,I,h⟩
theorem kH{e:Expr}{es:List Expr}{t:TG}{u:J5}(h1:PG X e t)(h2:Kh X es u)
  (hs:(assignEach (e::es) X.env).map (·.2)=assign e X.env::(assignEach es X.env).map (·.2):=by rfl):Kh X (e::es) (BR t u):=by
 intro pr s σ H vs us Q I r h;obtain⟨v,vr,e1,h⟩:=h;subst e1;cases r with
 |cons r rr=>
  rw[hs];refine assignInOrder_cons (Ey (h1 pr s σ H _ _ _ I r h) fun _ s1 Ez=>?_);obtain⟨σ1,H1,I1,q1⟩:=Ez;exact h2 pr s1 σ1 H1 _ _ Q I1 rr q1
def Dr(K:W.Frag)(n:Nat)(t:J5):TG:=fun v σ H Q=>∃a xs,v=.ref a/\SqT K H a xs/\xs.length=n/\t xs σ H Q
theorem vH{es:List Expr}{k:Nat}{t:J5}{n:Nat}(hc:X.calm=true)(h:Kh X es t)
  (hn:(assignEach es X.env).length=n:=by rfl) (ID:(assignEach es X.env).findIdx? (·.1)=none:=by rfl):PG X (.Tuple es k pos) (Dr X.K n t):=by
 intro pr s σ H v u Q I r hw;obtain⟨a,xs,e1,hq,hl,hw⟩:=hw;subst e1;cases r;obtain⟨Eg,rv,ht,hz⟩:=I.tuple hq;refine assign_Tuple_tuple (I.ok.hd hc) ht (by simp[hn,<-hl,rv.length]) ID fun h' hx=>?_
 have I1:Inv X pr σ H {s with heap:=h'}:=I.kept (t':=s.toks) fun b o e=>hx b o (Pc (OY e)) e
 exact h pr _ σ H xs _ Q I1 (by simpa using rv) hw
def CY(te:TE)(g:TG):TS:=fun D σ H=>te σ H fun x H1=>g x σ H1 D.nx
theorem vI{tg e:Expr}{te:TE}{g:TG}(he:PE X e te)(hg:PG X tg g)(hs:swapsWithSole [tg] e pos.line X.env=pure false:=by rfl)(hw:swappedStores [tg] e X.env=pure none:=by rfl)
  (h1:(assignEach [tg] X.env).map (·.2)=[assign tg X.env]:=by rfl):PS X (.Assign [tg] e pos) (CY te g):=by
 intro pr s σ H D I h;refine wpAny_Assign_stores (Ey (he pr s σ H _ I h) fun v s1 ⟨x,H1,I1,r1,q1⟩=>?_) hs hw;rw[h1];exact Ey (hg pr s1 σ H1 x v _ I1 r1 q1) fun _ s2 q=>q
theorem zf{i:Nat}{x:Str}{e:Expr}{te:TE}{pos':Pos}(hN:X.N.Nodup)(hi:X.N[i]?=some x)(hx:Loc X.env.scope x)(he:PE X e te)(hs:swapsWith e (some (.Name x pos')) pos.line X.env=pure false:=by rfl)(hf:X.fn x=true\/X.env.scope.names.lookup x=some .local:=by first|exact .inl rfl|exact .inr rfl|assumption):
  PS X (.Assign [.Name x pos'] e pos) (CY te (ze i)):=by
 intro pr s σ H D I h;refine wpAny_Assign_Name (Ey (he pr s σ H _ I h) fun v s1 ⟨y,H1,I1,r1,q1⟩=>?_) hs;exact oD I1 hN hi hx r1 (fun s2 I2=>⟨_,H1,I2,q1⟩) hf
end
section
variable{X:Cx}{pos:Pos}
def zg(c:TT)(tb:TS):TS:=fun D σ H=>∃W:Nat->St->Hp->Prop,(∃m,W m σ H)/\∀m σ H,W m σ H->
 c σ H fun b H1=>if b=true then ∃N:St->Hp->Prop,(∀σ' H',N σ' H'->∃m',m'<m/\W m' σ' H')/\tb {D with nx:=N,ct:=N,bk:=D.nx} σ H1 else D.nx σ H1
theorem tP{c:Expr}{body:List Stmt}{tc:TT}{tb:TS}(hp:PassesOwn (model X.prog X.w) X.A X.env X.xe)(hc:PT X c tc)(hb:PSs X body tb):PS X (.While c body [] pos) (zg tc tb):=by
 intro pr s σ H D I h;obtain⟨W,⟨m0,w0⟩,turn⟩:=h;refine wpAny_While (codeAny_whileLoop (fun n s'=>∃σ' H',Inv X pr σ' H' s'/\W n σ' H') ?_ m0 ⟨σ,H,I,w0⟩);rintro n s1 ⟨σ1,H1,I1,w1⟩;refine QD hp (Ey (hc pr s1 σ1 H1 _ I1 (turn n σ1 H1 w1)) fun b s2 Ez=>?_);obtain⟨H2,I2,q2⟩:=Ez;cases b with
 |true=>
  obtain⟨N,hN,q2⟩:=q2;rw[OZ rfl];refine QD hp (Ey (hb pr s2 σ1 H2 _ I2 q2) fun f s3 q3=>?_);cases f with
  |next=>
   obtain⟨σ3,H3,I3,n3⟩:=q3;obtain⟨m',hm,w3⟩:=hN σ3 H3 n3;exact⟨m',hm,σ3,H3,I3,w3⟩
  |cont=>
   obtain⟨σ3,H3,I3,n3⟩:=q3;obtain⟨m',hm,w3⟩:=hN σ3 H3 n3;exact⟨m',hm,σ3,H3,I3,w3⟩
  |brk=>exact q3
  |ret v=>exact q3
 |false=>
  rw[O5 O0];exact Rf ⟨σ1,H2,I2,q2⟩
end
structure It where
 go:Nat->Hp->Prop
 yld:Nat->Hp->V->Hp->Prop
 stop:Nat->Hp->Prop
def qi(X:Cx)(pr:List (Addr×Obj))(H:Hp)(b:Addr):Prop:=
 H b=none/\b≠X.env.locals/\b∉X.fs/\(b∈X.ex\/X.s₀.heap.objs.size<=b)/\(∀x c,X.env.cells.lookup x=some c->c≠b)/\∀p∈X.pn++pr,p.1≠b
theorem Inv.fpOk{X:Cx}{pr:List (Addr×Obj)}{σ:St}{H H':Hp}{s:Shared}{b:Addr}(I:Inv X pr σ H s)(hb:s.heap.objs.size<=b)(hn:H' b=none):qi X pr H' b:=by
 refine⟨hn,TF (O4 I.lt hb),I.nofs hb,.inr (PB I.sz hb),fun x c e z=>?_,fun p hp z=>?_⟩
 ·obtain⟨v,q⟩:=I.cell x c e;exact absurd (O4 q.lt (by rw[z];exact hb)) (QQ _)
 ·exact absurd (O4 (OY (I.pin p hp).1) (by rw[z];exact hb)) (QQ _)
structure Turn(P:Program)(w:World)(K:W.Frag)(tg:Expr)(J:It)(fp:List Addr)(it:Addr)(tn:Nat->Heap->Prop):Prop where
 mem:it∈fp
 obj:∀i h,tn i h->∀b∈fp,∃o,h.get? b=some o/\∀v,o.data≠.cell v
 keep:∀i h h',tn i h->(∀b∈fp,∀o,h.get? b=some o->h'.get? b=some o)->tn i h'
 item:∀(X:Cx),X.prog=P->X.w=w->X.K=K->X.calm=true->∀(i:Nat) (pr:List (Addr×Obj)) (s:Shared) (σ:St) (H:Hp) (E:Value->Shared->Prop),Inv X pr σ H s->(∀b∈fp,qi X pr H b)->tn i s.heap->J.go i H->
  wpAny (model P w) X.A (pyNext (.ref it)) (fun r s1=>∃u,r=some u/\
   wpAny (model P w) X.A (letOwnedTupleGo tg (.ref it) u) (fun _ s2=>∃x H',Inv X pr σ H' s2/\RelV x u/\J.yld i H x H'/\tn (i+1) s2.heap/\∀b∈fp,H' b=none) E s1) E s
 done:∀(X:Cx),X.prog=P->X.w=w->X.K=K->X.calm=true->∀(i:Nat) (pr:List (Addr×Obj)) (s:Shared) (σ:St) (H:Hp) (E:Value->Shared->Prop),Inv X pr σ H s->(∀b∈fp,qi X pr H b)->tn i s.heap->J.stop i H->
  wpAny (model P w) X.A (pyNext (.ref it)) (fun r s1=>r=none/\Inv X pr σ H s1) E s
 self:∀(A:Around) (i:Nat) (s:Shared) (Q:Value->Shared->Prop) (E:Value->Shared->Prop),tn i s.heap->Q (.ref it) s->wpAny (model P w) A (pyIter (.ref it)) Q E s
abbrev TI:=St->Hp->(It->Hp->Prop)->Prop
def N7(X:Cx)(pr:List (Addr×Obj))(σ:St)(tg:Expr)(R:It->Hp->Prop)(ME:Value)(s2:Shared):Prop:=
 ∃(it:Addr) (fp:List Addr) (tn:Nat->Heap->Prop) (J:It) (H':Hp),ME=.ref it/\Inv X pr σ H' s2/\Turn X.prog X.w X.K tg J fp it tn/\tn 0 s2.heap/\(∀b∈fp,qi X pr H' b)/\R J H'
def PI(X:Cx)(tg iter:Expr)(wi:TI):Prop:=
 ∀(pr:List (Addr×Obj)) (s:Shared) (σ:St) (H:Hp) (R:It->Hp->Prop),Inv X pr σ H s->wi σ H R->
  wpAny (model X.prog X.w) X.A (eval iter X.env) (fun v s1=>wpAny (model X.prog X.w) X.A (pyIter v) (N7 X pr σ tg R) X.xe s1) X.xe s
theorem tR {M : Model} {A : Around} {E : Value -> Shared -> Prop} {s : Shared} {tg : Expr} {it : Addr} {u : Value} {o : Obj} {n : String} {vs : Array Value} {Q : Unit -> Shared -> Prop} (ho : s.heap.get? it = some o) (hc : o.cls = .type n) (hd : o.data = .fields vs)
    (hn : ["enumerate", "zip", "dict_itemiterator", "dict_reverseitemiterator", "odict_iterator", "itertools.zip_longest", "itertools.pairwise"].contains n = false) (hQ : Q () s) : wpAny M A (letOwnedTupleGo tg (.ref it) u) Q E s := by
  unfold letOwnedTupleGo
  cases tg <;> first
    | exact OU hQ
    | (cases u <;> first
        | exact OU hQ
        | (refine OR (wpAny_load ho ?_)
           rw [hc, hd]
           show wpAny M A (if (["enumerate", "zip", "dict_itemiterator", "dict_reverseitemiterator", "odict_iterator", "itertools.zip_longest", "itertools.pairwise"].contains n && vs[0]? == some (rawInt _)) = true then _ else _) Q E s
           rw [O5 (by intro h; rw [hn, Bool.false_and] at h; cases h)]
           exact OU hQ))
def Lm(K:W.Frag)(a:Addr):It:=
 ⟨fun i H=>∃xs x,SqL K H a xs/\xs[i]?=some x,fun i H x H'=>H'=H/\∀xs,SqL K H a xs->xs[i]?=some x,fun i H=>∃xs,SqL K H a xs/\xs.length<=i⟩
def M6(K:W.Frag)(a:Addr):It:=
 ⟨fun i H=>∃xs x,SqT K H a xs/\xs[i]?=some x,fun i H x H'=>H'=H/\∀xs,SqT K H a xs->xs[i]?=some x,fun i H=>∃xs,SqT K H a xs/\xs.length<=i⟩
def MF(lo:Int)(n:Nat):It:=⟨fun i _=>i<n,fun i H x H'=>H'=H/\x=.int (lo+i),fun i _=>n<=i⟩
theorem qp{P:Program}{w:World}{K:W.Frag}{tg:Expr}(a it:Addr):Turn P w K tg (Lm K a) [it] it (fun i h=>h.IsListIter it a i) where
 mem:=by simp
 obj:=fun i h st b hb=>by
  have e:b=it:=by simpa using hb
  subst e;obtain⟨o,e,c,d⟩:=st;exact⟨o,e,fun v z=>by rw[d]at z;cases z⟩
 keep:=fun i h h' st k=>st.at fun o e=>k it (by simp) o e
 item:=by
  intro X hP hw hK hc i pr s σ H E I hf st hg;subst hP hw hK;obtain⟨xs,x,hq,hx⟩:=hg;obtain⟨Eg,rv,p,hz⟩:=I.list hq;obtain⟨u,hu,ru⟩:=rv.get hx;obtain⟨f0,f1,f2,f3,f4,f5⟩:=hf it (by simp);refine wpAny_pyNext_list_item st p.isList (x:=u) (by simpa using hu) fun h' GL sb=>?_
  have I1:Inv X pr σ H {s with heap:=h'}:=I.turned (t':=s.toks) (fun b o hb e=>(sb.2 b hb).trans e) f0 f1 f3 f4 f5;obtain⟨o,e,c,d⟩:=id GL;exact⟨u,rfl,tR (s:={s with heap:=h'}) e c d (by decide) ⟨x,H,I1,ru,⟨rfl,fun ys hy=>by rw[I.list_inj hy hq];exact hx⟩,GL,fun b hb=>(hf b hb).1⟩⟩
 done:=by
  intro X hP hw hK hc i pr s σ H E I hf st hg;subst hP hw hK;obtain⟨xs,hq,hx⟩:=hg;obtain⟨Eg,rv,p,hz⟩:=I.list hq;obtain⟨f0,f1,f2,f3,f4,f5⟩:=hf it (by simp);have hl:=rv.length;exact wpAny_pyNext_list_end (I.ok.hd hc) st p.isList (by simp;lia) fun h' eb=>⟨rfl,I.turned (t':=s.toks) (fun b o hb e=>eb b o hb e) f0 f1 f3 f4 f5⟩
 self:=fun _ _ _ _ _ st h=>wpAny_pyIter_listiter st h
theorem pN{P:Program}{w:World}{K:W.Frag}{tg:Expr}(a it:Addr):Turn P w K tg (M6 K a) [it] it (fun i h=>h.IsTupleIter it a i) where
 mem:=by simp
 obj:=fun i h st b hb=>by
  have e:b=it:=by simpa using hb
  subst e;obtain⟨o,e,c,d⟩:=st;exact⟨o,e,fun v z=>by rw[d]at z;cases z⟩
 keep:=fun i h h' st k=>st.at fun o e=>k it (by simp) o e
 item:=by
  intro X hP hw hK hc i pr s σ H E I hf st hg;subst hP hw hK;obtain⟨xs,x,hq,hx⟩:=hg;obtain⟨Eg,rv,p,hz⟩:=I.tuple hq;obtain⟨u,hu,ru⟩:=rv.get hx;obtain⟨f0,f1,f2,f3,f4,f5⟩:=hf it (by simp);refine wpAny_pyNext_tuple_item st (show s.heap.IsTuple a Eg.toArray from p) (x:=u) (by simpa using hu) fun h' GL sb=>?_
  have I1:Inv X pr σ H {s with heap:=h'}:=I.turned (t':=s.toks) (fun b o hb e=>(sb.2 b hb).trans e) f0 f1 f3 f4 f5;obtain⟨o,e,c,d⟩:=id GL;exact⟨u,rfl,tR (s:={s with heap:=h'}) e c d (by decide) ⟨x,H,I1,ru,⟨rfl,fun ys hy=>by rw[I.tuple_inj hy hq];exact hx⟩,GL,fun b hb=>(hf b hb).1⟩⟩
 done:=by
  intro X hP hw hK hc i pr s σ H E I hf st hg;subst hP hw hK;obtain⟨xs,hq,hx⟩:=hg;obtain⟨Eg,rv,p,hz⟩:=I.tuple hq;obtain⟨f0,f1,f2,f3,f4,f5⟩:=hf it (by simp);have hl:=rv.length;exact wpAny_pyNext_tuple_end (I.ok.hd hc) st (show s.heap.IsTuple a Eg.toArray from p) (by simp;lia) fun h' eb=>⟨rfl,I.turned (t':=s.toks) (fun b o hb e=>eb b o hb e) f0 f1 f3 f4 f5⟩
 self:=fun _ _ _ _ _ st h=>wpAny_pyIter_tupleiter st h
theorem pO{P:Program}{w:World}{K:W.Frag}{tg:Expr}(it:Addr)(lo:Int)(n:Nat):Turn P w K tg (MF lo n) [it] it (fun i h=>IsRangeIter h it (lo+(i:Nat)*1) ((n:Int)-(i:Nat)) 1) where
 mem:=by simp
 obj:=fun i h st b hb=>by
  have e:b=it:=by simpa using hb
  subst e;exact⟨_,st,fun v z=>by
   have z':Data.fields _=Data.cell v:=z;cases z'⟩
 keep:=fun i h h' st k=>k it (by simp) _ st
 item:=by
  intro X hP hw hK hc i pr s σ H E I hf st hg;subst hP hw hK;obtain⟨f0,f1,f2,f3,f4,f5⟩:=hf it (by simp);have W:=Walks.range (prog:=X.prog) (w:=X.w) (I.ok.hd hc) it lo 1 n;refine W.item i s _ _ hg st fun v h' tk hv GL kk=>?_
  obtain⟨t,rfl⟩:=hv;have I1:Inv X pr σ H {s with heap:=h',toks:=tk}:=I.turned (fun b o hb e=>kk b o (by simpa using hb) e) f0 f1 f3 f4 f5;refine⟨_,rfl,tR (s:={s with heap:=h',toks:=tk}) (n:="range_iterator") GL rfl rfl (by decide) ⟨.int (lo+i),H,I1,⟨t,?_⟩,⟨rfl,rfl⟩,GL,fun b hb=>(hf b hb).1⟩⟩;rw[Int.mul_one]
 done:=by
  intro X hP hw hK hc i pr s σ H E I hf st hg;subst hP hw hK;obtain⟨f0,f1,f2,f3,f4,f5⟩:=hf it (by simp);exact wpAny_pyNext_range_end (I.ok.hd hc) st (by have:n<=i:=hg;lia) fun h' eb=>⟨rfl,I.turned (t':=s.toks) (fun b o hb e=>eb b o hb e) f0 f1 f3 f4 f5⟩
 self:=fun _ _ _ _ _ st h=>wpAny_pyIter_rangeiter st h
section
variable{X:Cx}{tg:Expr}
def BS(K:W.Frag)(tl:TE):TI:=fun σ H R=>tl σ H fun x H1=>∃a,x=.ref a/\(∃xs,SqL K H1 a xs)/\R (Lm K a) H1
def Ds(K:W.Frag)(tl:TE):TI:=fun σ H R=>tl σ H fun x H1=>∃a,x=.ref a/\(∃xs,SqT K H1 a xs)/\R (M6 K a) H1
theorem qr{l:Expr}{tl:TE}(hl:PE X l tl):PI X tg l (BS X.K tl):=by
 intro pr s σ H R I h;refine Ey (hl pr s σ H _ I h) fun v s1 Ez=>?_
 obtain⟨x,H1,I1,r1,q1⟩:=Ez;obtain⟨a,e,⟨xs,hq⟩,q⟩:=q1;subst e;cases r1;obtain⟨Eg,rv,p,hz⟩:=I1.list hq;refine QF p.isList ?_;refine⟨s1.heap.objs.size,[s1.heap.objs.size],_,_,H1,rfl,I1.kept (t':=s1.toks) fun b o e=>Heap.get?_push_of_some _ e,qp a _,⟨_,Heap.get?_push_size _ rfl,rfl,rfl⟩,fun b hb=>?_,q⟩;have e:b=s1.heap.objs.size:=by simpa using hb
 subst e;exact I1.fpOk (OW _) (I1.hok.fresh (OW _))
theorem zh{l:Expr}{tl:TE}(hl:PE X l tl):PI X tg l (Ds X.K tl):=by
 intro pr s σ H R I h;refine Ey (hl pr s σ H _ I h) fun v s1 Ez=>?_
 obtain⟨x,H1,I1,r1,q1⟩:=Ez;obtain⟨a,e,⟨xs,hq⟩,q⟩:=q1;subst e;cases r1;obtain⟨Eg,rv,p,hz⟩:=I1.tuple hq;refine Qu (show s1.heap.IsTuple a Eg.toArray from p) ?_;refine⟨s1.heap.objs.size,[s1.heap.objs.size],_,_,H1,rfl,I1.kept (t':=s1.toks) fun b o e=>Heap.get?_push_of_some _ e,pN a _,⟨_,Heap.get?_push_size _ rfl,rfl,rfl⟩,fun b hb=>?_,q⟩;have e:b=s1.heap.objs.size:=by simpa using hb
 subst e;exact I1.fpOk (OW _) (I1.hok.fresh (OW _))
theorem tS{pr:List (Addr×Obj)}{σ:St}{H:Hp}{s:Shared}{R:It->Hp->Prop}{E:Value->Shared->Prop}{lo hi:Int}{t u v:Tok}{tk:Nat}(I:Inv X pr σ H s)(h1:-(2 ^ 62)<=lo)(h2:lo<2 ^ 62)(h3:-(2 ^ 62)<=hi)(h4:hi<2 ^ 62)
  (q:R (MF lo (hi-lo).toNat) H):wpAny (model X.prog X.w) X.A (pyIter (.ref s.heap.objs.size)) (N7 X pr σ tg R) E {s with heap:=s.heap.push {cls:=.type "range",data:=.fields #[.int lo t,.int hi u,.int 1 v]},toks:=tk}:=by
 refine wpAny_pyIter_range (IsRange.new ..) (small_one h1 h2 h3 h4) ?_;have I1:Inv X pr σ H {s with heap:=s.heap.push {cls:=.type "range",data:=.fields #[.int lo t,.int hi u,.int 1 v]},toks:=tk}:=I.kept fun b o e=>Heap.get?_push_of_some _ e
 refine⟨(s.heap.push {cls:=.type "range",data:=.fields #[.int lo t,.int hi u,.int 1 v]}).objs.size,[(s.heap.push {cls:=.type "range",data:=.fields #[.int lo t,.int hi u,.int 1 v]}).objs.size],_,_,H,rfl,
  I1.kept (t':=tk) fun b o e=>Heap.get?_push_of_some _ e,pO _ lo (hi-lo).toNat,?_,fun b hb=>?_,q⟩
 ·have e1:lo+((0:Nat):Int)*1=lo:=by simp
  have e2:(((hi-lo).toNat:Nat):Int)-((0:Nat):Int)=Builtin.Range.rangeSize lo hi 1:=by rw[rangeSize_one];split <;> lia
  show IsRangeIter _ _ (lo+((0:Nat):Int)*1) ((((hi-lo).toNat:Nat):Int)-((0:Nat):Int)) 1;rw[e1,e2];exact Heap.get?_push_size _ rfl
 ·have e:b=(s.heap.push {cls:=.type "range",data:=.fields #[.int lo t,.int hi u,.int 1 v]}).objs.size:=by simpa using hb
  subst e;exact I1.fpOk (OW _) (I1.hok.fresh (OW _))
def BU(ta:TA):TI:=fun σ H R=>ta σ H fun vs H1=>∃j:Int,vs=[.int j]/\-(2 ^ 62)<=j/\j<2 ^ 62/\R (MF 0 j.toNat) H1
theorem qu{a:Expr}{ta:TA}{p pos:Pos}(hg:Gl X "range")(hm:X.mg "range" = none)(ha:PA X [a] ta)(hs:starEach [a] X.env=[(false,eval a X.env)]:=by rfl):PI X tg (.Call (.Name "range" p) [a] [] pos) (BU ta):=by
 intro pr s σ H R I h;refine Call_ (lP I hg hm boot_range (Q1 (Ey (ha pos pr s σ H _ I h) fun us s1 ⟨vs,H1,I1,r1,q1⟩=>?_) hs rfl));obtain⟨j,e,q1,q2,q⟩:=q1;subst e;cases r1 with
 |cons r rr=>
  cases rr;obtain⟨t,rfl⟩:=r;exact call_range_1 (tS I1 (by lia) (by lia) q1 q2 (by simpa using q))
noncomputable def Dt(wi:TI)(g:TG)(tb:TS):TS:=fun D σ H=>wi σ H fun J H1=>∃W:Nat->Nat->St->Hp->Prop,(∃m,W 0 m σ H1)/\∀i m σ H,W i m σ H->
 (J.stop i H/\D.nx σ H)\/(J.go i H/\∃N:St->Hp->Prop,(∀σ' H',N σ' H'->∃m',m'<m/\W (i+1) m' σ' H')/\∀x H',J.yld i H x H'->g x σ H' fun σ2 H2=>tb {D with nx:=N,ct:=N,bk:=D.nx} σ2 H2)
def lQ(fp:List Addr)(h:Heap):List (Addr×Obj):=fp.filterMap fun b=>(h.get? b).map fun o=>(b,o)
theorem fK{fp:List Addr}{h:Heap}{b:Addr}{o:Obj}(hb:b∈fp)(e:h.get? b=some o):(b,o)∈lQ fp h:=RP.mpr ⟨b,hb,by rw[e];rfl⟩
theorem qv{fp:List Addr}{h:Heap}{p:Addr×Obj}(hp:p∈lQ fp h):p.1∈fp/\h.get? p.1=some p.2:=by
 obtain⟨b,hb,e⟩:=RP.mp hp;cases q:h.get? b with
 |none=>rw[q]at e;cases e
 |some o=>
  rw[q]at e;have e':(b,o)=p:=Pn e;subst e';exact⟨hb,q⟩
theorem Inv.pinned{pr:List (Addr×Obj)}{σ:St}{H:Hp}{s:Shared}{fp:List Addr}(I:Inv X pr σ H s)(hf:∀b∈fp,qi X pr H b)(ho:∀b∈fp,∃o,s.heap.get? b=some o/\∀v,o.data≠.cell v):Inv X (pr++lQ fp s.heap) σ H s:=
 I.pins_of fun p hp=>(Pj.mp hp).elim (fun z=>I.pin p (OV _ z)) fun z=>by
  obtain⟨hb,e⟩:=qv z;obtain⟨f0,f1,f2,_⟩:=hf p.1 hb;obtain⟨o,e',d⟩:=ho p.1 hb;rw[e]at e';cases e';exact⟨e,f0,f1,f2,d⟩
theorem Inv.unpinned{pr pl:List (Addr×Obj)}{σ:St}{H:Hp}{s:Shared}(I:Inv X (pr++pl) σ H s):Inv X pr σ H s:=I.pins_of fun p hp=>I.pin p (OV _ (O3 _ hp))
theorem zi{iter:Expr}{body:List Stmt}{wi:TI}{g:TG}{tb:TS}{pos:Pos}(hp:PassesOwn (model X.prog X.w) X.A X.env X.xe)(hc:X.calm=true)(hi:PI X tg iter wi)(hg:PG X tg g)(hb:PSs X body tb)
  (hs:∀x,foldedSetIterable iter X.env x=pure x:=by intro _;rfl):PS X (.For tg iter body [] pos) (Dt wi g tb):=by
 intro pr s σ H D I h;refine wpAny_For (Ey (hi pr s σ H _ I h) fun v s1 h1=>Ey h1 fun ME s2 h2=>?_) hs;obtain⟨it,fp,tn,J,H2,e,I2,T,El,f2,W,⟨m0,w0⟩,turn⟩:=h2;subst e;have Ht:∀{H':Hp},(∀b∈fp,H' b=none)->∀b∈fp,qi X pr H' b:=fun hn b hb=>⟨hn b hb,(f2 b hb).2⟩
 refine codeAny_forLoop_any (fun n s'=>∃i σ' H',Inv X pr σ' H' s'/\tn i s'.heap/\(∀b∈fp,H' b=none)/\W i n σ' H') ?_ m0 ⟨0,σ,H2,I2,El,fun b hb=>(f2 b hb).1,w0⟩;rintro n s3 ⟨i,σ3,H3,I3,EJ,LF,w3⟩;rcases turn i n σ3 H3 w3 with⟨stop,qn⟩|⟨go,N,hN,step⟩
 ·refine QD hp (Ey (T.done X rfl rfl rfl hc i pr s3 σ3 H3 X.xe I3 (Ht LF) EJ stop) fun r s4 Ez=>?_);obtain⟨hr,I4⟩:=Ez;subst hr;exact Rf ⟨σ3,H3,I4,qn⟩
 ·refine QD hp (Ey (T.item X rfl rfl rfl hc i pr s3 σ3 H3 X.xe I3 (Ht LF) EJ go) fun r s4 Ez=>?_);obtain⟨u,hr,h4⟩:=Ez;subst hr;refine QD hp (Ey h4 fun _ s5 Ez=>?_);obtain⟨x,H5,I5,r5,y5,Gd,M7⟩:=Ez;have M8:=I5.pinned (Ht M7) (T.obj _ _ Gd);refine QD hp (Ey (hg _ s5 σ3 H5 x u _ M8 r5 (step x H5 y5)) fun _ s6 Ez=>?_);obtain⟨σ6,H6,I6,q6⟩:=Ez;refine QD hp (Ey (hb _ s6 σ6 H6 _ I6 q6) fun f s7 q7=>?_);have again:∀{σ7:St}{H7:Hp},Inv X (pr++lQ fp s5.heap) σ7 H7 s7->N σ7 H7->∃m,m<n/\∃i σ' H',Inv X pr σ' H' s7/\tn i s7.heap/\(∀b∈fp,H' b=none)/\W i m σ' H':=fun{σ7 H7} I7 n7=>by
   obtain⟨m',hm,w7⟩:=hN σ7 H7 n7;refine⟨m',hm,i+1,σ7,H7,I7.unpinned,T.keep _ _ _ Gd fun b hb o e=>(I7.pin (b,o) (OV _ (OV _ (fK hb e)))).1,fun b hb=>?_,w7⟩;obtain⟨o,e,d⟩:=T.obj _ _ Gd b hb;exact(I7.pin (b,o) (OV _ (OV _ (fK hb e)))).2.1
  cases f with
  |next=>obtain⟨σ7,H7,I7,n7⟩:=q7;exact again I7 n7
  |cont=>obtain⟨σ7,H7,I7,n7⟩:=q7;exact again I7 n7
  |brk=>obtain⟨σ7,H7,I7,q7⟩:=q7;exact⟨σ7,H7,I7.unpinned,q7⟩
  |ret v=>obtain⟨x7,σ7,H7,I7,r7,q7⟩:=q7;exact⟨x7,σ7,H7,I7.unpinned,r7,q7⟩
end
theorem for_list{K:W.Frag}{a:Addr}{xs:List V}{g:TG}{tb:TS}{D:Ends}{σ:St}{H:Hp}(Pv:Nat->St->Hp->Prop)(h0:Pv 0 σ H)(hl:∀i σ H,i<=xs.length->Pv i σ H->SqL K H a xs)
  (hs:∀i x σ H,xs[i]?=some x->Pv i σ H->g x σ H fun σ2 H2=>tb {D with nx:=Pv (i+1),ct:=Pv (i+1),bk:=D.nx} σ2 H2) (hd:∀σ H,Pv xs.length σ H->D.nx σ H):
  ∃W:Nat->Nat->St->Hp->Prop,(∃m,W 0 m σ H)/\∀i m σ H,W i m σ H->
   ((Lm K a).stop i H/\D.nx σ H)\/((Lm K a).go i H/\∃N:St->Hp->Prop,(∀σ' H',N σ' H'->∃m',m'<m/\W (i+1) m' σ' H')/\∀x H',(Lm K a).yld i H x H'->g x σ H' fun σ2 H2=>tb {D with nx:=N,ct:=N,bk:=D.nx} σ2 H2):=by
 refine⟨fun i m σ H=>m=xs.length-i/\i<=xs.length/\Pv i σ H,⟨xs.length,by simp,PD _,h0⟩,?_⟩;rintro i m σ H ⟨rfl,hi,p⟩;have q:=hl i σ H hi p;by_cases E3:i<xs.length
 ·refine .inr ⟨⟨xs,xs[i],q,by simp[E3]⟩,Pv (i+1),fun σ' H' p'=>⟨xs.length-(i+1),by lia,rfl,E3,p'⟩,fun x H' y=>?_⟩;obtain⟨e,y⟩:=y;subst e;exact hs i x σ _ (y xs q) p
 ·have e:i=xs.length:=by lia
  subst e;exact .inl ⟨⟨xs,q,OW _⟩,hd σ H p⟩
abbrev R2:=V->V->Hp->VK->Prop
def EK(X:Cx)(f:Value->Value->Sem Value)(r:R2):Prop:=
 ∀(pr:List (Addr×Obj)) (s:Shared) (σ:St) (H:Hp) (x y:V) (v u:Value) (Q:VK),Inv X pr σ H s->RelV x v->RelV y u->r x y H Q->
  wpAny (model X.prog X.w) X.A (f v u) (EP X pr σ Q) X.xe s
def du(X:Cx)(f:Value)(r:List V->Hp->VK->Prop):Prop:=
 ∀(pr:List (Addr×Obj)) (s:Shared) (σ:St) (H:Hp) (xs:List V) (us:List Value) (Q:VK),Inv X pr σ H s->Vals xs us->r xs H Q->
  wpAny (model X.prog X.w) X.A (call f us) (EP X pr σ Q) X.xe s
def Ln(r:R2)(ta tb:TE):TE:=fun σ H Q=>ta σ H fun x H1=>tb σ H1 fun y H2=>r x y H2 Q
def rI(C:Int->Int->Prop)(g:Int->Int->V):R2:=fun x y H Q=>∃i j,x=.int i/\y=.int j/\C i j/\Q (g i j) H
def J6(g:Int->Int->V):R2:=fun x y H Q=>∃i j,x=.int i/\y=.int j/\Q (g i j) H
section
variable{X:Cx}{a b c:Expr}{ta tb tc:TE}{pos:Pos}
theorem BV(ha:PE X a ta)(hb:PE X b tb){pr:List (Addr×Obj)}{s:Shared}{σ:St}{H:Hp}{R:V->V->Hp->Prop}(I:Inv X pr σ H s)
  (h:ta σ H fun x H1=>tb σ H1 fun y H2=>R x y H2) {Q:Value->Shared->Prop}{f:Value->Value->Sem Value}
  (hf:∀v u s2 x y H2,Inv X pr σ H2 s2->RelV x v->RelV y u->R x y H2->wpAny (model X.prog X.w) X.A (f v u) Q X.xe s2):
  wpAny (model X.prog X.w) X.A (eval a X.env) (fun v s₁=>wpAny (model X.prog X.w) X.A (eval b X.env) (fun u s₂=>wpAny (model X.prog X.w) X.A (f v u) Q X.xe s₂) X.xe s₁) X.xe s:=by
 refine Ey (ha pr s σ H _ I h) fun v s1 Ez=>?_
 obtain⟨x,H1,I1,r1,q1⟩:=Ez;refine Ey (hb pr s1 σ H1 _ I1 q1) fun u s2 Ez=>?_
 obtain⟨y,H2,I2,r2,q2⟩:=Ez;exact hf v u s2 x y H2 I2 r1 r2 q2
theorem BW{op:Operator}{r:R2}(ho:EK X (binaryOp op) r)(ha:PE X a ta)(hb:PE X b tb):PE X (.BinOp a op b pos) (Ln r ta tb):=by
 intro pr s σ H Q I h;exact wpAny_BinOp (BV ha hb I h fun v u s2 x y H2 I2 rx ry q=>ho pr s2 σ H2 x y v u Q I2 rx ry q)
theorem LG{f:Value->Value->Sem Value}{C:Int->Int->Prop}{g:Int->Int->Int}
  (rule:∀(i j:Int) (t u:Tok) (s:Shared) (Q:Value->Shared->Prop) (E:Value->Shared->Prop),C i j->Q (.int (g i j) s.toks) {s with toks:=s.toks+1}->wpAny (model X.prog X.w) X.A (f (.int i t) (.int j u)) Q E s):
  EK X f (rI C fun i j=>.int (g i j)):=by
 intro pr s σ H x y v u Q I rx ry h;obtain⟨i,j,rfl,rfl,hc,q⟩:=h;obtain⟨t,rfl⟩:=rx;obtain⟨t',rfl⟩:=ry;exact rule i j t t' s _ _ hc ⟨.int (g i j),H,I.tok _,⟨_,rfl⟩,q⟩
theorem CZ{f:Value->Value->Sem Value}{g:Int->Int->Int}
  (rule:∀(i j:Int) (t u:Tok) (s:Shared) (Q:Value->Shared->Prop) (E:Value->Shared->Prop),Q (.int (g i j) s.toks) {s with toks:=s.toks+1}->wpAny (model X.prog X.w) X.A (f (.int i t) (.int j u)) Q E s):
  EK X f (J6 fun i j=>.int (g i j)):=by
 intro pr s σ H x y v u Q I rx ry h;obtain⟨i,j,rfl,rfl,q⟩:=h;obtain⟨t,rfl⟩:=rx;obtain⟨t',rfl⟩:=ry;exact rule i j t t' s _ _ ⟨.int (g i j),H,I.tok _,⟨_,rfl⟩,q⟩
theorem BG{f:Value->Value->Sem Value}{g:Int->Int->Bool}
  (rule:∀(i j:Int) (t u:Tok) (s:Shared) (Q:Value->Shared->Prop) (E:Value->Shared->Prop),Q (.bool (g i j)) s->wpAny (model X.prog X.w) X.A (f (.int i t) (.int j u)) Q E s):
  EK X f (J6 fun i j=>.bl (g i j)):=by
 intro pr s σ H x y v u Q I rx ry h;obtain⟨i,j,rfl,rfl,q⟩:=h;obtain⟨t,rfl⟩:=rx;obtain⟨t',rfl⟩:=ry;exact rule i j t t' s _ _ ⟨.bl (g i j),H,I,rfl,q⟩
def Du(i j:Int):Prop:=0<j/\j<1073741824
def Dv(i j:Int):Prop:=0<=j/\j<=1000000/\i.natAbs<2 ^ 64
def CMul(i j:Int):Prop:=(-(2 ^ 64)<i/\i<2 ^ 64)\/(-(2 ^ 64)<j/\j<2 ^ 64)
theorem CMul.ok{i j:Int}(h:CMul i j):IntMulOk i j:=by
 rcases h with⟨h1,h2⟩|⟨h1,h2⟩
 ·exact .of_left (intBits_le_64 h1 h2)
 ·exact .of_right (intBits_le_64 h1 h2)
theorem zj:EK X (binaryOp .Add) (J6 fun i j=>.int (i+j)):=CZ fun _ _ _ _ _ _ _ q=>add_int q
theorem zk:EK X (binaryOp .Sub) (J6 fun i j=>.int (i-j)):=CZ fun _ _ _ _ _ _ _ q=>sub_int q
theorem zl:EK X (binaryOp .Mult) (rI CMul fun i j=>.int (i*j)):=LG fun _ _ _ _ _ _ _ hc q=>mul_int q hc.ok
theorem wK:EK X (binaryOp .FloorDiv) (rI Du fun i j=>.int (i / j)):=LG fun i j _ _ _ _ _ hc q=>by
 have h1:(0:Int)<j:=hc.1;have h2:j<1073741824:=hc.2;exact floordiv_int (by lia) (by rw[Int.fdiv_eq_ediv_of_nonneg i (by lia)];exact q) (.inl (PyProof.noPylong_small (by lia)))
theorem zm:EK X (binaryOp .Mod) (rI (fun _ j=>0<j) fun i j=>.int (i%j)):=LG fun i j _ _ _ _ _ hc q=>by
 have h1:(0:Int)<j:=hc;exact mod_int' (by lia) (by rw[Int.fmod_eq_emod_of_nonneg i (by lia)];exact q)
theorem zo:EK X (binaryOp .Pow) (rI Dv fun i j=>.int (i ^ j.toNat)):=LG fun _ _ _ _ _ _ _ hc q=>pow_int_small hc.1 hc.2.1 hc.2.2 q
end
section
variable{X:Cx}{a b c:Expr}{ta tb tc:TE}{pos:Pos}
theorem oE{pr:List (Addr×Obj)}{σ:St}{H:Hp}{s:Shared}{Q:VK}{k k':Bool}(I:Inv X pr σ H s)(q:Q (.bl k) H)(e:k=k'):EP X pr σ Q (.bool k') s:=by
 subst e;exact⟨.bl k,H,I,rfl,q⟩
theorem BX:EK X (compareOp .Lt) (J6 fun i j=>.bl (decide (i<j))):=BG fun _ _ _ _ _ _ _ q=>lt_int q
theorem BY:EK X (compareOp .LtE) (J6 fun i j=>.bl (decide (i<=j))):=BG fun _ _ _ _ _ _ _ q=>le_int q
theorem BZ:EK X (compareOp .Gt) (J6 fun i j=>.bl (decide (j<i))):=BG fun _ _ _ _ _ _ _ q=>gt_int q
theorem B0:EK X (compareOp .GtE) (J6 fun i j=>.bl (decide (j<=i))):=BG fun _ _ _ _ _ _ _ q=>ge_int q
theorem qw:EK X (compareOp .Lt) (fun x y H Q=>∃i j,x=.str i/\y=.str j/\Q (.bl (decide (i.cps.toList<j.cps.toList))) H):=by
 intro pr s σ H x y v u Q I rx ry h;obtain⟨i,j,rfl,rfl,q⟩:=h;obtain⟨t,rfl⟩:=rx;obtain⟨t',rfl⟩:=ry;exact lt_str (oE I q rfl)
theorem qx:EK X (compareOp .In) (fun x y H Q=>∃i j,x=.str i/\y=.str j/\Q (.bl (!(Builtin.Str.occurrences j i 0 j.length 1).isEmpty)) H):=by
 intro pr s σ H x y v u Q I rx ry h;obtain⟨i,j,rfl,rfl,q⟩:=h;obtain⟨t,rfl⟩:=rx;obtain⟨t',rfl⟩:=ry;exact in_str (oE I q rfl)
theorem lR:EK X (compareOp .NotIn) (fun x y H Q=>∃i j,x=.str i/\y=.str j/\Q (.bl (!(!(Builtin.Str.occurrences j i 0 j.length 1).isEmpty))) H):=by
 intro pr s σ H x y v u Q I rx ry h;obtain⟨i,j,rfl,rfl,q⟩:=h;obtain⟨t,rfl⟩:=rx;obtain⟨t',rfl⟩:=ry;exact notIn_str (oE I q rfl)
theorem bT(b:Expr){op:CmpOp}(h:op≠.In:=by decide)(h2:op≠.NotIn:=by decide):behindInMarks op b=false:=by
 have e1:(op==CmpOp.In)=false:=by cases op <;> first|rfl|exact absurd rfl h
 have e2:(op==CmpOp.NotIn)=false:=by cases op <;> first|rfl|exact absurd rfl h2
 cases b <;> simp[behindInMarks,e1,e2]
theorem qy{op:CmpOp}{r:R2}(ho:EK X (compareOp op) r)(ha:PE X a ta)(hb:PE X b tb)(hm:behindInMarks op b=false):PE X (.Compare a [op] [b] pos) (Ln r ta tb):=by
 intro pr s σ H Q I h;exact wpAny_Compare1 (BV ha hb I h fun v u s2 x y H2 I2 rx ry q=>ho pr s2 σ H2 x y v u Q I2 rx ry q) hm
def zp(t:TE):TT:=fun σ H Q=>t σ H fun x H'=>∃k,x=.bl k/\Q k H'
theorem qz{op:CmpOp}{r:R2}(ho:EK X (compareOp op) r)(ha:PE X a ta)(hb:PE X b tb)(hm:behindInMarks op b=false):PT X (.Compare a [op] [b] pos) (zp (Ln r ta tb)):=by
 intro pr s σ H Q I h;refine wpAny_isTrue_Compare1 (Ey (ha pr s σ H _ I h) fun v s1 ⟨x,H1,I1,r1,q1⟩=>Ey (hb pr s1 σ H1 _ I1 q1) fun u s2 ⟨y,H2,I2,r2,q2⟩=>
  Ey (ho pr s2 σ H2 x y v u _ I2 r1 r2 q2) fun c s3 ⟨z,H3,I3,r3,k,e,q3⟩=>?_) hm
 subst e;cases r3;exact P7 ⟨H3,I3,q3⟩
def vJ(r r':R2)(ta tb tc:TE):TE:=fun σ H Q=>ta σ H fun x H1=>tb σ H1 fun y H2=>r x y H2 fun z H3=>∃k,z=.bl k/\
 (if k=true then tc σ H3 fun w' H4=>r' y w' H4 Q else Q (.bl false) H3)
theorem tU{op Jg:CmpOp}{r r':R2}(ho:EK X (compareOp op) r)(Ie:EK X (compareOp Jg) r')(ha:PE X a ta)(hb:PE X b tb)(hc:PE X c tc)
  (hm:lastMarks [op,Jg] [b,c]=false:=by with_unfolding_all rfl):PT X (.Compare a [op,Jg] [b,c] pos) (zp (vJ r r' ta tb tc)):=by
 intro pr s σ H Q I h;refine isTrue_chain (Ey (ha pr s σ H _ I h) fun v s1 ⟨x,H1,I1,r1,q1⟩=>test_link (Ey (hb pr s1 σ H1 _ I1 q1) fun u s2 ⟨y,H2,I2,r2,q2⟩=>
  Ey (ho pr s2 σ H2 x y v u _ I2 r1 r2 q2) fun d s3 ⟨z,H3,I3,r3,k,e,q3⟩=>?_)) hm
 subst e;cases r3;refine P7 ?_;cases k with
 |false=>
  obtain⟨k',e',q'⟩:=q3;cases e';exact ite_ff ⟨H3,I3,q'⟩
 |true=>
  refine ite_tt (test_last (Ey (hc pr s3 σ H3 _ I3 q3) fun w' s4 ⟨z',H4,I4,r4,q4⟩=>Ey (Ie pr s4 σ H4 y z' u w' _ I4 r2 r4 q4) fun d' s5 Ez=>?_));obtain⟨z2,H5,I5,r5,k2,e2,q5⟩:=Ez;subst e2;cases r5;exact P7 ⟨H5,I5,q5⟩
theorem kc:(sizeLine:Nat)<2 ^ 63:=by rw[PL];decide
theorem pP:EK X (binaryOp .Add) (fun x y H Q=>∃i j,x=.str i/\y=.str j/\i.length+j.length<=sizeLine/\Q (.str (i++j)) H):=by
 intro pr s σ H x y v u Q I rx ry h;obtain⟨i,j,rfl,rfl,hz,q⟩:=h;obtain⟨t,rfl⟩:=rx;obtain⟨t',rfl⟩:=ry;exact add_str (fun t' tk=>⟨.str (i++j),H,I.tok _,⟨_,rfl⟩,q⟩) hz
theorem gL{x:V}{us:List Value}(r:Vals [x] us):∃u,us=[u]/\RelV x u:=by
 cases r with
 |cons r1 r2=>cases r2;exact⟨_,rfl,r1⟩
theorem wL{x y:V}{us:List Value}(r:Vals [x,y] us):∃u w',us=[u,w']/\RelV x u/\RelV y w':=by
 cases r with
 |cons r1 r2=>
  cases r2 with
  |cons r3 r4=>cases r4;exact⟨_,_,rfl,r1,r3⟩
end
section
variable{prog:Program}{w:World}{A:Around}{E:Value->Shared->Prop}{s:Shared}{K:W.Frag}{x dx C f:Addr}{mA:Str->Option Value}{name:Str}{v:Value}
end
theorem RelO.some_of{v:V}{o:Option Value}(r:RelO (some v) o):∃u,o=some u/\RelV v u:=by
 cases o with
 |none=>exact(show False from r).elim
 |some u=>exact⟨u,rfl,r⟩
section
variable{P:Program}{w:World}{H H':Hp}{h h':Heap}{a C dx:Addr}{fs fs':List (Str×V)}
end
section
variable{X:Cx}{pr:List (Addr×Obj)}{σ:St}{H:Hp}{s:Shared}{a C dx:Addr}{fs:List (Str×V)}{f:Str}{v:V}{A:Around}{E:Value->Shared->Prop}
end
section
variable{X:Cx}{o e value:Expr}{f:Str}{pos pos' LH:Pos}{ta tv:TE}
end
section
variable{X:Cx}{pr:List (Addr×Obj)}{σ:St}{H:Hp}{s:Shared}{A:Around}{E:Value->Shared->Prop}{Q:Value->Shared->Prop}{c:Value}{b:Bool}
end
structure Room(k:Nat)(A:Around):Prop where
 hd:A.handled=none
 dp:A.depth+3*k+5<recursionLimit
 un:A.units+16*k+200<cLine
theorem Room.mono{j k:Nat}{A:Around}(r:Room k A)(h:j<=k):Room j A:=⟨r.hd,by have:=r.dp;lia,by have:=r.un;lia⟩
theorem Room.m{j k:Nat}{A:Around}(r:Room k A)(h:j<=k:=by decide):Room j A:=r.mono h
theorem Room.deeper{k:Nat}{A:Around}(r:Room (k+1) A)(env:Env):Room k (A.deeper env):=
 ⟨r.hd,by have:=r.dp;show A.depth+1+3*k+5<_;lia,by have:=r.un;show A.units+3+16*k+200<_;lia⟩
theorem Room.depth{k:Nat}{A:Around}(r:Room k A):A.depth<recursionLimit:=by have:=r.dp;lia
theorem Room.units{k:Nat}{A:Around}(r:Room k A):A.units+64<cLine:=by have:=r.un;lia
theorem Room.units0{k:Nat}{A:Around}(r:Room k A):A.units<cLine:=by have:=r.un;lia
def Dw:TA:=fun _ H Q=>Q [] H
def B1(ta:TE)(tr:TA):TA:=fun σ H Q=>ta σ H fun x H1=>tr σ H1 fun xs H2=>Q (x::xs) H2
section
variable{X:Cx}{e:Expr}{es:List Expr}{te:TE}{t:TA}{pos:Pos}
theorem ji:PA X [] Dw:=fun _ _ _ _ H Q I h=>Calls.spliced_nil ⟨[],H,I,.nil,h⟩
theorem cR(ha:PE X e te)(hr:PA X es t)(hs:starEach (e::es) X.env=(false,eval e X.env)::starEach es X.env:=by rfl):PA X (e::es) (B1 te t):=by
 intro pos pr s σ H Q I h;rw[hs];show wpAny _ _ (spliced ((false,eval e X.env)::backTo pos (starEach es X.env))) _ _ s;refine Calls.spliced_cons (Ey (ha pr s σ H _ I h) fun u s1 Ez=>?_);obtain⟨x,H1,I1,r1,q1⟩:=Ez;exact Ey (hr pos pr s1 σ H1 _ I1 q1) fun us s2 ⟨xs,H2,I2,r2,q2⟩=>⟨x::xs,H2,I2,.cons r1 r2,q2⟩
def Dx(t:TA):TE:=fun σ H Q=>t σ H fun xs H1=>xs.length<=sizeLine/\∀p,H1 p=none->Q (.ref p) (upd H1 p (.tup xs))
def Dy(t:TA):TE:=fun σ H Q=>t σ H fun xs H1=>xs.length<=sizeLine/\∀p,H1 p=none->Q (.ref p) (upd H1 p (.lst xs))
theorem oF{x1}(h:PA X es t):PE X (.Tuple es x1 pos) (Dx t):=by
 intro pr s σ H Q I hq;refine wpAny_Tuple_spliced (Ey (h pos pr s σ H _ I hq) fun us s1 ⟨xs,H1,I1,r,z,q⟩=>⟨by rw[<-r.length];exact z,?_⟩);have hf:H1 s1.heap.objs.size=none:=I1.hok.fresh (OW _);refine⟨.ref s1.heap.objs.size,upd H1 s1.heap.objs.size (.tup xs),I1.laid (t':=s1.toks) (fun b u e=>Heap.get?_push_of_some _ e) (OW _) ?_,rfl,q _ hf⟩;exact⟨z,us,r,⟨_,Heap.get?_push_size _ rfl,rfl,⟨_,rfl⟩,rfl⟩⟩
theorem zq(h:PA X es t):PE X (.List es pos) (Dy t):=by
 intro pr s σ H Q I hq;refine wpAny_List_spliced (Ey (h pos pr s σ H _ I hq) fun us s1 ⟨xs,H1,I1,r,z,q⟩=>⟨by rw[<-r.length];exact z,?_⟩);have hf:H1 s1.heap.objs.size=none:=I1.hok.fresh (OW _);refine⟨.ref s1.heap.objs.size,upd H1 s1.heap.objs.size (.lst xs),I1.laid (t':=s1.toks) (fun b u e=>Heap.get?_push_of_some _ e) (OW _) ?_,rfl,q _ hf⟩;exact⟨z,us,0,r,Heap.get?_push_size _ rfl⟩
end
abbrev Sp:=List V->Hp->VK->XK->Prop
abbrev Ig:=List Env->Hp->Shared->XK->Value->Shared->Prop
structure Env0(P:Program)(w:World)(K:W.Frag)(mg:Str->Option Value)(base:Heap)(A:Around)(outer:List Env)(s:Shared)(H:Hp):Prop where
 frames:A.frames=some outer
 mod:Mod K mg base
 bs:∀b o,base.get? b=some o->s.heap.get? b=some o/\H b=none
 bsz:base.objs.size<=s.heap.objs.size
 funs:s.heap.FunFrames base outer
 frf:∀b∈F6 outer,H b=none
 hok:HOk P w H s.heap
 bare:AllBare s.gens
def CE(outer:List Env)(P:Program)(w:World)(H:Hp)(s:Shared)(Q:VK)(u:Value)(s':Shared):Prop:=
 ∃v H',s'.os=s.os/\AllBare s'.gens/\Un (F6 outer) [] H H' s.heap s'.heap/\HOk P w H' s'.heap/\RelV v u/\Q v H'
def CR(CX:Ig)(outer:List Env)(P:Program)(w:World)(H:Hp)(s:Shared)(Q:VK)(E:XK)(r:Result)(s':Shared):Prop:=
 match r with
 | .ok (.ret u)=>CE outer P w H s Q u s'
 | .ok _=>False
 | .error e=>CX outer H s E e s'
structure FnOk(P:Program)(w:World)(K:W.Frag)(mg:Str->Option Value)(base:Heap)(CX:Ig)(k:Nat)(f:Addr)(fd:FuncData)(ps:List Str)(sp:Sp):Prop where
 len:∀vs H Q E,sp vs H Q E->vs.length=ps.length
 run:∀(A:Around) (outer:List Env) (s:Shared) (H:Hp) (args:Args) (us:List Value) (vs:List V) (Q:VK) (E:XK),Room k A->Env0 P w K mg base A outer s H->BindsTo s fd args (ps.zip us)->Vals vs us->sp vs H Q E->
  codeAny (model P w) A (.call (.ref f) args) (CR CX outer P w H s Q E) s
theorem FnOk.imp{P:Program}{w:World}{K:W.Frag}{mg:Str->Option Value}{base:Heap}{CX:Ig}{k:Nat}{f:Addr}{fd:FuncData}{ps:List Str}{sp N8:Sp}(F:FnOk P w K mg base CX k f fd ps sp)
  (h:∀vs H Q E,N8 vs H Q E->sp vs H Q E):FnOk P w K mg base CX k f fd ps N8:=
 ⟨fun vs H Q E q=>F.len vs H Q E (h _ _ _ _ q),fun A outer s H args us vs Q E hr he hb hv hs=>F.run A outer s H args us vs Q E hr he hb hv (h _ _ _ _ hs)⟩
section
variable{X:Cx}{pr:List (Addr×Obj)}{σ:St}{H:Hp}{s s':Shared}
theorem Inv.env0(I:Inv X pr σ H s):Env0 X.prog X.w X.K X.mg X.base X.A X.stack s H:=
 ⟨I.ok.frames,I.ok.mod,I.bs,PB I.ok.bsz I.sz,I.stack,I.stkFree,I.hok,I.bare⟩
theorem Inv.after{Q:VK}{u:Value}(I:Inv X pr σ H s)(h:CE X.stack X.prog X.w H s Q u s'):EP X pr σ Q u s':=by
 obtain⟨v,H',os,bare,un,hok,r,q⟩:=h;obtain⟨hh,g,d,t,os'⟩:=s';obtain rfl:os'=s.os:=os;exact⟨v,H',I.call (h':=hh) (g':=g) (d':=d) (t':=t) (ch:=[]) un hok bare (fun b z=>absurd z (by simp)),r,q⟩
end
def tCall(sp:Sp)(J7:List V)(E:XK)(t:TA):TE:=fun σ H Q=>t σ H fun vs H1=>sp (vs++J7) H1 Q E
def Binds(K:W.Frag)(fd:FuncData)(ps:List Str)(ds:List Value):Prop:=
 ∀(s:Shared) (us:List Value),K.In s.heap->(us++ds).length=ps.length->BindsTo s fd ⟨us,[]⟩ (ps.zip (us++ds))
theorem Binds.all{K:W.Frag}{fd:FuncData}{ps:List Str}(h:∀us:List Value,us.length=ps.length->bindArgs fd ⟨us,[]⟩=pure (ps.zip us)):Binds K fd ps []:=fun s us _ hl=>by
 rw[O8]at hl ⊢;exact .of_eq (h us hl)
def qA(CX:Ig)(X:Cx)(E:XK):Prop:=∀(pr:List (Addr×Obj)) (σ:St) (H:Hp) (s:Shared) (e:Value) (s':Shared),Inv X pr σ H s->CX X.stack H s E e s'->X.xe e s'
section
variable{X:Cx}{CX:Ig}{k:Nat}{f C:Addr}{fd:FuncData}{ps:List Str}{sp:Sp}{J7:List V}{ds:List Value}{E:XK}{x m:Str}{p pos apos:Pos}{e o:Expr}{es:List Expr}{ta:TE}{t:TA}
theorem zr{pr:List (Addr×Obj)}{σ:St}{H:Hp}{s:Shared}{Q:VK}{us:List Value}{vs:List V}(F:FnOk X.prog X.w X.K X.mg X.base CX k f fd ps sp)(hr:Room k X.A)(hb:Binds X.K fd ps ds)(hd:Vals J7 ds)(hx:qA CX X E)
  (I:Inv X pr σ H s) (r:Vals vs us) (h:sp (vs++J7) H Q E):wpAny (model X.prog X.w) X.A (call (.ref f) us) (EP X pr σ Q) X.xe s:=by
 have r2:Vals (vs++J7) (us++ds):=r.append hd;have hl:(us++ds).length=ps.length:=by rw[<-r2.length];exact F.len _ _ _ _ h
 refine wpAny_call (Sw (F.run X.A X.stack s H ⟨us,[]⟩ (us++ds) (vs++J7) Q E hr I.env0 (hb s us I.kIn hl) r2 h) fun r s' hq=>?_);cases r with
 |error e=>exact hx pr σ H s e s' I hq
 |ok fl=>
  cases fl with
  |ret u=>exact I.after hq
  |next=>exact False.elim hq
  |brk=>exact False.elim hq
  |cont=>exact False.elim hq
theorem wM(F:FnOk X.prog X.w X.K X.mg X.base CX k f fd ps sp)(hr:Room k X.A)(hg:Gl X x)(hm:X.mg x=some (.ref f))(hk:PySem.W.keepIn X.K (.ref f)=true)(hb:Binds X.K fd ps ds)(hd:Vals J7 ds)(hx:qA CX X E)
  (ha:PA X (e::es) t) (Fm:(x==("__debug__" : Str))=false:=by decide) (he:starEach (e::es) X.env=(false,eval e X.env)::starEach es X.env:=by rfl) (Fd:(backTo pos (starEach es X.env)).any (·.1)=false:=by rfl):
  PE X (.Call (.Name x p) (e::es) [] pos) (tCall sp J7 E t):=by
 intro pr s σ H Q I h;refine Q0 (jh I hg hm ?_ Fm);refine S7 (h₀:=X.base) I.ok.mod.kin hk (Ey (ha pos pr s σ H _ I h) fun us s1 ⟨vs,H1,I1,r,q⟩=>⟨I1.kIn,?_⟩) he Fd;exact zr F hr hb hd hx I1 r q
end
section
variable{X:Cx}{CX:Ig}{k:Nat}{f C:Addr}{fd:FuncData}{ps ks:List Str}{sp:Sp}{E:XK}{x m:Str}{p pos apos LI:Pos}{e o:Expr}{es:List Expr}{kws:List Keyword}{te ta:TE}{t tk:TA}{nm:Option Str}
variable{g:List Value->List Value->List Value}{gV:List V->List V->List V}
end
structure FnScope(N P:List Str)(sc:Scope):Prop where
 kind:sc.kind=.function
 co:sc.isCoroutine=false
 gen:sc.isGenerator=false
 nd:N.Nodup
 pre:N.take P.length=P
 par:∀x∈P,sc.names.lookup x=some .local\/sc.names.lookup x=some .cell
 nofree:∀y∈sc.names,y.2≠.free
theorem fs{N P:List Str}{sc:Scope}(a:sc.kind=.function:=by rfl)(b:sc.isCoroutine=false:=by rfl)(c:sc.isGenerator=false:=by rfl)(d:N.Nodup:=by decide +kernel)(e:N.take P.length=P:=by rfl)(f:∀x∈P,sc.names.lookup x=some .local\/sc.names.lookup x=some .cell:=by decide +kernel)(g:∀y∈sc.names,y.2≠.free:=by decide +kernel):FnScope N P sc:=⟨a,b,c,d,e,f,g⟩
theorem lS{kindOf:Str->Option NameKind}{x:Str}:∀{binds:List (Str×Value)}{m:Str->Option Value},(∀v,(x,v)∉binds)->bindL kindOf binds m x=m x
 |[],_,_=>rfl
 |(n,v)::r,m,h=>by
  unfold bindL;rw[lS fun w hw=>h w (O7 _ hw)];split
  ·have:x≠n:=by rintro rfl;exact h v OX
   simp[this]
  ·rfl
theorem lT{kindOf:Str->Option NameKind}{x:Str}:∀{binds:List (Str×Value)}{m:Str->Option Value},(∀v,(x,v)∉binds)->bindC kindOf binds m x=m x
 |[],_,_=>rfl
 |(n,v)::r,m,h=>by
  unfold bindC;rw[lT fun w hw=>h w (O7 _ hw)];split
  ·rfl
  ·have:x≠n:=by rintro rfl;exact h v OX
   simp[this]
theorem lU{kindOf:Str->Option NameKind}{x:Str}{v:Value}:∀{P:List Str}{vs:List Value}{i:Nat}{m:Str->Option Value},P.Nodup->P[i]?=some x->vs[i]?=some v->kindOf x=some .local->
  bindL kindOf (P.zip vs) m x=some v
 |[],_,_,_,_,h,_,_=>by simp at h
 |_::_,[],_,_,_,_,h,_=>by simp at h
 |p::P,w::vs,0,m,nd,h1,h2,hk=>by
  simp at h1 h2;subst h1;subst h2;show bindL kindOf ((p,w)::P.zip vs) m p=_;unfold bindL;rw[lS fun v hv=>(Qc.mp nd).1 (QH hv).1,OZ hk];simp
 |p::P,w::vs,i+1,m,nd,h1,h2,hk=>by
  show bindL kindOf ((p,w)::P.zip vs) m x=_;unfold bindL;exact lU (i:=i) (Qc.mp nd).2 (by simpa using h1) (by simpa using h2) hk
theorem lV{kindOf:Str->Option NameKind}{x:Str}{v:Value}:∀{P:List Str}{vs:List Value}{i:Nat}{m:Str->Option Value},P.Nodup->P[i]?=some x->vs[i]?=some v->kindOf x≠some .local->
  bindC kindOf (P.zip vs) m x=some v
 |[],_,_,_,_,h,_,_=>by simp at h
 |_::_,[],_,_,_,_,h,_=>by simp at h
 |p::P,w::vs,0,m,nd,h1,h2,hk=>by
  simp at h1 h2;subst h1;subst h2;show bindC kindOf ((p,w)::P.zip vs) m p=_;unfold bindC;rw[lT fun v hv=>(Qc.mp nd).1 (QH hv).1,O5 hk];simp
 |p::P,w::vs,i+1,m,nd,h1,h2,hk=>by
  show bindC kindOf ((p,w)::P.zip vs) m x=_;unfold bindC;exact lV (i:=i) (Qc.mp nd).2 (by simpa using h1) (by simpa using h2) hk
def hJ(N:List Str)(vs:List V):St:=vs.map some++List.replicate (N.length-vs.length) none
noncomputable def qj(CX:Ig)(P:Program)(w:World)(K:W.Frag)(mg:Str->Option Value)(base:Heap)(N:List Str)(qual:Str)(scope:Scope)(f:Addr)(cd:Value)(A:Around)(outer:List Env)(s:Shared)(H:Hp)(E:XK):Cx where
 prog:=P
 w:=w
 K:=K
 mg:=mg
 base:=base
 A:=A.deeper (envOfC qual scope s.heap.objs.size f cd)
 N:=N
 s₀:=s
 H₀:=H
 env:=envOfC qual scope s.heap.objs.size f cd
 outer:=outer
 stack:=envOfC qual scope s.heap.objs.size f cd::outer
 ex:=[]
 calm:=true
 fn:=fun _=>true
 pn:=[]
 xe:=fun e s'=>wpAny (model P w) (A.deeper (envOfC qual scope s.heap.objs.size f cd)) (leaving (envOfC qual scope s.heap.objs.size f cd) e) (fun _ M9=>CX outer H s E e M9) (fun e' M9=>CX outer H s E e' M9) s'
theorem oG{sc:Scope}{n:Nat}{x:Str}(h:sc.names.lookup x=some .cell):∃c,(cellsFrom n sc.names []).lookup x=some c:=by
 have q:=Sm sc.names n [] (.inl h);exact P2.mp q
theorem qB{CX:Ig}{P:Program}{w:World}{K:W.Frag}{mg:Str->Option Value}{base:Heap}{N ps:List Str}{qual:Str}{scope:Scope}{f:Addr}{cd:Value}{A:Around}{outer:List Env}{s s1:Shared}{H:Hp}{E:XK}{us:List Value}{vs:List V}
  (S:FnScope N ps scope) (hd:A.handled=none) (e0:Env0 P w K mg base A outer s H) (hl:vs.length=ps.length) (r:Vals vs us)
  (x:InCallC s s.heap.objs.size (bindL (envOfC qual scope s.heap.objs.size f cd).kindOf (ps.zip us) fun _=>none) (cellsFrom (s.heap.objs.size+1) scope.names []) (bindC (envOfC qual scope s.heap.objs.size f cd).kindOf (ps.zip us) fun _=>none) s1):
  Inv (qj CX P w K mg base N qual scope f cd A outer s H E) [] (hJ N vs) H s1:=by
 have Fd:ps.length<=N.length:=by have:=P4 List.length S.pre;rw[Py]at this;lia
 obtain⟨h1,tk,rfl,hk⟩:=x.done;have LJ:∀b:Addr,b∉(qj CX P w K mg base N qual scope f cd A outer s H E).ex:=fun b z=>absurd (show b∈([]:List Addr) from z) (by simp)
 refine⟨⟨e0.mod,S.kind,rfl,rfl,OW _,fun y z c h1 h2=>?_,fun y hy=>?_,fun y c _ h=>?_,fun _=>hd,Around.frames_deeper e0.frames,.inr ⟨rfl,rfl⟩,fun b z=>absurd z (LJ b),e0.bs,e0.bsz,fun b _ _=>LJ b,fun b z=>absurd z (LJ b),e0.funs,e0.frf⟩,
  rfl,e0.bare,Un.kept hk,⟨_,x.toInCall.ns,fun i y v h1 h2 h3=>?_⟩,fun y c h=>⟨_,x.cell y c h⟩,e0.hok.fresh (OW _),fun y c h=>?_,fun p hp=>absurd (show p∈([]:List (Addr×Obj)) from hp) (by simp),e0.hok.kept hk,?_⟩
 ·exact name_of_addr x.apart (Qp h1) (Qp h2)
 ·have hy:scope.names.lookup y=some .cell\/scope.names.lookup y=some .free:=hy;rcases hy with hy|hy
  ·exact oG hy
  ·exact absurd rfl (S.nofree _ (Qp hy))
 ·exact Su (x.above y c (Qp h))
 ·have hi:i<vs.length:=by
   unfold hJ at h2;by_cases hi:i<vs.length
   ·exact hi
   ·rw[List.getElem?_append_right (by simpa using hi)]at h2;rw[List.getElem?_replicate]at h2;split at h2 <;> cases h2
  have ha:vs[i]?=some v:=by
   unfold hJ at h2;rw[List.getElem?_append_left (by simpa using hi),List.getElem?_map]at h2;cases e:vs[i]? with
   |none=>rw[e]at h2;cases h2
   |some a=>rw[e]at h2;cases h2;rfl
  obtain⟨u,hu,rv⟩:=r.get ha;have hp:ps[i]?=some y:=by
   rw[<-S.pre,List.getElem?_take_of_lt (by lia)];exact h1
  have N9:ps.Nodup:=by rw[<-S.pre];exact S.nd.sublist (RY _ _)
  refine⟨u,rv,?_⟩;rcases S.par y (PM hp) with k|k
  ·exact .inl ⟨k,lU N9 hp hu k⟩
  ·obtain⟨c,e⟩:=oG (n:=s.heap.objs.size+1) k;refine .inr ⟨.inl k,c,e,?_⟩;have q:=x.cell y c e;rw[lV N9 hp hu (by show scope.names.lookup y≠_;rw[k];decide)]at q;exact q
 ·exact e0.hok.fresh (Su (x.above y c (Qp h)))
 ·unfold hJ;show _=N.length;rw[Pw,OT,List.length_replicate];lia
theorem zt{CX:Ig}{P:Program}{w:World}{K:W.Frag}{mg:Str->Option Value}{base:Heap}{k:Nat}{f:Addr}{name qual:Str}{params:Arguments}{body:List Stmt}{scope:Scope}{dV kV doc pm EF ct oc:Value}{an od:Option Addr}
  {IE:Array (Option Value)}{N ps:List Str}{sp:Sp}(lk:K.lookup f=some ⟨oc,od,.func (PySem.W.fnOf name qual params body scope dV kV doc pm an EF ct),IE⟩) (GU:PySem.W.codeIn K EF qual=true) (S:FnScope N ps scope)
  (len:∀vs H Q E,sp vs H Q E->vs.length=ps.length)
  (He:∀(A:Around) (outer:List Env) (s:Shared) (H:Hp) (vs:List V) (Q:VK) (E:XK),Room k (A.deeper (envOfC qual scope s.heap.objs.size f EF))->sp vs H Q E->
   ∃t,PSs (qj CX P w K mg base N qual scope f EF A outer s H E) body t/\t {nx:=fun _ H'=>Q .non H',rt:=Q} (hJ N vs) H):
  FnOk P w K mg base CX (k+1) f (PySem.W.fnOf name qual params body scope dV kV doc pm an EF ct) ps sp:=by
 refine⟨len,fun A outer s H args us vs Q E hr e0 hb r Jh=>?_⟩;have hl:=len _ _ _ _ Jh;have KX:K.In s.heap:=e0.mod.kin.keeps fun b o e=>(e0.bs b o e).1
 have lim:s.heap.NoLimit:=e0.mod.nolimit.keeps fun b o e=>(e0.bs b o e).1
 have Gw:∀y∈ps.zip us,scope.names.lookup y.1=some .local\/(scope.names.lookup y.1=some .cell/\((cellsFrom (s.heap.objs.size+1) scope.names []).lookup y.1).isSome=true):=fun Er hy=>by
  obtain⟨n,v⟩:=Er;rcases S.par n (QH hy).1 with q|q
  ·exact .inl q
  ·exact .inr ⟨q,Sm _ _ _ (.inl q)⟩
 refine codeAny_call_function hr.depth (KX _ _ lk) rfl S.co S.gen rfl (PySem.W.codeRec_of KX GU) (hb _ _ _ _ ?_);refine wpAny_newFunctionEnv_cells S.kind Gw fun env he s1 x=>?_
 subst he;refine⟨lim.keeps x.toInCall.keep,codeAny_func ?_⟩;obtain⟨t,ht,hq⟩:=He A outer s H vs Q E (hr.deeper _) Jh;have I:Inv (qj CX P w K mg base N qual scope f EF A outer s H E) [] (hJ N vs) H s1:=qB S hr.hd e0 hl r x;refine PH (ht [] s1 (hJ N vs) H _ I hq) (fun fl s' hs=>?_) fun e s' hs=>hs
 have fin:∀{σ':St}{H':Hp}{v:V}{u:Value},Inv (qj CX P w K mg base N qual scope f EF A outer s H E) [] σ' H' s'->RelV v u->Q v H'->CE outer P w H s Q u s':=
  fun{σ' H' v u} J rv q=>⟨v,H',J.os,J.bare,J.base,J.hok,rv,q⟩
 cases fl with
 |ret u=>
  obtain⟨v,σ',H',J,rv,q⟩:=hs;exact fin J rv q
 |next=>
  obtain⟨σ',H',J,q⟩:=hs;exact fin (v:=V.non) (u:=Value.none) J rfl q
 |brk=>
  obtain⟨_,_,_,q⟩:=hs;exact False.elim q
 |cont=>
  obtain⟨_,_,_,q⟩:=hs;exact False.elim q
section
variable{X:Cx}{x:Str}{p pos:Pos}{e:Expr}{es:List Expr}{t:TA}{id T:String}{r:List V->Hp->VK->Prop}
def Na(r:List V->Hp->VK->Prop)(t:TA):TE:=fun σ H Q=>t σ H fun vs H1=>r vs H1 Q
theorem oH(hc:du X (.builtin id) r)(hg:Gl X x)(hm:X.mg x=none)(hv:bootBuiltins x=some (.builtin id))(ha:PA X (e::es) t)(hn:x≠"__name__":=by decide)(Fm:(x==("__debug__" : Str))=false:=by decide)
  (he:starEach (e::es) X.env=(false,eval e X.env)::starEach es X.env:=by rfl) (Fd:(backTo pos (starEach es X.env)).any (·.1)=false:=by rfl):PE X (.Call (.Name x p) (e::es) [] pos) (Na r t):=by
 intro pr s σ H Q I h;refine Q0 (lP I hg hm hv ?_ hn Fm);exact PyProof.Rows.callWith_builtin1 (Ey (ha pos pr s σ H _ I h) fun us s1 ⟨vs,H1,I1,r1,q1⟩=>hc pr s1 σ H1 vs us Q I1 r1 q1) he Fd
theorem qC(hc:du X (.type T) r)(hg:Gl X x)(hm:X.mg x=none)(hv:bootBuiltins x=some (.type T))(ha:PA X (e::es) t)(hn:x≠"__name__":=by decide)(Fm:(x==("__debug__" : Str))=false:=by decide)
  (he:starEach (e::es) X.env=(false,eval e X.env)::starEach es X.env:=by rfl) (Fd:(backTo pos (starEach es X.env)).any (·.1)=false:=by rfl):PE X (.Call (.Name x p) (e::es) [] pos) (Na r t):=by
 intro pr s σ H Q I h;refine Q0 (lP I hg hm hv ?_ hn Fm);exact Q1 (Ey (ha pos pr s σ H _ I h) fun us s1 ⟨vs,H1,I1,r1,q1⟩=>hc pr s1 σ H1 vs us Q I1 r1 q1) he Fd
end
end L2
namespace HT
open PySem PyProof.Rows
section
open PySem.SeqAt
open PySem.AutoSeq1 (wpAny_loadPart')
open PySem.MeetsSeq PySem.MeetsSeq2 PySem.MeetsSeq3
end
section
variable{prog:Program}{w:World}{A:Around}{E:Value->Shared->Prop}{s:Shared}
theorem wN{t b:Addr}{vs ws:List Value}{Q:Value->Shared->Prop}(ht:IsTup s.heap t vs.toArray)(hb:IsTup s.heap b ws.toArray)(hv:vs≠[])
  (h1:ws=[]->Q (.ref t) s) (h2:ws≠[]->Q (.ref s.heap.objs.size) {s with heap:=s.heap.push {cls:=.type "tuple",data:=.seq (vs++ws).toArray}})
  (hsz:vs.length+ws.length<=sizeLine):wpAny (model prog w) A (binaryOp .Add (.ref t) (.ref b)) Q E s:=by
 obtain⟨⟨cls,dd,data,sl⟩,ho,hc,n,hd⟩:=id ht;obtain⟨⟨Jo,HL,data2,HM⟩,FA,GV,n2,hd2⟩:=id hb;simp only at hc hd GV hd2;subst hc hd GV hd2;have e:vs.toArray++ws.toArray=(vs++ws).toArray:=by simp
 by_cases hw:ws=[]
 ·exact Sy ⟨_,ho,rfl⟩ ⟨_,FA,rfl⟩ Sh S8 Rl Rg (Q8 _ _)
   (tuple_addW1 t b vs.toArray ws.toArray n n2 dd HL sl HM (by simpa using hv) (by simp[hw])) ⟨ho,FA,h1 hw⟩
 ·refine Sy ⟨_,ho,rfl⟩ ⟨_,FA,rfl⟩ Sh S8 Rl Rg (Q8 _ _)
   (tuple_addW2 t b vs.toArray ws.toArray n n2 dd HL sl HM (by simpa using hv) (by simpa using hw) (by rw[OS,OS];exact hsz)) ⟨ho,FA,?_⟩
  rw[e];exact h2 hw
def sIx(n d:Nat):Option Int->Nat
 |none=>d
 |some v=>if v<0 then(v+(n:Int)).toNat else min v.toNat n
theorem tV(n d:Nat):sIx n d none=d:=rfl
theorem nF(n d k:Nat):sIx n d (some (k:Int))=min k n:=by
 show(if(k:Int)<0 then((k:Int)+(n:Int)).toNat else min (k:Int).toNat n)=min k n;rw[O5 (by lia),Ql]
theorem qD(n d:Nat)(hd:d<=n)(o:Option Int):sIx n d o<=n:=by
 cases o with
 |none=>exact hd
 |some v=>
  show(if v<0 then(v+(n:Int)).toNat else min v.toNat n)<=n;by_cases hv:v<0
  ·rw[OZ hv];lia
  ·rw[O5 hv];exact Nat.min_le_right _ _
theorem qE(v:Int)(n d:Nat):(if v<0 then max (v+(n:Int)) 0 else min v (n:Int))=((sIx n d (some v):Nat):Int):=by
 show(if v<0 then max (v+(n:Int)) 0 else min v (n:Int))=(((if v<0 then(v+(n:Int)).toNat else min v.toNat n):Nat):Int)
 by_cases hv:v<0
 ·simp only[OZ hv];lia
 ·simp only[O5 hv];lia
theorem pQ(lo hi:Option Int)(n:Nat):Builtin.Slice.sliceAdjust lo hi 1 (n:Int)=(((sIx n 0 lo:Nat):Int),((sIx n n hi:Nat):Int)):=by
 have h1:¬ ((1:Int)<0):=by lia
 unfold Builtin.Slice.sliceAdjust;simp only[h1,RQ];refine Prod.ext ?_ ?_
 ·cases lo with
  |none=>rfl
  |some v=>exact qE v n 0
 ·cases hi with
  |none=>rfl
  |some v=>exact qE v n n
theorem pR(i j:Nat):Builtin.Slice.slicePlaces (i:Int) (j:Int) 1=j-i:=by
 unfold Builtin.Slice.slicePlaces;have h1:(1:Int)>0:=by lia
 simp only[h1,Rh,Int.ediv_one];split <;> lia
theorem ke{v:Value}{o:Option Int}{Q:Option Int->Shared->Prop}(p:IsPart v o)(h:Q o s):wpAny (model prog w) A (Builtin.Slice.slicePartIndex v) Q E s:=by
 cases p with
 |none=>exact slicePart_none h
 |int i t=>exact slicePart_int h
theorem eR{sl:Addr}{vl vu:Value}{lo hi:Option Int}{n:Nat}{Q:Int×Int×Nat->Shared->Prop}(hs:s.heap.IsSliceOf sl vl vu .none)(pl:IsPart vl lo)(pu:IsPart vu hi)
  (h:Q (((sIx n 0 lo:Nat):Int),1,sIx n n hi-sIx n 0 lo) s):wpAny (model prog w) A (Builtin.Slice.sliceApplied (.ref sl) (pure (n:Int))) Q E s:=by
 obtain⟨os,Jp,MG,Ih⟩:=id hs;unfold Builtin.Slice.sliceApplied Builtin.Slice.sliceFields;refine OR (OR (P5 Jp Ih (x:=vl) rfl (OR (P5 Jp Ih (x:=vu) rfl (OR (P5 Jp Ih (x:=.none) rfl (OU ?_)))))));refine OR (slicePart_none ?_);show wpAny _ _ (if((1:Int)==0)=true then _ else _) _ _ s;rw[O5 (by decide)];refine OR (ke pl (OR (ke pu (OR (OU ?_)))));show wpAny _ _ (match Builtin.Slice.sliceAdjust lo hi 1 (n:Int) with|(lo,hi)=>pure (lo,(1:Int),Builtin.Slice.slicePlaces lo hi 1)) _ _ s;rw[pQ lo hi n];show wpAny _ _ (pure (((sIx n 0 lo:Nat):Int),(1:Int),Builtin.Slice.slicePlaces ((sIx n 0 lo:Nat):Int) ((sIx n n hi:Nat):Int) 1)) _ _ s;rw[pR];exact OU h
theorem tW(xs:Array Value)(i k:Nat):((List.range k).filterMap fun(m:Nat)=>xs[((i:Int)+(m:Int)*1).toNat]?).toArray=((xs.toList.drop i).take k).toArray:=by
 have e:(fun(m:Nat)=>xs[((i:Int)+(m:Int)*1).toNat]?)=fun m=>xs[i+m]?:=by
  funext m
  have:((i:Int)+(m:Int)*1).toNat=i+m:=by lia
  rw[this]
 rw[e];have:=pick_run xs i k;rw[List.filterMap_map]at this;have e2:((fun x=>xs[x]?)∘fun x=>i+x)=fun m=>xs[i+m]?:=rfl
 rw[e2]at this;rw[this]
theorem hU{t sl:Addr}{items:Array Value}{vl vu:Value}{lo hi:Option Int}{Q:Value->Shared->Prop}(ht:IsTup s.heap t items)(hs:s.heap.IsSliceOf sl vl vu .none)(pl:IsPart vl lo)(pu:IsPart vu hi)
  (hw:¬ (sIx items.size 0 lo=0/\sIx items.size items.size hi=items.size))
  (h:Q (.ref s.heap.objs.size) {s with heap:=s.heap.push {cls:=.type "tuple",data:=.seq ((items.toList.drop (sIx items.size 0 lo)).take (sIx items.size items.size hi-sIx items.size 0 lo)).toArray}})
  (hsz:items.size<=sizeLine):wpAny (model prog w) A (getItem (.ref t) (.ref sl)) Q E s:=by
 have HN:sizeOk (.seq ((items.toList.drop (sIx items.size 0 lo)).take (sIx items.size items.size hi-sIx items.size 0 lo)).toArray):=by
  show((items.toList.drop (sIx items.size 0 lo)).take (sIx items.size items.size hi-sIx items.size 0 lo)).toArray.size<=sizeLine;rw[OS,Py,Rw,P8];lia
 have hj:sIx items.size items.size hi<=items.size:=qD _ _ (OW _) hi;obtain⟨os,Jp,MG,Ih⟩:=id hs;have Nb:s.TypeIs (.ref sl) "slice":=⟨os,Jp,MG⟩
 unfold getItem;try with_reducible refine Qv ?_
 first|refine OR (OU ?_)|skip
 refine OR (wpAny_sequenceKey ht.typeIs (by decide) ?_);refine OR (wpAny_callSpecial?_slot (name:=Str.ofString "__getitem__") ht.typeIs P9
  (PF P9 ht.typeIs entry_tuple_getitem ?_ (args_tuple_getitem _ _)))
 show wpAny _ _ (Builtin.Tuple.tupleItemsOf (.ref t) >>= _) _ _ s;refine OR (tupleItemsOf_ ht ?_);refine OR (Q9 Nb ?_);rw[OZ (by decide)];refine OR (eR hs pl pu ?_);have Oa:¬ ((((sIx items.size 0 lo:Nat):Int)==0&&(1:Int)==1&&(sIx items.size items.size hi-sIx items.size 0 lo)==items.size)=true):=by
  intro q;rw[O1,O1]at q;have q1:((sIx items.size 0 lo:Nat):Int)=0:=eq_of_beq q.1.1;have q2:sIx items.size items.size hi-sIx items.size 0 lo=items.size:=eq_of_beq q.2;exact hw ⟨by lia,by lia⟩
 show wpAny _ _ (if(((sIx items.size 0 lo:Nat):Int)==0&&(1:Int)==1&&(sIx items.size items.size hi-sIx items.size 0 lo)==items.size)=true then _ else _) _ _ s;rw[O5 Oa,tW];first
  |exact OR (m:=Builtin.Tuple.tupleExact _) (PJ (OU ⟨_,rfl,OU h⟩) HN)
  |exact OR (m:=Builtin.Tuple.tupleExact _) (PJ (OR (OU (OU ⟨_,rfl,OU h⟩))) HN)
  |exact OR (OR (m:=Builtin.Tuple.tupleExact _) (PJ (OU (OU ⟨_,rfl,OU h⟩)) HN))
  |exact OR (OR (m:=Builtin.Tuple.tupleExact _) (PJ (OU ⟨_,rfl,OU h⟩) HN))
end
end HT
namespace L2
open PySem PySem.Spec PyProof.Rows
abbrev TO:=St->Hp->(Option Int->Hp->Prop)->Prop
def PO(X:Cx)(e:Option Expr)(t:TO):Prop:=
 ∀(pr:List (Addr×Obj)) (s:Shared) (σ:St) (H:Hp) (Q:Option Int->Hp->Prop),Inv X pr σ H s->t σ H Q->
  wpAny (model X.prog X.w) X.A (evalPart e X.env) (fun u s'=>∃o H',Inv X pr σ H' s'/\IsPart u o/\Q o H') X.xe s
def wO:TO:=fun _ H Q=>Q none H
def B2(t:TE):TO:=fun σ H Q=>t σ H fun x H1=>∃i,x=.int i/\Q (some i) H1
section
variable{X:Cx}{e:Expr}{te:TE}{lo hi:Option Expr}{tl th:TO}{pos p2:Pos}
theorem wQ:PO X none wO:=by
 intro pr s σ H Q I h;rw[evalPart_none];exact OU ⟨none,H,I,.none,h⟩
theorem wR(h:PE X e te):PO X (some e) (B2 te):=by
 intro pr s σ H Q I hw;rw[evalPart_some];refine Ey (h pr s σ H _ I hw) fun u s1 Ez=>?_
 obtain⟨x,H1,I1,r1,q1⟩:=Ez;obtain⟨i,rfl,q⟩:=q1;obtain⟨t,rfl⟩:=r1;exact⟨some i,H1,I1,.int i t,q⟩
def Ki(X:Cx)(r:V->Option Int->Option Int->Hp->VK->Prop):Prop:=
 ∀(pr:List (Addr×Obj)) (s:Shared) (σ:St) (H:Hp) (x:V) (v vl vu:Value) (lo hi:Option Int) (sl:Addr) (Q:VK),Inv X pr σ H s->RelV x v->s.heap.IsSliceOf sl vl vu .none->IsPart vl lo->IsPart vu hi->r x lo hi H Q->
  ∃T id,typeLookup (.type T) "__getitem__" = pure (some (.builtin id))/\s.TypeIs v T/\wpAny (model X.prog X.w) X.A (getItem v (.ref sl)) (EP X pr σ Q) X.xe s
def tSl(r:V->Option Int->Option Int->Hp->VK->Prop)(te:TE)(tl th:TO):TE:=fun σ H Q=>te σ H fun x H1=>tl σ H1 fun l H2=>th σ H2 fun u H3=>r x l u H3 Q
theorem tY{r:V->Option Int->Option Int->Hp->VK->Prop}(hr:Ki X r)(he:PE X e te)(hl:PO X lo tl)(hu:PO X hi th):PE X (.Subscript e (.Slice lo hi none p2) pos) (tSl r te tl th):=by
 intro pr s σ H Q I h;refine Subscript_ (Ey (he pr s σ H _ I h) fun v s1 Ez=>?_);obtain⟨x,H1,I1,r1,q1⟩:=Ez;refine wpAny_Slice (Ey (hl pr s1 σ H1 _ I1 q1) fun vl s2 ⟨l,H2,I2,pl,q2⟩=>Ey (hu pr s2 σ H2 _ I2 q2) fun vu s3 Ez=>?_);obtain⟨u,H3,I3,pu,q3⟩:=Ez;rw[evalPart_none];refine OU ?_;have I4:Inv X pr σ H3 {s3 with heap:=s3.heap.push {cls:=.type "slice",data:=.fields #[vl,vu,.none]}}:=I3.kept (t':=s3.toks) fun b ob q=>Heap.get?_push_of_some _ q
 obtain⟨T,id,hT,ht,hg⟩:=hr pr {s3 with heap:=s3.heap.push {cls:=.type "slice",data:=.fields #[vl,vu,.none]}} σ H3 x v vl vu l u s3.heap.objs.size Q I4 r1 (Heap.IsSliceOf.new ..) pl pu q3;show wpAny (model X.prog X.w) X.A (subscriptTail e (.Slice lo hi none p2) v (.ref s3.heap.objs.size)) (EP X pr σ Q) X.xe {s3 with heap:=s3.heap.push {cls:=.type "slice",data:=.fields #[vl,vu,.none]}};exact tail_any (ops:=[.ref s3.heap.objs.size,v]) ht hT hg (by with_unfolding_all rfl)
def vK(xs:List V)(lo hi:Option Int):List V:=(xs.drop (HT.sIx xs.length 0 lo)).take (HT.sIx xs.length xs.length hi-HT.sIx xs.length 0 lo)
theorem jj(xs:List V)(lo hi:Option Int):(vK xs lo hi).length<=xs.length:=by
 unfold vK;rw[Py,Rw];lia
def Dz(K:W.Frag):V->Option Int->Option Int->Hp->VK->Prop:=fun x lo hi H Q=>∃a xs,x=.ref a/\SqT K H a xs/\
 ¬ (HT.sIx xs.length 0 lo=0/\HT.sIx xs.length xs.length hi=xs.length)/\∀p,H p=none->Q (.ref p) (upd H p (.tup (vK xs lo hi)))
theorem zu:Ki X (Dz X.K):=by
 intro pr s σ H x v vl vu lo hi sl Q I rx hs pl pu h;obtain⟨a,xs,rfl,hx,hw,q⟩:=h;cases rx;obtain⟨Eg,r,ht,hz⟩:=I.tuple hx;have hlen:Eg.toArray.size=xs.length:=by rw[OS];exact r.length.symm
 refine⟨"tuple",_,PyProof.Rows.slot_tuple_getitem.lookup,ht.typeIs,?_⟩;refine HT.hU ht hs pl pu (by rw[hlen];exact hw) ?_ (by rw[hlen];exact hz);rw[hlen];refine⟨.ref s.heap.objs.size,_,I.laid (t':=s.toks) (o:=.tup (vK xs lo hi)) (fun b ob q=>Heap.get?_push_of_some _ q) (OW _) ?_,rfl,q _ (I.hok.fresh (OW _))⟩;exact⟨PB (jj xs lo hi) hz,_,(r.drop (HT.sIx xs.length 0 lo)).take (HT.sIx xs.length xs.length hi-HT.sIx xs.length 0 lo),IsTupN.new _ _⟩
def B3(K:W.Frag):R2:=fun x y H Q=>∃a b xs ys,x=.ref a/\y=.ref b/\SqT K H a xs/\SqT K H b ys/\xs≠[]/\xs.length+ys.length<=sizeLine/\
 (ys=[]->Q (.ref a) H)/\(ys≠[]->∀p,H p=none->Q (.ref p) (upd H p (.tup (xs++ys))))
theorem Vals.nil_iff{xs:List V}{us:List Value}(r:Vals xs us):us=[]<->xs=[]:=by
 cases r with
 |nil=>simp
 |cons _ _=>simp
theorem wU:EK X (binaryOp .Add) (B3 X.K):=by
 intro pr s σ H x y v u Q I rx ry h;obtain⟨a,b,xs,ys,rfl,rfl,ha,hb,hx,hz,q1,q2⟩:=h;cases rx;cases ry;obtain⟨Eg,r1,p1,_⟩:=I.tuple ha;obtain⟨Hu,r2,p2,_⟩:=I.tuple hb;refine HT.wN p1 p2 (fun z=>hx (r1.nil_iff.mp z)) (fun z=>⟨.ref a,H,I,rfl,q1 (r2.nil_iff.mp z)⟩) (fun z=>?_) (by rw[<-r1.length,<-r2.length];exact hz);refine⟨.ref s.heap.objs.size,_,I.laid (t':=s.toks) (o:=.tup (xs++ys)) (fun b ob q=>Heap.get?_push_of_some _ q) (OW _) ?_,rfl,q2 (fun w=>z (r2.nil_iff.mpr w)) _ (I.hok.fresh (OW _))⟩;exact⟨by rw[Pw];exact hz,_,r1.append r2,IsTupN.new _ _⟩
end
def ixN(n:Nat)(i:Int):Option Nat:=if 0<=i then(if i<n then some i.toNat else none) else if -(n:Int)<=i then some (i+n).toNat else none
def F4{α:Type}(xs:List α)(i:Int):Option α:=(ixN xs.length i).bind fun j=>xs[j]?
theorem qF{n:Nat}{i:Int}{j:Nat}(h:ixN n i=some j):seqIndex? i n=some j/\j<n/\-(n:Int)<=i/\i<n:=by
 unfold ixN at h;by_cases h0:0<=i
 ·rw[OZ h0]at h;by_cases h1:i<n
  ·rw[OZ h1]at h;have e:i.toNat=j:=Pn h;exact⟨by rw[seqIndex_of h0 h1,e],by lia,by lia,h1⟩
  ·rw[O5 h1]at h;cases h
 ·rw[O5 h0]at h;by_cases h1:-(n:Int)<=i
  ·rw[OZ h1]at h;have e:(i+n).toNat=j:=Pn h;exact⟨by rw[seqIndex_neg (by lia) h1,e],by lia,h1,by lia⟩
  ·rw[O5 h1]at h;cases h
theorem nG{α:Type}{xs:List α}{i:Int}{v:α}(h:F4 xs i=some v):∃j,seqIndex? i xs.length=some j/\xs[j]?=some v/\j<xs.length/\-(xs.length:Int)<=i/\i<xs.length:=by
 unfold F4 at h;cases e:ixN xs.length i with
 |none=>rw[e]at h;cases h
 |some j=>
  rw[e]at h;obtain⟨h1,h2,h3,h4⟩:=qF e;exact⟨j,h1,h,h2,h3,h4⟩
theorem hV{α:Type}{xs:List α}{j:Nat}{v:α}(h:xs[j]?=some v):F4 xs (j:Int)=some v:=by
 have hj:j<xs.length:=(List.getElem?_eq_some_iff.mp h).1;have e:ixN xs.length (j:Int)=some j:=by
  unfold ixN;rw[OZ (by lia),OZ (by lia)];simp
 unfold F4;rw[e];exact h
def qG(b:Expr):Prop:=∀o i,subscripted b false o i=operate [o,i] (getItem o i)
def LK(X:Cx)(r:R2):Prop:=
 ∀(value slice:Expr) (pr:List (Addr×Obj)) (s:Shared) (σ:St) (H:Hp) (x y:V) (v u:Value) (Q:VK),Inv X pr σ H s->RelV x v->RelV y u->r x y H Q->
  subscripted slice false v u=operate [v,u] (getItem v u)->wpAny (model X.prog X.w) X.A (subscriptTail value slice v u) (EP X pr σ Q) X.xe s
def Jq(X:Cx)(id:String)(r:V->List V->Hp->VK->Prop):Prop:=
 ∀(pr:List (Addr×Obj)) (s:Shared) (σ:St) (H:Hp) (x:V) (xs:List V) (v:Value) (us:List Value) (Q:VK),Inv X pr σ H s->RelV x v->Vals xs us->r x xs H Q->
  wpAny (model X.prog X.w) X.A (call (.builtin id) (v::us)) (EP X pr σ Q) X.xe s
section
variable{X:Cx}{a b:Expr}{ta tb:TE}{pos:Pos}
theorem nH{r:R2}(hr:LK X r)(ha:PE X a ta)(hb:PE X b tb)(hs:qG b):PE X (.Subscript a b pos) (Ln r ta tb):=by
 intro pr s σ H Q I h;exact Subscript_ (BV ha hb I h fun v u s2 x y H2 I2 rx ry q=>hr a b pr s2 σ H2 x y v u Q I2 rx ry q (hs _ _))
def DA(K:W.Frag):R2:=fun x y H Q=>∃p xs i v,x=.ref p/\y=.int i/\SqL K H p xs/\F4 xs i=some v/\Q v H
def DB(K:W.Frag):R2:=fun x y H Q=>∃p xs i v,x=.ref p/\y=.int i/\SqT K H p xs/\F4 xs i=some v/\Q v H
def DE:R2:=fun x y H Q=>∃z i c,x=.str z/\y=.int i/\z.length<=sizeLine/\F4 z.cps.toList i=some c/\Q (.str ⟨#[c]⟩) H
theorem wV:LK X (DA X.K):=by
 intro value slice pr s σ H x y v u Q I rx ry h hs;obtain⟨p,xs,i,z,rfl,rfl,hq,he,q⟩:=h;cases rx;obtain⟨t,rfl⟩:=ry;obtain⟨Eg,r,pl,hz⟩:=I.list hq;obtain⟨j,h1,h2,h3,h4,h5⟩:=nG he;obtain⟨w,ew,Ii⟩:=r.get h2;have hl:=r.length;have hn:=kc;have fin:EP X pr σ Q w s:=⟨z,H,I,Ii,q⟩
 by_cases h0:0<=i
 ·have hj:i.toNat=j:=by
   rw[seqIndex_of h0 h5]at h1;exact Pn h1
  exact item_listR pl.isList h0 (by lia) (by rw[hj];simpa using ew) fin hs
 ·have hj:(i+(Eg.toArray.size:Int)).toNat=j:=by
   rw[seqIndex_neg (by lia) h4]at h1;rw[OS,<-hl];exact Pn h1
  exact subscriptTail_builtinR (x:=w) pl.isList.typeIs slot_list_getitem.lookup
   (wpAny_getItem_list_neg (Q:=fun r s'=>r=w/\EP X pr σ Q r s') pl.isList (by lia) (by rw[OS] <;> lia) (by lia) (by rw[hj];simpa using ew) ⟨rfl,fin⟩) hs
theorem jk:LK X (DB X.K):=by
 intro value slice pr s σ H x y v u Q I rx ry h hs;obtain⟨p,xs,i,z,rfl,rfl,hq,he,q⟩:=h;cases rx;obtain⟨t,rfl⟩:=ry;obtain⟨Eg,r,pl,hz⟩:=I.tuple hq;obtain⟨j,h1,h2,h3,h4,h5⟩:=nG he;obtain⟨w,ew,Ii⟩:=r.get h2;have hl:=r.length;have hn:=kc;have fin:EP X pr σ Q w s:=⟨z,H,I,Ii,q⟩
 exact subscriptTail_builtinR (x:=w) pl.typeIs slot_tuple_getitem.lookup
  (getItem_tuple (j:=j) (Q:=fun r s'=>r=w/\EP X pr σ Q r s') pl (by lia) (by lia) (by rw[OS,<-hl];exact h1) (by simpa using ew) ⟨rfl,fin⟩) hs
theorem zv:LK X DE:=by
 intro value slice pr s σ H x y v u Q I rx ry h hs;obtain⟨z,i,c,rfl,rfl,hz,he,q⟩:=h;obtain⟨t,rfl⟩:=rx;obtain⟨t',rfl⟩:=ry;obtain⟨j,h1,h2,h3,h4,h5⟩:=nG he;have hl:z.cps.toList.length=z.length:=by simp[Str.length]
 rw[hl]at h1 h4 h5;have hn:=kc;exact tail_any (SM s z t) slot_str_getitem.lookup (getItem_str (c:=c) (by
  have e1:decide (i < -(2 ^ 63:Int))=false:=Pa (by lia);have e2:decide (i>=2 ^ 63)=false:=Pa (by lia);rw[e1,e2,Bool.or_false]) (by rw[h1];simpa using h2) ⟨.str ⟨#[c]⟩,H,I.tok _,⟨_,rfl⟩,q⟩) hs
theorem pS(Eg:List Value)(n j:Nat)(u:Value):Obj.mapSeq (·.setIfInBounds j u) {cls:=.type "list",data:=.seq Eg.toArray n}={cls:=.type "list",data:=.seq (Eg.set j u).toArray n}:=by
 simp[Obj.mapSeq]
theorem Inv.lst{pr:List (Addr×Obj)}{σ:St}{H:Hp}{s:Shared}{p:Addr}{xs:List V}(I:Inv X pr σ H s)(h:H p=some (.lst xs)):
  ∃(Eg:List Value) (n:Nat),Vals xs Eg/\s.heap.get? p=some {cls:=.type "list",data:=.seq Eg.toArray n}/\xs.length<=sizeLine:=by
 obtain⟨z,Eg,n,r,e⟩:=I.hok p _ h;exact⟨Eg,n,r,e,z⟩
theorem Inv.lstUpd{pr:List (Addr×Obj)}{σ:St}{H:Hp}{s:Shared}{p:Addr}{xs ys:List V}{Eg its':List Value}{n n':Nat}{f:Obj->Obj}(I:Inv X pr σ H s)(h:H p=some (.lst xs))
  (ho:s.heap.get? p=some {cls:=.type "list",data:=.seq Eg.toArray n}) (hf:f {cls:=.type "list",data:=.seq Eg.toArray n}={cls:=.type "list",data:=.seq its'.toArray n'}) (r:Vals ys its') (hz:ys.length<=sizeLine) (t:Nat):
  Inv X pr σ (upd H p (.lst ys)) {s with heap:=s.heap.update p f,toks:=t}:=by
 have e:(s.heap.update p f).get? p=some {cls:=.type "list",data:=.seq its'.toArray n'}:=by
  rw[Heap.get?_update_self f ho (by rw[hf] <;> rfl),hf]
 refine I.write (x:=p) (e:=p) (by rw[h];trivial) (.inl rfl) (fun b u hb q=>(Heap.get?_update_other _ _ (QR hb)).trans q) ⟨_,e⟩ ?_;exact⟨hz,its',n',r,e⟩
def zw:V->V->V->Hp->(Hp->Prop)->Prop:=fun o i v H Q=>∃p xs k j,o=.ref p/\i=.int k/\H p=some (.lst xs)/\ixN xs.length k=some j/\Q (upd H p (.lst (xs.set j v)))
theorem tZ:Dp X zw:=by
 intro pr s σ H o i v ov iv u Q I ro ri rv h;obtain⟨p,xs,k,j,rfl,rfl,hp,hj,q⟩:=h;cases ro;obtain⟨t,rfl⟩:=ri;obtain⟨Eg,n,r,ho,hz⟩:=I.lst hp;obtain⟨h1,h2,h3,h4⟩:=qF hj;have hl:=r.length;have hn:=kc;have I':Inv X pr σ (upd H p (.lst (xs.set j v))) {s with heap:=s.heap.update p (Obj.mapSeq (·.setIfInBounds j u))}:=
  I.lstUpd hp ho (pS Eg n j u) (r.set rv j) (by rw[QJ];exact hz) s.toks
 by_cases h0:0<=k
 ·have hk:k.toNat=j:=by
   rw[seqIndex_of h0 h4]at h1;exact Pn h1
  exact PySem.W.ki_setAt ho h0 (by lia) (by rw[OS,<-hl];exact h4) (by rw[hk];exact⟨_,I',q⟩)
 ·have hk:(k+(Eg.toArray.size:Int)).toNat=j:=by
   rw[seqIndex_neg (by lia) h3]at h1;rw[OS,<-hl];exact Pn h1
  exact PySem.W.ki_setBack ho (by lia) (by rw[OS,<-hl];exact h3) (by lia) (by rw[hk];exact⟨_,I',q⟩)
theorem lW(lo hi:Option Int)(n:Nat):(sliceBounds lo hi none n).1=((HT.sIx n 0 lo:Nat):Int)/\(sliceBounds lo hi none n).2.1=((HT.sIx n n hi:Nat):Int)/\(sliceBounds lo hi none n).2.2=1:=by
 refine⟨?_,?_,rfl⟩
 ·cases lo with
  |none=>simp[sliceBounds,HT.sIx]
  |some i=>
   simp only[sliceBounds,HT.sIx,Si,show(1:Int)>0 by decide,Rh];by_cases h:i<0
   ·simp only[h,Rh] <;> lia
   ·simp only[h,RQ] <;> lia
 ·cases hi with
  |none=>simp[sliceBounds,HT.sIx]
  |some i=>
   simp only[sliceBounds,HT.sIx,Si,show(1:Int)>0 by decide,Rh];by_cases h:i<0
   ·simp only[h,Rh] <;> lia
   ·simp only[h,RQ] <;> lia
theorem kI(Eg:List Value)(lo hi:Option Int):slicePick Eg.toArray lo hi none=((Eg.drop (HT.sIx Eg.length 0 lo)).take (HT.sIx Eg.length Eg.length hi-HT.sIx Eg.length 0 lo)).toArray:=by
 obtain⟨h1,h2,h3⟩:=lW lo hi Eg.toArray.size;unfold slicePick;rw[h1,h2,h3];simp only[sliceRange_one,pick_run,OS] <;> rfl
def DF(K:W.Frag):V->Option Int->Option Int->Hp->VK->Prop:=fun x lo hi H Q=>∃a xs,x=.ref a/\SqL K H a xs/\∀p,H p=none->Q (.ref p) (upd H p (.lst (vK xs lo hi)))
theorem wW:Ki X (DF X.K):=by
 intro pr s σ H x v vl vu lo hi sl Q I rx hs pl pu h;obtain⟨a,xs,rfl,hx,q⟩:=h;cases rx;obtain⟨Eg,r,ht,hz⟩:=I.list hx;have hlen:=r.length;refine⟨"list",_,slot_list_getitem.lookup,ht.isList.typeIs,?_⟩;refine RZ ht.isList hs pl pu .none (by simp) ?_ (by rw[OS] <;> lia);rw[kI,<-hlen];refine⟨.ref s.heap.objs.size,_,I.laid (t':=s.toks) (o:=.lst (vK xs lo hi)) (fun b ob q=>Heap.get?_push_of_some _ q) (OW _) ?_,rfl,q _ (I.hok.fresh (OW _))⟩;exact⟨PB (jj xs lo hi) hz,_,0,(r.drop (HT.sIx xs.length 0 lo)).take (HT.sIx xs.length xs.length hi-HT.sIx xs.length 0 lo),Heap.get?_push_size _ rfl⟩
def t8:V->Bool
 | .non=>true
 | .bl _=>true
 | .int _=>true
 | .str _=>true
 |_=>false
def Nc:V->V->Bool
 | .non,.non=>true
 | .bl a,.bl b=>a==b
 | .bl a,.int b=>(if a then 1 else 0)==b
 | .int a,.bl b=>a==(if b then 1 else 0)
 | .int a,.int b=>a==b
 | .str a,.str b=>a==b
 |_,_=>false
theorem vL{A:Around}{s:Shared}{y x:V}{u v:Value}(ry:RelV y u)(rx:RelV x v)(fy:t8 y=true)(fx:t8 x=true):SeqAt.EqAt A s u v (Nc y x):=by
 cases y with
 |non=>
  cases ry;cases x with
  |non=>cases rx;exact SeqAt.EqAt.same _
  |bl b=>cases rx;exact SeqAt.EqAt.none_bool b
  |int b=>obtain⟨t,rfl⟩:=rx;exact SeqAt.EqAt.none_int b t
  |str b=>obtain⟨t,rfl⟩:=rx;exact SeqAt.EqAt.none_str b t
  |_=>exact absurd (show false=true from fx) O0
 |bl a=>
  cases ry;cases x with
  |non=>cases rx;exact SeqAt.EqAt.bool_none a
  |bl b=>cases rx;exact SeqAt.EqAt.bool_bool a b
  |int b=>obtain⟨t,rfl⟩:=rx;exact SeqAt.EqAt.bool_int a b t
  |str b=>obtain⟨t,rfl⟩:=rx;exact SeqAt.EqAt.bool_str a b t
  |_=>exact absurd (show false=true from fx) O0
 |int a=>
  obtain⟨t',rfl⟩:=ry;cases x with
  |non=>cases rx;exact SeqAt.EqAt.int_none a t'
  |bl b=>cases rx;exact SeqAt.EqAt.int_bool a t' b
  |int b=>obtain⟨t,rfl⟩:=rx;exact SeqAt.EqAt.int_int a t' b t
  |str b=>obtain⟨t,rfl⟩:=rx;exact SeqAt.EqAt.int_str a t' b t
  |_=>exact absurd (show false=true from fx) O0
 |str a=>
  obtain⟨t',rfl⟩:=ry;cases x with
  |non=>cases rx;exact SeqAt.EqAt.str_none a t'
  |bl b=>cases rx;exact SeqAt.EqAt.str_bool a t' b
  |int b=>obtain⟨t,rfl⟩:=rx;exact SeqAt.EqAt.str_int a t' b t
  |str b=>obtain⟨t,rfl⟩:=rx;exact SeqAt.EqAt.str_str a t' b t
  |_=>exact absurd (show false=true from fx) O0
 |_=>exact absurd (show false=true from fy) O0
theorem ir:du X (.builtin "len") (fun xs H Q=>∃p ys,xs=[.ref p]/\(SqL X.K H p ys\/SqT X.K H p ys)/\Q (.int ys.length) H):=by
 intro pr s σ H xs us Q I r h;obtain⟨p,ys,rfl,hq,q⟩:=h;obtain⟨u,rfl,rx⟩:=gL r;cases rx;have hn:=kc;rcases hq with hq|hq
 ·obtain⟨Eg,r',pl,hz⟩:=I.list hq;have hlen:=r'.length;exact Calls.call_len_list pl.isList (by simp only[OS] <;> lia) ⟨.int ys.length,H,I.tok _,⟨s.toks+1,by rw[OS,hlen]⟩,q⟩
 ·obtain⟨Eg,r',pl,hz⟩:=I.tuple hq;have hlen:=r'.length;exact len_tuple pl (by simp only[OS] <;> lia) ⟨.int ys.length,H,I.tok _,⟨s.toks+1,by rw[OS,hlen]⟩,q⟩
theorem lX:du X (.builtin "len") (fun xs H Q=>∃z,xs=[.str z]/\z.length<=sizeLine/\Q (.int z.length) H):=by
 intro pr s σ H xs us Q I r h;obtain⟨z,rfl,hz,q⟩:=h;obtain⟨u,rfl,t,rfl⟩:=gL r;have hn:=kc;exact len_str (by lia) ⟨.int z.length,H,I.tok _,⟨_,rfl⟩,q⟩
theorem iu:du X (.type "list") (fun xs H Q=>∃p ys,xs=[.ref p]/\(SqL X.K H p ys\/SqT X.K H p ys)/\∀l,H l=none->Q (.ref l) (upd H l (.lst ys))):=by
 intro pr s σ H xs us Q I r h;obtain⟨p,ys,rfl,hq,q⟩:=h;obtain⟨u,rfl,rx⟩:=gL r;cases rx;have fin:∀(Eg:List Value),Vals ys Eg->ys.length<=sizeLine->∀(h':Heap) (c':Nat),(∀b o',s.heap.get? b=some o'->h'.get? b=some o')->
   h'.get? s.heap.objs.size=some {cls:=.type "list",dict:=none,data:=.seq Eg.toArray c',slots:=#[]}->EP X pr σ Q (.ref s.heap.objs.size) {s with heap:=h'}:=fun Eg r' hz h' c' kp e=>
  ⟨.ref s.heap.objs.size,_,I.laid (t':=s.toks) kp (OW _) (show ObjOk X.prog X.w _ h' _ (.lst ys) from⟨hz,Eg,c',r',e⟩),rfl,q _ (I.hok.fresh (OW _))⟩
 rcases hq with hq|hq
 ·obtain⟨Eg,r',pl,hz⟩:=I.list hq;have hlen:=r'.length;obtain⟨o,ho,hc,n,hd⟩:=pl.isList;exact call_list_seq p (.inl rfl) ho hc hd (fun h' c' kp e=>fin Eg r' hz h' c' kp e) (by simp only[OS] <;> lia)
 ·obtain⟨Eg,r',pl,hz⟩:=I.tuple hq;have hlen:=r'.length;obtain⟨o,ho,hc,n,hd⟩:=pl;exact call_list_seq p (.inr rfl) ho hc hd (fun h' c' kp e=>fin Eg r' hz h' c' kp e) (by simp only[OS] <;> lia)
theorem gM:du X (.type "tuple") (fun xs H Q=>∃p ys,xs=[.ref p]/\((SqL X.K H p ys/\∀l,H l=none->Q (.ref l) (upd H l (.tup ys)))\/(SqT X.K H p ys/\Q (.ref p) H))):=by
 intro pr s σ H xs us Q I r h;obtain⟨p,ys,rfl,h⟩:=h;obtain⟨u,rfl,rx⟩:=gL r;cases rx;rcases h with⟨hq,q⟩|⟨hq,q⟩
 ·obtain⟨Eg,r',pl,hz⟩:=I.list hq;have hlen:=r'.length;refine call_tuple_list pl.isList (fun h' kp=>?_) (by simp only[OS] <;> lia);have I1:Inv X pr σ H {s with heap:=h'}:=I.kept (t':=s.toks) kp;have I2:Inv X pr σ (upd H h'.objs.size (.tup ys)) {s with heap:=h'.push {cls:=.type "tuple",data:=.seq Eg.toArray}}:=
   I1.laid (t':=s.toks) (fun b o e=>Heap.get?_push_of_some _ e) (OW _) (show ObjOk X.prog X.w _ _ _ (.tup ys) from⟨hz,Eg,r',IsTupN.new _ _⟩)
  exact⟨.ref h'.objs.size,_,I2,rfl,q _ (I1.hok.fresh (OW _))⟩
 ·obtain⟨Eg,r',pl,hz⟩:=I.tuple hq;exact call_tuple_same pl ⟨.ref p,H,I,rfl,q⟩
def MH(K:W.Frag)(T:String)(x:V)(H:Hp):Prop:=match x with
 | .str _=>T = "str"
 | .int _=>T = "int"
 | .ref p=>(T = "list"/\∃xs,SqL K H p xs)\/(T = "tuple"/\∃o,K.lookup p=some o/\o.cls=.type "tuple"/\o.dict=none)\/
   (T = "dict"/\((∃kvs,H p=some (.dK kvs))\/∃kvs,H p=some (.dT kvs)))\/(T = "set"/\∃S n,H p=some (.set S n))
 |_=>False
theorem vM{pr:List (Addr×Obj)}{σ:St}{H:Hp}{s:Shared}{T:String}{x:V}{v:Value}(I:Inv X pr σ H s)(r:RelV x v)(ty:MH X.K T x H):
  s.TypeIs v T/\∀a,v=.ref a->∃ob,s.heap.get? a=some ob/\ob.dict=none:=by
 cases x with
 |str z=>
  obtain⟨t,rfl⟩:=r;cases(show T = "str" from ty);exact⟨SM s z t,fun _ e=>nomatch e⟩
 |int i=>
  obtain⟨t,rfl⟩:=r;cases(show T = "int" from ty);exact⟨SN s i t,fun _ e=>nomatch e⟩
 |ref p=>
  cases r;rcases ty with⟨rfl,xs,hq⟩|⟨rfl,o,hk,hc,hd⟩|⟨rfl,hk⟩|⟨rfl,S,n,hk⟩
  ·obtain⟨Eg,_,pl,_⟩:=I.list hq;refine⟨pl.isList.typeIs,fun a e=>?_⟩;cases e;obtain⟨o,n,e,c,hd,_⟩:=pl;exact⟨o,e,hd⟩
  ·refine⟨⟨o,I.kIn p o hk,hc⟩,fun a e=>?_⟩;cases e;exact⟨o,I.kIn _ o hk,hd⟩
  ·have z:∃o,s.heap.get? p=some o/\o.ExactDict:=by
    rcases hk with⟨kvs,hk⟩|⟨kvs,hk⟩
    ·obtain⟨_,_,_,_,o,_,_,e,ex,_⟩:=I.hok p _ hk;exact⟨o,e,ex⟩
    ·obtain⟨_,_,_,_,o,_,_,e,ex,_⟩:=I.hok p _ hk;exact⟨o,e,ex⟩
   obtain⟨o,e,ex⟩:=z;refine⟨⟨o,e,ex.1⟩,fun a e2=>?_⟩;cases e2;exact⟨o,e,ex.2.1⟩
  ·obtain⟨o,_,_,_,e,ex,_⟩:=I.hok p _ hk;refine⟨⟨o,e,ex.1⟩,fun a e2=>?_⟩;cases e2;exact⟨o,e,ex.2.1⟩
 |_=>exact False.elim ty
def DG(K:W.Frag)(T:String)(r:V->List V->Hp->VK->Prop)(to:TE):TE:=fun σ H Q=>to σ H fun x H1=>MH K T x H1/\r x [] H1 Q
def tBM(K:W.Frag)(T:String)(r:V->List V->Hp->VK->Prop)(to:TE)(t:TA):TE:=fun σ H Q=>to σ H fun x H1=>MH K T x H1/\t σ H1 fun xs H2=>r x xs H2 Q
variable{o e:Expr}{es:List Expr}{to:TE}{t:TA}{name:Str}{apos Eo:Pos}{T id:String}{r:V->List V->Hp->VK->Prop}
theorem vN(pa:PlainAttrs T)(slot:Slot T name id)(Ij:typeOf (.builtin id)=pure (.type "method_descriptor"))(hm:Jq X id r)(ho:PE X o to)
  (EL:attributeBase o name X.env (eval o X.env)=eval o X.env:=by rfl) (EO:(apos.endLine==Eo.line)=true:=by rfl):PE X (.Call (.Attribute o name apos) [] [] Eo) (DG X.K T r to):=by
 intro pr s σ H Q I h;refine wpAny_Call_method0_late EL EO (Ey (ho pr s σ H _ I h) fun v s1 Ez=>?_);obtain⟨x,H1,I1,r1,ty,q1⟩:=Ez;obtain⟨h1,h2⟩:=vM I1 r1 ty;exact⟨T,id,pa,slot,Ij,h1,h2,Rm rfl (PySem.evalArgs_none (hm pr s1 σ H1 x [] v [] Q I1 r1 .nil q1))⟩
theorem t9(pa:PlainAttrs T)(slot:Slot T name id)(Ij:typeOf (.builtin id)=pure (.type "method_descriptor"))(hm:Jq X id r)(ho:PE X o to)(ha:PA X (e::es) t)
  (EL:attributeBase o name X.env (eval o X.env)=eval o X.env:=by rfl)
  (F7:((backTo Eo (starEach (e::es) X.env)).all (fun x=>!x.1)&&(backToKw Eo (keywordEach [] X.env)).all (fun x=>x.1.isSome)
   && decide ((e::es).length+([]:List Keyword).length+(if([]:List Keyword).isEmpty then 0 else 1)<30))=true:=by rfl)
  (EO:(apos.endLine==Eo.line)=true:=by rfl) (hs:starEach (e::es) X.env=(false,eval e X.env)::starEach es X.env:=by rfl) (ET:(backTo Eo (starEach es X.env)).any (·.1)=false:=by rfl):
  PE X (.Call (.Attribute o name apos) (e::es) [] Eo) (tBM X.K T r to t):=by
 intro pr s σ H Q I h;refine wpAny_Call_method_late EL F7 EO rfl (Ey (ho pr s σ H _ I h) fun v s1 Ez=>?_);obtain⟨x,H1,I1,r1,ty,q1⟩:=Ez;obtain⟨h1,h2⟩:=vM I1 r1 ty;refine⟨T,id,pa,slot,Ij,h1,h2,?_⟩;have hA:=ha Eo pr s1 σ H1 _ I1 q1;rw[hs]at hA ⊢;refine Rm (by show(false||(backTo Eo (starEach es X.env)).any (·.1))=false;rw[ET] <;> rfl) (Rz ?_);exact Ey hA fun us s2 ⟨vs,H2,I2,r2,q2⟩=>hm pr s2 σ H2 x vs v us Q I2 r1 r2 q2
end
def MtM(X:Cx)(id:String)(r:V->List V->Hp->VK->Prop):Prop:=
 ∀(pr:List (Addr×Obj)) (s:Shared) (σ:St) (H:Hp) (x:V) (xs:List V) (v:Value) (us:List Value) (Q:VK),Inv X pr σ H s->RelV x v->Vals xs us->r x xs H Q->
  wpAny (model X.prog X.w) X.A (call (.builtin id) (v::us)) (EP X pr σ Q) X.xe s
theorem Vals.one:∀{x:V}{us:List Value},Vals [x] us->∃u,us=[u]/\RelV x u
 |_,_,.cons r .nil=>⟨_,rfl,r⟩
theorem Vals.zero:∀{us:List Value},Vals [] us->us=[]
 |_,.nil=>rfl
theorem Vals.dropLast{xs:List V}{us:List Value}(h:Vals xs us):Vals xs.dropLast us.dropLast:=by
 induction h with
 |nil=>exact .nil
 |cons r t ih=>
  cases t with
  |nil=>exact .nil
  |cons q t'=>exact .cons r ih
theorem Vals.eraseIdx:∀{xs:List V}{us:List Value}(i:Nat),Vals xs us->Vals (xs.eraseIdx i) (us.eraseIdx i)
 |_,_,_,.nil=>.nil
 |_,_,0,.cons _ t=>t
 |_,_,i+1,.cons r t=>.cons r (Vals.eraseIdx i t)
theorem Vals.rep{xs:List V}{us:List Value}(h:Vals xs us):∀k:Nat,Vals (List.replicate k xs).flatten (List.replicate k us).flatten
 | 0=>.nil
 |k+1=>by
  rw[Qa,Qa,Qm,Qm];exact Vals.append h (Vals.rep h k)
theorem pT{α:Type}(l:List α):l.eraseIdx (l.length-1)=l.dropLast:=by
 induction l with
 |nil=>rfl
 |cons a r ih=>
  cases r with
  |nil=>rfl
  |cons b r=>
   have e:(a::b::r).length-1=((b::r).length-1)+1:=by
    have h1:(a::b::r).length=r.length+2:=rfl;have h2:(b::r).length=r.length+1:=rfl;lia
   rw[e,List.eraseIdx_cons_succ,ih];all_goals rfl
theorem lY(Eg:List Value):∀(k:Nat) (acc:List Value),
  List.foldl (fun x1 x2=>x1++x2) acc.toArray (List.replicate k Eg.toArray)=(acc++(List.replicate k Eg).flatten).toArray
 | 0,acc=>by simp
 |k+1,acc=>by
  have e:acc.toArray++Eg.toArray=(acc++Eg).toArray:=by simp
  have e2:(acc++Eg)++(List.replicate k Eg).flatten=acc++(List.replicate (k+1) Eg).flatten:=by
   rw[Qa,Qm,Po]
  rw[<-e2,<-lY Eg k (acc++Eg),<-e,Qa,PR]
section
variable{X:Cx}{pr:List (Addr×Obj)}{σ:St}{H:Hp}{s:Shared}{l b:Addr}{xs ys zs:List V}
theorem Inv.lset{Eg its':List Value}{n:Nat}{f:Array Value->Array Value}{t':Nat}(I:Inv X pr σ H s)(hH:H l=some (.lst xs))
  (e:s.heap.get? l=some {cls:=.type "list",data:=.seq Eg.toArray n}) (hf:f Eg.toArray=its'.toArray) (hv:Vals ys its') (hz:ys.length<=sizeLine):
  Inv X pr σ (upd H l (.lst ys)) {s with heap:=s.heap.update l (Obj.mapSeq f),toks:=t'}:=by
 have q:=PySem.IsL.update e f;rw[hf]at q;refine I.write (x:=l) (e:=l) (by rw[hH];exact trivial) (.inl rfl) (fun b' u hb hu=>(Heap.get?_update_other s.heap (Obj.mapSeq f) (QR hb)).trans hu) ⟨_,q⟩ ?_;exact⟨hz,its',_,hv,q⟩
theorem Inv.lnew{Eg:List Value}{t':Nat}(I:Inv X pr σ H s)(hv:Vals ys Eg)(hz:ys.length<=sizeLine):
  Inv X pr σ (upd H s.heap.objs.size (.lst ys)) {s with heap:=s.heap.push {cls:=.type "list",data:=.seq Eg.toArray},toks:=t'}:=
 I.laid (fun _ _ q=>Heap.get?_push_of_some _ q) (OW _) ⟨hz,Eg,0,hv,Heap.get?_push_size _ rfl⟩
theorem Inv.fresh(I:Inv X pr σ H s):H s.heap.objs.size=none:=I.hok.fresh (OW _)
theorem Inv.lstM(I:Inv X pr σ H s)(hH:H l=some (.lst xs)):xs.length<=sizeLine/\∃(Eg:List Value) (n:Nat),Vals xs Eg/\xs.length=Eg.length/\s.heap.get? l=some {cls:=.type "list",data:=.seq Eg.toArray n}:=by
 obtain⟨z,Eg,n,r,e⟩:=I.hok l _ hH;exact⟨z,Eg,n,r,r.length,e⟩
theorem ua{n:Nat}(h:n<=sizeLine):Builtin.List.listTooLong n=false:=by
 unfold Builtin.List.listTooLong;exact Pa (by lia)
end
section
variable{X:Cx}
def wX:V->List V->Hp->VK->Prop:=fun x vs H Q=>∃l xs y,x=.ref l/\vs=[y]/\H l=some (.lst xs)/\xs.length<sizeLine/\Q .non (upd H l (.lst (xs++[y])))
theorem jl:MtM X "list.append" wX:=by
 intro pr s σ H x vs v us Q I rx rv h;obtain⟨l,xs,y,rfl,rfl,hH,hz,q⟩:=h;cases rx;obtain⟨u,rfl,ru⟩:=rv.one;obtain⟨z,Eg,n,r,hl,e⟩:=I.lstM hH;refine SO F.slot_list_append ⟨_,e,rfl⟩ F.entry_list_append (F.args_list_append_2 _ _) (PySem.list_append l Eg.toArray n u (by rw[OS];lia)) ⟨e,?_⟩;refine⟨.non,_,I.lset (its':=Eg++[u]) hH e (by simp) (r.append (.cons ru .nil)) ?_,rfl,q⟩;rw[Pw,Pd];lia
def DH:V->List V->Hp->VK->Prop:=fun x vs H Q=>∃l xs y,x=.ref l/\vs=[]/\H l=some (.lst xs)/\xs[xs.length-1]?=some y/\Q y (upd H l (.lst xs.dropLast))
theorem C0:MtM X "list.pop" DH:=by
 intro pr s σ H x vs v us Q I rx rv h;obtain⟨l,xs,y,rfl,rfl,hH,hy,q⟩:=h;cases rx;have Nd:=rv.zero;subst Nd;obtain⟨z,Eg,n,r,hl,e⟩:=I.lstM hH;obtain⟨u,hu,ru⟩:=r.get hy;have hy':Eg.toArray[Eg.toArray.size-1]?=some u:=by
  show Eg.toArray[Eg.length-1]?=some u;rw[<-Array.getElem?_toList,<-hl];exact hu
 refine SO F.slot_list_pop ⟨_,e,rfl⟩ F.entry_list_pop (F.args_list_pop_1 _) (MeetsSeq.list_pop_last l Eg.toArray n u hy' (by rw[OS];lia)) ⟨e,?_⟩;refine⟨y,_,I.lset (its':=Eg.dropLast) hH e ?_ r.dropLast ?_,ru,q⟩
 ·show Eg.toArray.eraseIdxIfInBounds (Eg.toArray.size-1)=Eg.dropLast.toArray;rw[OS,List.eraseIdxIfInBounds_toArray,pT]
 ·rw[List.length_dropLast];lia
def zx:V->List V->Hp->VK->Prop:=fun x vs H Q=>∃l xs,x=.ref l/\vs=[]/\H l=some (.lst xs)/\Q .non (upd H l (.lst []))
theorem oI:MtM X "list.clear" zx:=by
 intro pr s σ H x vs v us Q I rx rv h;obtain⟨l,xs,rfl,rfl,hH,q⟩:=h;cases rx;have Nd:=rv.zero;subst Nd;obtain⟨z,Eg,n,r,hl,e⟩:=I.lstM hH;refine SO F.slot_list_clear ⟨_,e,rfl⟩ F.entry_list_clear (F.args_list_clear_1 _) (AutoSeq1.list_clear_list_0 l Eg.toArray n (by rw[OS];lia)) ⟨e,?_⟩;exact⟨.non,_,I.lset (its':=[]) (ys:=[]) hH e rfl .nil (PD _),rfl,q⟩
theorem kJ{α:Type}(xs:List α)(k:Nat):(List.replicate k xs).flatten.length=k*xs.length:=by
 induction k with
 |zero=>simp
 |succ k ih=>rw[Qa,Qm,Pw,ih,Nat.succ_mul,Nat.add_comm]
end
section
variable{prog:Program}{w:World}{A:Around}{E:Value->Shared->Prop}{s:Shared}
end
section
variable{X:Cx}
end
end L2
namespace Att
open PySem PySem.W PySem.Calls PyProof.Rows
theorem jm{P:Params}{h:Heap}:∀(ns:List Int) (vs:List Value),WellAll P h vs (ns.map WData.int)->IntsAre vs ns:=by
 intro ns;induction ns with
 |nil=>
  intro vs w;rw[Pq]at w;cases w;exact .nil
 |cons n ns ih=>
  intro vs w;rw[Pb]at w;cases w with
  |cons a b=>
   cases a;exact .cons _ _ (ih _ b)
theorem qH{l:OpenLaw}{n:Nat}(hn:l.most=some n){P:Params}{h:Heap}{args:List WData}{vals:List Value}
  (Jr:l.row.toRowW.claim.pre args=true) (MI:WellAll P h vals args):
  ∃a vs ns,vals=[Value.ref a]/\args=[WData.list (ns.map WData.int)]/\h.get? a=some {cls:=.type "list",data:=.seq vs.toArray}/\IntsAre vs ns/\ns.length<=n:=by
 have hsh:WShape.hasAll [] args [.list .int]=true:=(pre_splitW Jr).1;have hc:l.pre.holds [] {args:=args}=true:=(pre_splitW Jr).2;obtain⟨d,r,rfl,h1,h2⟩:=hasAllW_cons hsh;obtain rfl:=hasAllW_nil h2;obtain⟨xs,rfl,h3⟩:=hasW_list h1;obtain⟨ns,rfl⟩:=items_int h3;have hlen:ns.length<=n:=by
  unfold OpenLaw.pre at hc;have h4:(WTm.not (.lt (.lit (.int (n:Int))) (.len (.arg 0)))).holds [] {args:=[.list (ns.map .int)]}=true:=by
   have h4:=(holds_andW hc).1;rw[hn]at h4;exact h4
  have h5:=condW_of h4 (w_not (w_lt w_lit (w_len_list (w_arg rfl))));rw[OT]at h5;refine Nat.le_of_not_lt fun q=>?_
  have q':(n:Int)<((ns.length:Nat):Int):=by lia
  first
   |(rw[Ph q']at h5;exact absurd h5 (by decide))
   |(simp at h5;lia)
 cases MI with
 |cons w1 w2=>
  cases w2;cases w1 with
  |list ho Kj=>exact⟨_,_,ns,rfl,rfl,ho,jm ns _ Kj,hlen⟩
theorem qI(l:OpenLaw)(args:List WData):l.row.toRowW.claim.post args (.bool true) args=true:=
 postW_of (r:=l.row.toRowW) (X:=(true==true))
  (show WShape.has [] (.bool true) .bool=true by first|rfl|decide|simp[WShape.has,WShape.arms,WShape.armsAll])
  (show(WTm.eq .res (.lit (.bool true))).value [] {args:=args,res:=some (.bool true),after:=args}=some (.bool (true==true)) from w_eq_bool (w_res rfl) w_lit) rfl
theorem attach_call{l:OpenLaw}{n:Nat}{q:Program}{loose:List Str}{XP:(Str->Option Value)->Heap->Prop}{YP:World->Heap->Prop}{d:DefRec}
  (hn:l.most=some n) (LL:d.params.defaults=[])
  (call:∀(w:World) (s₀ s₁:Shared) (mg mb:Str->Option Value) (fa:Addr) (o:Obj) (pm cd doc:Value) (a:Addr) (vs:List Value) (ns:List Int),
   Ground q loose [] XP w s₀ mg mb s₁.heap->YP w s₁.heap->
   s₁.heap.get? fa=some o->o.data=.func (docDef d.name d.params d.body d.scope pm cd doc)->s₁.heap.CodeRec cd d.name->mg d.name=some (.ref fa)->
   s₁.heap.get? a=some {cls:=.type "list",data:=.seq vs.toArray}->IntsAre vs ns->ns.length<=n->s₁.gens = #[]->
   codeAny (model l.prog w) callerA (.call (.ref fa) ⟨[.ref a],[]⟩) (fun r s'=>r=.ok (.ret (.bool true))/\OldK s₁.heap s'.heap/\s'.os=s₁.os/\AllBare s'.gens) s₁):
  WalkO q loose XP YP l.row.toRowW d [] (fun f vs=>PySem.call f vs):=by
 intro w s₀ s₁ mg mb G Y fa o pm cd doc dV kV ho hd GU hD LM hg args vals as Jr hlay hrd MI Ob;obtain rfl:dV=.none:=Dflts.none hD LL;obtain rfl:kV=.none:=Dflts.noKw hD;obtain⟨a,vs,ns,rfl,rfl,Kk,hints,hlen⟩:=qH hn Jr MI;refine enter_call (Sw (call w s₀ s₁ mg mb fa o pm cd doc a vs ns G Y ho (fd_plain hd) GU LM Kk hints hlen hg) fun r s' hq=>?_);obtain⟨rfl,h2,h3,h4⟩:=hq;exact⟨.inl ⟨.bool true,.bool true,[],rfl,fun _=>rfl,.bool true,qI l _,fun _=>⟨List.Pairwise.nil,fun _ hm=>(nomatch hm)⟩⟩,h2,h3,h4⟩
section
variable{prog:Program}{w:World}{A:Around}{E:Value->Shared->Prop}{s:Shared}{K:Frag}
end
end Att
namespace L2
open PySem PySem.Spec PyProof.Rows
theorem lZ:∀{vs:List Value}{ns:List Int},IntsAre vs ns->Vals (ns.map V.int) vs
 |_,_,.nil=>.nil
 |_,_,.cons n t h=>.cons ⟨t,rfl⟩ (lZ h)
def B4(H:Hp):Prop:=∀b,H b=none\/∃o xs,H b=some (.frz o (.lst xs))
theorem ub{P:Program}{w:World}{K:W.Frag}{mg mb:Str->Option Value}{CX:Ig}{k:Nat}{fa a:Addr}{fd:FuncData}{x:Str}{sp:Sp}{s₁:Shared}{vs:List Value}{ns:List Int}
  (KX:K.In s₁.heap) (MJ:s₁.heap.Ns mainGlobals mg) (hb:s₁.heap.Ns builtinsNs mb) (LN:∀x:Str,x≠"__name__"->mb x=bootBuiltins x) (hlim:s₁.heap.NoLimit) (hg:s₁.gens = #[])
  (ha:s₁.heap.get? a=some {cls:=.type "list",data:=.seq vs.toArray}) (hi:IntsAre vs ns) (hl:ns.length<=sizeLine) (hr:Room k callerA)
  (F:∀base:Heap,K.In base->base.Ns mainGlobals mg->FnOk P w K mg base CX k fa fd [x] sp) (LO:∀(s:Shared) (u:Value),BindsTo s fd ⟨[u],[]⟩ [(x,u)])
  (Jh:∀H:Hp,B4 H->SqL K H a (ns.map V.int)->sp [.ref a] H (fun v _=>v=.bl true) fun _ _ _=>False)
  (Nf:∀H e s',CX [] H s₁ (fun _ _ _=>False) e s'->False):
  codeAny (model P w) callerA (.call (.ref fa) ⟨[.ref a],[]⟩) (fun r s'=>r=.ok (.ret (.bool true))/\OldK s₁.heap s'.heap/\s'.os=s₁.os/\AllBare s'.gens) s₁:=by
 have rv:=lZ hi;have lenV:=hi.length;have core:∀H:Hp,B4 H->SqL K H a (ns.map V.int)->HOk P w H s₁.heap->(∀b,H b≠none->b=a)->(H a≠none->K.lookup a=none)->
   codeAny (model P w) callerA (.call (.ref fa) ⟨[.ref a],[]⟩) (fun r s'=>r=.ok (.ret (.bool true))/\OldK s₁.heap s'.heap/\s'.os=s₁.os/\AllBare s'.gens) s₁:=by
  intro H hO hS hok hA hK;have HP:∀{b:Addr}{o:Obj},s₁.heap.get? b=some o->H b=none->(tG s₁.heap H).get? b=some o:=fun e n=>tH e n
  have LJ:∀{b:Addr}{o:Obj}{es:Array DictEntry}{ep:Nat},s₁.heap.get? b=some o->o.data=.dict es ep->H b=none:=fun{b o es ep} e d=>by
   cases q:H b with
   |none=>rfl
   |some u=>
    have e':b=a:=hA b (by rw[q];simp);subst e';rw[ha]at e;cases e;have d':Data.seq vs.toArray _=Data.dict es ep:=d;cases d'
  have MK:∀{b:Addr}{m:Str->Option Value},s₁.heap.Ns b m->(tG s₁.heap H).Ns b m:=fun{b m} ⟨o,es,ep,e,d,r⟩=>⟨o,es,ep,HP e (LJ e d),d,r⟩
  have Oc:K.In (tG s₁.heap H):=fun b o e=>HP (KX b o e) (by
   cases q:H b with
   |none=>rfl
   |some u=>
    have e':b=a:=hA b (by rw[q];simp);subst e';rw[hK (by rw[q];simp)]at e;cases e)
  have hM:Mod K mg (tG s₁.heap H):=⟨Oc,MK MJ,⟨mb,MK hb,LN⟩,let⟨mc,h1,h2⟩:=hlim;⟨mc,MK h1,h2⟩⟩
  have e0:Env0 P w K mg (tG s₁.heap H) callerA [] s₁ H:=⟨rfl,hM,fun b o e=>wC e,Nat.le_of_eq (qm _ _),trivial,fun b hb=>absurd (show b∈([]:List Addr) from hb) (by simp),hok,.of_eq hg⟩
  refine Sw ((F _ Oc (MK MJ)).run callerA [] s₁ H ⟨[.ref a],[]⟩ [.ref a] [.ref a] _ _ hr e0 (LO s₁ (.ref a)) (.cons rfl .nil) (Jh H hO hS)) fun r s' h=>?_
  cases r with
  |error e=>exact(Nf H e s' h).elim
  |ok fl=>
   cases fl with
   |next=>exact False.elim h
   |brk=>exact False.elim h
   |cont=>exact False.elim h
   |ret u=>
    obtain⟨v,H',os,bare,un,hok',r',q⟩:=h;have q':v=.bl true:=q;subst q';obtain rfl:u=Value.bool true:=r';refine⟨rfl,OldK.of_keep fun b o e=>?_,os,bare⟩;cases q:H b with
    |none=>exact un.keep b o e q (by intro z;exact absurd (show b∈([]:List Addr) from z) (by simp)) (by simp)
    |some u=>
     rcases hO b with z|⟨ob,xs,z⟩
     ·rw[q]at z;cases z
     ·have z2:=un.frzs b ob _ z;obtain⟨e1,_⟩:=hok b _ z;obtain⟨e2,_⟩:=hok' b _ z2;rw[e]at e1;cases e1;exact e2
 cases hk:K.lookup a with
 |some o=>
  have e:=KX a o hk;rw[ha]at e;cases e;refine core (fun _=>none) (fun _=>.inl rfl) (.inr ⟨_,vs.toArray,_,hk,rfl,rfl,rfl,by rw[OS,lenV];exact hl,by simpa using rv⟩) (fun b u z=>by have z':(none:Option HO)=some u:=z;cases z') (fun b z=>absurd rfl z) fun z=>absurd rfl z
 |none=>
  refine core (fun b=>if b=a then some (.frz {cls:=.type "list",data:=.seq vs.toArray} (.lst (ns.map V.int))) else none) (fun b=>?_) (.inl (.inr ⟨{cls:=.type "list",data:=.seq vs.toArray},OZ rfl⟩)) (fun b u z=>?_) (fun b z=>?_) fun _=>hk
  ·by_cases hb:b=a
   ·exact .inr ⟨_,_,OZ hb⟩
   ·exact .inl (O5 hb)
  ·by_cases hb:b=a
   ·have z':=(OZ hb).symm.trans z;cases z';subst hb;exact⟨ha,by rw[OT];exact hl,vs,_,rv,ha⟩
   ·have z':=(O5 hb).symm.trans z;cases z'
  ·by_cases hb:b=a
   ·exact hb
   ·exact absurd (O5 hb) z
theorem wY{l:PySem.W.OpenLaw}{n k:Nat}{q:Program}{loose:List Str}{XP:(Str->Option Value)->Heap->Prop}{YP:World->Heap->Prop}{d:DefRec}{K:Params->W.Frag}{CX:World->Ig}{sp:World->Sp}{x:Str}
  (hn:l.most=some n) (hn2:n<=sizeLine) (LL:d.params.defaults=[]) (hr:Room k callerA)
  (hY:∀(w:World) (h:Heap),YP w h->(K w.params).In h)
  (F:∀(w:World) (mg:Str->Option Value) (fa:Addr) (h:Heap),(K w.params).In h->h.Ns mainGlobals mg->mg d.name=some (.ref fa)->
   ∃fd:FuncData,(∀(s:Shared) (u:Value),BindsTo s fd ⟨[u],[]⟩ [(x,u)])/\
    ∀base:Heap,(K w.params).In base->base.Ns mainGlobals mg->FnOk l.prog w (K w.params) mg base (CX w) k fa fd [x] (sp w))
  (Jh:∀(w:World) (H:Hp) (a:Addr) (ns:List Int),ns.length<=n->B4 H->SqL (K w.params) H a (ns.map V.int)->sp w [.ref a] H (fun v _=>v=.bl true) fun _ _ _=>False)
  (Nf:∀(w:World) (H:Hp) (s:Shared) (e:Value) (s':Shared),CX w [] H s (fun _ _ _=>False) e s'->False):
  PySem.W.WalkO q loose XP YP l.row.toRowW d [] (fun f vs=>PySem.call f vs):=by
 refine Att.attach_call hn LL fun w s₀ s₁ mg mb fa o pm cd doc a vs ns G Y ho hd GU LM Kk hints hlen hg=>?_
 have KX:=hY w _ Y;obtain⟨fd,hb,hF⟩:=F w mg fa _ KX G.T.g LM;exact ub KX G.T.g G.T.b G.T.builtins G.T.nolimit hg Kk hints (PB hlen hn2) hr hF hb (fun H hO hS=>Jh w H a ns hlen hO hS) fun H e s'=>Nf w H s₁ e s'
def dH(s:Stmt):Arguments:=match s with
 | .FunctionDef _ a _ _ _ _ _ _ _ _=>a
 |_=>{posonlyargs:=[],args:=[],vararg:=none,kwonlyargs:=[],kw_defaults:=[],kwarg:=none,defaults:=[]}
def bU(s:Stmt):List Stmt:=match s with
 | .FunctionDef _ _ b _ _ _ _ _ _ _=>b
 |_=>[]
def defScope(s:Stmt):Scope:=match s with
 | .FunctionDef _ _ _ _ _ _ sc _ _ _=>sc
 |_=>{kind:=.function,names:=[],isGenerator:=false,isCoroutine:=false}
abbrev Iw:Ig:=fun _ _ _ _ _ _=>False
abbrev E0:XK:=fun _ _ _=>False
theorem B5{X:Cx}:qA Iw X E0:=fun _ _ _ _ _ _ _ h=>h.elim
structure Fun(K:W.Frag)(x qual:Str)(st:Stmt)(f:Addr)(fd:FuncData):Prop where
 ex:∃(oc:Value) (od:Option Addr) (kV doc pm:Value) (an:Option Addr) (EF ct:Value) (IE:Array (Option Value)),
  fd=PySem.W.fnOf x qual (dH st) (bU st) (defScope st) .none kV doc pm an EF ct/\K.lookup f=some ⟨oc,od,.func fd,IE⟩/\PySem.W.codeIn K EF qual=true
 kp:PySem.W.keepIn K (.ref f)=true
section
variable{P:Program}{w:World}{K:W.Frag}{mg:Str->Option Value}{base:Heap}
theorem Fun.ok{x qual:Str}{st:Stmt}{f:Addr}{fd:FuncData}{N ps:List Str}{k:Nat}{sp:Sp}(F:Fun K x qual st f fd)(S:FnScope N ps (defScope st))(len:∀vs H Q E,sp vs H Q E->vs.length=ps.length)
  (He:∀(EF:Value) (A:Around) (outer:List Env) (s:Shared) (H:Hp) (vs:List V) (Q:VK) (E:XK),Room k (A.deeper (envOfC qual (defScope st) s.heap.objs.size f EF))->sp vs H Q E->
   ∃t,PSs (qj Iw P w K mg base N qual (defScope st) f EF A outer s H E).nox (bU st) t/\t {nx:=fun _ H'=>Q .non H',rt:=Q} (hJ N vs) H):FnOk P w K mg base Iw (k+1) f fd ps sp:=by
 obtain⟨oc,od,kV,doc,pm,an,EF,ct,IE,rfl,lk,GU⟩:=F.ex;refine zt lk GU S len fun A outer s H vs Q E hr Jh=>?_
 obtain⟨t,h,q⟩:=He EF A outer s H vs Q E hr Jh;exact⟨t,h.nox,q⟩
theorem Fun.binds{x qual:Str}{st:Stmt}{f:Addr}{fd:FuncData}{ps:List Str}(F:Fun K x qual st f fd)
  (h:∀(kV doc pm:Value) (an:Option Addr) (EF ct:Value) (us:List Value),us.length=ps.length->bindArgs (PySem.W.fnOf x qual (dH st) (bU st) (defScope st) .none kV doc pm an EF ct) ⟨us,[]⟩=pure (ps.zip us)):Binds K fd ps []:=by
 obtain⟨oc,od,kV,doc,pm,an,EF,ct,IE,rfl,lk,GU⟩:=F.ex;exact .all (h kV doc pm an EF ct)
theorem vO{x qual:Str}{st:Stmt}{f:Addr}{oc:Value}{od an:Option Addr}{IE:Array (Option Value)}{kV doc pm EF ct:Value}(l:K.lookup f=some ⟨oc,od,.func (PySem.W.fnOf x qual (dH st) (bU st) (defScope st) .none kV doc pm an EF ct),IE⟩)
  (c:PySem.W.codeIn K EF qual=true) (k:PySem.W.keepIn K (.ref f)=true):Fun K x qual st f (PySem.W.fnOf x qual (dH st) (bU st) (defScope st) .none kV doc pm an EF ct):=⟨⟨oc,od,kV,doc,pm,an,EF,ct,IE,rfl,l,c⟩,k⟩
end
theorem hu_of{A:Around}{k:Nat}(hr:Room k A):A.units+1<cLine:=Tb (Nat.add_le_add_left (by decide:1<=64) _) hr.units
section
variable{X:Cx}
theorem pv(i:Nat){x:Str}{pos:Pos}(hN:X.N[i]?=some x:=by rfl)(hv:M4 X.env.scope x:=by first|exact Or.inl rfl|exact Or.inr (Or.inl rfl)|exact Or.inr (Or.inr rfl))(hd:(x==("__debug__" : Str))=false:=by decide)
  (GU:(x==("__classdict__" : Str))=false:=by decide):PE X (.Name x pos) (ny i):=y0 hN hv hd GU
end
theorem iteF{A B:Prop}(h:B):if false=true then A else B:=by
 rw[O5 O0];exact h
theorem zy{A B:Prop}(h:A):if true=true then A else B:=by
 rw[OZ rfl];exact h
def Same(H H':Hp):Prop:=∀b o,H b=some o->H' b=some o
theorem Same.refl(H:Hp):Same H H:=fun _ _ h=>h
theorem Same.trans{H H1 H2:Hp}(a:Same H H1)(b:Same H1 H2):Same H H2:=fun c o h=>b c o (a c o h)
end L2
set_option maxHeartbeats 4000000
namespace NX
open PySem PySem.Spec PyProof.Rows L2
section
variable{X:Cx}
theorem qJ:EK X (compareOp .LtE) (fun x y H Q=>∃i j,x=.str i/\y=.str j/\Q (.bl (!decide (j.cps.toList<i.cps.toList))) H):=by
 intro pr s σ H x y v u Q I rx ry h;obtain⟨i,j,rfl,rfl,q⟩:=h;obtain⟨t,rfl⟩:=rx;obtain⟨t',rfl⟩:=ry;exact PySem.P.le_str (oE I q rfl)
theorem uc(v:Int)(n:Nat):max (0:Int) (min (if v<0 then v+(n:Int) else v) (n:Int))=((HT.sIx n 0 (some v):Nat):Int):=by
 show _=(((if v<0 then(v+(n:Int)).toNat else min v.toNat n):Nat):Int)
 split <;> lia
theorem zH(a b:Nat):sliceRange (a:Int) (b:Int) 1=(List.range (b-a)).map (fun k=>a+k):=by
 unfold sliceRange;rw[OZ (by decide:(1:Int)>0)];by_cases E3:(a:Int)<b
 ·have e3:(((b:Int)-a+1-1) / 1).toNat=b-a:=by first|lia|(simp;done)|(simp;lia)
  simp only[E3,Rh,e3];refine Qb fun k _=>?_
  lia
 ·have:b-a=0:=by lia
  simp[E3,this]
theorem DI(lo hi:Option Int)(n:Nat):Builtin.Str.strSliceIndices lo hi 1 n=(List.range (HT.sIx n n hi-HT.sIx n 0 lo)).map (fun k=>HT.sIx n 0 lo+k):=by
 rw[<-zH];unfold Builtin.Str.strSliceIndices;simp only[show(1:Int)>0 from by decide,Rh];cases lo with
 |none=>
  cases hi with
  |none=>rfl
  |some v=>exact P4 (fun z=>sliceRange 0 z 1) (uc v n)
 |some u=>
  cases hi with
  |none=>exact P4 (fun z=>sliceRange z (n:Int) 1) (uc u n)
  |some v=>exact(P4 (fun z=>sliceRange z _ 1) (uc u n)).trans (P4 (fun z=>sliceRange _ z 1) (uc v n))
def zI(xs:List Nat)(lo hi:Option Int):List Nat:=(xs.drop (HT.sIx xs.length 0 lo)).take (HT.sIx xs.length xs.length hi-HT.sIx xs.length 0 lo)
theorem vP{α:Type}(l:List α):∀(n a:Nat),a+n<=l.length->((List.range n).map (fun k=>a+k)).filterMap (l[·]?)=(l.drop a).take n
 | 0,_,_=>by simp
 |n+1,a,h=>by
  have E3:a+n<l.length:=by lia
  rw[Sz,Pe,List.filterMap_append,vP l n a (by lia),List.take_add_one,List.getElem?_drop];simp[List.getElem?_eq_getElem E3]
theorem qK(x:Str)(lo hi:Option Int):(Txt.slice x lo hi).cps.toList=zI x.cps.toList lo hi:=by
 have hl:x.cps.toList.length=x.length:=P8;have ha:=HT.qD x.length 0 (PD _) lo;have hb:=HT.qD x.length x.length (OW _) hi;unfold Txt.slice zI;rw[DI,hl];split
 ·rename_i h;have h2:HT.sIx x.length x.length hi-HT.sIx x.length 0 lo=x.length:=by simpa using h
  have ez:HT.sIx x.length 0 lo=0\/x.length=0:=by lia
  rcases ez with e|e
  ·rw[h2,e,SU,QZ (by lia)]
  ·have:x.cps.toList=[]:=PU (by lia);rw[this];simp
 ·have hk:∀(f:List Nat),f.filterMap (x.cps[·]?)=f.filterMap (x.cps.toList[·]?):=fun f=>by
   congr 1
   funext i
   simp
  show(List.filterMap _ _).toArray.toList=_;rw[RJ,hk];by_cases hle:HT.sIx x.length 0 lo<=HT.sIx x.length x.length hi
  ·rw[vP _ _ _ (by lia)]
  ·have e0:HT.sIx x.length x.length hi-HT.sIx x.length 0 lo=0:=by lia
   rw[e0];rfl
abbrev S(l:List Nat):Str:=⟨l.toArray⟩
theorem l5(x:Str):S x.cps.toList=x:=by cases x;simp[S]
theorem S_inj{a b:List Nat}(h:S a=S b):a=b:=by
 have:=P4 (fun z:Str=>z.cps.toList) h;simpa[S] using this
theorem jZ(l:List Nat):(S l).length=l.length:=by simp[S,Str.length]
theorem cq(l:List Nat):(S l).cps.toList=l:=by simp[S]
theorem B6(a b:List Nat):S a++S b=S (a++b):=by
 rw[<-l5 (S a++S b),PySem.W.KT.app_list,cq,cq]
def DJ:V->Option Int->Option Int->Hp->VK->Prop:=fun x lo hi H Q=>∃l,x=.str (S l)/\l.length<=sizeLine/\Q (.str (S (zI l lo hi))) H
theorem zJ:Ki X DJ:=by
 intro pr s σ H x v vl vu lo hi sl Q I rx hs pl pu h;obtain⟨l,rfl,hz,q⟩:=h;obtain⟨t,rfl⟩:=rx;have hz':(S l).length<=sizeLine:=by rw[jZ];exact hz
 have e:∀t' k,EP X pr σ Q (.str (Txt.slice (S l) lo hi) t') {s with toks:=k}:=fun t' k=>by
  refine⟨.str (S (zI l lo hi)),H,I.tok _,⟨t',?_⟩,q⟩;have e1:=qK (S l) lo hi;rw[cq]at e1;rw[<-e1,l5]
 refine⟨"str",_,PySem.F.slot_str_getitem.lookup,SM _ _ _,?_⟩;have key:∀(Kl ML:Option (Int×Tok)),partValue Kl=vl->partValue ML=vu->Kl.map (·.1)=lo->ML.map (·.1)=hi->
   wpAny (model X.prog X.w) X.A (getItem (.str (S l) t) (.ref sl)) (EP X pr σ Q) X.xe s:=by
  rintro Kl ML rfl rfl rfl rfl;exact wpAny_getItem_str_slice (l:=Kl) (u:=ML) (st:=none) hs rfl (post_val_or_str ⟨PB (Txt.slice_le (S l) _ _) hz',fun t' k=>e t' k⟩)
 cases pl with
 |none=>
  cases pu with
  |none=>exact key none none rfl rfl rfl rfl
  |int j uj=>exact key none (some (j,uj)) rfl rfl rfl rfl
 |int i ui=>
  cases pu with
  |none=>exact key (some (i,ui)) none rfl rfl rfl rfl
  |int j uj=>exact key (some (i,ui)) (some (j,uj)) rfl rfl rfl rfl
theorem wZ{xs:List V}{j:Nat}{x:V}(h:xs[j]?=some x):xs.getD j .non=x:=by rw[List.getD_eq_getElem?_getD,h];rfl
end
def Def(K:W.Frag)(mg:Str->Option Value)(x:Str)(st:Stmt):Prop:=∃f fd,Fun K x x st f fd/\mg x=some (.ref f)
def Ct(P:Program)(w:World)(K:W.Frag)(mg:Str->Option Value)(base:Heap)(x:Str)(k:Nat)(sp:Sp):Prop:=
 ∃f fd ps,FnOk P w K mg base Iw k f fd ps sp/\mg x=some (.ref f)/\PySem.W.keepIn K (.ref f)=true/\Binds K fd ps []
section
variable{X:Cx}{e:Expr}{es:List Expr}{t:TA}{x:Str}{p pos:Pos}{k:Nat}{sp:Sp}
theorem zL(C:Ct X.prog X.w X.K X.mg X.base x k sp)(hr:Room k X.A)(hg:Gl X x)(ha:PA X (e::es) t)(Fm:(x==("__debug__" : Str))=false:=by decide)
  (he:starEach (e::es) X.env=(false,eval e X.env)::starEach es X.env:=by rfl) (Fd:(backTo pos (starEach es X.env)).any (·.1)=false:=by rfl):
  PE X (.Call (.Name x p) (e::es) [] pos) (tCall sp [] E0 t):=by
 obtain⟨f,fd,ps,G,m,kp,b⟩:=C;exact wM G hr hg m kp b .nil B5 ha Fm he Fd
def Gi(mg:Str->Option Value)(x:Str)(n:Int):Prop:=∃t,mg x=some (.int n t)
theorem B7{n:Int}(h:Gi X.mg x n)(hg:Gl X x)(hd:(x==("__debug__" : Str))=false:=by decide):PE X (.Name x p) (tC (.int n)):=by
 obtain⟨t,m⟩:=h;exact wF hg m ⟨t,rfl⟩ hd
end
theorem bt_len:bootBuiltins "len" = some (.builtin "len"):=by decide +kernel
theorem kK:bootBuiltins "isinstance" = some (.builtin "isinstance"):=by decide +kernel
theorem zM:bootBuiltins "str" = some (.type "str"):=by decide +kernel
theorem nI:bootBuiltins "list" = some (.type "list"):=by decide +kernel
theorem zN:bootBuiltins "int" = some (.type "int"):=by decide +kernel
theorem bO:bootBuiltins "tuple" = some (.type "tuple"):=by decide +kernel
theorem w4:bootBuiltins "bool" = some (.type "bool"):=by decide +kernel
theorem line_eq:sizeLine=16777216:=PL
theorem flat_strs(a:List (List Nat)):(a.map fun l=>V.str (S l)).all t8=true:=by
 rw[Pm];intro v hv;obtain⟨l,_,rfl⟩:=Qw.mp hv;rfl
section
variable{X:Cx}{e:Expr}{st:Stmt}
end
def clOf(scope:Scope)(env:Env):List (Str×Addr):=scope.names.foldl (fun cs y=>if y.2==NameKind.free then(y.1,(env.cells.lookup y.1).getD 0)::cs else cs) []
def gN(scope:Scope)(env:Env):Bool:=scope.names.all fun y=>y.2 != NameKind.free||env.kindOf y.1==some .cell||env.kindOf y.1==some .free
theorem fL(env:Env):∀(l:List (Str×NameKind)) (cs:List (Str×Addr)),(∀y∈l,y.2=.free->∃c,env.cells.lookup y.1=some c)->
  (forIn l cs fun(y:Str×NameKind) (r:List (Str×Addr))=>(do
   if y.2==NameKind.free then
    let a <-cellOf env y.1
    pure (ForInStep.yield ((y.1,a)::r))
   else pure (ForInStep.yield r):Sem (ForInStep (List (Str×Addr)))))=pure (l.foldl (fun cs y=>if y.2==NameKind.free then(y.1,(env.cells.lookup y.1).getD 0)::cs else cs) cs)
 |[],cs,_=>by simp
 |y::l,cs,h=>by
  rw[RK,PR];by_cases k:y.2=.free
  ·obtain⟨c,e⟩:=h y OX k;have e2:cellOf env y.1=pure c:=by unfold cellOf;rw[e]
   simp only[k,PY,Rh,e2,e,Option.getD_some,pure_bind];exact fL env l _ fun z hz=>h z (O7 _ hz)
  ·have kb:(y.2==NameKind.free)=false:=by simpa using k
   simp only[kb,Qx,RQ,pure_bind];exact fL env l _ fun z hz=>h z (O7 _ hz)
theorem gf(env:Env)(x:Str)(c:Addr):∀(l:List (Str×NameKind)) (cs:List (Str×Addr)),(∀y∈l,y.2=.free->∃c,env.cells.lookup y.1=some c)->(cs.lookup x=some c->env.cells.lookup x=some c)->
  (l.foldl (fun cs y=>if y.2==NameKind.free then(y.1,(env.cells.lookup y.1).getD 0)::cs else cs) cs).lookup x=some c->env.cells.lookup x=some c
 |[],_,_,h,e=>h e
 |y::l,cs,hf,h,e=>by
  rw[PR]at e;refine gf env x c l _ (fun z hz=>hf z (O7 _ hz)) (fun q=>?_) e;split at q
  ·rename_i k;have k:y.2=.free:=by simpa using k
   obtain⟨d,ed⟩:=hf y OX k;rw[PZ]at q;cases hx:x==y.1 with
   |true=>
    rw[hx]at q;have exy:x=y.1:=by simpa using hx
    rw[ed,Option.getD_some]at q;rw[exy,ed];exact q
   |false=>
    rw[hx]at q;exact h q
  ·exact h q
theorem jn(env:Env)(x:Str):∀(l:List (Str×NameKind)) (cs:List (Str×Addr)),((∃d,cs.lookup x=some d)\/(x,NameKind.free)∈l)->
  ∃d,(l.foldl (fun cs y=>if y.2==NameKind.free then(y.1,(env.cells.lookup y.1).getD 0)::cs else cs) cs).lookup x=some d
 |[],_,h=>by
  rcases h with h|h
  ·exact h
  ·cases h
 |y::l,cs,h=>by
  rw[PR];refine jn env x l _ ?_;rcases h with⟨d,h⟩|h
  ·refine .inl ?_;split
   ·rw[PZ];cases hx:x==y.1 with
    |true=>exact⟨_,rfl⟩
    |false=>exact⟨d,h⟩
   ·exact⟨d,h⟩
  ·rcases O6.mp h with h|h
   ·refine .inl ?_;rw[<-h];refine⟨(env.cells.lookup x).getD 0,?_⟩;show List.lookup x ((x,_)::cs)=_;rw[PZ,PY]
   ·exact .inr h
noncomputable def bH(X:Cx)(scope:Scope)(N:List Str)(C:Addr)(s:Shared)(H:Hp)(fp:List Addr)(pn:List (Addr×Obj)):Cx:=
 {X with N:=N,s₀:=s,H₀:=H,env:=compEnvC scope (clOf scope X.env) C X.env,outer:=X.stack,ex:=fp,fn:=fun _=>false,pn:=pn,xe:=fun _ _=>False}
def kg(ix:List (Option Nat))(σ:L2.St):L2.St:=ix.map fun i=>i.bind fun i=>(σ[i]?).bind id
noncomputable def w5(wi:TI)(ix:List (Option Nat))(g:TG)(tc:TT)(te:TE):TE:=fun σ H Q=>wi σ H fun J H1=>∀D,H1 D=none->∃W:Nat->Nat->L2.St->Hp->Prop,(∃m,W 0 m (kg ix σ) (upd H1 D (.lst [])))/\
 ∀i m σ1 H2,W i m σ1 H2->(J.stop i H2/\Q (.ref D) H2)\/(J.go i H2/\∀x H3,J.yld i H2 x H3->g x σ1 H3 fun σ2 H4=>tc σ2 H4 fun b H5=>if b=true then te σ2 H5 fun v H6=>
  ∃ys,H6 D=some (.lst ys)/\ys.length<sizeLine/\∃m',m'<m/\W (i+1) m' σ2 (upd H6 D (.lst (ys++[v]))) else ∃m',m'<m/\W (i+1) m' σ2 H5)
abbrev Js:Value->Shared->Prop:=fun _ _=>False
theorem Lo{α:Type}{M:Model}{A:Around}{t:Sem α}{Q Q':α->Shared->Prop}{E:Value->Shared->Prop}{s:Shared}(h:wpAny M A t Q Js s)(k:∀a s,Q a s->Q' a s):wpAny M A t Q' E s:=PH h k fun _ _ z=>z.elim
theorem qL{prog:Program}{w:World}{A:Around}{R:Result->Shared->Prop}{s:Shared}{elt target iter:Expr}{ifs:List Expr}{scope:Scope}{pos:Pos}{it acc:Value}{env:Env}(I:Nat->Shared->Prop)
  (turn:∀n s,I n s->wpAny (model prog w) A (pyNext it) (fun r s₁=>match r with
   |none=>R (.ok .next) s₁
   |some v=>wpAny (model prog w) A (letOwnedTupleGo target it v) (fun _ s₂=>wpAny (model prog w) A (assign target env v) (fun _ s₃=>
     wpAny (model prog w) A (forIn ifs true fun c r=>if r=true then do let ok <-isTrue c env (eval c env);pure (ForInStep.yield ok) else pure (ForInStep.yield r)) (fun ok s₄=>
      if ok=true then wpAny (model prog w) A (eval elt env) (fun x s₅=>
       wpAny (model prog w) A (call (.builtin "list.append") [acc,x]) (fun _ s₆=>∃m,m<n/\I m s₆) Js s₅) Js s₄
      else ∃m,m<n/\I m s₄) Js s₃) Js s₂) Js s₁) Js s)
  (n:Nat) (h:I n s):codeAny (model prog w) A (.compLoop (.ListComp elt [⟨target,iter,ifs,0⟩] scope pos) 0 it acc env) R s:=by
 refine codeAny_loop rfl I (fun n s hI=>?_) n h;show wpAny _ A ((compTurn (.ListComp elt [⟨target,iter,ifs,0⟩] scope pos) 0 it acc env).onRaise (fun x=>do noteFrame x env;theTreesLotGoes x)) _ _ s;refine wpAny_noted ?_;rw[compTurn_list];refine OR (Tc (OR (Lo (turn n s hI) fun r s₁ h₁=>?_)));cases r with
 |none=>exact OU h₁
 |some v=>
  refine OR (Lo h₁ fun _ s₂ h₂=>OR (Lo h₂ fun _ s₃ h₃=>OR (Lo h₃ fun ok s₄ h₄=>?_)));cases ok with
  |false=>exact OU ⟨rfl,h₄⟩
  |true=>exact OR (OR (Lo h₄ fun x s₅ h₅=>OR (Lo h₅ fun _ s₆ h₆=>OU (OU ⟨rfl,h₆⟩))))
def LP(X:Cx)(ifs:List Expr)(t:TT):Prop:=
 ∀(pr:List (Addr×Obj)) (s:Shared) (σ:L2.St) (H:Hp) (Q:Bool->Hp->Prop),Inv X pr σ H s->t σ H Q->
  wpAny (model X.prog X.w) X.A (forIn ifs true fun c r=>if r=true then do let ok <-isTrue c X.env (eval c X.env);pure (ForInStep.yield ok) else pure (ForInStep.yield r)) (TP X pr σ Q) X.xe s
def DK:TT:=fun _ H Q=>Q true H
theorem w6{X:Cx}:LP X [] DK:=fun _ _ _ H _ I h=>wpAny_tests_nil ⟨H,I,h⟩
def vQ(X:Cx)(scope:Scope)(N:List Str)(ix:List (Option Nat)):Bool:=
 N.length==ix.length&&(N.zip ix).all fun y=>match y.2 with
  |none=>true
  |some j=>X.N[j]?==some y.1&&scope.names.lookup y.1==some .free
theorem l6{scope:Scope}{env:Env}{x:Str}(h:scope.names.lookup x=some .free):(relabel scope env).names.lookup x=some .cell\/(relabel scope env).names.lookup x=some .free:=by
 unfold relabel;dsimp only;generalize scope.names=l at h;induction l with
 |nil=>cases h
 |cons y l ih=>
  obtain⟨n,k⟩:=y;rw[PZ]at h;rw[Pb];cases hx:x==n with
  |true=>
   rw[hx]at h;have hk:k=.free:=Pn h;subst hk;dsimp only;split
   ·exact .inl (by rw[PZ,hx])
   ·exact .inr (by rw[PZ,hx])
  |false=>
   rw[hx]at h;dsimp only;split
   ·rw[PZ,hx];exact ih h
   ·rw[PZ,hx];exact ih h
theorem l7{scope:Scope}{env:Env}{x:Str}(hc:∀y∈scope.names,y.2≠.cell)(h:(relabel scope env).names.lookup x=some .cell\/(relabel scope env).names.lookup x=some .free):(x,NameKind.free)∈scope.names:=by
 unfold relabel at h;dsimp only at h;generalize scope.names=l at h hc;induction l with
 |nil=>rcases h with h|h <;> cases h
 |cons y l ih=>
  obtain⟨n,k⟩:=y;rw[Pb]at h;dsimp only at h;have nk:k≠.cell:=hc (n,k) OX;have Od:=ih (hc:=fun z hz=>hc z (O7 _ hz));by_cases cnd:(k==NameKind.free&&env.scope.kind==.function&&env.kindOf n==some .cell)=true
  ·rw[OZ cnd,PZ]at h;have kf:k=.free:=by
    have:(k==NameKind.free)=true:=by
     simp only[O1]at cnd;exact cnd.1.1
    simpa using this
   cases hx:x==n with
   |true=>
    have:x=n:=by simpa using hx
    rw[this,kf];exact OX
   |false=>
    rw[hx]at h;exact O7 _ (Od h)
  ·rw[O5 cnd,PZ]at h;cases hx:x==n with
   |true=>
    rw[hx]at h;have:x=n:=by simpa using hx
    rcases h with h|h
    ·exact absurd (Pn h) nk
    ·rw[this,<-Pn h];exact OX
   |false=>
    rw[hx]at h;exact O7 _ (Od h)
section
variable{X:Cx}{pr:List (Addr×Obj)}{σ:L2.St}{H:Hp}{s:Shared}{scope:Scope}{N:List Str}{ix:List (Option Nat)}{fp:List Addr}
theorem kM(ok:X.Ok)(hf:gN scope X.env=true):∀y∈scope.names,y.2=.free->∃c,X.env.cells.lookup y.1=some c:=fun y hy k=>by
 have:=Pm.mp hf y hy;rw[k]at this;simp only[R0,Bool.false_or,SA,PN]at this;exact ok.has y.1 this
theorem jo(ok:X.Ok)(hf:gN scope X.env=true){x:Str}{c:Addr}(h:(clOf scope X.env).lookup x=some c):X.env.cells.lookup x=some c:=
 gf X.env x c scope.names [] (kM ok hf) (fun z=>nomatch z) h
theorem qM(ok:X.Ok)(hf:gN scope X.env=true){x:Str}(h:(x,NameKind.free)∈scope.names):∃c,(clOf scope X.env).lookup x=some c/\X.env.cells.lookup x=some c:=by
 obtain⟨c,e⟩:=jn X.env x scope.names [] (.inr h);exact⟨c,e,jo ok hf e⟩
theorem _root_.L2.Inv.block(I:Inv X pr σ H s)(hf:gN scope X.env=true)(hk:scope.kind=.function)(E2:∀y∈scope.names,y.2≠.cell)(FF:vQ X scope N ix=true)(fo:∀b∈fp,qi X pr H b)(fin:∀b∈fp,∃o,s.heap.get? b=some o)
  {h1:Heap}{t1:Nat}{D C:Addr}(hD:D=s.heap.objs.size) (hC:C=s.heap.objs.size+1) (old:∀b o,s.heap.get? b=some o->h1.get? b=some o) {n:Nat}(acc:h1.get? D=some {cls:=.type "list",data:=.seq #[] n})
  {m:Str->Option Value}(ns:h1.Ns C m):Inv (bH X scope N C s H fp (X.pn++pr)) [] (kg ix σ) (upd H D (.lst [])) {s with heap:=h1,toks:=t1}:=by
 have Hv:s.heap.objs.size<=C:=by rw[hC];exact Qe _
 have freshD:s.heap.objs.size<=D:=by rw[hD];exact OW _
 have nD:H D=none:=I.hok.fresh freshD;have DC:D≠C:=by rw[hD,hC];exact Pc (Qf _)
 have Km:∀b,H b=none->b≠D->upd H D (.lst []) b=none:=fun b n z=>by rw[ay z];exact n
 have Lp:∀b o,s.heap.get? b=some o->b≠D:=fun b o e=>Pc (O4 (OY e) freshD)
 have Jt:∀b o,s.heap.get? b=some o->b≠C:=fun b o e=>Pc (O4 (OY e) Hv)
 have cellAt:∀x c,(clOf scope X.env).lookup x=some c->∃v o,s.heap.get? c=some o/\o.data=.cell v:=fun x c e=>by
  obtain⟨v,o,ho,hd⟩:=I.cell x c (jo I.ok hf e);exact⟨v,o,ho,hd⟩
 have okY:(bH X scope N C s H fp (X.pn++pr)).Ok:=by
  refine⟨I.ok.mod,hk,I.ok.glob,I.ok.blt,Hv,fun x y c e1 e2=>?_,fun x hx=>?_,fun x c z _=>?_,I.ok.hd,I.ok.frames,.inl rfl,fun b hb=>?_,I.bs,?_,fun b o e hb=>?_,fun b hb hs=>?_,I.stack,I.stkFree⟩
  ·exact I.ok.inj x y c (jo I.ok hf e1) (jo I.ok hf e2)
  ·obtain⟨c,e,_⟩:=qM I.ok hf (l7 E2 hx);exact⟨c,e⟩
  ·exact absurd (show false=true from z) O0
  ·obtain⟨f0,f1,f2,f3,f4,f5⟩:=fo b hb;refine⟨?_,fun x c e=>f4 x c (jo I.ok hf e)⟩;intro z;have z:b=C:=z;obtain⟨o,ho⟩:=fin b hb;exact Jt b o ho z
  ·exact PB I.ok.bsz I.sz
  ·obtain⟨f0,f1,f2,f3,f4,f5⟩:=fo b hb;rcases f3 with q|q
   ·exact I.ok.noex b o e q
   ·exact absurd (O4 (OY e) (PB I.ok.bsz q)) (QQ _)
  ·obtain⟨f0,f1,f2,_⟩:=fo b hb;exact(O6.mp (I.stkSub b hs)).elim f1 f2
 refine⟨okY,rfl,I.bare,Un.laid old freshD nD,⟨m,ns,fun i x v e1 e2 e3=>?_⟩,fun x c e=>?_,?_,fun x c e=>?_,fun p hp=>?_,I.hok.laid old freshD ⟨PD _,[],n,.nil,acc⟩,?_⟩
 ·
  have e2:(ix.map fun i=>i.bind fun i=>(σ[i]?).bind id)[i]?=some (some v):=e2;have e1:N[i]?=some x:=e1;unfold vQ at FF;rw[O1]at FF;rw[List.getElem?_map]at e2;cases q:ix[i]? with
  |none=>rw[q]at e2;cases e2
  |some o=>
   rw[q]at e2;have e2:(o.bind fun i=>(σ[i]?).bind id)=some v:=Pn e2;cases o with
   |none=>cases e2
   |some j=>
    have e2:(σ[j]?).bind id=some v:=e2;have hσ:σ[j]?=some (some v):=by
     cases w':σ[j]? with
     |none=>rw[w']at e2;cases e2
     |some y=>rw[w']at e2;exact P4 some e2
    have hz:(N.zip ix)[i]?=some (x,some j):=by
     rw[List.getElem?_zip_eq_some];exact⟨e1,q⟩
    have hy:=Pm.mp FF.2 _ (PM hz);simp only[O1,PN]at hy;have Oe:(x,NameKind.free)∈scope.names:=Qp hy.2;obtain⟨c,c1,c2⟩:=qM I.ok hf Oe;have Kn:X.env.kindOf x=some .cell\/X.env.kindOf x=some .free:=by
     have:=Pm.mp hf _ Oe;simpa using this
    obtain⟨mo,Oa,Ob⟩:=I.loc;obtain⟨u,r,l⟩:=Ob j x v hy.1 hσ (.inr Kn);refine⟨u,r,.inr ⟨l6 hy.2,c,c1,?_⟩⟩;rcases l with⟨k1,_⟩|⟨_,c',e',Ie⟩
    ·rcases Kn with k2|k2 <;> (rw[k1]at k2;cases k2)
    ·rw[c2]at e';cases e';obtain⟨o,ho,hd⟩:=Ie;exact⟨o,old c o ho,hd⟩
 ·obtain⟨v,o,ho,hd⟩:=cellAt x c e;exact⟨v,o,old c o ho,hd⟩
 ·exact Km C (I.hok.fresh Hv) (QR DC)
 ·obtain⟨v,o,ho,hd⟩:=cellAt x c e;exact Km c (I.freeC x c (jo I.ok hf e)) (Lp c o ho)
 ·have hp:p∈X.pn++pr:=by
   have:p∈(X.pn++pr)++[]:=hp
   rwa [O8]at this
  obtain⟨e,nn,ne,nf,d⟩:=I.pin p hp;refine⟨old _ _ e,Km _ nn (Lp _ _ e),Jt _ _ e,fun z=>?_,d⟩;exact(O6.mp (I.stkSub p.1 z)).elim ne nf
 ·unfold vQ at FF;rw[O1]at FF;have:N.length=ix.length:=by simpa using FF.1
  show(ix.map _).length=N.length;rw[OT,this]
theorem _root_.L2.Inv.unblock{C:Addr}{σ1:L2.St}{H1:Hp}{s1:Shared}{h2:Heap}(I:Inv X pr σ H s)(fo:∀b∈fp,qi X pr H b)(hC:s.heap.objs.size<=C)(J:Inv (bH X scope N C s H fp (X.pn++pr)) [] σ1 H1 s1)(hs:Heap.SameBut C s1.heap h2):
  Inv X pr σ H1 {s1 with heap:=h2}:=by
 have Jt:∀b o,s.heap.get? b=some o->b≠C:=fun b o e=>Pc (O4 (OY e) hC)
 have bb:Un (F6 X.stack) fp H H1 s.heap s1.heap:=J.base;have jf:H1 C=none:=J.free;refine I.call' (s':={s1 with heap:=h2}) (ch:=fp) J.os ⟨fun b o e n hb hx=>?_,fun b o e n hb hx=>?_,bb.free,fun b o e hx=>?_,bb.tups,bb.frzs,bb.tbls⟩ (fun b ob e=>?_) J.bare fun b hb=>?_
 ·exact(hs.2 b (Jt b o e)).trans (bb.keep b o e n hb hx)
 ·obtain⟨sl,q⟩:=bb.slot b o e n hb hx;exact⟨sl,(hs.2 b (Jt b o e)).trans q⟩
 ·obtain⟨o',q⟩:=bb.there b o e hx;exact⟨o',(hs.2 b (Jt b o e)).trans q⟩
 ·refine(J.hok b ob e).stay (fun c w' hc q=>(hs.2 c ?_).trans q) (fun _ q=>q) fun _ _ q=>q
  rintro rfl;rcases hc with rfl|hc
  ·rw[jf]at e;cases e
  ·rw[jf]at hc;cases hc
 ·obtain⟨f0,f1,f2,f3,f4,f5⟩:=fo b hb;exact⟨f3,f1,f4,f5⟩
end
section
variable{X:Cx}{scope:Scope}{N:List Str}{ix:List (Option Nat)}{tg iter elt:Expr}{ifs:List Expr}{pos:Pos}{wi:TI}{g:TG}{tc:TT}{te:TE}
theorem kh{pr:List (Addr×Obj)}{σ:L2.St}{H2:Hp}{s2:Shared}{J:It}{fp:List Addr}{it:Addr}{tn:Nat->Heap->Prop}{Q:VK}{RR:Value->Addr->Result->Shared->Prop}{E:Value->Shared->Prop}
  (hc:X.calm=true) (I2:Inv X pr σ H2 s2) (T:Turn X.prog X.w X.K tg J fp it tn) (El:tn 0 s2.heap) (f2:∀b∈fp,qi X pr H2 b)
  (hg:∀C s H fp pn,PG (bH X scope N C s H fp pn) tg g) (ht:∀C s H fp pn,LP (bH X scope N C s H fp pn) ifs tc) (he:∀C s H fp pn,PE (bH X scope N C s H fp pn) elt te)
  (hf:gN scope X.env=true) (hk:scope.kind=.function) (E2:∀y∈scope.names,y.2≠.cell) (FF:vQ X scope N ix=true)
  (q:∀D,H2 D=none->∃W:Nat->Nat->L2.St->Hp->Prop,(∃m,W 0 m (kg ix σ) (upd H2 D (.lst [])))/\
   ∀i m σ1 H3,W i m σ1 H3->(J.stop i H3/\Q (.ref D) H3)\/(J.go i H3/\∀x H4,J.yld i H3 x H4->g x σ1 H4 fun σ2 H5=>tc σ2 H5 fun b H6=>if b=true then te σ2 H6 fun v H7=>
    ∃ys,H7 D=some (.lst ys)/\ys.length<sizeLine/\∃m',m'<m/\W (i+1) m' σ2 (upd H7 D (.lst (ys++[v]))) else ∃m',m'<m/\W (i+1) m' σ2 H6))
  (hRR:∀(D C:Addr) (σ1:L2.St) (H1:Hp) (s1:Shared),s2.heap.objs.size<=C->Inv (bH X scope N C s2 H2 fp (X.pn++pr)) [] σ1 H1 s1->Q (.ref D) H1->RR (.ref D) C (.ok .next) s1):
  wpAny (model X.prog X.w) X.A (newList []) (fun acc s₃=>wpAny (model X.prog X.w) X.A (newFunctionEnv scope X.env.globals (clOf scope X.env) [] X.env.qual none .none (some X.env)) (fun LQ s₄=>
   codeAny (model X.prog X.w) X.A (.compStart (.ListComp elt [⟨tg,iter,ifs,0⟩] scope pos) 0 (.ref it) acc {LQ with scope:=relabel scope X.env}) (RR acc LQ.locals) s₄) E s₃) E s2:=by
 refine PJ (wpAny_newFunctionEnv E2 (by intro y hy;simp at hy) (fun h₁ hns₁ hsb₁=>?_) hk);dsimp only at hns₁ hsb₁ ⊢;generalize hH2:s2.heap.push {cls:=.type "list",dict:=none,data:=.seq ([]:List Value).toArray}=HH at hns₁ hsb₁ ⊢;have hC:HH.objs.size=s2.heap.objs.size+1:=by rw[<-hH2,QY]
 have hDC:s2.heap.objs.size≠HH.objs.size:=by rw[hC];exact Pc (Qf _)
 have LR:s2.heap.objs.size<=HH.objs.size:=by rw[hC];exact Qe _
 have Jt:∀b o,s2.heap.get? b=some o->b≠HH.objs.size:=fun b o e=>Pc (O4 (OY e) LR)
 have old:∀b o,s2.heap.get? b=some o->h₁.get? b=some o:=fun b o e=>hsb₁.extBut b o (Jt b o e) (Heap.get?_push_of_some _ (hH2▸Heap.get?_push_of_some _ e))
 have Ju:h₁.get? s2.heap.objs.size=some {cls:=.type "list",data:=.seq #[] 0}:=hsb₁.extBut _ _ hDC (Heap.get?_push_of_some _ (hH2▸Heap.get?_push_size _ rfl));obtain⟨W,⟨m0,w0⟩,turn⟩:=q s2.heap.objs.size (I2.hok.fresh (OW _));have fin:∀b∈fp,∃o,s2.heap.get? b=some o:=fun b hb=>let⟨o,e,_⟩:=T.obj 0 _ El b hb;⟨o,e⟩
 have Ht:∀{H':Hp},(∀b∈fp,H' b=none)->∀b∈fp,qi (bH X scope N HH.objs.size s2 H2 fp (X.pn++pr)) [] H' b:=fun{H'} hn b hb=>by
  obtain⟨f0,f1,ff,f3,f4,f5⟩:=f2 b hb;refine⟨hn b hb,?_,fun z=>?_,.inl hb,fun x c e=>f4 x c (jo I2.ok hf e),fun p hp=>?_⟩
  ·intro z;have z:b=HH.objs.size:=z;obtain⟨o,ho⟩:=fin b hb;exact Jt b o ho z
  ·exact(O6.mp (I2.stkSub b z)).elim f1 ff
  ·have hp:p∈X.pn++pr:=by
    have:p∈(X.pn++pr)++[]:=hp
    rwa [O8]at this
   exact f5 p hp
 have loop:∀s₃:Shared,s₃={s2 with heap:=h₁,toks:=s2.toks+([]:List (Str×Value)).length}->
   codeAny (model X.prog X.w) X.A (.compLoop (.ListComp elt [⟨tg,iter,ifs,0⟩] scope pos) 0 (.ref it) (.ref s2.heap.objs.size) (compEnvC scope (clOf scope X.env) HH.objs.size X.env)) (RR (.ref s2.heap.objs.size) HH.objs.size) s₃:=by
  rintro s₃ rfl;refine qL (fun n s'=>∃i σ' H',Inv (bH X scope N HH.objs.size s2 H2 fp (X.pn++pr)) [] σ' H' s'/\tn i s'.heap/\(∀b∈fp,H' b=none)/\W i n σ' H') ?_ m0
   ⟨0,_,_,I2.block hf hk E2 FF f2 fin rfl hC old Ju hns₁,T.keep 0 _ _ El fun b _ o e=>old b o e,fun b hb=>?_,w0⟩
  ·rintro n s3 ⟨i,σ3,H3,I3,EJ,LF,w3⟩;rcases turn i n σ3 H3 w3 with⟨stop,qn⟩|⟨go,step⟩
   ·refine Ey (T.done (bH X scope N HH.objs.size s2 H2 fp (X.pn++pr)) rfl rfl rfl hc i [] s3 σ3 H3 Js I3 (Ht LF) EJ stop) fun r s4 Ez=>?_
    obtain⟨hr,I4⟩:=Ez;subst hr;exact hRR _ _ σ3 H3 s4 LR I4 qn
   ·refine Ey (T.item (bH X scope N HH.objs.size s2 H2 fp (X.pn++pr)) rfl rfl rfl hc i [] s3 σ3 H3 Js I3 (Ht LF) EJ go) fun r s4 Ez=>?_
    obtain⟨u,hr,h4⟩:=Ez;subst hr;refine Ey h4 fun _ s5 Ez=>?_
    obtain⟨x,H5,I5,r5,y5,Gd,M7⟩:=Ez;have M8:=I5.pinned (Ht M7) (T.obj _ _ Gd);refine Ey (hg _ _ _ _ _ _ s5 σ3 H5 x u _ M8 r5 (step x H5 y5)) fun _ s6 Ez=>?_
    obtain⟨σ6,H6,I6,q6⟩:=Ez;refine Ey (ht _ _ _ _ _ _ s6 σ6 H6 _ I6 q6) fun ok s7 Ez=>?_
    obtain⟨H7,I7,q7⟩:=Ez;have again:∀{H8:Hp}{s8:Shared},Inv (bH X scope N HH.objs.size s2 H2 fp (X.pn++pr)) ([]++lQ fp s5.heap) σ6 H8 s8->(∃m',m'<n/\W (i+1) m' σ6 H8)->
      ∃m,m<n/\∃i σ' H',Inv (bH X scope N HH.objs.size s2 H2 fp (X.pn++pr)) [] σ' H' s8/\tn i s8.heap/\(∀b∈fp,H' b=none)/\W i m σ' H':=fun{H8 s8} I8 ⟨m',hm,w8⟩=>by
     refine⟨m',hm,i+1,σ6,H8,I8.unpinned,T.keep _ _ _ Gd fun b hb o e=>(I8.pin (b,o) (OV _ (OV _ (fK hb e)))).1,fun b hb=>?_,w8⟩;obtain⟨o,e,d⟩:=T.obj _ _ Gd b hb;exact(I8.pin (b,o) (OV _ (OV _ (fK hb e)))).2.1
    cases ok with
    |false=>exact again I7 q7
    |true=>
     show wpAny _ _ _ _ _ _;refine Ey (he _ _ _ _ _ _ s7 σ6 H7 _ I7 q7) fun x8 s8 Ez=>?_
     obtain⟨v8,H8,I8,r8,ys,Ng,E3,q8⟩:=Ez;refine Ey (jl _ s8 σ6 H8 (.ref s2.heap.objs.size) [v8] (.ref s2.heap.objs.size) [x8] (fun _ H9=>∃m',m'<n/\W (i+1) m' σ6 H9) I8 rfl (.cons r8 .nil) ⟨_,ys,v8,rfl,rfl,Ng,E3,q8⟩) fun _ s9 Ez=>?_
     obtain⟨_,H9,I9,_,q9⟩:=Ez;exact again I9 q9
  ·rw[ay (fun z=>by
    obtain⟨o,ho⟩:=fin b hb;exact absurd z (Pc (OY ho)))]
   exact(f2 b hb).1
 exact codeAny_compStart_list (loop _ rfl) (T.self _ 0 _ _ _ (T.keep 0 _ _ El fun b _ o e=>old b o e) (loop _ rfl))
theorem w9(ix:List (Option Nat))(N:List Str)(hc:X.calm=true)(hi:PI X tg iter wi)(hg:∀C s H fp pn,PG (bH X scope N C s H fp pn) tg g)(ht:∀C s H fp pn,LP (bH X scope N C s H fp pn) ifs tc)(he:∀C s H fp pn,PE (bH X scope N C s H fp pn) elt te)
  (hf:gN scope X.env=true:=by rfl) (hk:scope.kind=.function:=by rfl) (E2:∀y∈scope.names,y.2≠.cell:=by decide +kernel) (FH:∀y∈scope.names,y.2=.local->scope.names.lookup y.1=some .local:=by decide +kernel) (FF:vQ X scope N ix=true:=by rfl)
  (hs:∀x,foldedSetIterable iter X.env x=pure x:=by intro _;rfl):PE X (.ListComp elt [⟨tg,iter,ifs,0⟩] scope pos) (w5 wi ix g tc te):=by
 intro pr s σ H Q I h;rw[eval_ListComp];have IF:closureFor scope X.env=pure (clOf scope X.env):=by
  unfold closureFor clOf;have:=fL X.env scope.names [] (kM I.ok hf);simpa using this
 refine R1 (use:=none) rfl hs IF hk FH (Ey (hi pr s σ H _ I h) fun v s1 h1=>Ey h1 fun ME s2 h2=>?_);obtain⟨it,fp,tn,J,H2,e,I2,T,El,f2,q⟩:=h2;subst e;refine kh (RR:=fun acc C=>compPost (model X.prog X.w) X.A X.xe none (EP X pr σ Q) acc C) (Q:=Q) (iter:=iter) hc I2 T El f2 hg ht he hf hk E2 FF q fun D C σ1 H1 s1 hC J1 q1=>?_
 obtain⟨m,ns,_⟩:=J1.loc;exact⟨m,ns,fun h' Ko=>⟨.ref D,H1,I2.unblock f2 hC J1 Ko,rfl,q1⟩⟩
end
section
variable{X:Cx}{scope:Scope}{N:List Str}{ix:List (Option Nat)}{tg iter elt:Expr}{ifs:List Expr}{pos:Pos}{wi:TI}{g:TG}{tc:TT}{te:TE}
theorem xa{i:Nat}{y:Str}{py Fe:Pos}(ix:List (Option Nat))(N:List Str)(hN:X.N.Nodup)(Nh:X.N[i]?=some y)(hy:Loc X.env.scope y)(hc:X.calm=true)(hi:PI X tg iter wi)(hg:∀C s H fp pn,PG (bH X scope N C s H fp pn) tg g)(ht:∀C s H fp pn,LP (bH X scope N C s H fp pn) ifs tc)
  (he:∀C s H fp pn,PE (bH X scope N C s H fp pn) elt te) (Ni:swapsWith (.ListComp elt [⟨tg,iter,ifs,0⟩] scope pos) (some (.Name y py)) Fe.line X.env=pure true:=by rfl)
  (hf:gN scope X.env=true:=by rfl) (hk:scope.kind=.function:=by rfl) (E2:∀y∈scope.names,y.2≠.cell:=by decide +kernel) (FH:∀y∈scope.names,y.2=.local->scope.names.lookup y.1=some .local:=by decide +kernel) (FF:vQ X scope N ix=true:=by rfl)
  (hs:∀x,foldedSetIterable iter X.env x=pure x:=by intro _;rfl) (Kg:X.fn y=true\/X.env.scope.names.lookup y=some .local:=by first|exact .inl rfl|exact .inr rfl):
  PS X (.Assign [.Name y py] (.ListComp elt [⟨tg,iter,ifs,0⟩] scope pos) Fe) (fun D σ H=>w5 wi ix g tc te σ H fun v H'=>D.nx (σ.set i (some v)) H'):=by
 intro pr s σ H Dd I h;rw[exec_Assign_Name_used _ _ _ _ Ni];have IF:closureFor scope X.env=pure (clOf scope X.env):=by
  unfold closureFor clOf;have:=fL X.env scope.names [] (kM I.ok hf);simpa using this
 refine OR (Tc (OR ?_));show wpAny _ X.A (do let _ <-comprehension (.ListComp elt [⟨tg,iter,ifs,0⟩] scope pos) scope X.env _ (newList []) false (eval iter X.env) (some (assign (.Name y py) X.env))) _ _ s;refine OR (PH (R1 (use:=some (assign (.Name y py) X.env)) (Q:=fun _ s'=>SP X pr Dd .next s') rfl hs IF hk FH
  (Ey (hi pr s σ H _ I h) fun v s1 h1=>Ey h1 fun ME s2 h2=>?_)) (fun _ s' hq=>OU (OU hq)) fun _ _ e=>e)
 obtain⟨it,fp,tn,J,H2,e,I2,T,El,f2,q⟩:=h2;subst e;refine kh (RR:=fun acc C=>compPost (model X.prog X.w) X.A X.xe (some (assign (.Name y py) X.env)) (fun _ s'=>SP X pr Dd .next s') acc C) (Q:=fun v H'=>Dd.nx (σ.set i (some v)) H') (iter:=iter) hc I2 T El f2 hg ht he hf hk E2 FF q fun D C σ1 H1 s1 hC J1 q1=>?_
 obtain⟨m,ns,_⟩:=id J1.loc;have ns:s1.heap.Ns C m:=ns;have I3:Inv X pr σ H1 s1:=I2.unblock f2 hC J1 (.refl ..);show wpAny _ X.A (assign (.Name y py) X.env (.ref D)) _ _ s1;refine wpAny_assign_Name (lO I3 hN Nh hy (v:=.ref D) rfl (fun s4 I4 ⟨a,sb,ha⟩=>?_) Kg);have aC:C≠a:=by
  intro z;rcases ha with ha|ha
  ·exact Pc (O4 I2.lt hC) (ha▸z.symm)
  ·obtain⟨v,o,ho,_⟩:=I2.cell y a ha;exact Pc (O4 (OY ho) hC) z.symm
 refine⟨m,ns.sameBut sb aC,fun h' Ko=>?_⟩;have jf:H1 C=none:=J1.free;have kk:∀b o,b≠C->s4.heap.get? b=some o->h'.get? b=some o:=fun b o hb e=>(Ko.2 b hb).trans e
 refine⟨σ.set i (some (.ref D)),H1,?_,q1⟩;have z:=I4.turned (t':=s4.toks) kk jf (fun z=>Pc (O4 I2.lt hC) z.symm) (.inr (PB I2.sz hC)) (fun x c e z=>by
  obtain⟨v,o,ho,_⟩:=I2.cell x c e;exact Pc (O4 (OY ho) hC) z) (fun p hp z=>Pc (O4 (OY (I2.pin p hp).1) hC) z)
 exact z
end
def Itv(val:Nat->V)(n:Nat):It:=⟨fun i _=>i<n,fun i H x H'=>H'=H/\x=val i,fun i _=>i=n⟩
theorem oJ{P:Program}{w:World}{K:W.Frag}{tg:Expr}(ty:String)(Ij:["enumerate","zip","dict_itemiterator","dict_reverseitemiterator","odict_iterator","itertools.zip_longest","itertools.pairwise"].contains ty=false)(l:List Nat)(t:Tok)(it:Addr)
  (Wk:∀A:Around,A.handled=none->Walks P w A it [it] [it] (S l).cps.size (SignAt (S l)) (fun i h=>h.IsStrIter it ty (S l) t i))
  (self:∀(A:Around) (i:Nat) (s:Shared) (Q:Value->Shared->Prop) (E:Value->Shared->Prop),s.heap.IsStrIter it ty (S l) t i->Q (.ref it) s->wpAny (model P w) A (pyIter (.ref it)) Q E s):
  Turn P w K tg (Itv (fun i=>.str (S [l.getD i 0])) l.length) [it] it (fun i h=>h.IsStrIter it ty (S l) t i) where
 mem:=by simp
 obj:=fun i h st b hb=>by
  have e:b=it:=by simpa using hb
  subst e;obtain⟨o,e,c,d⟩:=st;exact⟨o,e,fun v z=>by rw[d]at z;cases z⟩
 keep:=fun i h h' st k=>by
  obtain⟨o,e,r⟩:=st;exact⟨o,k it (by simp) o e,r⟩
 item:=by
  intro X hP hw hK hc i pr s σ H E I hf st hg;subst hP hw hK;obtain⟨f0,f1,f2,f3,f4,f5⟩:=hf it (by simp);have hg:i<l.length:=hg;refine(Wk X.A (I.ok.hd hc)).item i s _ _ (by simpa[S] using hg) st fun v h' tk hv GL kk=>?_
  obtain⟨c,u,MD,rfl⟩:=hv;have I1:Inv X pr σ H {s with heap:=h',toks:=tk}:=I.turned (fun b o hb e=>kk b o (by simpa using hb) e) f0 f1 f3 f4 f5;obtain⟨o,e,cc,d⟩:=id GL;have IG:l.getD i 0=c:=by
   have:l[i]?=some c:=by simpa[S] using MD
   rw[List.getD_eq_getElem?_getD,this];rfl
  refine⟨_,rfl,tR (s:={s with heap:=h',toks:=tk}) e cc d Ij ⟨.str (S [l.getD i 0]),H,I1,⟨u,?_⟩,⟨rfl,rfl⟩,GL,fun b hb=>(hf b hb).1⟩⟩;rw[IG]
 done:=by
  intro X hP hw hK hc i pr s σ H E I hf st hg;subst hP hw hK;obtain⟨f0,f1,f2,f3,f4,f5⟩:=hf it (by simp);have hg:i=l.length:=hg;have hn:(S l).cps.size=i:=by rw[hg];simp[S]
  refine(Wk X.A (I.ok.hd hc)).done s _ _ (by rw[hn];exact st) fun h' tk kk=>⟨rfl,I.turned (fun b o hb e=>kk b o (by simpa using hb) e) f0 f1 f3 f4 f5⟩
 self:=self
def DL(tl:TE):TI:=fun σ H R=>tl σ H fun x H1=>∃l,x=.str (S l)/\R (Itv (fun i=>.str (S [l.getD i 0])) l.length) H1
section
variable{X:Cx}{tg:Expr}
theorem zO{l:Expr}{tl:TE}(hl:PE X l tl):PI X tg l (DL tl):=by
 intro pr s σ H R I h;refine Ey (hl pr s σ H _ I h) fun v s1 Ez=>?_
 obtain⟨x,H1,I1,r1,l,e,q⟩:=Ez;subst e;obtain⟨t,rfl⟩:=r1;cases ha:(S l).cps.all (·< 128)
 ·refine wpAny_pyIter_wide ha ?_;refine⟨s1.heap.objs.size,[s1.heap.objs.size],_,_,H1,rfl,I1.kept (t':=s1.toks) fun b o e=>Heap.get?_push_of_some _ e,
   oJ "str_iterator" (by decide) l t _ (fun A hA=>Walks.strWide hA _ _ _) (fun _ _ _ _ _ st h=>wpAny_pyIter_striter_wide st h),⟨_,Heap.get?_push_size _ rfl,rfl,rfl⟩,fun b hb=>?_,q⟩
  have e:b=s1.heap.objs.size:=by simpa using hb
  subst e;exact I1.fpOk (OW _) (I1.hok.fresh (OW _))
 ·refine wpAny_pyIter_ascii ha ?_;refine⟨s1.heap.objs.size,[s1.heap.objs.size],_,_,H1,rfl,I1.kept (t':=s1.toks) fun b o e=>Heap.get?_push_of_some _ e,
   oJ "str_ascii_iterator" (by decide) l t _ (fun A hA=>Walks.strAscii hA _ _ _) (fun _ _ _ _ _ st h=>wpAny_pyIter_striter_ascii st h),⟨_,Heap.get?_push_size _ rfl,rfl,rfl⟩,fun b hb=>?_,q⟩
  have e:b=s1.heap.objs.size:=by simpa using hb
  subst e;exact I1.fpOk (OW _) (I1.hok.fresh (OW _))
theorem oK{pr:List (Addr×Obj)}{s:Shared}{σ:L2.St}{H:Hp}{p:Addr}{xs:List V}{E:Value->Shared->Prop}{R:Value->Shared->Prop}(hc:X.calm=true)(I:Inv X pr σ H s)(h:SqL X.K H p xs\/SqT X.K H p xs)
  (k:∀(it:Addr) (fp:List Addr) (o:Obj) (us:List Value) (Sx:Nat->Heap->Prop),Vals xs us->Walks X.prog X.w X.A.in1 it fp [it] us.length (fun i v=>us[i]?=some v) Sx->Sx 0 (s.heap.push o)->(∀b∈fp,b<(s.heap.push o).objs.size)->it=s.heap.objs.size->R (.ref it) {s with heap:=s.heap.push o}):
  wpAny (model X.prog X.w) X.A.in1 (pyIter (.ref p)) R E s:=by
 have hh:X.A.in1.handled=none:=I.ok.hd hc;rcases h with h|h
 ·obtain⟨us,r,pl,hz⟩:=I.list h;have E3:p<s.heap.objs.size:=by obtain⟨o,ho,_⟩:=pl.isList;exact OY ho
  refine QF pl.isList (k s.heap.objs.size [s.heap.objs.size,p] _ us (fun i h=>h.IsListIter s.heap.objs.size p i/\h.IsList p us.toArray) r (by
   have W:=Walks.list (prog:=X.prog) (w:=X.w) hh s.heap.objs.size p (Pc E3) us.toArray;simpa using W) ⟨⟨_,Heap.get?_push_size _ rfl,rfl,rfl⟩,pl.isList.at fun o e=>Heap.get?_push_of_some _ e⟩ (fun b hb=>?_) rfl)
  rw[QY];rcases O6.mp hb with rfl|hb
  ·exact Qf _
  ·rw[Pr]at hb;rw[hb];exact R3 E3
 ·obtain⟨us,r,pl,hz⟩:=I.tuple h;have Kl:s.heap.IsTuple p us.toArray:=pl;have E3:p<s.heap.objs.size:=by obtain⟨o,ho,_⟩:=pl;exact OY ho
  refine Qu Kl (k s.heap.objs.size [s.heap.objs.size,p] _ us (fun i h=>h.IsTupleIter s.heap.objs.size p i/\h.IsTuple p us.toArray) r (by
   have W:=Walks.tuple (prog:=X.prog) (w:=X.w) hh s.heap.objs.size p (Pc E3) us.toArray;simpa using W) ⟨⟨_,Heap.get?_push_size _ rfl,rfl,rfl⟩,Kl.at fun o e=>Heap.get?_push_of_some _ e⟩ (fun b hb=>?_) rfl)
  rw[QY];rcases O6.mp hb with rfl|hb
  ·exact Qf _
  ·rw[Pr]at hb;rw[hb];exact R3 E3
theorem ki{pr:List (Addr×Obj)}{s:Shared}{σ:L2.St}{H:Hp}{o:Obj}{h':Heap}{tk:Nat}(I:Inv X pr σ H s)(kk:∀b ob,b∉[s.heap.objs.size]->(s.heap.push o).get? b=some ob->h'.get? b=some ob):
  Inv X pr σ H {s with heap:=h',toks:=tk}:=I.kept fun b ob e=>kk b ob (fun z=>Pc (OY e) (by simpa using z)) (Heap.get?_push_of_some _ e)
theorem ba{α:Type}(l:List α)(i:Nat)(d:α)(h:i<l.length):l.getD i d=l[i]:=by
 rw[List.getD_eq_getElem?_getD,List.getElem?_eq_getElem h];rfl
def zP:V->Bool
 | .bl b=>b
 |_=>false
def B8:V->Bool
 | .bl _=>true
 |_=>false
theorem ud{xs:List V}{us:List Value}(r:Vals xs us)(hb:xs.all B8=true):TruthOf X.prog X.w X.A.in1 (fun i v=>us[i]?=some v) (fun i=>zP (xs.getD i .non)):=by
 intro i v s Q E hv q;have hl:=r.length;obtain⟨hi,_⟩:=List.getElem?_eq_some_iff.mp hv;have e1:xs[i]?=some (xs[i]'(by lia)):=List.getElem?_eq_getElem _;obtain⟨u,hu,ru⟩:=r.get e1;rw[hv]at hu;cases hu;have q:Q (zP (xs.getD i .non)) s:=q;rw[wZ e1]at q;have bl:=Pm.mp hb _ (PM e1);generalize xs[i]'(by lia)=x at ru q bl;cases x <;> first|(exact absurd (show false=true from bl) O0)|skip
 cases ru;exact P7 q
theorem qN{xs:List V}(f:V->Bool):(List.range xs.length).all (fun i=>f (xs.getD i .non))=xs.all f:=by
 rw[Pk,Pm,Pm];constructor
 ·intro h x hx;obtain⟨i,hi,rfl⟩:=List.getElem_of_mem hx;have:=h i (PQ.mpr hi)
  rwa [ba _ _ _ hi]at this
 ·intro h i hi;have hi:=PQ.mp hi;rw[ba _ _ _ hi];exact h _ (Q5 hi)
theorem ue(hc:X.calm=true):du X (.builtin "all") (fun vs H Q=>∃p xs,vs=[.ref p]/\(SqL X.K H p xs\/SqT X.K H p xs)/\xs.all B8=true/\Q (.bl (xs.all zP)) H):=by
 intro pr s σ H vs us Q I r h;obtain⟨p,xs,rfl,hp,hb,q⟩:=h;obtain⟨u,rfl,r1⟩:=gL r;cases r1;refine call_all_walk (oK hc I hp fun it fp o ws Sx rv W st hf hit=>⟨it,fp,[it],_,_,Sx,_,rfl,W,st,ud rv hb,fun h' tk kk=>?_⟩);subst hit;refine⟨.bl (xs.all zP),H,ki (s:=s) I kk,?_,q⟩;rw[<-rv.length,qN];rfl
theorem hX{ns:List Int}{us:List Value}(r:Vals (ns.map V.int) us){i:Nat}{v:Value}(h:us[i]?=some v):∃t,v=.int (ns.getD i 0) t:=by
 have hl:=r.length;rw[OT]at hl;obtain⟨hi,_⟩:=List.getElem?_eq_some_iff.mp h;have e1:(ns.map V.int)[i]?=some (.int (ns.getD i 0)):=by
  rw[List.getElem?_map,List.getElem?_eq_getElem (by lia),ba _ _ _ (by lia)];rfl
 obtain⟨u,hu,t,rfl⟩:=r.get e1;rw[h]at hu;exact⟨t,Pn hu⟩
theorem uf{ns:List Int}{us:List Value}(r:Vals (ns.map V.int) us)(A:Around):CmpOf X.prog X.w A .Gt (fun i v=>us[i]?=some v) (fun i j=>decide (ns.getD j 0<ns.getD i 0)):=by
 intro i j vi vj s Q E hi hj q;obtain⟨t,rfl⟩:=hX r hi;obtain⟨t',rfl⟩:=hX r hj;exact gt_int q
def ug(ns:List Int):Int:=ns.foldl max (ns.headD 0)
def B9(ns:List Int):Int:=ns.foldl min (ns.headD 0)
theorem oM(ns:List Int):∀k,k<ns.length->argBest (fun i j=>decide (ns.getD j 0<ns.getD i 0)) k<ns.length/\ns.getD (argBest (fun i j=>decide (ns.getD j 0<ns.getD i 0)) k) 0=(ns.take (k+1)).foldl max (ns.headD 0)
 | 0,h=>by
  refine⟨h,?_⟩;cases ns with
  |nil=>cases h
  |cons a l=>show a=max a a;lia
 |k+1,h=>by
  obtain⟨ih1,ih2⟩:=oM ns k (by lia);have et:ns.take (k+1+1)=ns.take (k+1)++[ns.getD (k+1) 0]:=by
   rw[List.take_add_one,List.getElem?_eq_getElem h,ba _ _ _ h];rfl
  rw[et,List.foldl_append,<-ih2];show(if decide (ns.getD (argBest (fun i j=>decide (ns.getD j 0<ns.getD i 0)) k) 0<ns.getD (k+1) 0)=true then k+1 else argBest (fun i j=>decide (ns.getD j 0<ns.getD i 0)) k)<ns.length/\
   ns.getD (if decide (ns.getD (argBest (fun i j=>decide (ns.getD j 0<ns.getD i 0)) k) 0<ns.getD (k+1) 0)=true then k+1 else argBest (fun i j=>decide (ns.getD j 0<ns.getD i 0)) k) 0=max _ _
  split
  ·rename_i hd;have:=Qn hd;exact⟨h,by lia⟩
  ·rename_i hd;rw[O9]at hd;exact⟨ih1,by lia⟩
theorem qO(hc:X.calm=true):du X (.builtin "max") (fun vs H Q=>∃(p:Addr) (ns:List Int),vs=[.ref p]/\(SqL X.K H p (ns.map V.int)\/SqT X.K H p (ns.map V.int))/\ns≠[]/\Q (.int (ug ns)) H):=by
 intro pr s σ H vs us Q I r h;obtain⟨p,ns,rfl,hp,HQ,q⟩:=h;obtain⟨u,rfl,r1⟩:=gL r;cases r1;have hn:0<ns.length:=by cases ns with|nil=>exact absurd rfl HQ|cons _ _=>simp
 refine call_max_walk (oK hc I hp fun it fp o ws Sx rv W st hf hit=>?_);have hl:=rv.length;rw[OT]at hl;refine⟨it,fp,[it],_,_,Sx,_,rfl,W,st,hf,by lia,uf rv _,fun v h' tk hv kk=>?_⟩;subst hit;obtain⟨b1,b2⟩:=oM ns (ns.length-1) (by lia);rw[<-hl]at hv;obtain⟨t,rfl⟩:=hX rv hv;refine⟨.int (ug ns),H,ki (s:=s) I kk,⟨t,?_⟩,q⟩;rw[b2,show ns.length-1+1=ns.length by lia,List.take_length];rfl
end
section
variable{prog:Program}{w:World}{A:Around}{R:Result->Shared->Prop}{it:Addr}{fp wr:List Addr}{n:Nat}{Pv:Nat->Value->Prop}{Sx:Nat->Heap->Prop}{kw:List (Str×Value)}
end
section
variable{X:Cx}{e k:Expr}{te tk:TE}{p pos LI:Pos}
def maxD(ns:List Int)(d:Int):Int:=if ns=[] then d else ug ns
end
section
variable{prog:Program}{w:World}{A:Around}{E:Value->Shared->Prop}{s:Shared}
theorem uh{it t:Addr}{i:Nat}{items:Array Value}{x:Value}{Q:Value->Shared->Prop}(hi:s.heap.IsTupleIter it t i)(ht:s.heap.IsTuple t items)(hx:items[i]?=some x)
  (k:∀h',h'.IsTupleIter it t (i+1)->Heap.SameBut it s.heap h'->Q x {s with heap:=h'}):wpAny (model prog w) A (Builtin.SmallTypes.nextOf (.ref it)) Q E s:=by
 obtain⟨o,ho,oc,od⟩:=id hi;obtain⟨q,hq,_,n,qd⟩:=ht;unfold Builtin.SmallTypes.nextOf;refine OR (wpAny_callSpecial?_slot (name:=Str.ofString "__next__") hi.typeIs Qt (PF Qt hi.typeIs RL ?_ (RC _)));show wpAny _ _ (field (.ref it) 0 >>= _) _ _ s;refine OR (P5 ho od (x:=.ref t) rfl ?_);show wpAny _ _ (if(Value.ref t==Value.none)=true then _ else _) _ _ s;rw[O5 (fun z:(Value.ref t==Value.none)=true=>O0 z)];show wpAny _ _ (field (.ref it) 1 >>= _) _ _ s;refine OR (P5 ho od (x:=.int i 0) rfl (OR (QB hq qd ?_)));simp only[Ql,hx];refine OR (RU ho od (by simp) (OU ⟨x,rfl,OU (k _ ⟨_,Heap.get?_update_self _ ho (Obj.isFreed_of_fields (Ri od _)),(Obj.cls_mapFields ..).trans oc,?_⟩ (Q7 ..))⟩));rw[Ri od];simp[rawInt]
theorem xb{it t:Addr}{i:Nat}{items:Array Value}{Q:Value->Shared->Prop}(hh:A.handled=none)(hi:s.heap.IsTupleIter it t i)(ht:s.heap.IsTuple t items)(hx:items[i]?=none)
  (k:∀h' e,Heap.ExtBut it s.heap h'->(∃o,h'.get? e=some o/\o.cls=.type "StopIteration")->E (.ref e) {s with heap:=h'}):wpAny (model prog w) A (Builtin.SmallTypes.nextOf (.ref it)) Q E s:=by
 obtain⟨o,ho,oc,od⟩:=id hi;obtain⟨q,hq,_,n,qd⟩:=ht;unfold Builtin.SmallTypes.nextOf;refine OR (wpAny_callSpecial?_slot (name:=Str.ofString "__next__") hi.typeIs Qt (PF Qt hi.typeIs RL ?_ (RC _)));show wpAny _ _ (field (.ref it) 0 >>= _) _ _ s;refine OR (P5 ho od (x:=.ref t) rfl ?_);show wpAny _ _ (if(Value.ref t==Value.none)=true then _ else _) _ _ s;rw[O5 (fun z:(Value.ref t==Value.none)=true=>O0 z)];show wpAny _ _ (field (.ref it) 1 >>= _) _ _ s;refine OR (P5 ho od (x:=.int i 0) rfl (OR (QB hq qd ?_)));simp only[Ql,hx];refine OR (Tw (OR (RU ho od (by simp) ?_)));show wpAny _ _ (newExc (.type "StopIteration") [] >>= _) _ _ _;refine OR ?_;simp only[newExc,newTuple];refine OR (PJ (OR (m:=firstArgMember _ _) (wpAny_of_eq (a:=Value.none) (by first|rfl|(simp only[firstArgMember];rfl)) (PJ ?_ (by size_fits)))) (by size_fits));simp only[raiseNew];refine OR (wpAny_handled ?_);first
  |rw[show A.in1.handled=none from hh]
  |rw[hh]
 exact OR (OU (wpAny_throw (k _ _ (((Q7 ..).extBut.push _).push _) ⟨_,Heap.get?_push_size _ rfl,rfl⟩)))
def IsIt(k:Bool)(h:Heap)(it l:Addr)(i:Nat):Prop:=match k with
 |true=>h.IsListIter it l i
 |false=>h.IsTupleIter it l i
def IsSq(k:Bool)(h:Heap)(l:Addr)(xs:Array Value):Prop:=match k with
 |true=>h.IsList l xs
 |false=>h.IsTuple l xs
theorem IsIt.at{k:Bool}{h h':Heap}{it l:Addr}{i:Nat}(x:IsIt k h it l i)(e:∀o,h.get? it=some o->h'.get? it=some o):IsIt k h' it l i:=by
 cases k with
 |true=>obtain⟨o,ho,r⟩:=(show h.IsListIter it l i from x);exact(show h'.IsListIter it l i from⟨o,e o ho,r⟩)
 |false=>obtain⟨o,ho,r⟩:=(show h.IsTupleIter it l i from x);exact(show h'.IsTupleIter it l i from⟨o,e o ho,r⟩)
theorem IsSq.at{k:Bool}{h h':Heap}{l:Addr}{xs:Array Value}(x:IsSq k h l xs)(e:∀o,h.get? l=some o->h'.get? l=some o):IsSq k h' l xs:=by
 cases k with
 |true=>obtain⟨o,ho,r⟩:=(show h.IsList l xs from x);exact(show h'.IsList l xs from⟨o,e o ho,r⟩)
 |false=>obtain⟨o,ho,r⟩:=(show h.IsTuple l xs from x);exact(show h'.IsTuple l xs from⟨o,e o ho,r⟩)
theorem IsIt.obj{k:Bool}{h:Heap}{it l:Addr}{i:Nat}(x:IsIt k h it l i):∃o,h.get? it=some o/\∀v,o.data≠.cell v:=by
 cases k with
 |true=>obtain⟨o,ho,_,d⟩:=(show h.IsListIter it l i from x);exact⟨o,ho,fun v z=>by rw[d]at z;cases z⟩
 |false=>obtain⟨o,ho,_,d⟩:=(show h.IsTupleIter it l i from x);exact⟨o,ho,fun v z=>by rw[d]at z;cases z⟩
theorem nJ{k:Bool}{it l:Addr}{i:Nat}{xs:Array Value}{x:Value}{Q:Value->Shared->Prop}(hi:IsIt k s.heap it l i)(hl:IsSq k s.heap l xs)(hx:xs[i]?=some x)
  (q:∀h',IsIt k h' it l (i+1)->Heap.SameBut it s.heap h'->Q x {s with heap:=h'}):wpAny (model prog w) A (Builtin.SmallTypes.nextOf (.ref it)) Q E s:=by
 cases k with
 |true=>exact wpAny_nextOf_list_item hi hl hx q
 |false=>exact uh hi hl hx q
theorem vR{k:Bool}{it l:Addr}{i:Nat}{xs:Array Value}{Q:Value->Shared->Prop}(hh:A.handled=none)(hi:IsIt k s.heap it l i)(hl:IsSq k s.heap l xs)(hx:xs[i]?=none)
  (q:∀h' e,Heap.ExtBut it s.heap h'->(∃o,h'.get? e=some o/\o.cls=.type "StopIteration")->E (.ref e) {s with heap:=h'}):wpAny (model prog w) A (Builtin.SmallTypes.nextOf (.ref it)) Q E s:=by
 cases k with
 |true=>exact wpAny_nextOf_list_end hh hi hl hx q
 |false=>exact xb hh hi hl hx q
theorem xc{k1 k2:Bool}{z TI TO i1 i2 l1 l2:Addr}{i:Nat}{xs ys:Array Value}{x y a b:Value}{Q:Value->Shared->Prop}(D:ZipApart z TI TO i1 i2 l1 l2)(hz:IsZip s.heap z TI TO .none)(Hw:IsPair s.heap TI (.ref i1) (.ref i2))(Ik:IsPair s.heap TO a b)
  (h1:IsIt k1 s.heap i1 l1 i) (h2:IsIt k2 s.heap i2 l2 i) (g1:IsSq k1 s.heap l1 xs) (g2:IsSq k2 s.heap l2 ys) (hx:xs[i]?=some x) (hy:ys[i]?=some y)
  (q:∀h',IsZip h' z TI TO (rawInt s.heap.objs.size)->IsPair h' TO x y->IsIt k1 h' i1 l1 (i+1)->IsIt k2 h' i2 l2 (i+1)->IsPair h' s.heap.objs.size x y->
   (∀c o,c≠z->c≠TO->c≠i1->c≠i2->s.heap.get? c=some o->h'.get? c=some o)->Q (.ref s.heap.objs.size) {s with heap:=h'}):
  wpAny (model prog w) A (Builtin.«zip.__next__» ⟨[.ref z],[]⟩) (fun fin s'=>∃v,fin=.done (.ret v)/\Q v s') E s:=by
 show wpAny _ _ (field (.ref z) 2 >>= _) _ _ _;refine OR (P5 hz rfl (x:=.bool false) rfl ?_);show wpAny _ _ (field (.ref z) 3 >>= _) _ _ _;refine OR (P5 hz rfl (x:=.ref TI) rfl (OR (QB Hw rfl ?_)));show wpAny _ _ (Builtin.SmallTypes.ownedTupleIsFree (.ref z) >>= _) _ _ _;refine OR ?_;unfold Builtin.SmallTypes.ownedTupleIsFree;refine OR (P5 hz rfl (x:=.none) rfl (OU ?_));rw[OZ (by rfl)];refine OR (Tw (OR (P5 hz rfl (x:=.ref TO) rfl (OR (Qy hz (by simp) fun hA zA sA=>?_)))));have zA:IsZip hA z TI TO .ellipsis:=zA;refine OR ?_;simp only[List.zipIdx_cons,List.zipIdx_nil,RK,SV];refine OR (OR (Sa ?_));show wpAny _ _ (Builtin.SmallTypes.nextOf (.ref i1) >>= _) _ _ _;refine OR (nJ (h1.at fun o e=>sA.extBut _ _ D.i1z e) (g1.at fun o e=>sA.extBut _ _ D.l1z e) hx fun hB iB sB=>OU ?_);have tB:IsPair hB TO a b:=sB.extBut _ _ D.TOi1 (sA.extBut _ _ D.TOz Ik);refine OR (QB tB rfl (OR (RA tB fun hC tC sC=>OR (SY (OU ?_)))));have tC:IsPair hC TO x b:=tC;refine OR (OR (Sa ?_));show wpAny _ _ (Builtin.SmallTypes.nextOf (.ref i2) >>= _) _ _ _;refine OR (nJ (h2.at fun o e=>sC.extBut _ _ D.TOi2.symm (sB.extBut _ _ D.i12.symm (sA.extBut _ _ D.i2z e))) (g2.at fun o e=>sC.extBut _ _ D.l2TO (sB.extBut _ _ D.l2i1 (sA.extBut _ _ D.l2z e))) hy fun hD iD sD=>OU ?_);have tD:IsPair hD TO x b:=sD.extBut _ _ D.TOi2 tC;refine OR (QB tD rfl (OR (RA tD fun hE tE sE=>OR (SY (OU (OU ?_))))));have tE:IsPair hE TO x y:=tE;refine OR (QB tE rfl (OR (wpAny_newTuple ?_)));have ez:hE.objs.size=s.heap.objs.size:=by rw[sE.1,sD.1,sC.1,sB.1,sA.1]
 have zE:IsZip hE z TI TO .ellipsis:=sE.extBut _ _ D.TOz.symm (sD.extBut _ _ D.i2z.symm (sC.extBut _ _ D.TOz.symm (sB.extBut _ _ D.i1z.symm zA)));have kE:∀c o,c≠z->c≠TO->c≠i1->c≠i2->s.heap.get? c=some o->hE.get? c=some o:=fun c o c1 c2 c3 c4 e=>sE.extBut _ _ c2 (sD.extBut _ _ c4 (sC.extBut _ _ c2 (sB.extBut _ _ c3 (sA.extBut _ _ c1 e))))
 have i1E:IsIt k1 hE i1 l1 (i+1):=iB.at fun o e=>sE.extBut _ _ D.TOi1.symm (sD.extBut _ _ D.i12 (sC.extBut _ _ D.TOi1.symm e))
 have i2E:IsIt k2 hE i2 l2 (i+1):=iD.at fun o e=>sE.extBut _ _ D.TOi2.symm e
 show wpAny _ _ (Builtin.SmallTypes.ownedTupleHandOut (.ref z) (.ref hE.objs.size) >>= _) _ _ _;refine OR ?_;unfold Builtin.SmallTypes.ownedTupleHandOut;have zF:IsZip (hE.push {cls:=.type "tuple",data:=.seq #[x,y]}) z TI TO .ellipsis:=Heap.get?_push_of_some _ zE;refine OR (Qy zF (by simp) fun hG zG sG=>?_);have zG:IsZip hG z TI TO (rawInt hE.objs.size):=zG;refine Qy zG (by simp) fun hK zK sK=>?_
 have zK:IsZip hK z TI TO (rawInt hE.objs.size):=zK;have up:∀c o,c≠z->hE.get? c=some o->hK.get? c=some o:=fun c o c1 e=>sK.extBut _ _ c1 (sG.extBut _ _ c1 (Heap.get?_push_of_some _ e))
 have nz:hE.objs.size≠z:=TF (OY zE);have tK:IsPair hK hE.objs.size x y:=sK.extBut _ _ nz (sG.extBut _ _ nz (Heap.get?_push_size _ rfl));rw[ez]at zK tK;refine OU ⟨_,rfl,?_⟩;show Q (.ref hE.objs.size) _;rw[ez];exact q hK zK (up _ _ D.TOz tE) (i1E.at fun o e=>up _ o D.i1z e) (i2E.at fun o e=>up _ o D.i2z e) tK fun c o c1 c2 c3 c4 e=>up c o c1 (kE c o c1 c2 c3 c4 e)
theorem zQ{k1 k2:Bool}{z TI TO i1 i2 l1 l2:Addr}{i:Nat}{xs ys:Array Value}{a b:Value}{Q:Fin->Shared->Prop}(hh:A.handled=none)(D:ZipApart z TI TO i1 i2 l1 l2)(hz:IsZip s.heap z TI TO .none)(Hw:IsPair s.heap TI (.ref i1) (.ref i2))(Ik:IsPair s.heap TO a b)
  (h1:IsIt k1 s.heap i1 l1 i) (h2:IsIt k2 s.heap i2 l2 i) (g1:IsSq k1 s.heap l1 xs) (g2:IsSq k2 s.heap l2 ys) (he:xs[i]?=none\/ys[i]?=none)
  (q:∀h' e,(∀c o,c≠z->c≠TO->c≠i1->c≠i2->s.heap.get? c=some o->h'.get? c=some o)->(∃o,h'.get? e=some o/\o.cls=.type "StopIteration")->E (.ref e) {s with heap:=h'}):
  wpAny (model prog w) A (Builtin.«zip.__next__» ⟨[.ref z],[]⟩) Q E s:=by
 show wpAny _ _ (field (.ref z) 2 >>= _) _ _ _;refine OR (P5 hz rfl (x:=.bool false) rfl ?_);show wpAny _ _ (field (.ref z) 3 >>= _) _ _ _;refine OR (P5 hz rfl (x:=.ref TI) rfl (OR (QB Hw rfl ?_)));show wpAny _ _ (Builtin.SmallTypes.ownedTupleIsFree (.ref z) >>= _) _ _ _;refine OR ?_;unfold Builtin.SmallTypes.ownedTupleIsFree;refine OR (P5 hz rfl (x:=.none) rfl (OU ?_));rw[OZ (by rfl)];refine OR (Tw (OR (P5 hz rfl (x:=.ref TO) rfl (OR (Qy hz (by simp) fun hA zA sA=>?_)))));have zA:IsZip hA z TI TO .ellipsis:=zA;refine OR ?_;simp only[List.zipIdx_cons,List.zipIdx_nil,RK,SV];refine OR (OR (Sa ?_));show wpAny _ _ (Builtin.SmallTypes.nextOf (.ref i1) >>= _) _ _ _;cases hx:xs[i]? with
 |none=>
  refine OR (vR hh (h1.at fun o e=>sA.extBut _ _ D.i1z e) (g1.at fun o e=>sA.extBut _ _ D.l1z e) hx fun hB e sB Ez=>?_);obtain⟨oe,ge,ce⟩:=Ez;have zB:IsZip hB z TI TO .ellipsis:=sB _ _ D.i1z.symm zA;have ne:e≠z:=fun x=>by subst x;rw[zB]at ge;cases ge;simp at ce
  exact Qy zB (by simp) fun hC _ sC=>q hC e (fun c o c1 _ c3 _ x=>sC.extBut _ _ c1 (sB _ _ c3 (sA.extBut _ _ c1 x))) ⟨oe,sC.extBut _ _ ne ge,ce⟩
 |some x=>
  have hy:ys[i]?=none:=by
   rcases he with z|z
   ·rw[hx]at z;cases z
   ·exact z
  refine OR (nJ (h1.at fun o e=>sA.extBut _ _ D.i1z e) (g1.at fun o e=>sA.extBut _ _ D.l1z e) hx fun hB iB sB=>OU ?_);have tB:IsPair hB TO a b:=sB.extBut _ _ D.TOi1 (sA.extBut _ _ D.TOz Ik);refine OR (QB tB rfl (OR (RA tB fun hC tC sC=>OR (SY (OU ?_)))));refine OR (OR (Sa ?_));show wpAny _ _ (Builtin.SmallTypes.nextOf (.ref i2) >>= _) _ _ _;refine OR (vR hh (h2.at fun o e=>sC.extBut _ _ D.TOi2.symm (sB.extBut _ _ D.i12.symm (sA.extBut _ _ D.i2z e))) (g2.at fun o e=>sC.extBut _ _ D.l2TO (sB.extBut _ _ D.l2i1 (sA.extBut _ _ D.l2z e))) hy fun hD e sD Ez=>?_);obtain⟨oe,ge,ce⟩:=Ez;have zD:IsZip hD z TI TO .ellipsis:=sD _ _ D.i2z.symm (sC.extBut _ _ D.TOz.symm (sB.extBut _ _ D.i1z.symm zA));have ne:e≠z:=fun x=>by subst x;rw[zD]at ge;cases ge;simp at ce
  exact Qy zD (by simp) fun hF _ sF=>q hF e (fun c o c1 c2 c3 c4 x=>sF.extBut _ _ c1 (sD _ _ c4 (sC.extBut _ _ c2 (sB.extBut _ _ c3 (sA.extBut _ _ c1 x))))) ⟨oe,sF.extBut _ _ ne ge,ce⟩
end
def itObj(k:Bool)(l:Addr):Obj:=match k with
 |true=>{cls:=.type "list_iterator",data:=.fields #[.ref l,.int 0 0]}
 |false=>{cls:=.type "tuple_iterator",data:=.fields #[.ref l,.int 0 0]}
theorem oN(k:Bool)(h:Heap)(l:Addr):IsIt k (h.push (itObj k l)) h.objs.size l 0:=by
 cases k with
 |true=>exact⟨_,Heap.get?_push_size _ rfl,rfl,rfl⟩
 |false=>exact⟨_,Heap.get?_push_size _ rfl,rfl,rfl⟩
abbrev zA(h:Heap)(k1:Bool)(l1:Addr):Heap:=h.push (itObj k1 l1)
abbrev zB(h:Heap)(k1 k2:Bool)(l1 l2:Addr):Heap:=(zA h k1 l1).push (itObj k2 l2)
abbrev zC(h:Heap)(k1 k2:Bool)(l1 l2:Addr):Heap:=(zB h k1 k2 l1 l2).push {cls:=.type "tuple",data:=.seq #[.ref h.objs.size,.ref (zA h k1 l1).objs.size]}
abbrev zD(h:Heap)(k1 k2:Bool)(l1 l2:Addr):Heap:=(zC h k1 k2 l1 l2).push {cls:=.type "tuple",data:=.seq #[.none,.none]}
abbrev zE(h:Heap)(k1 k2:Bool)(l1 l2:Addr):Heap:=(zD h k1 k2 l1 l2).push {cls:=.type "zip",data:=.fields #[.none,.bool false,.bool false,.ref (zB h k1 k2 l1 l2).objs.size,.ref (zC h k1 k2 l1 l2).objs.size]}
set_option maxHeartbeats 8000000 in
theorem zR(k1 k2:Bool)(l1 l2:Addr)(xs ys:Array Value):
  Meets (Builtin.«zip.__new__» ⟨[.type "zip",.ref l1,.ref l2],[]⟩) (fun _ R s=>IsSq k1 s.heap l1 xs/\IsSq k2 s.heap l2 ys/\R (.ok (.ret (.ref (zD s.heap k1 k2 l1 l2).objs.size))) {s with heap:=zE s.heap k1 k2 l1 l2}):=
 .of_wp fun prog w A R s h=>by
  obtain⟨hp,g,d,tk,os⟩:=s;obtain⟨g1,g2,q⟩:=h;have hsub:=sub_zip;cases k1 with
  |true=>
   have e1:Heap.IsList (Shared.heap ⟨hp,g,d,tk,os⟩) l1 xs:=g1;cases k2 with
   |true=>
    have e2:Heap.IsList (Shared.heap ⟨hp.push {cls:=.type "list_iterator",data:=.fields #[.ref l1,.int 0 0]},g,d,tk,os⟩) l2 ys:=Heap.IsList.push g2 _
    wp_walk using QF e1,QF e2
    exact⟨_,rfl,q⟩
   |false=>
    have e2:Heap.IsTuple (Shared.heap ⟨hp.push {cls:=.type "list_iterator",data:=.fields #[.ref l1,.int 0 0]},g,d,tk,os⟩) l2 ys:=Heap.IsTuple.push g2 _
    wp_walk using QF e1,Qu e2
    exact⟨_,rfl,q⟩
  |false=>
   have e1:Heap.IsTuple (Shared.heap ⟨hp,g,d,tk,os⟩) l1 xs:=g1;cases k2 with
   |true=>
    have e2:Heap.IsList (Shared.heap ⟨hp.push {cls:=.type "tuple_iterator",data:=.fields #[.ref l1,.int 0 0]},g,d,tk,os⟩) l2 ys:=Heap.IsList.push g2 _
    wp_walk using Qu e1,QF e2
    exact⟨_,rfl,q⟩
   |false=>
    have e2:Heap.IsTuple (Shared.heap ⟨hp.push {cls:=.type "tuple_iterator",data:=.fields #[.ref l1,.int 0 0]},g,d,tk,os⟩) l2 ys:=Heap.IsTuple.push g2 _
    wp_walk using Qu e1,Qu e2
    exact⟨_,rfl,q⟩
def ZS(k1 k2:Bool)(z TI TO i1 i2 l1 l2:Addr)(i:Nat)(h:Heap):Prop:=IsZip h z TI TO .none/\IsPair h TI (.ref i1) (.ref i2)/\(∃a b,IsPair h TO a b)/\IsIt k1 h i1 l1 i/\IsIt k2 h i2 l2 i
theorem xf{prog:Program}{w:World}{A:Around}{E:Value->Shared->Prop}{s:Shared}{k1 k2:Bool}{l1 l2:Addr}{xs ys:Array Value}{Q:Value->Shared->Prop}(g1:IsSq k1 s.heap l1 xs)(g2:IsSq k2 s.heap l2 ys)
  (q:∀h',ZS k1 k2 (s.heap.objs.size+4) (s.heap.objs.size+2) (s.heap.objs.size+3) s.heap.objs.size (s.heap.objs.size+1) l1 l2 0 h'->(∀c o,s.heap.get? c=some o->h'.get? c=some o)->Q (.ref (s.heap.objs.size+4)) {s with heap:=h'}):
  wpAny (model prog w) A (call (.type "zip") [.ref l1,.ref l2]) Q E s:=by
 refine callType_new F.called_zip (by decide) (F.typeCall_zip_2 _ _) (F.newCall_zip_2 _ _) (fun obj=>F.args_object_init_3 obj _ _) F.entry_zip_new (zR k1 k2 l1 l2 xs ys) ⟨g1,g2,?_⟩;have nA:(zA s.heap k1 l1).objs.size=s.heap.objs.size+1:=QY ..;have nB:(zB s.heap k1 k2 l1 l2).objs.size=s.heap.objs.size+2:=by rw[QY,nA]
 have nC:(zC s.heap k1 k2 l1 l2).objs.size=s.heap.objs.size+3:=by rw[QY,nB]
 have nD:(zD s.heap k1 k2 l1 l2).objs.size=s.heap.objs.size+4:=by rw[QY,nC]
 have pu:∀{h:Heap}{o:Obj}{c:Addr}{v:Obj},h.get? c=some v->(h.push o).get? c=some v:=fun e=>Heap.get?_push_of_some _ e
 have gz:(zE s.heap k1 k2 l1 l2).get? (zD s.heap k1 k2 l1 l2).objs.size=some _:=Heap.get?_push_size _ rfl;have go:(zE s.heap k1 k2 l1 l2).get? (zC s.heap k1 k2 l1 l2).objs.size=some _:=pu (Heap.get?_push_size _ rfl);have gi:(zE s.heap k1 k2 l1 l2).get? (zB s.heap k1 k2 l1 l2).objs.size=some _:=pu (pu (Heap.get?_push_size _ rfl));have j2:IsIt k2 (zE s.heap k1 k2 l1 l2) (zA s.heap k1 l1).objs.size l2 0:=(oN k2 (zA s.heap k1 l1) l2).at fun o e=>pu (pu (pu e))
 have j1:IsIt k1 (zE s.heap k1 k2 l1 l2) s.heap.objs.size l1 0:=(oN k1 s.heap l1).at fun o e=>pu (pu (pu (pu e)))
 show _/\_;rw[nB,nC,nD]at gz;rw[nA,nB]at gi;rw[nC]at go;rw[nA]at j2;rw[nD];exact⟨⟨_,gz,rfl⟩,q _ ⟨gz,gi,⟨_,_,go⟩,j1,j2⟩ fun c o x=>pu (pu (pu (pu (pu x))))⟩
noncomputable def Nj(K:W.Frag)(k1 k2:Bool)(a b:Addr):It:=
 ⟨fun i H=>∃xs ys x y,(if k1 then SqL K H a xs else SqT K H a xs)/\(if k2 then SqL K H b ys else SqT K H b ys)/\xs[i]?=some x/\ys[i]?=some y,
  fun i H v H'=>∃T,H T=none/\v=.ref T/\∀xs ys x y,(if k1 then SqL K H a xs else SqT K H a xs)->(if k2 then SqL K H b ys else SqT K H b ys)->xs[i]?=some x->ys[i]?=some y->H'=upd H T (.tup [x,y]),
  fun i H=>∃xs ys,(if k1 then SqL K H a xs else SqT K H a xs)/\(if k2 then SqL K H b ys else SqT K H b ys)/\i=min xs.length ys.length⟩
section
variable{X:Cx}{pr:List (Addr×Obj)}{σ:L2.St}{H:Hp}{s:Shared}
theorem pU(I:Inv X pr σ H s){k:Bool}{a:Addr}{xs:List V}(h:if k then SqL X.K H a xs else SqT X.K H a xs):∃us:List Value,Vals xs us/\IsSq k s.heap a us.toArray:=by
 cases k with
 |true=>
  obtain⟨us,r,p,_⟩:=I.list (show SqL X.K H a xs from h);exact⟨us,r,p.isList⟩
 |false=>
  obtain⟨us,r,p,_⟩:=I.tuple (show SqT X.K H a xs from h);exact⟨us,r,(show s.heap.IsTuple a us.toArray from p)⟩
theorem vS(I:Inv X pr σ H s){k:Bool}{a:Addr}{xs ys:List V}(h:if k then SqL X.K H a xs else SqT X.K H a xs)(h':if k then SqL X.K H a ys else SqT X.K H a ys):xs=ys:=by
 cases k with
 |true=>exact I.list_inj (show SqL X.K H a xs from h) (show SqL X.K H a ys from h')
 |false=>exact I.tuple_inj (show SqT X.K H a xs from h) (show SqT X.K H a ys from h')
theorem fX(I:Inv X pr σ H s){k:Bool}{a b:Addr}{xs:List V}(h:if k then SqL X.K H a xs else SqT X.K H a xs)(f:qi X pr H b):a≠b:=by
 rintro rfl;obtain⟨f0,_,_,f3,_⟩:=f;have nb:∀o,X.K.lookup a=some o->False:=fun o hk=>by
  have e:=I.ok.mod.kin a o hk;rcases f3 with z|z
  ·exact I.ok.noex a o e z
  ·exact absurd (O4 (OY e) (PB I.ok.bsz z)) (QQ _)
 cases k with
 |true=>
  rcases(show SqL X.K H a xs from h) with(h|⟨o,h⟩)|⟨o,Eg,n,hk,_⟩
  ·rw[f0]at h;cases h
  ·rw[f0]at h;cases h
  ·exact nb o hk
 |false=>
  rcases(show SqT X.K H a xs from h) with(h|⟨o,h⟩)|⟨o,Eg,n,hk,_⟩
  ·rw[f0]at h;cases h
  ·rw[f0]at h;cases h
  ·exact nb o hk
end
theorem nx_zip_item{prog:Program}{w:World}{A:Around}{E:Value->Shared->Prop}{s:Shared}{k1 k2:Bool}{z TI TO i1 i2 l1 l2:Addr}{i:Nat}{xs ys:Array Value}{x y:Value}{Q:Option Value->Shared->Prop}(D:ZipApart z TI TO i1 i2 l1 l2)(st:ZS k1 k2 z TI TO i1 i2 l1 l2 i s.heap)
  (g1:IsSq k1 s.heap l1 xs) (g2:IsSq k2 s.heap l2 ys) (hx:xs[i]?=some x) (hy:ys[i]?=some y)
  (q:∀h',IsZip h' z TI TO (rawInt s.heap.objs.size)->IsPair h' TO x y->IsIt k1 h' i1 l1 (i+1)->IsIt k2 h' i2 l2 (i+1)->IsPair h' s.heap.objs.size x y->
   (∀c o,c≠z->c≠TO->c≠i1->c≠i2->s.heap.get? c=some o->h'.get? c=some o)->Q (some (.ref s.heap.objs.size)) {s with heap:=h'}):wpAny (model prog w) A (pyNext (.ref z)) Q E s:=by
 obtain⟨hz,Hw,⟨a,b,Ik⟩,h1,h2⟩:=st;have ty:s.TypeIs (.ref z) "zip":=⟨_,hz,rfl⟩
 unfold pyNext;exact OR (Sb (wpAny_callSpecial?_slot (name:=Str.ofString "__next__") ty RM (PF RM ty F.entry_zip_next (xc D hz Hw Ik h1 h2 g1 g2 hx hy fun h' a1 a2 a3 a4 a5 a6=>OU (q h' a1 a2 a3 a4 a5 a6)) (F.args_zip_next_1 _))))
theorem pV{prog:Program}{w:World}{A:Around}{E:Value->Shared->Prop}{s:Shared}{k1 k2:Bool}{z TI TO i1 i2 l1 l2:Addr}{i:Nat}{xs ys:Array Value}{Q:Option Value->Shared->Prop}(hh:A.handled=none)(D:ZipApart z TI TO i1 i2 l1 l2)(st:ZS k1 k2 z TI TO i1 i2 l1 l2 i s.heap)
  (g1:IsSq k1 s.heap l1 xs) (g2:IsSq k2 s.heap l2 ys) (he:xs[i]?=none\/ys[i]?=none) (q:∀h',(∀c o,c≠z->c≠TO->c≠i1->c≠i2->s.heap.get? c=some o->h'.get? c=some o)->Q none {s with heap:=h'}):wpAny (model prog w) A (pyNext (.ref z)) Q E s:=by
 obtain⟨hz,Hw,⟨a,b,Ik⟩,h1,h2⟩:=st;have ty:s.TypeIs (.ref z) "zip":=⟨_,hz,rfl⟩
 unfold pyNext;refine OR (Sb (wpAny_callSpecial?_slot (name:=Str.ofString "__next__") ty RM (PF RM ty F.entry_zip_next (zQ hh D hz Hw Ik h1 h2 g1 g2 he fun h' e kk ⟨o,ho,oc⟩=>?_) (F.args_zip_next_1 _))));exact OR (wpAny_isInstance (T:="StopIteration") (b:=true) ⟨o,ho,oc⟩ isSubtype_stop (OU (q _ kk)))
theorem uk{P:Program}{w:World}{K:W.Frag}{es:List Expr}{kt:Nat}{pt:Pos}(k1 k2:Bool)(a b z TI TO i1 i2:Addr)(ne:z≠TI/\z≠TO/\z≠i1/\z≠i2/\TI≠TO/\TI≠i1/\TI≠i2/\TO≠i1/\TO≠i2/\i1≠i2):
  Turn P w K (.Tuple es kt pt) (Nj K k1 k2 a b) [z,TI,TO,i1,i2] z (ZS k1 k2 z TI TO i1 i2 a b) where
 mem:=by simp
 obj:=fun i h st c hc=>by
  obtain⟨hz,Hw,⟨x,y,Ik⟩,h1,h2⟩:=st;simp only[O6,Q6,Uc]at hc;rcases hc with rfl|rfl|rfl|rfl|rfl
  ·exact⟨_,hz,fun v q=>by cases q⟩
  ·exact⟨_,Hw,fun v q=>by cases q⟩
  ·exact⟨_,Ik,fun v q=>by cases q⟩
  ·exact h1.obj
  ·exact h2.obj
 keep:=fun i h h' st k=>by
  obtain⟨hz,Hw,⟨x,y,Ik⟩,h1,h2⟩:=st;exact⟨k z (by simp) _ hz,k TI (by simp) _ Hw,⟨x,y,k TO (by simp) _ Ik⟩,h1.at fun o e=>k i1 (by simp) o e,h2.at fun o e=>k i2 (by simp) o e⟩
 item:=by
  intro X hP hw hK hc i pr s σ H E I hf st hg;subst hP hw hK;obtain⟨xs,ys,x,y,s1,s2,hx,hy⟩:=hg;obtain⟨us,r1,q1⟩:=pU I s1;obtain⟨ws,r2,q2⟩:=pU I s2;obtain⟨u,hu,ru⟩:=r1.get hx;obtain⟨v,hv,rv⟩:=r2.get hy;obtain⟨n1,n2,n3,n4,n5,n6,n7,n8,n9,Nk⟩:=ne;have f:=fun c hc=>hf c hc
  have D:ZipApart z TI TO i1 i2 a b:=⟨n1.symm,n2.symm,n3.symm,n4.symm,n5,n6,n7,n8,n9,Nk,fX I s1 (f z (by simp)),fX I s1 (f TO (by simp)),fX I s1 (f i1 (by simp)),fX I s1 (f i2 (by simp)),
   fX I s2 (f z (by simp)),fX I s2 (f TO (by simp)),fX I s2 (f i1 (by simp)),fX I s2 (f i2 (by simp))⟩
  have Hw:=st.2.1;refine nx_zip_item D st q1 q2 (by simpa using hu) (by simpa using hv) fun h' z1 t1 j1 j2 tp kk=>⟨_,rfl,?_⟩
  refine wpAny_letOwnedTupleGo_zip z1 fun h2 z2 sb=>?_
  have nT:H s.heap.objs.size=none:=I.hok.fresh (OW _);have tT:s.heap.objs.size≠z:=TF (OY st.1);have all:∀c o,c≠z->c≠TO->c≠i1->c≠i2->s.heap.get? c=some o->h2.get? c=some o:=fun c o c1 c2 c3 c4 e=>(sb.2 c c1).trans (kk c o c1 c2 c3 c4 e)
  have fz:=f z (by simp);have fo:=f TO (by simp);have f1:=f i1 (by simp);have f2:=f i2 (by simp);have Kp:∀c ob,H c=some ob->c≠z/\c≠TO/\c≠i1/\c≠i2:=fun c ob e=>⟨(fun q=>by rw[q,fz.1]at e;cases e),(fun q=>by rw[q,fo.1]at e;cases e),(fun q=>by rw[q,f1.1]at e;cases e),(fun q=>by rw[q,f2.1]at e;cases e)⟩
  refine⟨.ref s.heap.objs.size,upd H s.heap.objs.size (.tup [x,y]),?_,rfl,⟨_,nT,rfl,fun FU ys' x' y' a1 a2 a3 a4=>?_⟩,⟨z2,?_,⟨u,v,(sb.2 TO n2.symm).trans t1⟩,j1.at fun o e=>(sb.2 i1 n3.symm).trans e,j2.at fun o e=>(sb.2 i2 n4.symm).trans e⟩,fun c hc=>?_⟩
  ·have tup2:h2.get? s.heap.objs.size=some {cls:=.type "tuple",data:=.seq #[u,v]}:=(sb.2 _ tT).trans tp;have S0:Inv X pr σ (upd H s.heap.objs.size (.tup [x,y])) {s with heap:=h2,gens:=s.gens,drawn:=s.drawn,toks:=s.toks}:=by
    refine I.step (ch:=[z,TO,i1,i2]) (fun c hc=>?_) (fun c o _ _ nc e _=>all c o (fun q=>nc (by simp[q])) (fun q=>nc (by simp[q])) (fun q=>nc (by simp[q])) (fun q=>nc (by simp[q])) e)
     (fun c o _ _ nc e _=>⟨o.slots,all c o (fun q=>nc (by simp[q])) (fun q=>nc (by simp[q])) (fun q=>nc (by simp[q])) (fun q=>nc (by simp[q])) e⟩) (fun c o _ e n=>by rw[ay (Pc (OY e))];exact n)
     (fun c o nc e=>⟨o,all c o (fun q=>nc (by simp[q])) (fun q=>nc (by simp[q])) (fun q=>nc (by simp[q])) (fun q=>nc (by simp[q])) e⟩) (fun c l e=>by rw[ay (aP e nT)];exact e) (fun c o u' e=>by rw[ay (aP e nT)];exact e)
     (fun c ps e=>⟨#[],by rw[ay (aP e nT),e];simp⟩) (fun m hm=>?_) (fun c ob e=>?_) I.bare
    ·simp only[O6,Q6,Uc]at hc;rcases hc with rfl|rfl|rfl|rfl
     ·exact⟨fz.2.2.2.1,fz.2.1,fz.2.2.2.2.1,fz.2.2.2.2.2⟩
     ·exact⟨fo.2.2.2.1,fo.2.1,fo.2.2.2.2.1,fo.2.2.2.2.2⟩
     ·exact⟨f1.2.2.2.1,f1.2.1,f1.2.2.2.2.1,f1.2.2.2.2.2⟩
     ·exact⟨f2.2.2.2.1,f2.2.1,f2.2.2.2.2.1,f2.2.2.2.2.2⟩
    ·obtain⟨o,es,ep,ho,r⟩:=hm;exact⟨o,es,ep,all _ o (QR fz.2.1) (QR fo.2.1) (QR f1.2.1) (QR f2.2.1) ho,r⟩
    ·by_cases ec:c=s.heap.objs.size
     ·subst ec;rw[aM]at e;cases e;exact⟨by simp only[O2,QK];rw[PL];decide,[u,v],.cons ru (.cons rv .nil),⟨_,tup2,rfl,⟨0,rfl⟩,rfl⟩⟩
     ·rw[ay ec]at e;refine(I.hok c ob e).stay (fun d w' hd q=>?_) (fun d q=>by rw[ay (aP q nT)];exact q) fun d l q=>by rw[ay (aP q nT)];exact q
      have LC:∃oo,H d=some oo:=by
       rcases hd with rfl|hd
       ·exact⟨_,e⟩
       ·exact⟨_,hd⟩
      obtain⟨oo,Nl⟩:=LC;obtain⟨m1,m2,m3,m4⟩:=Kp d oo Nl;exact all d w' m1 m2 m3 m4 q
   exact S0
  ·have e1:=vS I a1 s1;have e2:=vS I a2 s2;subst e1 e2;rw[hx]at a3;rw[hy]at a4;cases a3;cases a4;rfl
  ·exact(sb.2 TI n1.symm).trans (kk TI _ n1.symm n5 n6 n7 Hw)
  ·have hc0:=(f c hc).1;have cs:c≠s.heap.objs.size:=by
    have:=(fun i h st=>by
     exact(by
      obtain⟨hz,Hw,⟨x,y,Ik⟩,h1,h2⟩:=st;simp only[O6,Q6,Uc]at hc;rcases hc with rfl|rfl|rfl|rfl|rfl
      ·exact⟨_,hz⟩
      ·exact⟨_,Hw⟩
      ·exact⟨_,Ik⟩
      ·obtain⟨o,e,_⟩:=h1.obj;exact⟨o,e⟩
      ·obtain⟨o,e,_⟩:=h2.obj;exact⟨o,e⟩:∃o,h.get? c=some o):∀i h,ZS k1 k2 z TI TO i1 i2 a b i h->∃o,h.get? c=some o) i s.heap st
    obtain⟨o,e⟩:=this;exact Pc (OY e)
   rw[ay cs];exact hc0
 done:=by
  intro X hP hw hK hc i pr s σ H E I hf st hg;subst hP hw hK;obtain⟨xs,ys,s1,s2,hi⟩:=hg;obtain⟨us,r1,q1⟩:=pU I s1;obtain⟨ws,r2,q2⟩:=pU I s2;have l1:=r1.length;have l2:=r2.length;obtain⟨n1,n2,n3,n4,n5,n6,n7,n8,n9,Nk⟩:=ne;have f:=fun c hc=>hf c hc
  have D:ZipApart z TI TO i1 i2 a b:=⟨n1.symm,n2.symm,n3.symm,n4.symm,n5,n6,n7,n8,n9,Nk,fX I s1 (f z (by simp)),fX I s1 (f TO (by simp)),fX I s1 (f i1 (by simp)),fX I s1 (f i2 (by simp)),
   fX I s2 (f z (by simp)),fX I s2 (f TO (by simp)),fX I s2 (f i1 (by simp)),fX I s2 (f i2 (by simp))⟩
  have fz:=f z (by simp);have fo:=f TO (by simp);have f1:=f i1 (by simp);have f2:=f i2 (by simp);refine pV (I.ok.hd hc) D st q1 q2 (by
   rcases Nat.le_total us.length ws.length with q|q
   ·exact .inl (by simp;lia)
   ·exact .inr (by simp;lia)) fun h' kk=>⟨rfl,?_⟩
  have Kp:∀c ob,H c=some ob->c≠z/\c≠TO/\c≠i1/\c≠i2:=fun c ob e=>⟨(fun q=>by rw[q,fz.1]at e;cases e),(fun q=>by rw[q,fo.1]at e;cases e),(fun q=>by rw[q,f1.1]at e;cases e),(fun q=>by rw[q,f2.1]at e;cases e)⟩
  have S0:Inv X pr σ H {s with heap:=h',gens:=s.gens,drawn:=s.drawn,toks:=s.toks}:=by
   refine I.step (ch:=[z,TO,i1,i2]) (fun c hc=>?_) (fun c o _ _ nc e _=>kk c o (fun q=>nc (by simp[q])) (fun q=>nc (by simp[q])) (fun q=>nc (by simp[q])) (fun q=>nc (by simp[q])) e)
    (fun c o _ _ nc e _=>⟨o.slots,kk c o (fun q=>nc (by simp[q])) (fun q=>nc (by simp[q])) (fun q=>nc (by simp[q])) (fun q=>nc (by simp[q])) e⟩) (fun c o _ e n=>n)
    (fun c o nc e=>⟨o,kk c o (fun q=>nc (by simp[q])) (fun q=>nc (by simp[q])) (fun q=>nc (by simp[q])) (fun q=>nc (by simp[q])) e⟩) (fun c l e=>e) (fun c o u' e=>e)
    (fun c ps e=>⟨#[],by rw[e];simp⟩) (fun m hm=>?_) (fun c ob e=>?_) I.bare
   ·simp only[O6,Q6,Uc]at hc;rcases hc with rfl|rfl|rfl|rfl
    ·exact⟨fz.2.2.2.1,fz.2.1,fz.2.2.2.2.1,fz.2.2.2.2.2⟩
    ·exact⟨fo.2.2.2.1,fo.2.1,fo.2.2.2.2.1,fo.2.2.2.2.2⟩
    ·exact⟨f1.2.2.2.1,f1.2.1,f1.2.2.2.2.1,f1.2.2.2.2.2⟩
    ·exact⟨f2.2.2.2.1,f2.2.1,f2.2.2.2.2.1,f2.2.2.2.2.2⟩
   ·obtain⟨o,es,ep,ho,r⟩:=hm;exact⟨o,es,ep,kk _ o (QR fz.2.1) (QR fo.2.1) (QR f1.2.1) (QR f2.2.1) ho,r⟩
   ·refine(I.hok c ob e).stay (fun d w' hd q=>?_) (fun d q=>q) fun d l q=>q
    have LC:∃oo,H d=some oo:=by
     rcases hd with rfl|hd
     ·exact⟨_,e⟩
     ·exact⟨_,hd⟩
    obtain⟨oo,Nl⟩:=LC;obtain⟨m1,m2,m3,m4⟩:=Kp d oo Nl;exact kk d w' m1 m2 m3 m4 q
  exact S0
 self:=fun _ _ _ _ _ st h=>wpAny_pyIter_zip st.1 h
section
variable{X:Cx}{es:List Expr}{kt:Nat}{pt:Pos}
def DM(K:W.Frag)(k1 k2:Bool)(ta:TA):TI:=fun σ H R=>ta σ H fun vs H1=>∃a b xs ys,vs=[.ref a,.ref b]/\(if k1 then SqL K H1 a xs else SqT K H1 a xs)/\(if k2 then SqL K H1 b ys else SqT K H1 b ys)/\R (Nj K k1 k2 a b) H1
theorem zS(k1 k2:Bool){e1 e2:Expr}{ta:TA}{p pos:Pos}(hg:Gl X "zip")(hm:X.mg "zip" = none)(ha:PA X [e1,e2] ta)(he:starEach [e1,e2] X.env=(false,eval e1 X.env)::starEach [e2] X.env:=by rfl)(Fd:(backTo pos (starEach [e2] X.env)).any (·.1)=false:=by rfl):
  PI X (.Tuple es kt pt) (.Call (.Name "zip" p) [e1,e2] [] pos) (DM X.K k1 k2 ta):=by
 intro pr s σ H R I h;refine Q0 (lP I hg hm (by decide +kernel:bootBuiltins "zip" = some (.type "zip")) ?_ (by decide) (by decide));refine Q1 (Ey (ha pos pr s σ H _ I h) fun us s1 ⟨vs,H1,I1,r1,a,b,xs,ys,e,s1',s2',q⟩=>?_) he Fd;subst e;obtain⟨u,w',rfl,ra,rb⟩:=wL r1;cases ra;cases rb;obtain⟨us,v1,q1⟩:=pU I1 s1';obtain⟨ws,v2,q2⟩:=pU I1 s2';refine xf q1 q2 fun h' st kk=>?_
 refine wpAny_pyIter_zip st.1 ?_;have fr:∀j,qi X pr H1 (s1.heap.objs.size+j):=fun j=>I1.fpOk (Nat.le_add_right _ _) (I1.hok.fresh (Nat.le_add_right _ _))
 have nn:∀i j:Nat,i≠j->s1.heap.objs.size+i≠s1.heap.objs.size+j:=fun i j h z=>h (Nat.add_left_cancel z)
 refine⟨_,_,_,_,H1,rfl,I1.kept (t':=s1.toks) kk,uk k1 k2 a b (s1.heap.objs.size+4) (s1.heap.objs.size+2) (s1.heap.objs.size+3) (s1.heap.objs.size+0) (s1.heap.objs.size+1)
  ⟨nn 4 2 (by decide),nn 4 3 (by decide),nn 4 0 (by decide),nn 4 1 (by decide),nn 2 3 (by decide),nn 2 0 (by decide),nn 2 1 (by decide),nn 3 0 (by decide),nn 3 1 (by decide),nn 0 1 (by decide)⟩,st,fun c hc=>?_,q⟩
 simp only[O6,Q6,Uc]at hc;rcases hc with rfl|rfl|rfl|rfl|rfl
 ·exact fr 4
 ·exact fr 2
 ·exact fr 3
 ·exact fr 0
 ·exact fr 1
end
end NX
namespace NX
open PySem PySem.W PyProof.Rows
section
variable{n:Nat}{O:KeyOrd}{κ:Nat->O.α}{cmp:Nat->Nat->(Bool->Shared->Prop)->Shared->Prop}{Good:Shared->Prop}
def kk(κ:Nat->O.α)(p:Array Nat)(i:Nat):O.α:=κ (p.getD i 0)
structure POk(n:Nat)(p:Array Nat):Prop where
 perm:p.toList.Perm (List.range n)
theorem POk.size{p:Array Nat}(h:POk n p):p.size=n:=by
 have:=h.perm.length_eq;simpa using this
theorem POk.lt{p:Array Nat}(h:POk n p){i:Nat}(hi:i<n):p.getD i 0<n:=by
 have hs:=h.size;have Ji:i<p.size:=by lia
 have e:p.getD i 0=p[i]:=by simp[Array.getD,Ji]
 rw[e];exact PQ.mp (h.perm.mem_iff.mp (Array.getElem_mem_toList Ji))
theorem POk.of{p q:Array Nat}(h:POk n p)(hq:q.Perm p):POk n q:=⟨(Array.perm_iff_toList_perm.mp hq).trans h.perm⟩
def aX(κ:Nat->O.α)(p:Array Nat)(m:Nat):Prop:=∀i j,i<=j->j<m->O.kle (kk κ p i) (kk κ p j)
def d9(κ:Nat->O.α)(p:Array Nat)(m:Nat):Prop:=∀i j,i<=j->j<m->O.kle (kk κ p j) (kk κ p i)
theorem dO{p q:Array Nat}{i j:Nat}(h:p[i]?=q[j]?):p.getD i 0=q.getD j 0:=by
 rw[RN,RN,h]
theorem oO{p:Array Nat}{i j:Nat}(hj:j<=p.size)(k:Nat):kk κ (kas_rev p i j) k=if i<=k/\k<j then kk κ p (i+j-1-k) else kk κ p k:=by
 have e:=getElem?_mirror_all (i:=i) hj k;unfold kk kas_rev;split
 ·rename_i h;rw[OZ h]at e;rw[dO e]
 ·rename_i h;rw[O5 h]at e;rw[dO e]
theorem vT{p:Array Nat}{src d:Nat}(hs:src<p.size)(hd:d<=src)(k:Nat):kk κ (bubble p src d) k=if k=src-d then kk κ p src else if src-d<k/\k<=src then kk κ p (k-1) else kk κ p k:=by
 have e:=getElem?_bubble hs d hd k;by_cases h:k=src-d
 ·rw[OZ h]at e ⊢;exact P4 κ (dO e)
 ·rw[O5 h]at e ⊢;by_cases h2:src-d<k/\k<=src
  ·rw[OZ h2]at e ⊢;exact P4 κ (dO e)
  ·rw[O5 h2]at e ⊢;exact P4 κ (dO e)
theorem POk.rev{p:Array Nat}(h:POk n p)(i j:Nat):POk n (kas_rev p i j):=h.of (mirror_perm _ _ _ _)
theorem POk.bub{p:Array Nat}(h:POk n p)(i j:Nat):POk n (bubble p i j):=h.of (bubble_perm _ _ _)
theorem pW(p:Array Nat):aX κ p 1:=fun i j a b=>by
 have e:i=j:=by lia
 rw[e];exact Qq _
theorem nK{p:Array Nat}{m:Nat}(h1:1<=m)(h:aX κ p m)(hm:O.kle (kk κ p (m-1)) (kk κ p m)):aX κ p (m+1):=by
 intro i j Jj hj;by_cases e:j=m
 ·subst e;by_cases e2:i=j
  ·subst e2;exact Qq _
  ·exact Rx (h i (j-1) (by lia) (by lia)) hm
 ·exact h i j Jj (by lia)
theorem dP{p:Array Nat}{m:Nat}(h1:1<=m)(h:d9 κ p m)(hm:O.kle (kk κ p m) (kk κ p (m-1))):d9 κ p (m+1):=by
 intro i j Jj hj;by_cases e:j=m
 ·subst e;by_cases e2:i=j
  ·subst e2;exact Qq _
  ·exact Rx hm (h i (j-1) (by lia) (by lia))
 ·exact h i j Jj (by lia)
variable(hc:∀i j,i<n->j<n->∀(Q:Bool->Shared->Prop) s,Good s->(∀s',Good s'->Q (O.blt (κ i) (κ j)) s')->cmp i j Q s)
include hc
theorem qP{p:Array Nat}(hp:POk n p){EU:Nat}(hn:EU<=n){Q:Nat->Shared->Prop}:∀(f m:Nat) (s:Shared),Good s->1<=m->m+f=EU->aX κ p m->
  (∀r s',Good s'->m<=r->r<=EU->aX κ p r->(r<EU->O.klt (kk κ p r) (kk κ p (r-1)))->Q r s')->(kas_asc p f m).kasWp cmp Q s
 | 0,m,s,g,h1,hf,hs,k=>k m s g (OW _) (by lia) hs (fun z=>by lia)
 |f+1,m,s,g,h1,hf,hs,k=>by
  show cmp (p.getD m 0) (p.getD (m-1) 0) _ s;refine hc _ _ (hp.lt (by lia)) (hp.lt (by lia)) _ s g fun s' g'=>?_
  cases e:O.blt (κ (p.getD m 0)) (κ (p.getD (m-1) 0)) with
  |true=>
   (try dsimp only)
   rw[OZ rfl];exact k m s' g' (OW _) (by lia) hs fun _=>e
  |false=>
   (try dsimp only)
   rw[O5 O0];exact qP hp hn f (m+1) s' g' (by lia) (by lia) (nK h1 hs e) fun r s2 g2 a b c d=>k r s2 g2 (by lia) b c d
def xg(κ:Nat->O.α)(p:Array Nat)(m q:Nat):Prop:=∀k,m-(q+1)<=k->k<m->kk κ p k=kk κ p (m-1)
omit hc in
theorem l8{p:Array Nat}{m q:Nat}(hm:m<=p.size)(h:xg κ p m q)(k:Nat):kk κ (kas_rev p (m-(q+1)) m) k=kk κ p k:=by
 rw[oO hm];split
 ·rename_i hk;rw[h _ (by lia) (by lia),h k hk.1 hk.2]
 ·rfl
omit hc in
theorem hZ{p p':Array Nat}{m:Nat}(e:∀k,kk κ p' k=kk κ p k)(h:d9 κ p m):d9 κ p' m:=fun i j a b=>by rw[e,e];exact h i j a b
theorem kN{EU:Nat}(hn:EU<=n){Q:Array Nat×Nat×Nat->Shared->Prop}:∀(f:Nat) (p:Array Nat) (m q:Nat) (s:Shared),POk n p->Good s->1<=m->q+1<=m->m+f=EU->d9 κ p m->xg κ p m q->
  (∀p' m' q' s',POk n p'->Good s'->m<=m'->m'<=EU->q'+1<=m'->d9 κ p' m'->xg κ p' m' q'->Q (p',m',q') s')->(kas_desc f p m q).kasWp cmp Q s
 | 0,p,m,q,s,hp,g,h1,hq,hf,hs,ha,k=>k p m q s hp g (OW _) (by lia) hq hs ha
 |f+1,p,m,q,s,hp,g,h1,hq,hf,hs,ha,k=>by
  show cmp (p.getD m 0) (p.getD (m-1) 0) _ s;refine hc _ _ (hp.lt (by lia)) (hp.lt (by lia)) _ s g fun s' g'=>?_
  have hsz:=hp.size;cases e:O.blt (κ (p.getD m 0)) (κ (p.getD (m-1) 0)) with
  |true=>
   (try dsimp only)
   rw[OZ rfl];have le:O.kle (kk κ p m) (kk κ p (m-1)):=Ro e;by_cases h0:q>0
   ·rw[OZ h0];have same:=l8 (κ:=κ) (p:=p) (m:=m) (q:=q) (by lia) ha;refine kN hn f _ (m+1) 0 s' (hp.rev _ _) g' (by lia) (by lia) (by lia) (dP h1 (hZ same hs) (by rw[same,same];exact le)) ?_ fun p' m' q' s2 a b c d e' f' g2=>k p' m' q' s2 a b (by lia) d e' f' g2
    intro k' a b;have:k'=m:=by lia
    rw[this];rfl
   ·rw[O5 h0];refine kN hn f p (m+1) 0 s' hp g' (by lia) (by lia) (by lia) (dP h1 hs le) ?_ fun p' m' q' s2 a b c d e' f' g2=>k p' m' q' s2 a b (by lia) d e' f' g2
    intro k' a b;have:k'=m:=by lia
    rw[this];rfl
  |false=>
   (try dsimp only)
   rw[O5 O0];show cmp (p.getD (m-1) 0) (p.getD m 0) _ s';refine hc _ _ (hp.lt (by lia)) (hp.lt (by lia)) _ s' g' fun s2 g2=>?_
   cases e2:O.blt (κ (p.getD (m-1) 0)) (κ (p.getD m 0)) with
   |true=>
    (try dsimp only)
    rw[OZ rfl];exact k p m q s2 hp g2 (OW _) (by lia) hq hs ha
   |false=>
    (try dsimp only)
    rw[O5 O0];have eq:kk κ p (m-1)=kk κ p m:=KeyOrd.kle_antisymm (O:=O) e e2;refine kN hn f p (m+1) (q+1) s2 hp g2 (by lia) (by lia) (by lia) (dP h1 hs (by rw[eq];exact Qq _)) ?_ fun p' m' q' s3 a b c d e' f' g3=>k p' m' q' s3 a b (by lia) d e' f' g3
    intro k' a b;show kk κ p k'=kk κ p m;by_cases z:k'=m
    ·rw[z]
    ·rw[ha k' (by lia) (by lia),eq]
omit hc in
theorem pX{p:Array Nat}{m:Nat}(hm:m<=p.size)(h:d9 κ p m):aX κ (kas_rev p 0 m) m:=by
 intro i j a b;rw[oO hm,oO hm,OZ (by lia),OZ (by lia)];exact h _ _ (by lia) (by lia)
theorem qQ{p:Array Nat}(hp:POk n p){m EU:Nat}(hn:EU<=n)(h1:1<=m)(hm:m<=EU)(hs:d9 κ p m){Q:Nat×Array Nat->Shared->Prop}{s:Shared}(g:Good s)
  (k:∀r p' s',POk n p'->Good s'->1<=r->r<=EU->aX κ p' r->Q (r,p') s'):(kas_tail3 m EU p).kasWp cmp Q s:=by
 unfold kas_tail3;rw[KasT.kasWp_bind];have hsz:=hp.size;refine qP hc (hp.rev 0 m) hn (EU-m) m s g h1 (by lia) (pX (by lia) hs) fun r s' g' a b c _=>?_
 exact k r _ s' (hp.rev 0 m) g' (by lia) b c
theorem jq{p:Array Nat}(hp:POk n p){m EU:Nat}(hn:EU<=n)(h1:1<=m)(hm:m+1<=EU)(hs:d9 κ p (m+1)){Q:Nat×Array Nat->Shared->Prop}{s:Shared}(g:Good s)
  (k:∀r p' s',POk n p'->Good s'->1<=r->r<=EU->aX κ p' r->Q (r,p') s'):(kas_descPart m EU p).kasWp cmp Q s:=by
 unfold kas_descPart;rw[KasT.kasWp_bind];refine kN hc hn (EU-(m+1)) p (m+1) 0 s hp g (by lia) (by lia) (by lia) hs ?_ fun p' m' q' s' a b c d e f g2=>?_
 ·intro k' a b;have:k'=m:=by lia
  rw[this];rfl
 ·have hsz:=a.size;dsimp only;split
  ·have same:=l8 (κ:=κ) (p:=p') (m:=m') (q:=q') (by lia) g2;exact qQ hc (a.rev _ _) hn (by lia) d (hZ same f) b k
  ·exact qQ hc a hn (by lia) d f b k
theorem um{p:Array Nat}(hp:POk n p){EU:Nat}(hn:EU<=n)(h1:1<=EU){Q:Nat×Array Nat->Shared->Prop}{s:Shared}(g:Good s)
  (k:∀r p' s',POk n p'->Good s'->1<=r->r<=EU->aX κ p' r->Q (r,p') s'):(kas_count EU p).kasWp cmp Q s:=by
 unfold kas_count;rw[KasT.kasWp_bind];have hsz:=hp.size;refine qP hc hp hn (EU-1) 1 s g (OW _) (by lia) (pW p) fun m s' g' a b c d=>?_
 by_cases e:m=EU
 ·rw[OZ (by simpa using e)];exact k m p s' hp g' (by lia) (by lia) c
 ·rw[O5 (by simpa using e)];have dd:=d (by lia);by_cases h2:m>1
  ·rw[OZ h2];show cmp (p.getD 0 0) (p.getD (m-1) 0) _ s';refine hc _ _ (hp.lt (by lia)) (hp.lt (by lia)) _ s' g' fun s2 g2=>?_
   cases e2:O.blt (κ (p.getD 0 0)) (κ (p.getD (m-1) 0)) with
   |true=>
    (try dsimp only)
    rw[OZ rfl];exact k m p s2 hp g2 (by lia) b c
   |false=>
    (try dsimp only)
    rw[O5 O0];have eq:∀i,i<m->kk κ p i=kk κ p 0:=fun i hi=>by
     have x1:=c 0 i (by lia) hi;have x2:=c i (m-1) (by lia) (by lia);exact KeyOrd.kle_antisymm (O:=O) (Rx x2 e2) x1
    have same:∀i,kk κ (kas_rev p 0 m) i=kk κ p i:=fun i=>by
     rw[oO (by lia)];split
     ·rw[eq _ (by lia),eq i (by lia)]
     ·rfl
    refine jq hc (hp.rev 0 m) hn (by lia) (by lia) ?_ g2 k;refine hZ same (dP (by lia) (fun i j x y=>?_) (Ro dd));rw[eq i (by lia),eq j y];exact Qq _
  ·rw[O5 h2];refine jq hc hp hn (by lia) (by lia) (dP (by lia) (fun i j x y=>?_) (Ro dd)) g' k;have:i=j:=by lia
   rw[this];exact Qq _
theorem kO{p:Array Nat}(hp:POk n p){t:Nat}(ht:t<n)(hs:aX κ p t){Q:Nat->Shared->Prop}:∀(f l r:Nat) (s:Shared),Good s->l<=r->r<=t->r-l<=f->(∀i,i<l->O.kle (kk κ p i) (kk κ p t))->(∀i,r<=i->i<t->O.klt (kk κ p t) (kk κ p i))->
  (∀x s',Good s'->x<=t->(∀i,i<x->O.kle (kk κ p i) (kk κ p t))->(∀i,x<=i->i<t->O.klt (kk κ p t) (kk κ p i))->Q x s')->(kas_place p t f l r).kasWp cmp Q s
 | 0,l,r,s,g,h1,h2,h3,lo,hi,k=>k l s g (by lia) lo fun i a b=>hi i (by lia) b
 |f+1,l,r,s,g,h1,h2,h3,lo,hi,k=>by
  unfold kas_place;by_cases e:l>=r
  ·rw[OZ e];exact k l s g (by lia) lo fun i a b=>hi i (by lia) b
  ·rw[O5 e];show cmp (p.getD t 0) (p.getD ((l+r) / 2) 0) _ s;refine hc _ _ (hp.lt ht) (hp.lt (by lia)) _ s g fun s' g'=>?_
   cases e2:O.blt (κ (p.getD t 0)) (κ (p.getD ((l+r) / 2) 0)) with
   |true=>
    (try dsimp only)
    rw[OZ rfl];refine kO hp ht hs f l ((l+r) / 2) s' g' (by lia) (by lia) (by lia) lo (fun i a b=>?_) k;exact KeyOrd.klt_of_klt_of_kle (O:=O) e2 (hs _ i a b)
   |false=>
    (try dsimp only)
    rw[O5 O0];refine kO hp ht hs f ((l+r) / 2+1) r s' g' (by lia) (by lia) (by lia) (fun i a=>?_) hi k;exact Rx (O:=O) (hs i ((l+r) / 2) (by lia) (by lia)) e2
theorem vU{Q:Array Nat->Shared->Prop}:∀(f:Nat) (p:Array Nat) (t:Nat) (s:Shared),POk n p->Good s->t+f=n->aX κ p t->(∀p' s',POk n p'->Good s'->aX κ p' n->Q p' s')->(kas_bin f p t).kasWp cmp Q s
 | 0,p,t,s,hp,g,hf,hs,k=>k p s hp g (by rw[show n=t by lia];exact hs)
 |f+1,p,t,s,hp,g,hf,hs,k=>by
  unfold kas_bin;rw[KasT.kasWp_bind];have hsz:=hp.size;refine kO hc hp (by lia) hs t 0 t s g (PD _) (OW _) (by lia) (fun i a=>by lia) (fun i a b=>by lia) fun x s' g' hx lo hi=>?_
  refine vU f _ (t+1) s' (hp.bub _ _) g' (by lia) ?_ k;have ex:t-(t-x)=x:=by lia
  intro i j a b;rw[vT (by lia) (by lia),vT (by lia) (by lia),ex];have lo':=lo;by_cases i1:i=x
  ·by_cases j1:j=x
   ·rw[OZ i1,OZ j1];exact Qq _
   ·rw[OZ i1,O5 j1,OZ (by lia)];exact Ro (hi (j-1) (by lia) (by lia))
  ·rw[O5 i1];by_cases i2:x<i/\i<=t
   ·rw[OZ i2,O5 (by lia),OZ (by lia)];exact hs (i-1) (j-1) (by lia) (by lia)
   ·rw[O5 i2];by_cases j1:j=x
    ·rw[OZ j1];exact lo i (by lia)
    ·rw[O5 j1];by_cases j2:x<j/\j<=t
     ·rw[OZ j2];exact hs i (j-1) (by lia) (by lia)
     ·rw[O5 j2];exact hs i j a (by lia)
theorem xh(h1:1<=n){Q:Array Nat->Shared->Prop}{s:Shared}(g:Good s)(k:∀p s',POk n p->Good s'->aX κ p n->Q p s'):(kas_sort n).kasWp cmp Q s:=by
 unfold kas_sort;rw[KasT.kasWp_bind];refine um hc (p:=List.toArray (List.range n)) ⟨by simp⟩ (OW _) h1 g fun r p' s' hp g' a b c=>?_
 dsimp only;split
 ·have e:max r 1=r:=by lia
  rw[e];exact vU hc (n-r) p' r s' hp g' (by lia) c k
 ·exact k p' s' hp g' (by rw[show n=r by lia];exact c)
end
end NX
namespace NX
open PySem PySem.W PySem.Spec PyProof.Rows L2
section
variable{prog:Program}{w:World}{A:Around}{E:Value->Shared->Prop}{s:Shared}
theorem oP(n:Nat):POk n (List.toArray (List.range n)):=⟨by simp⟩
theorem gO{O:KeyOrd}{key:Nat->O.α}{kd:SortKind}{a:Addr}{vs:List Value}{n:Nat}{P:PySem.Fin->Shared->Prop}(ho:s.heap.get? a=some (seqObj "list" vs.toArray n))(Il:vs.length<64)
  (Gw:2<=vs.length->∀(h':Heap),(∀b o,b≠a->s.heap.get? b=some o->h'.get? b=some o)->∀Q:SortKind->Shared->Prop,Q kd {s with heap:=h'}->wpAny (model prog w) A (keyKind' vs.toArray) Q E {s with heap:=h'})
  (IH:∀i j,i<vs.length->j<vs.length->∀(h':Heap),(∀b o,b≠a->s.heap.get? b=some o->h'.get? b=some o)->∀C:Bool->Shared->Prop,C (O.blt (key i) (key j)) {s with heap:=h'}->kas_ask prog w A kd vs i j C {s with heap:=h'})
  (h:∀p h',POk vs.length p->aX key p vs.length->(∃e,h'.get? a=some (seqObj "list" (List.toArray (p.toList.map fun i=>vs.getD i .none)) e))->(∀b o,b≠a->s.heap.get? b=some o->h'.get? b=some o)->P (.done (.ret .none)) {s with heap:=h'}):
  wpAny (model prog w) A (Builtin.«list.sort» ⟨[.ref a],[]⟩) P E s:=by
 rw[list_sort_plain];have la:a<s.heap.objs.size:=OY ho;have zs:vs.toArray.size=vs.length:=by simp
 refine OR (listItems_at ho rfl (OR (listUpdate_at ho rfl ?_ (by rw[zs,PL];lia) (PD _))));obtain⟨e1,h1⟩:∃e1,(s.heap.update a (Obj.mapSeq fun _=>#[])).get? a=some (seqObj "list" #[] e1):=⟨_,get?_update_seq ho (fun _=>#[])⟩
 refine OR (seqEpoch_at h1 rfl (OR (wpAny_newTuple (OR (Te (Qv ?_))) (by simp only[RJ];rw[PL];lia))));generalize e6:((s.heap.update a (Obj.mapSeq fun _=>#[])).push {cls:=.type "tuple",data:=.seq vs.toArray.toList.toArray}).push {cls:=.type "list",data:=.seq ([]:List Value).toArray}=h6;have k6:∀b o,b≠a->s.heap.get? b=some o->h6.get? b=some o:=fun b o nb e=>by
  rw[<-e6];exact Heap.get?_push_of_some _ (Heap.get?_push_of_some _ ((Heap.get?_update_other _ _ (QR nb)).trans e))
 have LS:h6.get? a=some (seqObj "list" #[] e1):=by
  rw[<-e6];exact Heap.get?_push_of_some _ (Heap.get?_push_of_some _ h1)
 dsimp only;have fin:∀(p:Array Nat),POk vs.length p->aX key p vs.length->∀out:Array Value,out=List.toArray (p.toList.map fun i=>vs.getD i .none)->
   P (.done (.ret .none)) {s with heap:=h6.update a (Obj.mapSeq fun _=>out)}:=fun p hp hs out eo=>by
  subst eo;exact h p _ hp hs ⟨_,get?_update_seq LS _⟩ fun b o nb e=>(Heap.get?_update_other _ _ (QR nb)).trans (k6 b o nb e)
 have fits:∀{out:Array Value}{p:Array Nat},POk vs.length p->out=List.toArray (p.toList.map fun i=>vs.getD i .none)->out.size<=sizeLine+1:=fun{out p} hp e=>by
  rw[e,OS,OT,hp.perm.length_eq,Pu,PL];lia
 by_cases h2:vs.toArray.size<2
 ·rw[OZ h2,OZ h2];refine OR (OU ?_);rw[StateT.run_pure];refine OR (OU ?_);dsimp only;have eo:(arrOf (SortSt.mk' general' (vs.toArray.zip vs.toArray) #[] 7 none)).map (·.2)=List.toArray ((List.toArray (List.range vs.length)).toList.map fun i=>vs.getD i .none):=by
   show(vs.toArray.zip vs.toArray).map (·.2)=_;apply Array.toList_inj.mp;simp only[Array.toList_map,Array.toList_zip,RJ];have a1:(vs.zip vs).map (·.2)=vs:=by
    rw[List.map_snd_zip];exact OW _
   rw[a1];apply Rp;intro i;by_cases hi:i<vs.length
   ·simp[hi]
   ·simp[hi]
  refine OR (seqEpoch_at LS rfl (OR (listUpdate_at LS rfl ?_ (PD _) (fits (oP _) eo))));simp only[R0,Qx,RQ];refine OU (fin _ (oP _) ?_ _ eo);intro i j x y;have:i=j:=by lia
  rw[this];exact Qq _
 ·rw[O5 h2,O5 h2];have Nm:2<=vs.length:=by lia
  refine OR (Gw Nm h6 k6 _ ?_);refine OR (PH (kat_run (ks:=vs) (vs:=vs) (Q:=fun GL s'=>∃p,POk vs.length p/\aX key p vs.length/\arrOf GL=p.map (kas_item (vs.toArray.zip vs.toArray))/\failedOf GL=none/\s'={s with heap:=h6})
   (G:=fun p s'=>POk vs.length p/\aX key p vs.length/\s'={s with heap:=h6}) rfl Nm Il (fun p GL s' hz Nn hf hg=>⟨p,hg.1,hg.2.1,Nn,hf,hg.2.2⟩)
   (xh (n:=vs.length) (O:=O) (κ:=key) (Good:=fun s'=>s'={s with heap:=h6}) (fun i j hi hj Q s' g k=>?_) (by lia) rfl fun p s' hp g hs=>⟨hp,hs,g⟩)) (fun r s' hq=>?_) fun _ _ e=>e)
  ·subst g;exact IH i j hi hj h6 k6 Q (k _ rfl)
  ·obtain⟨p,hp,hs,Nn,hf,rfl⟩:=hq;have eo:=kat_snds (ks:=vs) (vs:=vs) rfl Nn;refine OR (seqEpoch_at LS rfl (OR (listUpdate_at LS rfl ?_ (PD _) (fits hp eo))));rw[hf];simp only[R0,Qx,RQ];exact OU (fin p hp hs _ eo)
theorem ia{O:KeyOrd}{key:Nat->O.α}{kd:SortKind}{l:Addr}{vs:List Value}{Q:Value->Shared->Prop}(hl:s.heap.IsList l vs.toArray)(Il:vs.length<64)
  (Gw:2<=vs.length->∀(A':Around) (E':Value->Shared->Prop) (h':Heap),(∀b o,s.heap.get? b=some o->h'.get? b=some o)->∀Q:SortKind->Shared->Prop,Q kd {s with heap:=h'}->wpAny (model prog w) A' (keyKind' vs.toArray) Q E' {s with heap:=h'})
  (IH:∀i j,i<vs.length->j<vs.length->∀(h':Heap),(∀b o,s.heap.get? b=some o->h'.get? b=some o)->∀C:Bool->Shared->Prop,C (O.blt (key i) (key j)) {s with heap:=h'}->kas_ask prog w A.in1.in1 kd vs i j C {s with heap:=h'})
  (h:∀p h' e,POk vs.length p->aX key p vs.length->h'.get? (s.heap.objs.size+1)=some (seqObj "list" (List.toArray (p.toList.map fun i=>vs.getD i .none)) e)->(∀b o,s.heap.get? b=some o->h'.get? b=some o)->Q (.ref (s.heap.objs.size+1)) {s with heap:=h'}):
  wpAny (model prog w) A (call (.builtin "sorted") [.ref l]) Q E s:=by
 refine Q4 kind_sorted plain_sorted entry_sorted (args_sorted1 _) ?_;unfold Builtin.«sorted»;refine OR (m:=checkCount "sorted" 1 1 _) (OU (OR (collect_list hl (OR (Te ?_ (by rw[PL];lia))) (by rw[PL];lia))));have zz:((s.heap.push (seqObj "list" #[] 0)).update s.heap.objs.size (Obj.mapSeq (·++vs.toArray))).objs.size=s.heap.objs.size+1:=by rw[Heap.size_update,size_push']
 generalize e5:(s.heap.push (seqObj "list" #[] 0)).update s.heap.objs.size (Obj.mapSeq (·++vs.toArray))=h5 at zz ⊢;have k5:∀b o,s.heap.get? b=some o->(h5.push (seqObj "list" vs.toArray 0)).get? b=some o:=fun b o e=>by
  rw[<-e5];exact Heap.get?_push_of_some _ ((Heap.get?_update_other _ _ (QR (Pc (OY e)))).trans (Heap.get?_push_of_some _ e))
 have hL:(h5.push (seqObj "list" vs.toArray 0)).get? (s.heap.objs.size+1)=some (seqObj "list" vs.toArray 0):=by
  rw[<-zz];exact Heap.get?_push_size _ rfl
 have ne:∀b o,s.heap.get? b=some o->b≠s.heap.objs.size+1:=fun b o e=>Pc (R3 (OY e))
 show wpAny _ _ _ _ _ {s with heap:=h5.push (seqObj "list" vs.toArray 0)};rw[zz];refine OR (Qv (PF slot_list_sort ⟨_,hL,rfl⟩ entry_list_sort (gO (key:=key) (kd:=kd) hL Il (fun h2 h' kk Q' q=>Gw h2 _ _ h' (fun b o e=>kk b o (ne b o e) (k5 b o e)) Q' q)
  (fun i j hi hj h' kk C q=>IH i j hi hj h' (fun b o e=>kk b o (ne b o e) (k5 b o e)) C q) fun p h' hp hs ⟨e,he⟩ kk=>⟨_,rfl,?_⟩) (args_list_sort _)))
 exact OU ⟨_,rfl,h p h' e hp hs he fun b o q=>kk b o (ne b o q) (k5 b o q)⟩
end
def intO:KeyOrd where
 α:=Int
 blt a b:=decide (a<b)
 irrefl a:=by simp
 trans a b c h1 h2:=by simp only[O9] at *;lia
 negTrans a b c h:=by simp only[O9] at *;lia
 total a b h1 h2:=by simp only[PK] at *;lia
abbrev C1:KeyOrd:=strKind.toKeyOrd
noncomputable def l9:KeyOrd where
 α:=Key
 blt a b:=match a,b with
  | .inl i,.inl j=>decide (i<j)
  | .inr x,.inr y=>decide (x.cps.toList<y.cps.toList)
  | .inl _,.inr _=>true
  | .inr _,.inl _=>false
 irrefl a:=by
  cases a with
  |inl i=>simp
  |inr x=>simpa using List.lt_irrefl x.cps.toList
 trans a b c h1 h2:=by
  cases a <;> cases b <;> cases c <;> simp_all
  ·lia
  ·exact List.lt_trans h1 h2
 negTrans a b c h:=by
  cases a <;> cases b <;> cases c <;> simp_all
  ·lia
  ·rename_i x y z;by_cases q:x.cps.toList<y.cps.toList
   ·exact .inl q
   ·exact .inr (List.lt_of_le_of_lt (Sd.mp q) h)
 total a b h1 h2:=by
  cases a <;> cases b <;> simp_all
  ·lia
  ·rename_i x y;have e:x.cps.toList=y.cps.toList:=List.le_antisymm (by first|exact h2|exact Sd.mp h2) (by first|exact h1|exact Sd.mp h1);rw[<-l5 x,<-l5 y,e]
def cS:List Key->List Key->Bool
 |[],[]=>false
 |[],_::_=>true
 |_::_,[]=>false
 |a::r,b::t=>if a=b then cS r t else l9.blt a b
theorem gw:∀a:List Key,cS a a=false
 |[]=>rfl
 |a::r=>by
  show(if a=a then cS r r else _)=false;rw[OZ rfl];exact gw r
theorem xi{a b:Key}(h:l9.blt a b=true):a≠b:=by
 rintro rfl;have:=l9.irrefl a;rw[h]at this;cases this
theorem fN:∀a b c:List Key,cS a b=true->cS b c=true->cS a c=true
 |[],[],_,h,_=>by cases h
 |[],_::_,[],_,h=>by cases h
 |[],_::_,_::_,_,_=>rfl
 |_::_,[],_,h,_=>by cases h
 |_::_,_::_,[],_,h=>by cases h
 |a::r,b::t,c::u,h1,h2=>by
  have h1:(if a=b then cS r t else l9.blt a b)=true:=h1;have h2:(if b=c then cS t u else l9.blt b c)=true:=h2;show(if a=c then cS r u else l9.blt a c)=true;by_cases e1:a=b
  ·by_cases e2:b=c
   ·rw[OZ e1]at h1;rw[OZ e2]at h2;rw[OZ (e1.trans e2)];exact fN r t u h1 h2
   ·rw[O5 e2]at h2;rw[e1,O5 e2];exact h2
  ·rw[O5 e1]at h1;by_cases e2:b=c
   ·rw[<-e2,O5 e1];exact h1
   ·rw[O5 e2]at h2;have h3:=l9.trans a b c h1 h2;rw[O5 (xi h3)];exact h3
theorem fO:∀a b:List Key,cS a b=false->cS b a=false->a=b
 |[],[],_,_=>rfl
 |[],_::_,h,_=>by cases h
 |_::_,[],_,h=>by cases h
 |a::r,b::t,h1,h2=>by
  have h1:(if a=b then cS r t else l9.blt a b)=false:=h1;have h2:(if b=a then cS t r else l9.blt b a)=false:=h2;by_cases e:a=b
  ·rw[OZ e]at h1;rw[OZ e.symm]at h2;rw[e,fO r t h1 h2]
  ·rw[O5 e]at h1;rw[O5 (QR e)]at h2;exact absurd (l9.total a b h1 h2) e
theorem uo(a b c:List Key)(h:cS a c=true):cS a b=true\/cS b c=true:=by
 cases e:cS a b with
 |true=>exact .inl rfl
 |false=>
  refine .inr ?_;cases e2:cS b a with
  |true=>exact fN b a c e2 h
  |false=>
   rw[<-fO a b e e2];exact h
def BH:KeyOrd where
 α:=List Key
 blt:=cS
 irrefl:=gw
 trans:=fN
 negTrans:=uo
 total:=fO
section
variable{O:KeyOrd}
def pY(p:Array Nat)(xs:List V):List V:=p.toList.map fun i=>xs.getD i .non
theorem j3{α:Type}(xs:List α)(d:α):((List.range xs.length).map fun i=>xs.getD i d)=xs:=by
 apply Rp;intro i;by_cases hi:i<xs.length
 ·simp[hi]
 ·simp[hi]
theorem i5{α:Type}{p:Array Nat}{xs:List α}(d:α)(hp:POk xs.length p):(p.toList.map fun i=>xs.getD i d).Perm xs:=by
 have:=hp.perm.map (fun i=>xs.getD i d)
 rwa [j3]at this
theorem fP{α:Type}{p:Array Nat}{xs:List α}(d:α)(key:α->O.α)(hp:POk xs.length p)(hs:aX (O:=O) (fun i=>key (xs.getD i d)) p xs.length):(p.toList.map fun i=>xs.getD i d).Pairwise fun a b=>O.kle (key a) (key b):=by
 rw[RV];intro i j hi hj Jj;have hsz:=hp.size;have Ji:i<p.size:=by simpa using hi
 have Kq:j<p.size:=by simpa using hj
 have h:=hs i j (Su Jj) (by lia);unfold kk at h;simp only[List.getElem_map,Array.getElem_toList];have e1:p.getD i 0=p[i]:=by simp[Array.getD,Ji]
 have e2:p.getD j 0=p[j]:=by simp[Array.getD,Kq]
 rw[e1,e2]at h;exact h
theorem vals_pick{xs:List V}{us:List Value}(r:Vals xs us):∀l:List Nat,(∀i∈l,i<xs.length)->Vals (l.map fun i=>xs.getD i .non) (l.map fun i=>us.getD i .none)
 |[],_=>.nil
 |i::l,h=>by
  refine .cons ?_ (vals_pick r l fun j hj=>h j (O7 _ hj));have hi:=h i OX;have e1:xs[i]?=some (xs.getD i .non):=by rw[ba _ _ _ hi];exact List.getElem?_eq_getElem hi
  obtain⟨u,hu,ru⟩:=r.get e1;have e2:us.getD i .none=u:=by rw[List.getD_eq_getElem?_getD,hu];rfl
  show L2.RelV (xs.getD i .non) (us.getD i .none);rw[e2];exact ru
theorem i6{xs:List V}{us:List Value}{p:Array Nat}(r:Vals xs us)(hp:POk xs.length p):Vals (pY p xs) (p.toList.map fun i=>us.getD i .none):=
 vals_pick r _ fun i hi=>PQ.mp (hp.perm.mem_iff.mp hi)
end
section
variable{X:Cx}
theorem gP{pr:List (Addr×Obj)}{s:Shared}{σ:L2.St}{H:Hp}{h':Heap}{ys:List V}{us:List Value}{e:Nat}{D:Addr}(I:Inv X pr σ H s)(kk:∀b o,s.heap.get? b=some o->h'.get? b=some o)(hD:s.heap.objs.size<=D)
  (ho:h'.get? D=some (seqObj "list" (List.toArray us) e)) (r:Vals ys us) (hz:ys.length<=sizeLine):Inv X pr σ (upd H D (.lst ys)) {s with heap:=h'}:=
 I.laid (t':=s.toks) kk hD ⟨hz,us,e,r,ho⟩
theorem iM(hc:X.calm=true):du X (.builtin "sorted") (fun vs H Q=>∃(p:Addr) (ns:List Int),vs=[.ref p]/\SqL X.K H p (ns.map V.int)/\ns.length<64/\∀(D:Addr) (ms:List Int),H D=none->ms.Perm ns->ms.Pairwise (·<=·)->Q (.ref D) (upd H D (.lst (ms.map V.int)))):=by
 intro pr s σ H vs us Q I r h;obtain⟨p,ns,rfl,hp,Il,q⟩:=h;obtain⟨u,rfl,r1⟩:=gL r;cases r1;obtain⟨ws,rv,pl,hz⟩:=I.list hp;have hl:=rv.length;rw[OT]at hl;have isI:∀v∈ws,∃n t,v=.int n t:=fun v hv=>by
  obtain⟨i,hi⟩:=Qz.mp hv;obtain⟨t,e⟩:=hX rv hi;exact⟨_,t,e⟩
 refine ia (O:=intO) (key:=fun i=>ns.getD i 0) (kd:=oneType') pl.isList (by lia) (fun h2 A' E' h' kk Q' q'=>?_) (fun i j hi hj h' kk C q'=>?_) fun pp h' e F8 hs he kk=>?_
 ·refine kas_kind h2 (T:=.type "int") (fun v hv=>?_) (by decide) (by decide) q';obtain⟨n,t,rfl⟩:=isI v hv;exact fun A Q E s _ q=>Q9 (SN s n t) q
 ·unfold kas_ask;have e1:ws[i]?=some (ws.getD i .none):=by rw[ba _ _ _ hi];exact List.getElem?_eq_getElem hi
  have e2:ws[j]?=some (ws.getD j .none):=by rw[ba _ _ _ hj];exact List.getElem?_eq_getElem hj
  obtain⟨t,Np⟩:=hX rv e1;obtain⟨t',Nq⟩:=hX rv e2;rw[Np,Nq];exact kat_lt_int q'
 ·rw[<-hl]at F8 hs;have Kr:POk (ns.map V.int).length pp:=by rw[OT];exact F8
  have eo:pY pp (ns.map V.int)=(pp.toList.map fun i=>ns.getD i 0).map V.int:=by
   unfold pY;rw[Pf];refine Qb fun i hi=>?_
   have hi:=PQ.mp (F8.perm.mem_iff.mp hi);show(ns.map V.int).getD i .non=V.int (ns.getD i 0);rw[ba _ _ _ (by rw[OT];exact hi),ba _ _ _ hi];simp
  have hn:H (s.heap.objs.size+1)=none:=I.hok.fresh (Qe _);refine⟨.ref (s.heap.objs.size+1),_,gP I kk (Qe _) he (i6 rv Kr) ?_,rfl,?_⟩
  ·show(pY pp (ns.map V.int)).length<=sizeLine;rw[eo,OT,OT,F8.perm.length_eq,Pu,PL];lia
  ·rw[eo];refine q _ _ hn (i5 0 F8) ?_;have:=fP (O:=intO) 0 (fun i:Int=>i) F8 hs;refine this.imp fun{a b} Ks=>?_
   have Ks:decide (b<a)=false:=Ks;have:=RS Ks;lia
theorem nL{ls:List (List Nat)}{us:List Value}(r:Vals (ls.map fun l=>V.str (S l)) us){i:Nat}{v:Value}(h:us[i]?=some v):∃t,v=.str (S (ls.getD i [])) t:=by
 have hl:=r.length;rw[OT]at hl;obtain⟨hi,_⟩:=List.getElem?_eq_some_iff.mp h;have e1:(ls.map fun l=>V.str (S l))[i]?=some (.str (S (ls.getD i []))):=by
  rw[List.getElem?_map,List.getElem?_eq_getElem (by lia),ba _ _ _ (by lia)];rfl
 obtain⟨u,hu,t,rfl⟩:=r.get e1;rw[h]at hu;exact⟨t,Pn hu⟩
theorem iN(hc:X.calm=true):du X (.builtin "sorted") (fun vs H Q=>∃(p:Addr) (ls:List (List Nat)),vs=[.ref p]/\SqL X.K H p (ls.map fun l=>V.str (S l))/\ls.length<64/\∀(D:Addr) (ms:List (List Nat)),H D=none->ms.Perm ls->ms.Pairwise (fun a b=>¬ b<a)->Q (.ref D) (upd H D (.lst (ms.map fun l=>V.str (S l))))):=by
 intro pr s σ H vs us Q I r h;obtain⟨p,ls,rfl,hp,Il,q⟩:=h;obtain⟨u,rfl,r1⟩:=gL r;cases r1;obtain⟨ws,rv,pl,hz⟩:=I.list hp;have hl:=rv.length;rw[OT]at hl;refine ia (O:=C1) (key:=fun i=>ls.getD i []) (kd:=oneType') pl.isList (by lia) (fun h2 A' E' h' kk Q' q'=>?_) (fun i j hi hj h' kk C q'=>?_) fun pp h' e F8 hs he kk=>?_
 ·refine kas_kind h2 (T:=.type "str") (fun v hv=>?_) (by decide) (by decide) q';obtain⟨i,hi⟩:=Qz.mp hv;obtain⟨t,rfl⟩:=nL rv hi;exact fun A Q E s _ q=>Q9 (SM s _ t) q
 ·unfold kas_ask;have e1:ws[i]?=some (ws.getD i .none):=by rw[ba _ _ _ hi];exact List.getElem?_eq_getElem hi
  have e2:ws[j]?=some (ws.getD j .none):=by rw[ba _ _ _ hj];exact List.getElem?_eq_getElem hj
  obtain⟨t,Np⟩:=nL rv e1;obtain⟨t',Nq⟩:=nL rv e2;rw[Np,Nq];refine kas_lt_str ?_;rw[cq,cq];exact q'
 ·rw[<-hl]at F8 hs;have Kr:POk (ls.map fun l=>V.str (S l)).length pp:=by rw[OT];exact F8
  have eo:pY pp (ls.map fun l=>V.str (S l))=(pp.toList.map fun i=>ls.getD i []).map fun l=>V.str (S l):=by
   unfold pY;rw[Pf];refine Qb fun i hi=>?_
   have hi:=PQ.mp (F8.perm.mem_iff.mp hi);show(ls.map fun l=>V.str (S l)).getD i .non=V.str (S (ls.getD i []));rw[ba _ _ _ (by rw[OT];exact hi),ba _ _ _ hi];simp
  have hn:H (s.heap.objs.size+1)=none:=I.hok.fresh (Qe _);refine⟨.ref (s.heap.objs.size+1),_,gP I kk (Qe _) he (i6 rv Kr) ?_,rfl,?_⟩
  ·show(pY pp (ls.map fun l=>V.str (S l))).length<=sizeLine;rw[eo,OT,OT,F8.perm.length_eq,Pu,PL];lia
  ·rw[eo];refine q _ _ hn (i5 [] F8) ?_;have:=fP (O:=C1) [] (fun l:List Nat=>l) F8 hs;refine this.imp fun{a b} Ks=>?_
   have Ks:decide (b<a)=false:=Ks;exact RS Ks
end
def kinds(k:List Key):List Bool:=k.map fun x=>x.isLeft
section
variable{prog:Program}{w:World}{A:Around}{s:Shared}
theorem qR(a b:Key):Nc (kV a) (kV b)=decide (a=b):=by
 cases a <;> cases b <;> (rw[Pk];simp[kV,Nc])
theorem i7(a:Key):t8 (kV a)=true:=by cases a <;> rfl
theorem zT{a b:Key}{u v:Value}{top:Bool}{Q:Bool->Shared->Prop}(ra:L2.RelV (kV a) u)(rb:L2.RelV (kV b) v)(hk:a.isLeft=b.isLeft)(q:Q (l9.blt a b) s):wpAny (model prog w) A (oneLt' top u v) Q (fun _ _=>False) s:=by
 cases a with
 |inl i=>
  cases b with
  |inr _=>cases hk
  |inl j=>
   obtain⟨t,rfl⟩:=ra;obtain⟨t',rfl⟩:=rb;cases top with
   |true=>exact kat_lt_int (E:=fun _ _=>False) q
   |false=>exact kat_one _ _ (lt_int q)
 |inr x=>
  cases b with
  |inl _=>cases hk
  |inr y=>
   obtain⟨t,rfl⟩:=ra;obtain⟨t',rfl⟩:=rb;cases top with
   |true=>exact oneLt_str q
   |false=>exact kat_one _ _ (lt_str q)
theorem jr{Q:Bool->Shared->Prop}:∀(k1 k2:List Key) (us ws:List Value) (i:Nat),Vals (k1.map kV) us->Vals (k2.map kV) ws->kinds k1=kinds k2->Q (cS k1 k2) s->KatLex prog w A true false Q (us.zip ws) i s
 |[],[],_,_,_,.nil,.nil,_,q=>q
 |[],_::_,_,_,_,_,_,h,_=>by cases h
 |_::_,[],_,_,_,_,_,h,_=>by cases h
 |a::r,b::t,u::us,v::ws,i,.cons ru rus,.cons rv rvs,h,q=>by
  have h1:a.isLeft=b.isLeft:=(QU h).1;have h2:kinds r=kinds t:=(QU h).2;have q:Q (if a=b then cS r t else l9.blt a b) s:=q;refine kat_cons (vL (A:=A) (s:=s) ru rv (i7 a) (i7 b) prog w _ _ ?_);rw[qR];by_cases e:a=b
  ·rw[OZ e]at q;rw[Ph e];exact kat_yes (jr r t us ws (i+1) rus rvs h2 q)
  ·rw[O5 e]at q;rw[Pa e];exact kat_no (zT ru rv h1 q)
end
section
variable{X:Cx}{pr:List (Addr×Obj)}{σ:L2.St}{H:Hp}{s:Shared}
theorem ma(I:Inv X pr σ H s){a:Addr}{xs:List V}(h:SqT X.K H a xs):∃(us:List Value) (o:Obj) (n:Nat),Vals xs us/\s.heap.get? a=some o/\o.cls=.type "tuple"/\o.data=.seq us.toArray n:=by
 obtain⟨us,r,pl,_⟩:=I.tuple h;obtain⟨o,ho,oc,n,od⟩:=pl;exact⟨us,o,n,r,ho,oc,od⟩
theorem kP{al:List (Addr×List Key)}{us:List Value}(r:Vals (al.map fun a=>V.ref a.1) us){i:Nat}(h:i<al.length):us.getD i .none=.ref (al.getD i (0,[])).1:=by
 have e1:(al.map fun a=>V.ref a.1)[i]?=some (.ref (al.getD i (0,[])).1):=by
  rw[List.getElem?_map,List.getElem?_eq_getElem h,ba _ _ _ h];rfl
 obtain⟨u,hu,ru⟩:=r.get e1;rw[List.getD_eq_getElem?_getD,hu];exact ru
theorem oQ{al:List (Addr×List Key)}{us:List Value}{h':Heap}(I:Inv X pr σ H s)(kk:∀b o,s.heap.get? b=some o->h'.get? b=some o)(top:Bool):
  (r:Vals (al.map fun a=>V.ref a.1) us)->(∀a∈al,SqT X.K H a.1 (a.2.map kV)/\∃t,kinds a.2=top::t)->∃fs:List Value,KatTups h' us fs/\fs.length=al.length/\∀v∈fs,∀M:Model,Looks M h' (typeOf v) (.type (if top then "int" else "str")):=by
 induction al generalizing us with
 |nil=>
  intro r _;cases r;exact⟨[],trivial,rfl,fun v hv=>by cases hv⟩
 |cons a al ih=>
  intro r h;cases r with
  |cons ra rs=>
   cases ra;obtain⟨fs,t1,t2,t3⟩:=ih rs fun b hb=>h b (O7 _ hb)
   obtain⟨ha,kt,hk⟩:=h a OX;obtain⟨ws,o,n,rv,ho,oc,od⟩:=ma I ha;cases e2:a.2 with
   |nil=>rw[e2]at hk;cases hk
   |cons k ks=>
    rw[e2]at rv hk;have Of:k.isLeft=top:=(QU hk).1;cases rv with
    | @cons _ f _ fr rf rfs=>
     refine⟨f::fs,KatTups.cons (kk _ _ ho) oc od (by simp) t1,by simp[t2],fun v hv M=>?_⟩;rcases O6.mp hv with rfl|hv
     ·cases k with
      |inl i=>
       obtain⟨t,rfl⟩:=rf;have:top=true:=Of.symm;subst this;exact fun A Q E s _ q=>Q9 (SN s _ t) q
      |inr x=>
       obtain⟨t,rfl⟩:=rf;have:top=false:=Of.symm;subst this;exact fun A Q E s _ q=>Q9 (SM s _ t) q
     ·exact t3 v hv M
end
section
variable{X:Cx}
theorem iO(hc:X.calm=true):du X (.builtin "sorted") (fun vs H Q=>∃(p:Addr) (al:List (Addr×List Key)) (top:Bool) (t:List Bool),vs=[.ref p]/\SqL X.K H p (al.map fun a=>V.ref a.1)/\(∀a∈al,SqT X.K H a.1 (a.2.map kV)/\kinds a.2=top::t)/\al.length<64/\
  ∀(D:Addr) (ms:List (Addr×List Key)),H D=none->ms.Perm al->ms.Pairwise (fun a b=>cS b.2 a.2=false)->Q (.ref D) (upd H D (.lst (ms.map fun a=>V.ref a.1)))):=by
 intro pr s σ H vs us Q I r h;obtain⟨p,al,top,kt,rfl,hp,HR,Il,q⟩:=h;obtain⟨u,rfl,r1⟩:=gL r;cases r1;obtain⟨ws,rv,pl,hz⟩:=I.list hp;have hl:=rv.length;rw[OT]at hl;refine ia (O:=BH) (key:=fun i=>(al.getD i (0,[])).2) (kd:=tuples' true) pl.isList (by lia) (fun h2 A' E' h' kk Q' q'=>?_) (fun i j hi hj h' kk C q'=>?_) fun pp h' e F8 hs he kk=>?_
 ·obtain⟨fs,t1,t2,t3⟩:=oQ I kk top rv fun a ha=>⟨(HR a ha).1,kt,(HR a ha).2⟩
  refine kat_kind (T:=.type (if top then "int" else "str")) t1 (by lia) (fun v hv=>t3 v hv _) (by simp) ?_;have:((Value.type (if top then "int" else "str")) != Value.type "tuple")=true:=by cases top <;> decide
  rw[this];exact q'
 ·unfold kas_ask;have Ji:i<al.length:=by lia
  have Kq:j<al.length:=by lia
  rw[kP rv Ji,kP rv Kq];have mi:al.getD i (0,[])∈al:=by rw[ba _ _ _ Ji];exact Q5 _
  have mj:al.getD j (0,[])∈al:=by rw[ba _ _ _ Kq];exact Q5 _
  obtain⟨u1,o1,n1,r1,g1,_,d1⟩:=ma I (HR _ mi).1;obtain⟨u2,o2,n2,r2,g2,_,d2⟩:=ma I (HR _ mj).1;have ek:kinds (al.getD i (0,[])).2=kinds (al.getD j (0,[])).2:=by rw[(HR _ mi).2,(HR _ mj).2]
  have el:u1.length=u2.length:=by
   have a1:=r1.length;have a2:=r2.length;have a3:=P4 List.length ek;simp only[kinds,OT]at a1 a2 a3;lia
  refine kat_lt (kk _ _ g1) d1 (kk _ _ g2) d2 ?_;have ef:decide (u1.toArray.size<u2.toArray.size)=false:=by simp[el]
  rw[ef];exact jr _ _ _ _ 0 r1 r2 ek q'
 ·rw[<-hl]at F8 hs;have Kr:POk (al.map fun a=>V.ref a.1).length pp:=by rw[OT];exact F8
  have eo:pY pp (al.map fun a=>V.ref a.1)=(pp.toList.map fun i=>al.getD i (0,[])).map fun a=>V.ref a.1:=by
   unfold pY;rw[Pf];refine Qb fun i hi=>?_
   have hi:=PQ.mp (F8.perm.mem_iff.mp hi);show(al.map fun a=>V.ref a.1).getD i .non=V.ref (al.getD i (0,[])).1;rw[ba _ _ _ (by rw[OT];exact hi),ba _ _ _ hi];simp
  have hn:H (s.heap.objs.size+1)=none:=I.hok.fresh (Qe _);refine⟨.ref (s.heap.objs.size+1),_,gP I kk (Qe _) he (i6 rv Kr) ?_,rfl,?_⟩
  ·show(pY pp (al.map fun a=>V.ref a.1)).length<=sizeLine;rw[eo,OT,OT,F8.perm.length_eq,Pu,PL];lia
  ·rw[eo];refine q _ _ hn (i5 (0,[]) F8) ?_;exact fP (O:=BH) (0,[]) (fun a:Addr×List Key=>a.2) F8 hs
end
end NX
namespace L2
open PySem PySem.Spec PyProof.Rows
section
variable{κ:Type}[DecidableEq κ]
def me(kvs:List (κ×V))(k:κ):Option V:=(kvs.find? fun kv=>decide (kv.1=k)).map (·.2)
def j4(kvs:List (κ×V))(k:κ)(v:V):List (κ×V):=
 if(kvs.any fun kv=>decide (kv.1=k))=true then kvs.map (fun kv=>if kv.1=k then(kv.1,v) else kv) else kvs++[(k,v)]
theorem kQ{p:κ×V}{r:List (κ×V)}{k:κ}(e:p.1=k):me (p::r) k=some p.2:=by simp[me,List.find?_cons,e]
theorem kR{p:κ×V}{r:List (κ×V)}{k:κ}(e:¬ p.1=k):me (p::r) k=me r k:=by simp[me,List.find?_cons,e]
theorem oR(k:κ):∀kvs:List (κ×V),(kvs.any fun kv=>decide (kv.1=k))=(me kvs k).isSome
 |[]=>rfl
 |p::r=>by
  rw[Tf];by_cases e:p.1=k
  ·simp only[kQ e,Ph e,Bool.true_or,Option.isSome_some]
  ·rw[kR e,Pa e,Bool.false_or];exact oR k r
theorem ju(kvs:List (κ×V))(k:κ)(v:V):(j4 kvs k v).length<=kvs.length+1:=by
 unfold j4;split
 ·rw[OT];lia
 ·rw[Pw,O2,QK];lia
theorem RelO.isSome_eq{o:Option V}{u:Option Value}(r:RelO o u):o.isSome=u.isSome:=by
 cases o with
 |none=>cases u with
  |none=>rfl
  |some _=>exact(show False from r).elim
 |some _=>cases u with
  |none=>exact(show False from r).elim
  |some _=>rfl
theorem KV.val{kvs:List (κ×V)}{vs:List (κ×Value)}(r:KV kvs vs)(k:κ):RelO (me kvs k) (valueAt vs k):=by
 unfold KV at r;induction r with
 |nil=>exact True.intro
 | @cons p q ps qs h t ih=>
  obtain⟨h1,h2⟩:=h;by_cases e:p.1=k
  ·have e':q.1=k:=h1.symm.trans e;have b:valueAt (q::qs) k=some q.2:=by simp[valueAt,List.find?_cons,e']
   rw[kQ e,b];exact h2
  ·have e':¬ q.1=k:=fun z=>e (h1.trans z)
   have b:valueAt (q::qs) k=valueAt qs k:=by simp[valueAt,List.find?_cons,e']
   rw[kR e,b];exact ih
theorem KV.any{kvs:List (κ×V)}{vs:List (κ×Value)}(r:KV kvs vs)(k:κ):(kvs.any fun kv=>decide (kv.1=k))=vs.any fun kv=>decide (kv.1=k):=by
 unfold KV at r;induction r with
 |nil=>rfl
 |cons h t ih=>rw[Tf,Tf,ih,h.1]
theorem KV.repl{kvs:List (κ×V)}{vs:List (κ×Value)}(r:KV kvs vs)(k:κ){y:V}{u:Value}(ry:RelV y u):
  KV (kvs.map fun kv=>if kv.1=k then(kv.1,y) else kv) (vs.map fun kv=>if kv.1=k then(kv.1,u) else kv):=by
 unfold KV at r ⊢;induction r with
 |nil=>exact .nil
 | @cons p q ps qs h t ih=>
  rw[Pb,Pb];refine .cons ?_ ih;obtain⟨h1,h2⟩:=h;by_cases e:p.1=k
  ·rw[OZ e,OZ (h1.symm.trans e)];exact⟨h1,ry⟩
  ·rw[O5 e,O5 (fun z=>e (h1.trans z))];exact⟨h1,h2⟩
theorem KV.put{kvs:List (κ×V)}{vs:List (κ×Value)}(r:KV kvs vs)(k:κ){y:V}{u:Value}(ry:RelV y u):KV (j4 kvs k y) (stored vs k u):=by
 unfold j4 stored;rw[r.any k];by_cases e:(vs.any fun kv=>decide (kv.1=k))=true
 ·rw[OZ e,OZ e];exact r.repl k ry
 ·rw[O5 e,O5 e];exact Paired.snoc r ⟨rfl,ry⟩
theorem KV.length{kvs:List (κ×V)}{vs:List (κ×Value)}(r:KV kvs vs):kvs.length=vs.length:=RB r
end
theorem kV_is{P:Program}{w:World}{k:Key}{u:Value}(r:RelV (kV k) u):(mixKind P w).is k u=true:=by
 cases k with
 |inl i=>obtain⟨t,e⟩:=(show ∃t,u=Value.int i t from r);subst e;exact nu P w i t
 |inr x=>obtain⟨t,e⟩:=(show ∃t,u=Value.str x t from r);subst e;exact nv P w x t
theorem mf{P:Program}{w:World}:∀{ks:List Key}{us:List Value},Vals (ks.map kV) us->ItemsAre (mixKind P w) ks us
 |[],_,r=>by rw[Pq]at r;cases r;exact .nil
 |k::ks,_,r=>by
  rw[Pb]at r;cases r with
  |cons h t=>exact .cons (kV_is h) (mf t)
abbrev KT(H:Hp):List (List Key×V)->List (List Key×Addr×Value)->Prop:=Paired fun p q=>p.1=q.1/\H q.2.1=some (.tup (p.1.map kV))/\RelV p.2 q.2.2
theorem KT.val{H:Hp}{kvs:List (List Key×V)}{xs:List (List Key×Addr×Value)}(r:KT H kvs xs)(k:List Key):RelO (me kvs k) ((atKey xs k).map (·.2)):=by
 induction r with
 |nil=>exact True.intro
 | @cons p q ps qs h t ih=>
  obtain⟨h1,_,h2⟩:=h;by_cases e:p.1=k
  ·have e':q.1=k:=h1.symm.trans e;have b:atKey (q::qs) k=some q.2:=by simp[atKey,List.find?_cons,e']
   rw[kQ e,b];exact h2
  ·have e':¬ q.1=k:=fun z=>e (h1.trans z)
   have b:atKey (q::qs) k=atKey qs k:=by simp[atKey,List.find?_cons,e']
   rw[kR e,b];exact ih
theorem KT.repl{H:Hp}{kvs:List (List Key×V)}{xs:List (List Key×Addr×Value)}(r:KT H kvs xs)(k:List Key){y:V}{u:Value}(ry:RelV y u):
  KT H (kvs.map fun kv=>if kv.1=k then(kv.1,y) else kv) (xs.map (putAt k u)):=by
 induction r with
 |nil=>exact .nil
 | @cons p q ps qs h t ih=>
  rw[Pb,Pb];refine .cons ?_ ih;obtain⟨h1,h2,h3⟩:=h;unfold putAt;by_cases e:p.1=k
  ·rw[OZ e,OZ (h1.symm.trans e)];exact⟨h1,h2,ry⟩
  ·rw[O5 e,O5 (fun z=>e (h1.trans z))];exact⟨h1,h2,h3⟩
theorem KT.put{H:Hp}{kvs:List (List Key×V)}{xs:List (List Key×Addr×Value)}(r:KT H kvs xs)(k:List Key){b:Addr}{y:V}{u:Value}(hb:H b=some (.tup (k.map kV)))(ry:RelV y u):
  KT H (j4 kvs k y) (storedH xs k b u):=by
 have e:(kvs.any fun kv=>decide (kv.1=k))=(atKey xs k).isSome:=by
  rw[oR,(r.val k).isSome_eq,R4]
 unfold j4 storedH;rw[e];by_cases q:(atKey xs k).isSome=true
 ·rw[OZ q,OZ q];exact r.repl k ry
 ·rw[O5 q,O5 q];exact Paired.snoc r ⟨rfl,hb,ry⟩
theorem KT.keeps{H H':Hp}{kvs:List (List Key×V)}{xs:List (List Key×Addr×Value)}(r:KT H kvs xs)(ht:∀b ys,H b=some (.tup ys)->H' b=some (.tup ys)):KT H' kvs xs:=
 Paired.mapP r fun _ _ z=>⟨z.1,ht _ _ z.2.1,z.2.2⟩
section
variable{P:Program}{w:World}{H:Hp}{h:Heap}{a:Addr}
theorem zU{u:HO}(ok:HOk P w H h)(e:Rd H a u):ObjOk P w H h a u:=e.ok ok
theorem qS{kvs:List (Key×V)}(ok:HOk P w H h)(e:Rd H a (.dK kvs)):kvs.length<=sizeLine/\(a==sysModules)=false/\∃vs,KV kvs vs/\h.DictOf (mixKind P w) a vs:=
 show ObjOk P w H h a (.dK kvs) from zU ok e
theorem Ca{kvs:List (Key×V)}(ok:HOk P w H h)(e:H a=some (.dK kvs)):kvs.length<=sizeLine/\(a==sysModules)=false/\∃vs,KV kvs vs/\h.DictOf (mixKind P w) a vs:=qS ok (.inl e)
theorem kj{ks:List Key}(ok:HOk P w H h)(e:H a=some (.tup (ks.map kV))):(tupleKind (mixKind P w)).is h ks a:=by
 obtain⟨_,Eg,r,o,h1,h2,⟨n,h3⟩,_⟩:=(show ObjOk P w H h a (.tup (ks.map kV)) from ok a _ e)
 exact⟨o,Eg.toArray,n,h1,h2,h3,by simpa using mf r⟩
theorem qT{kvs:List (List Key×V)}(ok:HOk P w H h)(e:Rd H a (.dT kvs)):kvs.length<=sizeLine/\(a==sysModules)=false/\
  ∃xs,KT H kvs xs/\h.DictOfH (tupleKind (mixKind P w)) a xs:=by
 obtain⟨z,y,xs,r,o,es,ep,h1,h2,h3,h4,h5⟩:=(show ObjOk P w H h a (.dT kvs) from zU ok e)
 refine⟨z,y,xs,r,o,es,ep,h1,h2,h3,h4,fun x hx=>?_,h5⟩;have all:∀{l:List (List Key×V)}{m:List (List Key×Addr×Value)},KT H l m->∀x∈m,(tupleKind (mixKind P w)).is h x.1 x.2.1:=by
  intro l m q;induction q with
  |nil=>intro x hx;exact nomatch hx
  | @cons p q ps qs hq t ih=>
   intro x hx;rcases O6.mp hx with e|hx
   ·subst e;exact kj ok (by rw[<-hq.1];exact hq.2.1)
   ·exact ih x hx
 exact all r x hx
theorem zV{kvs:List (List Key×V)}(ok:HOk P w H h)(e:H a=some (.dT kvs)):kvs.length<=sizeLine/\(a==sysModules)=false/\
  ∃xs,KT H kvs xs/\h.DictOfH (tupleKind (mixKind P w)) a xs:=qT ok (.inl e)
end
def DGet(H:Hp)(a:Addr)(y:V)(r:Option V):Prop:=
 (∃kvs k,Rd H a (.dK kvs)/\y=kV k/\r=me kvs k)\/∃kvs k b,Rd H a (.dT kvs)/\y=.ref b/\H b=some (.tup (k.map kV))/\r=me kvs k
def DPut(H:Hp)(a:Addr)(y v:V)(H':Hp):Prop:=
 (∃kvs k,H a=some (.dK kvs)/\y=kV k/\kvs.length<sizeLine/\H'=upd H a (.dK (j4 kvs k v)))\/
 ∃kvs k b,H a=some (.dT kvs)/\y=.ref b/\H b=some (.tup (k.map kV))/\kvs.length<sizeLine/\H'=upd H a (.dT (j4 kvs k v))
theorem DGet.k{H:Hp}{a:Addr}{kvs:List (Key×V)}{k:Key}(e:H a=some (.dK kvs)):DGet H a (kV k) (me kvs k):=.inl ⟨kvs,k,.inl e,rfl,rfl⟩
theorem DGet.t{H:Hp}{a b:Addr}{kvs:List (List Key×V)}{k:List Key}(e:H a=some (.dT kvs))(eb:H b=some (.tup (k.map kV))):DGet H a (.ref b) (me kvs k):=.inr ⟨kvs,k,b,.inl e,rfl,eb,rfl⟩
theorem DPut.k{H:Hp}{a:Addr}{kvs:List (Key×V)}{k:Key}{v:V}(e:H a=some (.dK kvs))(hl:kvs.length<sizeLine):DPut H a (kV k) v (upd H a (.dK (j4 kvs k v))):=.inl ⟨kvs,k,e,rfl,hl,rfl⟩
theorem DPut.t{H:Hp}{a b:Addr}{kvs:List (List Key×V)}{k:List Key}{v:V}(e:H a=some (.dT kvs))(eb:H b=some (.tup (k.map kV)))(hl:kvs.length<sizeLine):
  DPut H a (.ref b) v (upd H a (.dT (j4 kvs k v))):=.inr ⟨kvs,k,b,e,rfl,eb,hl,rfl⟩
section
variable{X:Cx}{pr:List (Addr×Obj)}{σ:St}{H:Hp}{s:Shared}{a:Addr}{y v:V}{u r:Value}{o:Option V}{A:Around}{E:Value->Shared->Prop}
theorem Inv.big(I:Inv X pr σ H s):sysModules<s.heap.objs.size:=by
 have h:mainGlobals<s.heap.objs.size:=(I.mod.glob.keeps I.bk).lt;exact Nat.lt_trans (by decide) h
theorem qU{Q:Value->Shared->Prop}(hu:A.units+1<cLine)(I:Inv X pr σ H s)(g:DGet H a y (some v))(ry:RelV y u)(h:∀w' s',Inv X pr σ H s'->RelV v w'->Q w' s'):
  wpAny (model X.prog X.w) A (getItem (.ref a) u) Q E s:=by
 rcases g with⟨kvs,k,e,ey,l⟩|⟨kvs,k,b,e,ey,eb,l⟩
 ·subst ey;obtain⟨z,hd,vs,rel,dd⟩:=qS I.hok e;obtain⟨w',hw,Ii⟩:=RelO.some_of (v:=v) (o:=valueAt vs k) (by rw[l];exact rel.val k);exact wpAny_getItem_of (kV_is ry) dd.mapOf hw (h w' _ (I.tok _) Ii)
 ·subst ey;cases(show u=Value.ref b from ry);obtain⟨z,hd,xs,rel,dd⟩:=qT I.hok e;obtain⟨w',hw,Ii⟩:=RelO.some_of (v:=v) (o:=(atKey xs k).map (·.2)) (by rw[l];exact rel.val k);obtain⟨p,hp,LU⟩:=Pp.mp hw;refine wpAny_getItem_heap (Rj hu) (kj I.hok eb) dd hp ?_;rw[LU];exact h w' _ (I.tok _) Ii
theorem DN{Q:Value->Shared->Prop}(hu:A.units+1<cLine)(I:Inv X pr σ H s)(g:DGet H a y o)(ry:RelV y u)(h:∀s',Inv X pr σ H s'->Q (.bool o.isSome) s'):
  wpAny (model X.prog X.w) A (compareOp .In u (.ref a)) Q E s:=by
 rcases g with⟨kvs,k,e,ey,l⟩|⟨kvs,k,b,e,ey,eb,l⟩
 ·subst ey;obtain⟨z,hd,vs,rel,dd⟩:=qS I.hok e;refine wpAny_in_of (kV_is ry) hd dd.mapOf ?_;rw[<-(rel.val k).isSome_eq,<-l];exact h _ (I.tok _)
 ·subst ey;cases(show u=Value.ref b from ry);obtain⟨z,hd,xs,rel,dd⟩:=qT I.hok e;refine wpAny_in_heap (Rj hu) (kj I.hok eb) hd dd ?_;have q:=(rel.val k).isSome_eq;rw[R4]at q;rw[<-q,<-l];exact h _ (I.tok _)
theorem xj{Q:Value->Shared->Prop}(hu:A.units+1<cLine)(I:Inv X pr σ H s)(g:DGet H a y o)(ry:RelV y u)(h:∀s',Inv X pr σ H s'->Q (.bool (!o.isSome)) s'):
  wpAny (model X.prog X.w) A (compareOp .NotIn u (.ref a)) Q E s:=by
 rcases g with⟨kvs,k,e,ey,l⟩|⟨kvs,k,b,e,ey,eb,l⟩
 ·subst ey;obtain⟨z,hd,vs,rel,dd⟩:=qS I.hok e;refine wpAny_notIn_of (kV_is ry) hd dd.mapOf ?_;rw[<-(rel.val k).isSome_eq,<-l];exact h _ (I.tok _)
 ·subst ey;cases(show u=Value.ref b from ry);obtain⟨z,hd,xs,rel,dd⟩:=qT I.hok e;refine wpAny_notIn_heap (Rj hu) (kj I.hok eb) hd dd ?_;have q:=(rel.val k).isSome_eq;rw[R4]at q;rw[<-q,<-l];exact h _ (I.tok _)
theorem nM{h':Heap}{t':Nat}{ob:HO}(I:Inv X pr σ H s)(mu:LB (H a))(hs:Heap.SameBut a s.heap h')(he:∃q,h'.get? a=some q)(new:ObjOk X.prog X.w (upd H a ob) h' a ob):
  Inv X pr σ (upd H a ob) {s with heap:=h',toks:=t'}:=
 I.write (x:=a) (e:=a) mu (.inl rfl) (fun b q hb z=>(hs.2 b hb).trans z) he new
theorem zW{P:Program}{w:World}{H':Hp}{h':Heap}{kvs:List (Key×V)}{vs:List (Key×Value)}(z:kvs.length<=sizeLine)(hd:(a==sysModules)=false)(rel:KV kvs vs)(dd:h'.DictOf (mixKind P w) a vs):
  ObjOk P w H' h' a (.dK kvs):=⟨z,hd,vs,rel,dd⟩
theorem qV{H':Hp}{Q:Unit->Shared->Prop}(hu:A.units+1<cLine)(I:Inv X pr σ H s)(g:DPut H a y v H')(ry:RelV y u)(rv:RelV v r)(h:∀s',Inv X pr σ H' s'->Q () s'):
  wpAny (model X.prog X.w) A (setItem (.ref a) u r) Q E s:=by
 rcases g with⟨kvs,k,e,ey,l,eH⟩|⟨kvs,k,b,e,ey,eb,l,eH⟩
 ·subst ey eH;obtain⟨z,hd,vs,rel,dd⟩:=Ca I.hok e;have hz:vs.length<=sizeLine:=by rw[<-rel.length];exact z
  have hl:(j4 kvs k v).length<=sizeLine:=by have:=ju kvs k v;lia
  refine wpAny_setItem_pairs (hsz:=hz) (kV_is ry) dd fun h' J8 hs=>h _ ?_
  have he:∃q,h'.get? a=some q:=let⟨q,_,_,hq,_⟩:=J8;⟨q,hq⟩
  exact nM I (by rw[e];exact True.intro) hs he (zW hl hd (rel.put k rv) J8)
 ·subst ey eH;cases(show u=Value.ref b from ry);obtain⟨z,hd,xs,rel,dd⟩:=zV I.hok e;have hz:xs.length<=sizeLine:=by rw[<-RB rel];exact z
  have hl:(j4 kvs k v).length<=sizeLine:=by have:=ju kvs k v;lia
  refine wpAny_setItem_heap (hsz:=hz) (Rj hu) (kj I.hok eb) dd fun h' J8 hs=>h _ ?_
  obtain⟨q,es,ep,hq,h2,h3,h4,_,h5⟩:=J8;refine nM I (by rw[e];exact True.intro) hs ⟨q,hq⟩ ⟨hl,hd,_,(rel.put k eb rv).keeps fun c ys ec=>?_,q,es,ep,hq,h2,h3,h4,h5⟩;rw[ay (yZ ec e (fun z=>nomatch z))];exact ec
end
section
variable{X:Cx}{pr:List (Addr×Obj)}{σ:St}{H:Hp}{s:Shared}{a:Addr}{kvs:List (Key×V)}{k:Key}{u:Value}{A:Around}{E:Value->Shared->Prop}
end
def NoSl(i:Expr):Prop:=∀ov iv,subscripted i false ov iv=operate [ov,iv] (getItem ov iv)
theorem xk{prog:Program}{w:World}{A:Around}{E:Value->Shared->Prop}{s:Shared}{env:Env}{value slice:Expr}{pos:Pos}{T id:String}{Q:Value->Shared->Prop}
  (hl:typeLookup (.type T) "__getitem__" = pure (some (.builtin id))) (hs:NoSl slice)
  (h:wpAny (model prog w) A (eval value env) (fun o s₁=>wpAny (model prog w) A (eval slice env) (fun i s₂=>s₂.TypeIs o T/\wpAny (model prog w) A (getItem o i) Q E s₂) E s₁) E s):
  wpAny (model prog w) A (eval (.Subscript value slice pos) env) Q E s:=by
 refine Subscript_ (PH h (fun o s₁ h₁=>PH h₁ (fun i s₂ h₂=>?_) fun _ _ x=>x) fun _ _ x=>x);obtain⟨hT,h₂⟩:=h₂;unfold subscriptTail;refine OR ?_;rw[getitemInPython_of_ne hT.not_modules];refine OR (wpAny_specialOf hT hl ?_);have fin:wpAny (model prog w) A (subscripted slice false o i) (fun r s₃=>wpAny (model prog w) A (letTemporaryGo value o r >>= fun _=>pure r) Q E s₃) E s₂:=by
  rw[hs o i];exact wpAny_operating (PH h₂ (fun r s₃ h₃=>OR (wpAny_letTemporaryGo (OU h₃))) fun _ _ x=>x)
 first
  |exact OU (OR fin)
  |exact OR (OU (OR fin))
  |exact OR fin
theorem nN{X:Cx}{pr:List (Addr×Obj)}{σ:St}{H:Hp}{s:Shared}{a:Addr}{y:V}{o:Option V}(I:Inv X pr σ H s)(g:DGet H a y o):s.TypeIs (.ref a) "dict":=by
 rcases g with⟨kvs,k,e,_,_⟩|⟨kvs,k,b,e,_,_,_⟩
 ·obtain⟨_,_,vs,_,dd⟩:=qS I.hok e;exact dd.typeIs
 ·obtain⟨_,_,xs,_,dd⟩:=qT I.hok e;exact dd.typeIs
def Cb(td ty:TE):TE:=fun σ H Q=>td σ H fun x H1=>ty σ H1 fun y H2=>∃a v,x=.ref a/\DGet H2 a y (some v)/\Q v H2
def Cc(td ty tv:TE):TS:=fun D σ H=>tv σ H fun v H1=>td σ H1 fun x H2=>ty σ H2 fun y H3=>∃a H4,x=.ref a/\DPut H3 a y v H4/\D.nx σ H4
section
variable{X:Cx}{o i e value:Expr}{pos pos' LH:Pos}{td ty tv:TE}
theorem xl(hu:X.A.units+1<cLine)(ho:PE X o td)(hi:PE X i ty)(hs:NoSl i):PE X (.Subscript o i pos) (Cb td ty):=by
 intro pr s σ H Q I h;refine xk PySem.F.slot_dict_getitem.lookup hs (Ey (ho pr s σ H _ I h) fun u s1 ⟨x,H1,I1,rx,q1⟩=>Ey (hi pr s1 σ H1 _ I1 q1) fun iv s2 Ez=>?_);obtain⟨y,H2,I2,ry,a,v,ex,g,q2⟩:=Ez;subst ex;obtain rfl:u=Value.ref a:=rx;exact⟨nN I2 g,qU hu I2 g ry fun w' s3 I3 Ii=>⟨v,H2,I3,Ii,q2⟩⟩
theorem xm(hu:X.A.units+1<cLine)(ho:PE X o td)(hi:PE X i ty)(hv:PE X value tv)(hs:swapsWith value (some (.Subscript o i pos')) pos.line X.env=pure false):
  PS X (.Assign [.Subscript o i pos'] value pos) (Cc td ty tv):=by
 intro pr s σ H D I h;refine wpAny_Assign_Subscript (Ey (hv pr s σ H _ I h) fun r s1 ⟨v,H1,I1,rv,q1⟩=>Ey (ho pr s1 σ H1 _ I1 q1) fun u s2 ⟨x,H2,I2,rx,q2⟩=>Ey (hi pr s2 σ H2 _ I2 q2) fun iv s3 ⟨y,H3,I3,ry,a,H4,ex,g,q3⟩=>?_) hs;subst ex;obtain rfl:u=Value.ref a:=rx;exact qV hu I3 g ry rv fun s4 I4=>⟨σ,H4,I4,q3⟩
end
theorem dt_empty{P:Program}{w:World}{H:Hp}(h:Heap)(hb:sysModules<h.objs.size):ObjOk P w H (h.push {cls:=.type "dict",data:=.dict #[]}) h.objs.size (.dT []):=
 ⟨PD _,Qo.mpr (QR (Pc hb)),[],.nil,_,#[],0,Heap.get?_push_size _ rfl,⟨rfl,rfl,rfl⟩,rfl,rfl,QC⟩
section
variable{X:Cx}{pos:Pos}
end
def tPairs:List (TE×TE)->St->Hp->(List (V×V)->Hp->Prop)->Prop
 |[],_,H,Q=>Q [] H
 |(tk,tv)::r,σ,H,Q=>tk σ H fun x H1=>tv σ H1 fun y H2=>tPairs r σ H2 fun ps H3=>Q ((x,y)::ps) H3
abbrev VV:List (V×V)->List (Value×Value)->Prop:=Paired fun p q=>RelV p.1 q.1/\RelV p.2 q.2
def Nr(X:Cx)(pos:Pos)(keys:List (Option Expr))(values:List Expr)(MN:List (TE×TE)):Prop:=
 ∀(pr:List (Addr×Obj)) (s:Shared) (σ:St) (H:Hp) (Q:List (V×V)->Hp->Prop),Inv X pr σ H s->tPairs MN σ H Q->
  wpAny (model X.prog X.w) X.A (evalPairs (pairTrees keys values X.env pos)) (fun vs s'=>∃ps H',Inv X pr σ H' s'/\VV ps vs/\Q ps H') X.xe s
theorem xn{X:Cx}{pos:Pos}:Nr X pos [] [] []:=fun pr s σ H Q I h=>pairTrees_nil_walk ⟨[],H,I,.nil,h⟩
theorem uq{X:Cx}{pos:Pos}{k v:Expr}{ks:List (Option Expr)}{vs:List Expr}{tk tv:TE}{MN:List (TE×TE)}(hk:PE X k tk)(hv:PE X v tv)(hr:Nr X pos ks vs MN):
  Nr X pos (some k::ks) (v::vs) ((tk,tv)::MN):=fun pr s σ H Q I h=>
 pairTrees_cons_walk (Ey (hk pr s σ H _ I h) fun u s1 ⟨x,H1,I1,rx,q1⟩=>Ey (hv pr s1 σ H1 _ I1 q1) fun w2 s2 ⟨y,H2,I2,ry,q2⟩=>
  Ey (hr pr s2 σ H2 _ I2 q2) fun ws s3 ⟨ps,H3,I3,rel,q3⟩=>⟨(x,y)::ps,H3,I3,.cons ⟨rx,ry⟩ rel,q3⟩)
section
variable{X:Cx}{pr:List (Addr×Obj)}{σ:St}{H:Hp}{s:Shared}{a:Addr}{y d:V}{u r:Value}{o:Option V}{A:Around}{E:Value->Shared->Prop}
end
section
variable{X:Cx}{o e f:Expr}{apos Eo:Pos}{td ty tx:TE}
end
section
variable{X:Cx}{pr:List (Addr×Obj)}{σ:St}{H:Hp}{s:Shared}{a:Addr}{kvs:List (Key×V)}{A:Around}{E:Value->Shared->Prop}
end
section
variable{X:Cx}{pr:List (Addr×Obj)}{σ:St}{H:Hp}{s:Shared}{a:Addr}{y:V}{u:Value}{A:Around}{E:Value->Shared->Prop}
end
section
variable{κ:Type}[DecidableEq κ]
end
end L2
namespace NX
open PySem PySem.Spec PyProof.Rows L2
def RawD(h:Heap)(d:Addr)(es:Array DictEntry)(ep:Nat):Prop:=∃o,h.get? d=some o/\o.ExactDict/\o.data=.dict es ep
theorem RawD.at{h h':Heap}{d:Addr}{es:Array DictEntry}{ep:Nat}(x:RawD h d es ep)(e:∀o,h.get? d=some o->h'.get? d=some o):RawD h' d es ep:=by
 obtain⟨o,g,r⟩:=x;exact⟨o,e o g,r⟩
section
variable{prog:Program}{w:World}{A:Around}{E:Value->Shared->Prop}{s:Shared}{d it:Addr}{es:Array DictEntry}{ep i:Nat}
theorem i8(x:RawD s.heap d es ep):s.TypeIs (.ref d) "dict":=by
 obtain⟨o,g,ex,_⟩:=x;exact⟨o,g,ex.1⟩
theorem ur{Q:Value->Shared->Prop}(nm:(d==sysModules)=false)(x:RawD s.heap d es ep)
  (q:Q (.ref s.heap.objs.size) {s with heap:=s.heap.push {cls:=.type "dict_keyiterator",data:=.fields #[.ref d,.int 0 0,.int es.size 0,.int ep 0]}}):wpAny (model prog w) A (pyIter (.ref d)) Q E s:=by
 have ty:=i8 x;obtain⟨o,g,ex,dat⟩:=x;refine wpAny_pyIter_slot ty F.slot_dict_iter (PF F.slot_dict_iter ty F.entry_dict_iter (OR ?_) (F.args_dict_iter_1 _));refine OR (wpAny_notOrdered_dict ty (OU ?_));show wpAny _ _ (Builtin.Dict.showsAll d >>= fun _=>_) _ _ s;have ns:Builtin.Dict.showsAll d=pure ():=by
  unfold Builtin.Dict.showsAll;rw[nm];rfl
 rw[ns];refine OR (OU (OR (Rq g dat (OR (SE g dat (OR (PJ (OU ⟨_,rfl,"dict_keyiterator",_,⟨_,Heap.get?_push_size _ rfl,rfl⟩,F.slot_dict_keyiterator_next.lookup,?_⟩))))))));exact q
theorem uu{Q:Option Value->Shared->Prop}{e:DictEntry}(hit:s.heap.IsKeyIter it d i es.size ep)(x:RawD s.heap d es ep)(hx:es[i]?=some e)
  (q:∀h',h'.IsKeyIter it d (i+1) es.size ep->Heap.SameBut it s.heap h'->Q (some e.key) {s with heap:=h'}):wpAny (model prog w) A (pyNext (.ref it)) Q E s:=by
 have ti:=hit.typeIs;obtain⟨o,g,oc,od⟩:=hit;obtain⟨ob,gd,_,dat⟩:=x;have E3:i<es.size:=(Array.getElem?_eq_some_iff.mp hx).1;unfold pyNext;refine OR (Sb (wpAny_callSpecial?_slot (name:=Str.ofString "__next__") ti Qi (PF Qi ti Ry
  (OR (OU (OR (OR ?_)))) (Rv _))))
 refine OR (Qg ti (OU (OR (wpAny_fieldsOf g od ?_))));have Ic:Builtin.Dict_items.ownsTuple "dict_keyiterator" = false:=by decide
 simp only[Ic,Qx,RQ];show wpAny _ _ (if(Value.ref d==Value.none)=true then _ else _) _ _ s;have nz:¬ ((Value.ref d==Value.none)=true):=O0;rw[O5 nz];refine OR (OU (OR (Rq gd dat ?_)));rw[O5 (by simp)];refine OR (OU (OR (SE gd dat ?_)));rw[O5 (by simp)];refine OU ?_;simp only[O5 (show ¬ ((i:Int)<0) by lia),Ql,hx];refine OR (OR (Qg ti (OU (OR (wpAny_isOneOf_keyiter ti ?_)))));show wpAny _ _ (setField (.ref it) 1 (rawInt ((i:Int)+1)) >>= fun _=>_) _ _ s;refine OR (RU g od (by simp) ?_);have nx:(s.heap.update it (Obj.mapFields fun y=>y.setIfInBounds 1 (rawInt ((i:Int)+1)))).IsKeyIter it d (i+1) es.size ep:=
  ⟨_,Heap.get?_update_self _ g (Obj.isFreed_of_fields (Ri od _)),(Obj.cls_mapFields ..).trans oc,(Ri od _).trans (by simp[rawInt])⟩
 refine OR (Qv (OR (wpAny_isOneOf_keyiter (s:={s with heap:=s.heap.update it (Obj.mapFields fun y=>y.setIfInBounds 1 (rawInt ((i:Int)+1)))}) nx.typeIs ?_)));show wpAny _ _ (pure e.key) _ _ _;exact OU (OU ⟨_,rfl,OU (q _ nx (Q7 ..))⟩)
theorem xo{Q:Option Value->Shared->Prop}(hh:A.handled=none)(hit:s.heap.IsKeyIter it d i es.size ep)(x:RawD s.heap d es ep)(hx:es[i]?=none)
  (q:∀h',Heap.ExtBut it s.heap h'->Q none {s with heap:=h'}):wpAny (model prog w) A (pyNext (.ref it)) Q E s:=by
 have ti:=hit.typeIs;obtain⟨o,g,oc,od⟩:=hit;obtain⟨ob,gd,_,dat⟩:=x;unfold pyNext;refine OR (Sb (wpAny_callSpecial?_slot (name:=Str.ofString "__next__") ti Qi (PF Qi ti Ry
  (OR (OU (OR (OR ?_)))) (Rv _))))
 refine OR (Qg ti (OU (OR (wpAny_fieldsOf g od ?_))));have Ic:Builtin.Dict_items.ownsTuple "dict_keyiterator" = false:=by decide
 simp only[Ic,Qx,RQ];show wpAny _ _ (if(Value.ref d==Value.none)=true then _ else _) _ _ s;have nz:¬ ((Value.ref d==Value.none)=true):=O0;rw[O5 nz];refine OR (OU (OR (Rq gd dat ?_)));rw[O5 (by simp)];refine OR (OU (OR (SE gd dat ?_)));rw[O5 (by simp)];refine OU ?_;simp only[O5 (show ¬ ((i:Int)<0) by lia),Ql,hx];refine OR (OR (Qg ti (OU ?_)));show wpAny _ _ (setField (.ref it) 0 .none >>= fun _=>_) _ _ s;refine OR (RU g od (by simp) ?_);show wpAny _ _ (newExc (.type "StopIteration") [] >>= fun _=>_) _ _ _;refine OR ?_;simp only[newExc,newTuple];refine OR (PJ (OR (m:=firstArgMember _ _) (wpAny_of_eq (a:=Value.none) (by first|rfl|(simp only[firstArgMember];rfl)) (PJ ?_ (by size_fits)))) (by size_fits));simp only[raiseNew];refine OR (wpAny_handled ?_);rw[show A.in1.handled=none from hh];refine OR (OU (wpAny_throw ?_));refine OR (wpAny_isInstance (b:=true) (T:="StopIteration") ⟨_,Heap.get?_push_size _ rfl,rfl⟩ isSubtype_stop ?_);exact OU (q _ (((Q7 ..).extBut.push _).push _))
theorem qW(hh:A.handled=none)(I:Addr)(ne:d≠I):Walks prog w A I [I,d] [I] es.size (fun i v=>∃e,es[i]?=some e/\v=e.key) (fun i h=>h.IsKeyIter I d i es.size ep/\RawD h d es ep) where
 sub:=fun b hb=>by
  rw[Pr]at hb;rw[hb];exact OX
 frame:=fun _ _ _ st hk=>⟨st.1.at fun o e=>hk I OX o e,st.2.at fun o e=>hk d (O7 _ OX) o e⟩
 item:=fun i s Q E hi st hQ=>by
  refine uu st.1 st.2 (Array.getElem?_eq_getElem hi) fun h' it' sb=>?_
  exact hQ _ h' s.toks ⟨_,Array.getElem?_eq_getElem hi,rfl⟩ ⟨it',st.2.at fun o e=>sb.extBut d o ne e⟩ fun b o hb e=>sb.extBut b o (fun z=>hb (by rw[z];exact OX)) e
 done:=fun s Q E st hQ=>xo hh st.1 st.2 (Array.getElem?_eq_none (OW _)) fun h' ext=>hQ h' s.toks fun b o hb e=>ext b o (fun z=>hb (by rw[z];exact OX)) e
 self:=fun _ _ _ _ st hQ=>wpAny_pyIter_keyiter st.1 hQ
theorem xp(nm:(d==sysModules)=false):PySem.W.KdlSrc prog w "dict" d d es.size (fun i v=>∃e,es[i]?=some e/\v=e.key) (fun h=>RawD h d es ep) where
 type:=fun _ x=>i8 x
 there:=fun _ x=>by
  obtain⟨o,g,_⟩:=x;exact⟨OY g,OY g⟩
 keep:=fun _ _ x hk=>x.at fun o e=>hk d (.inl rfl) o e
 notList:=by decide
 notTuple:=by decide
 hint:=fun _ _ _ _ x q=>PySem.W.kdl_hint_dict (i8 x) q
 iter:=fun _ s hh x=>⟨_,_,(fun _ _ q=>ur nm x q),qW hh _ (by obtain⟨o,g,_⟩:=x;exact Pc (OY g)),⟨⟨_,Heap.get?_push_size _ rfl,rfl,rfl⟩,x.at fun o e=>Heap.get?_push_of_some _ e⟩⟩
end
end NX
namespace NX
open PySem PySem.W PySem.Spec PyProof.Rows L2
section
variable{prog:Program}{w:World}{A:Around}{E:Value->Shared->Prop}{s:Shared}
theorem pZ{O:KeyOrd}{key:Nat->O.α}{kd:SortKind}{l:Addr}{vs:List Value}{Q:Value->Shared->Prop}
  (hcol:∀Q':List Value->Shared->Prop,(∀h' tk,(∀b o,s.heap.get? b=some o->h'.get? b=some o)->Q' vs {s with heap:=h',toks:=tk})->wpAny (model prog w) A.in1 (collect (.ref l)) Q' E s) (Il:vs.length<64)
  (Gw:2<=vs.length->∀(A':Around) (E':Value->Shared->Prop) (s':Shared),(∀b o,s.heap.get? b=some o->s'.heap.get? b=some o)->∀Q:SortKind->Shared->Prop,Q kd s'->wpAny (model prog w) A' (keyKind' vs.toArray) Q E' s')
  (IH:∀i j,i<vs.length->j<vs.length->∀s':Shared,(∀b o,s.heap.get? b=some o->s'.heap.get? b=some o)->∀C:Bool->Shared->Prop,C (O.blt (key i) (key j)) s'->kas_ask prog w A.in1.in1 kd vs i j C s')
  (h:∀(p:Array Nat) (h5 h':Heap) (tk e:Nat),POk vs.length p->aX key p vs.length->(∀b o,s.heap.get? b=some o->h5.get? b=some o)->(∀b o,h5.get? b=some o->h'.get? b=some o)->h'.get? h5.objs.size=some (seqObj "list" (List.toArray (p.toList.map fun i=>vs.getD i .none)) e)->Q (.ref h5.objs.size) {s with heap:=h',toks:=tk}):
  wpAny (model prog w) A (call (.builtin "sorted") [.ref l]) Q E s:=by
 refine Q4 kind_sorted plain_sorted entry_sorted (args_sorted1 _) ?_;unfold Builtin.«sorted»;refine OR (m:=checkCount "sorted" 1 1 _) (OU (OR (hcol _ fun h5 tk k5=>?_)));refine OR (Te ?_ (by rw[PL];lia));have k6:∀b o,s.heap.get? b=some o->(h5.push (seqObj "list" vs.toArray 0)).get? b=some o:=fun b o e=>Heap.get?_push_of_some _ (k5 b o e)
 have hL:(h5.push (seqObj "list" vs.toArray 0)).get? h5.objs.size=some (seqObj "list" vs.toArray 0):=Heap.get?_push_size _ rfl;have Og:∀b o,s.heap.get? b=some o->b<h5.objs.size:=fun b o e=>OY (k5 b o e)
 show wpAny _ _ _ _ _ {s with heap:=h5.push (seqObj "list" vs.toArray 0),toks:=tk};refine OR (Qv (PF slot_list_sort ⟨_,hL,rfl⟩ entry_list_sort (gO (key:=key) (kd:=kd) hL Il (fun h2 h' kk Q' q=>Gw h2 _ _ _ (fun b o e=>kk b o (Pc (Og b o e)) (k6 b o e)) Q' q)
  (fun i j hi hj h' kk C q=>IH i j hi hj _ (fun b o e=>kk b o (Pc (Og b o e)) (k6 b o e)) C q) fun p h' hp hs ⟨e,he⟩ kk=>⟨_,rfl,?_⟩) (args_list_sort _)))
 exact OU ⟨_,rfl,h p h5 h' tk e hp hs k5 (fun b o q=>kk b o (Pc (OY q)) (Heap.get?_push_of_some _ q)) he⟩
end
section
variable{X:Cx}{pr:List (Addr×Obj)}{σ:L2.St}{H:Hp}{s:Shared}
theorem xq{H:Hp}{kvs:List (List Key×V)}{xs:List (List Key×Addr×Value)}(r:KT H kvs xs):xs.map (·.1)=kvs.map (·.1):=by
 induction r with
 |nil=>rfl
 |cons hq _ ih=>rw[Pb,Pb,ih,hq.1]
theorem Cd{H:Hp}{kvs:List (List Key×V)}{xs:List (List Key×Addr×Value)}(r:KT H kvs xs):∀y∈xs,H y.2.1=some (.tup (y.1.map kV)):=by
 induction r with
 |nil=>exact fun y hy=>nomatch hy
 |cons hq _ ih=>
  intro y hy;rcases O6.mp hy with rfl|hy
  ·rw[<-hq.1];exact hq.2.1
  ·exact ih y hy
theorem xr(I:Inv X pr σ H s){a:Addr}{kvs:List (List Key×V)}(h:Rd H a (.dT kvs)):(a==sysModules)=false/\∃(al:List (Addr×List Key)) (es:Array DictEntry) (ep:Nat),
  RawD s.heap a es ep/\es.toList.map (·.key)=al.map (fun x=>Value.ref x.1)/\al.map (·.2)=kvs.map (·.1)/\∀x∈al,H x.1=some (.tup (x.2.map kV)):=by
 obtain⟨_,nm,xs,r,o,es,ep,h1,h2,h3,h4,_⟩:=h.ok I.hok;refine⟨nm,xs.map fun x=>(x.2.1,x.1),es,ep,⟨o,h1,h2,h3⟩,?_,?_,?_⟩
 ·rw[h4,Pf,Pf];rfl
 ·rw[Pf];exact xq r
 ·intro x hx;obtain⟨y,hy,rfl⟩:=Qw.mp hx;exact Cd r y hy
theorem j5(hc:X.calm=true):du X (.builtin "sorted") (fun vs H Q=>∃(p:Addr) (kvs:List (List Key×V)) (top:Bool) (t:List Bool),vs=[.ref p]/\Rd H p (.dT kvs)/\(∀kv∈kvs,kinds kv.1=top::t)/\kvs.length<64/\
  ∀(D:Addr) (ms:List (Addr×List Key)),H D=none->(∀a∈ms,H a.1=some (.tup (a.2.map kV)))->(ms.map (·.2)).Perm (kvs.map (·.1))->ms.Pairwise (fun a b=>cS b.2 a.2=false)->Q (.ref D) (upd H D (.lst (ms.map fun a=>V.ref a.1)))):=by
 intro pr s σ H vs us Q I r h;obtain⟨p,kvs,top,kt,rfl,hp,hk,Il,q⟩:=h;obtain⟨u,rfl,r1⟩:=gL r;cases r1;obtain⟨nm,al,es,ep,raw,II,MO,Kt⟩:=xr I hp;have Kj:al.length=kvs.length:=by
  have:=P4 List.length MO;simpa using this
 have HR:∀a∈al,SqT X.K H a.1 (a.2.map kV)/\kinds a.2=top::kt:=fun a ha=>by
  refine⟨SqT.of (Kt a ha),?_⟩;have:a.2∈kvs.map (·.1):=by rw[<-MO];exact Qw.mpr ⟨a,ha,rfl⟩
  obtain⟨kv,Hf,e⟩:=Qw.mp this;rw[<-e];exact hk kv Hf
 have rv:Vals (al.map fun a=>V.ref a.1) (al.map fun a=>Value.ref a.1):=by
  clear II MO Kt Kj HR;induction al with
  |nil=>exact .nil
  |cons a al ih=>exact .cons rfl ih
 have hl:(al.map fun a=>Value.ref a.1).length=al.length:=OT ..;refine pZ (O:=BH) (key:=fun i=>(al.getD i (0,[])).2) (kd:=tuples' true) (vs:=al.map fun a=>Value.ref a.1) (fun Q' hq=>?_) (by lia) (fun h2 A' E' s' kk Q' q'=>?_) (fun i j hi hj s' kk C q'=>?_) fun pp h5 h' tk e F8 hs k5 k' he=>?_
 ·refine kdu_collect (xp nm) (I.ok.hd hc) raw (by have:=P4 List.length II;simp only[OT,P8]at this;rw[PL];lia) fun h' tk acc kk Ju=>?_
  have ea:acc.toList=al.map fun a=>Value.ref a.1:=by
   rw[<-II];apply Rp;intro j;rw[List.getElem?_map,Array.getElem?_toList,Array.getElem?_toList];cases hj:acc[j]? with
   |none=>
    have:es[j]?=none:=by
     rw[Array.getElem?_eq_none_iff]at hj ⊢;rw[<-Ju.1];exact hj
    rw[this];rfl
   |some v=>
    obtain⟨en,h1,h2⟩:=Ju.2 j v hj;rw[h1,h2];rfl
  have:=hq h' tk kk;rw[<-ea]at this;exact this
 ·obtain⟨fs,t1,t2,t3⟩:=oQ (h':=s'.heap) I kk top rv fun a ha=>⟨(HR a ha).1,kt,(HR a ha).2⟩
  refine kat_kind (T:=.type (if top then "int" else "str")) t1 (by lia) (fun v hv=>t3 v hv _) (by simp) ?_;have:((Value.type (if top then "int" else "str")) != Value.type "tuple")=true:=by cases top <;> decide
  rw[this];exact q'
 ·unfold kas_ask;have Ji:i<al.length:=by lia
  have Kq:j<al.length:=by lia
  rw[kP rv Ji,kP rv Kq];have mi:al.getD i (0,[])∈al:=by rw[ba _ _ _ Ji];exact Q5 _
  have mj:al.getD j (0,[])∈al:=by rw[ba _ _ _ Kq];exact Q5 _
  obtain⟨u1,o1,n1,r1,g1,_,d1⟩:=ma I (HR _ mi).1;obtain⟨u2,o2,n2,r2,g2,_,d2⟩:=ma I (HR _ mj).1;have ek:kinds (al.getD i (0,[])).2=kinds (al.getD j (0,[])).2:=by rw[(HR _ mi).2,(HR _ mj).2]
  have el:u1.length=u2.length:=by
   have a1:=r1.length;have a2:=r2.length;have a3:=P4 List.length ek;simp only[kinds,OT]at a1 a2 a3;lia
  refine kat_lt (kk _ _ g1) d1 (kk _ _ g2) d2 ?_;have ef:decide (u1.toArray.size<u2.toArray.size)=false:=by simp[el]
  rw[ef];exact jr _ _ _ _ 0 r1 r2 ek q'
 ·rw[hl]at F8 hs;have Kr:POk (al.map fun a=>V.ref a.1).length pp:=by rw[OT];exact F8
  have eo:pY pp (al.map fun a=>V.ref a.1)=(pp.toList.map fun i=>al.getD i (0,[])).map fun a=>V.ref a.1:=by
   unfold pY;rw[Pf];refine Qb fun i hi=>?_
   have hi:=PQ.mp (F8.perm.mem_iff.mp hi);show(al.map fun a=>V.ref a.1).getD i .non=V.ref (al.getD i (0,[])).1;rw[ba _ _ _ (by rw[OT];exact hi),ba _ _ _ hi];simp
  have I5:Inv X pr σ H {s with heap:=h5,toks:=tk}:=I.kept k5;have hn:H h5.objs.size=none:=I5.hok.fresh (OW _);refine⟨.ref h5.objs.size,_,gP (s:={s with heap:=h5,toks:=tk}) I5 k' (OW _) he (i6 rv Kr) ?_,rfl,?_⟩
  ·show(pY pp (al.map fun a=>V.ref a.1)).length<=sizeLine;rw[eo,OT,OT,F8.perm.length_eq,Pu,PL];lia
  ·rw[eo];have pm:=i5 (0,[]) F8;refine q _ _ hn (fun a ha=>Kt a (pm.mem_iff.mp ha)) ?_ ?_
   ·rw[<-MO];exact pm.map _
   ·exact fP (O:=BH) (0,[]) (fun a:Addr×List Key=>a.2) F8 hs
end
end NX
namespace NX
open PySem PySem.Spec PyProof.Rows L2
section
open PySem.SeqAt
open PySem.AutoSeq1 (wpAny_loadPart')
open PySem.MeetsSeq PySem.MeetsSeq2 PySem.MeetsSeq3
theorem oS{A:Around}{s:Shared}{a c:Key}{u v:Value}(ra:RelV (kV a) u)(rc:RelV (kV c) v):EqAt A s u v (decide (a=c)):=by
 have h:=vL (A:=A) (s:=s) ra rc (i7 a) (i7 c);rw[qR]at h;exact h
theorem uv{prog:Program}{w:World}{A:Around}{E:Value->Shared->Prop}{s:Shared}{Q:Value->Shared->Prop}{a c:Key}{u v:Value}(ra:RelV (kV a) u)(rc:RelV (kV c) v)(hk:a.isLeft=c.isLeft)(h:Q (.bool (l9.blt a c)) s):
  wpAny (model prog w) A (richCompare .Lt u v) Q E s:=by
 cases a with
 |inl i=>
  cases c with
  |inr _=>cases hk
  |inl j=>
   obtain⟨t,rfl⟩:=ra;obtain⟨t',rfl⟩:=rc;exact(PyProof.Rows.lt_int h:wpAny (model prog w) A (compareOp .Lt (.int i t) (.int j t')) Q E s)
 |inr x=>
  cases c with
  |inl _=>cases hk
  |inr y=>
   obtain⟨t,rfl⟩:=ra;obtain⟨t',rfl⟩:=rc;exact(PyProof.Rows.lt_str h:wpAny (model prog w) A (compareOp .Lt (.str x t) (.str y t')) Q E s)
theorem uw{prog:Program}{w:World}{A:Around}{E:Value->Shared->Prop}{s:Shared}{Q:Value->Shared->Prop}{a c:Key}{u v:Value}(ra:RelV (kV a) u)(rc:RelV (kV c) v)(hk:a.isLeft=c.isLeft)(h:Q (.bool (!l9.blt a c)) s):
  wpAny (model prog w) A (richCompare .GtE u v) Q E s:=by
 cases a with
 |inl i=>
  cases c with
  |inr _=>cases hk
  |inl j=>
   obtain⟨t,rfl⟩:=ra;obtain⟨t',rfl⟩:=rc;refine(PyProof.Rows.ge_int ?_:wpAny (model prog w) A (compareOp .GtE (.int i t) (.int j t')) Q E s);have e:(!l9.blt (.inl i) (.inl j))=decide (j<=i):=by
    show(!decide (i<j))=decide (j<=i);rw[Pk];simp
   rw[e]at h;exact h
 |inr x=>
  cases c with
  |inl _=>cases hk
  |inr y=>
   obtain⟨t,rfl⟩:=ra;obtain⟨t',rfl⟩:=rc;exact(PySem.P.ge_str h:wpAny (model prog w) A (compareOp .GtE (.str x t) (.str y t')) Q E s)
theorem gQ(a c:Key)(r t:List Key):cS (a::r) (c::t)=if a=c then cS r t else l9.blt a c:=rfl
theorem kS(l b:Addr)(items E4:Array Value)(n n2:Nat)(dd HL:Option Addr)(sl HM:Array (Option Value))(ks js:List Key)(hi:Vals (ks.map kV) items.toList)(hj:Vals (js.map kV) E4.toList)(hk:kinds ks=kinds js):
  Meets (Builtin.«tuple.__lt__» ⟨[.ref l,.ref b],[]⟩)
   (fun _ R s=>s.heap.get? l=some {cls:=.type "tuple",dict:=dd,data:=.seq items n,slots:=sl}/\s.heap.get? b=some {cls:=.type "tuple",dict:=HL,data:=.seq E4 n2,slots:=HM}/\R (.ok (.ret (.bool (cS ks js)))) s):=
 .of_wp fun prog w A R s h=>by
  obtain⟨hp,g,d,tk,os⟩:=s;obtain⟨hl,hb,h⟩:=h;have f2:=R5;have z1:items.size=ks.length:=by have:=hi.length;simp at this;lia
  have z2:E4.size=js.length:=by have:=hj.length;simp at this;lia
  have z3:ks.length=js.length:=by have:=P4 List.length hk;simpa[kinds] using this
  wp_walk using wpAny_loadPart' hl,wpAny_loadPart' hb,Sj _ (fun dg b s'=>b.1=none/\s'=⟨hp,g,d,tk,os⟩/\∃(vs ws:List Value) (F5 F9:List Key),dg=vs.zip ws/\
   Vals (F5.map kV) vs/\Vals (F9.map kV) ws/\kinds F5=kinds F9/\R (.ok (.ret (.bool (cS F5 F9)))) ⟨hp,g,d,tk,os⟩) _
  case turn=>
   rintro⟨y,x⟩ dg b s' ⟨Ku,rfl,vs,ws,F5,F9,hz,Jv,Kv,Hx,hR⟩;cases F5 with
   |nil=>
    cases Jv;rw[R6]at hz;cases hz
   |cons a F5=>
    cases F9 with
    |nil=>cases Hx
    |cons c F9=>
     cases Jv with
     | @cons _ va _ IJ ra hvi'=>
      cases Kv with
      | @cons _ vc _ Lq rc hwi'=>
       rw[P6]at hz;injection hz with hyx hrest;injection hyx with hy hx;subst hy hx;have Nt:a.isLeft=c.isLeft:=(QU Hx).1;have MP:kinds F5=kinds F9:=(QU Hx).2;rw[gQ]at hR;have he:=oS (A:=A.in1) (s:=⟨hp,g,d,tk,os⟩) ra rc;refine OR (he prog w _ _ ?_);by_cases hac:a=c
       ·rw[OZ hac]at hR;rw[Ph hac]
        wp_walk
        exact⟨rfl,rfl,_,_,_,_,hrest,hvi',hwi',MP,hR⟩
       ·rw[O5 hac]at hR;rw[Pa hac];have Nu:=fun E Q=>uv (prog:=prog) (w:=w) (A:=A.in1) (E:=E) (s:=⟨hp,g,d,tk,os⟩) (Q:=Q) ra rc Nt
        wp_walk using Nu
        exact⟨_,rfl,by simpa using hR⟩
  case fin=>
   rintro⟨b1,b2⟩ s' ⟨Ku,rfl,vs,ws,F5,F9,hz,Jv,Kv,Hx,hR⟩;simp only at Ku;subst Ku;have hv:cS F5 F9=decide (items.size<E4.size):=by
    cases F5 with
    |nil=>
     cases F9 with
     |nil=>exact(Pa (by lia)).symm
     |cons c F9=>cases Hx
    |cons a F5=>
     cases F9 with
     |nil=>cases Hx
     |cons c F9=>
      cases Jv;cases Kv;rw[P6]at hz;cases hz
   rw[hv]at hR
   wp_walk
   exact⟨_,rfl,by simpa[Builtin.Tuple.tupleCompareSizes] using hR⟩
  case h=>
   exact⟨rfl,rfl,items.toList,E4.toList,ks,js,rfl,hi,hj,hk,h⟩
theorem kU(l b:Addr)(items E4:Array Value)(n n2:Nat)(dd HL:Option Addr)(sl HM:Array (Option Value))(ks js:List Key)(hi:Vals (ks.map kV) items.toList)(hj:Vals (js.map kV) E4.toList)(hk:kinds ks=kinds js):
  Meets (Builtin.«tuple.__ge__» ⟨[.ref l,.ref b],[]⟩)
   (fun _ R s=>s.heap.get? l=some {cls:=.type "tuple",dict:=dd,data:=.seq items n,slots:=sl}/\s.heap.get? b=some {cls:=.type "tuple",dict:=HL,data:=.seq E4 n2,slots:=HM}/\R (.ok (.ret (.bool (!cS ks js)))) s):=
 .of_wp fun prog w A R s h=>by
  obtain⟨hp,g,d,tk,os⟩:=s;obtain⟨hl,hb,h⟩:=h;have f2:=R5;have z1:items.size=ks.length:=by have:=hi.length;simp at this;lia
  have z2:E4.size=js.length:=by have:=hj.length;simp at this;lia
  have z3:ks.length=js.length:=by have:=P4 List.length hk;simpa[kinds] using this
  wp_walk using wpAny_loadPart' hl,wpAny_loadPart' hb,Sj _ (fun dg b s'=>b.1=none/\s'=⟨hp,g,d,tk,os⟩/\∃(vs ws:List Value) (F5 F9:List Key),dg=vs.zip ws/\
   Vals (F5.map kV) vs/\Vals (F9.map kV) ws/\kinds F5=kinds F9/\R (.ok (.ret (.bool (!cS F5 F9)))) ⟨hp,g,d,tk,os⟩) _
  case turn=>
   rintro⟨y,x⟩ dg b s' ⟨Ku,rfl,vs,ws,F5,F9,hz,Jv,Kv,Hx,hR⟩;cases F5 with
   |nil=>
    cases Jv;rw[R6]at hz;cases hz
   |cons a F5=>
    cases F9 with
    |nil=>cases Hx
    |cons c F9=>
     cases Jv with
     | @cons _ va _ IJ ra hvi'=>
      cases Kv with
      | @cons _ vc _ Lq rc hwi'=>
       rw[P6]at hz;injection hz with hyx hrest;injection hyx with hy hx;subst hy hx;have Nt:a.isLeft=c.isLeft:=(QU Hx).1;have MP:kinds F5=kinds F9:=(QU Hx).2;rw[gQ]at hR;have he:=oS (A:=A.in1) (s:=⟨hp,g,d,tk,os⟩) ra rc;refine OR (he prog w _ _ ?_);by_cases hac:a=c
       ·rw[OZ hac]at hR;rw[Ph hac]
        wp_walk
        exact⟨rfl,rfl,_,_,_,_,hrest,hvi',hwi',MP,hR⟩
       ·rw[O5 hac]at hR;rw[Pa hac];have Nu:=fun E Q=>uw (prog:=prog) (w:=w) (A:=A.in1) (E:=E) (s:=⟨hp,g,d,tk,os⟩) (Q:=Q) ra rc Nt
        wp_walk using Nu
        exact⟨_,rfl,by simpa using hR⟩
  case fin=>
   rintro⟨b1,b2⟩ s' ⟨Ku,rfl,vs,ws,F5,F9,hz,Jv,Kv,Hx,hR⟩;simp only at Ku;subst Ku;have hv:(!cS F5 F9)=decide (E4.size<=items.size):=by
    cases F5 with
    |nil=>
     cases F9 with
     |nil=>exact(Ph (by lia)).symm
     |cons c F9=>cases Hx
    |cons a F5=>
     cases F9 with
     |nil=>cases Hx
     |cons c F9=>
      cases Jv;cases Kv;rw[P6]at hz;cases hz
   rw[hv]at hR
   wp_walk
   exact⟨_,rfl,by simpa[Builtin.Tuple.tupleCompareSizes] using hR⟩
  case h=>
   exact⟨rfl,rfl,items.toList,E4.toList,ks,js,rfl,hi,hj,hk,h⟩
end
section
variable{X:Cx}
def C2(K:W.Frag)(neg:Bool):R2:=fun x y H Q=>∃a b ks js,x=.ref a/\y=.ref b/\SqT K H a (ks.map kV)/\SqT K H b (js.map kV)/\kinds ks=kinds js/\Q (.bl (if neg then !cS ks js else cS ks js)) H
theorem zX(hu:X.A.units<cLine):EK X (compareOp .Lt) (C2 X.K false):=by
 intro pr s σ H x y v u Q I rx ry h;obtain⟨a,b,ks,js,rfl,rfl,ha,hb,hk,q⟩:=h;cases rx;cases ry;obtain⟨Eg,r1,p1,_⟩:=I.tuple ha;obtain⟨Hu,r2,p2,_⟩:=I.tuple hb;obtain⟨⟨cls,dd,data,sl⟩,ho,hc,n,hd⟩:=id p1;obtain⟨⟨Jo,HL,data2,HM⟩,FA,GV,n2,hd2⟩:=id p2;simp only at hc hd GV hd2;subst hc hd GV hd2;exact richCompare_meets_room (op:=.Lt) ⟨_,ho,rfl⟩ ⟨_,FA,rfl⟩ PySem.F.slot_tuple_lt PySem.F.entry_tuple_lt (PySem.F.args_tuple_lt_2 _ _) (kS a b _ _ n n2 dd HL sl HM ks js (by simpa using r1) (by simpa using r2) hk)
  ⟨ho,FA,show Value.bool (cS ks js)≠Value.notImplemented/\EP X pr σ Q (.bool (cS ks js)) s from⟨(fun x=>nomatch x),⟨.bl (cS ks js),H,I,rfl,q⟩⟩⟩ hu
theorem zY(hu:X.A.units<cLine):EK X (compareOp .GtE) (C2 X.K true):=by
 intro pr s σ H x y v u Q I rx ry h;obtain⟨a,b,ks,js,rfl,rfl,ha,hb,hk,q⟩:=h;cases rx;cases ry;obtain⟨Eg,r1,p1,_⟩:=I.tuple ha;obtain⟨Hu,r2,p2,_⟩:=I.tuple hb;obtain⟨⟨cls,dd,data,sl⟩,ho,hc,n,hd⟩:=id p1;obtain⟨⟨Jo,HL,data2,HM⟩,FA,GV,n2,hd2⟩:=id p2;simp only at hc hd GV hd2;subst hc hd GV hd2;exact richCompare_meets_room (op:=.GtE) ⟨_,ho,rfl⟩ ⟨_,FA,rfl⟩ PySem.F.slot_tuple_ge PySem.F.entry_tuple_ge (PySem.F.args_tuple_ge_2 _ _) (kU a b _ _ n n2 dd HL sl HM ks js (by simpa using r1) (by simpa using r2) hk)
  ⟨ho,FA,show Value.bool (!cS ks js)≠Value.notImplemented/\EP X pr σ Q (.bool (!cS ks js)) s from⟨(fun x=>nomatch x),⟨.bl (!cS ks js),H,I,rfl,q⟩⟩⟩ hu
end
section
variable{prog:Program}{w:World}{A:Around}{E:Value->Shared->Prop}{s:Shared}
end
def tDisp1T(tk tv:TE):TE:=fun σ H Q=>∀p,H p=none->tk σ (upd H p (.dT [])) fun x H1=>tv σ H1 fun y H2=>H2 p=some (.dT [])/\∃(ks:List Key) (b:Addr),x=.ref b/\H2 b=some (.tup (ks.map kV))/\Q (.ref p) (upd H2 p (.dT [(ks,y)]))
theorem qX{X:Cx}{pos:Pos}{k v:Expr}{tk tv:TE}(hu:X.A.units+1<cLine)(hk:PE X k tk)(hv:PE X v tv):PE X (.Dict [some k] [v] pos) (tDisp1T tk tv):=by
 intro pr s σ H Q I q;have hn:=I.hok.fresh (OW s.heap.objs.size);have I1:=I.laid (a:=s.heap.objs.size) (o:=.dT []) (h':=s.heap.push {cls:=.type "dict",data:=.dict #[]}) (t':=s.toks) (fun _ _ q=>Heap.get?_push_of_some _ q) (OW _) (dt_empty s.heap I.big);have hl:(pairTrees [some k] [v] X.env pos).length=1:=pairTrees_length [some k] [v] X.env pos rfl rfl;rw[arm_eval_Dict,zip_pairTrees [some k] [v] X.env pos rfl rfl,dictDisplay_pairs _ (fun z=>by rw[z]at hl;cases hl) (by rw[hl];decide)];refine OR (Tc (OR ?_));unfold subDict;refine OR (wpAny_alloc (OR (Qv ?_)));rw[OZ (by rw[hl];decide)];refine OR ?_;refine Ey (uq (pos:=pos) hk hv (xn (X:=X)) pr _ σ _ (fun ps H2=>match ps with
  |[(x,y)]=>H2 s.heap.objs.size=some (.dT [])/\∃(ks:List Key) (b:Addr),x=.ref b/\H2 b=some (.tup (ks.map kV))/\Q (.ref s.heap.objs.size) (upd H2 s.heap.objs.size (.dT [(ks,y)]))
  |_=>False) I1 (q _ hn)) fun vs s2 hh=>?_
 obtain⟨ps,H2,I2,rel,q2⟩:=hh;match ps,rel,q2 with
 |[(x,y)],rel,⟨e,ks,b,ex,eb,q3⟩=>
  cases rel with
  | @cons p0 q0 as bs h0 t0=>
   cases t0;obtain⟨u,r⟩:=q0;obtain⟨rx,ry⟩:=h0;subst ex;cases(show u=Value.ref b from rx);obtain⟨z,hd,xs,rl,dd⟩:=zV I2.hok e;cases rl;refine Qv ?_;refine OR ?_;rw[RK];refine OR (OR (wpAny_dictSet_heap (hsz:=PD _) (knd:=tupleKind (mixKind X.prog X.w)) (Tb (Qe _) hu) (kj I2.hok eb) dd fun h' J8 hs=>OU ?_));dsimp only;rw[SV];refine OU (OU (OU (OU ⟨.ref s.heap.objs.size,_,?_,rfl,q3⟩)));obtain⟨q,es,ep,hq,h2,h3,h4,_,h5⟩:=J8;refine nM I2 (by rw[e];exact True.intro) hs ⟨q,hq⟩ ⟨by rw[PL];exact(by decide:1<=16777216),hd,_,(KT.put (kvs:=[]) (xs:=[]) .nil ks eb ry).keeps fun c ys ec=>?_,q,es,ep,hq,h2,h3,h4,h5⟩;rw[ay (yZ ec e (fun z=>nomatch z))];exact ec
section
variable{X:Cx}{pr:List (Addr×Obj)}{σ:L2.St}{H:Hp}{s:Shared}{scope:Scope}{N:List Str}{ix:List (Option Nat)}{fp:List Addr}
end
section
variable{X:Cx}{scope:Scope}{N:List Str}{ix:List (Option Nat)}{tg iter elt:Expr}{ifs:List Expr}{pos:Pos}{wi:TI}{g:TG}{tc:TT}{te:TE}
end
theorem ook_get{P:Program}{w:World}{H:Hp}{h:Heap}{a:Addr}{o:HO}(x:ObjOk P w H h a o):∃u,h.get? a=some u:=by
 cases o with
 |lst xs=>obtain⟨_,_,_,_,e⟩:=x;exact⟨_,e⟩
 |tup xs=>obtain⟨_,_,_,_,e,_⟩:=x;exact⟨_,e⟩
 |dK kvs=>obtain⟨_,_,_,_,_,_,_,e,_⟩:=x;exact⟨_,e⟩
 |dT kvs=>obtain⟨_,_,_,_,_,_,_,e,_⟩:=x;exact⟨_,e⟩
 |set S n=>obtain⟨_,_,_,_,e,_⟩:=x;exact⟨_,e⟩
 |ins C dx fs=>obtain⟨_,_,_,e,_⟩:=x;exact⟨_,e⟩
 |own y=>exact x
 |xd fs=>obtain⟨_,⟨_,_,_,e,_⟩,_⟩:=x;exact⟨_,e⟩
 |rng lo hi=>obtain⟨_,_,_,e⟩:=x;exact⟨_,e⟩
 |frz ob u=>obtain⟨e,_⟩:=x;exact⟨_,e⟩
 |tbl ps=>exact⟨_,x⟩
 |met f y=>exact⟨_,x⟩
 |ext φ=>obtain⟨_,e,_⟩:=x;exact e
def Kw(mg:Str->Option Value)(base:Heap)(x:Str)(C:Addr):Prop:=∃B newId initId bm,ExcBaseFacts B newId initId bm/\OwnCls x C bm newId mg base
theorem zZ{K:W.Frag}{h:Heap}{mg:Str->Option Value}{x:Str}{C:Addr}{mB:List Value}{nw:String}(X:K.In h)(G:h.Ns mainGlobals mg)(e:PySem.W.nsIn K mainGlobals x=some (some (.ref C)))(q:PySem.W.excIn K C mB nw=true):OwnCls x C mB nw mg h:=by
 refine⟨RE X G e,?_⟩;unfold PySem.W.excIn at q;split at q
 ·rename_i zd cd sl ho;split at q
  ·rename_i C' mro z0 z1 z2 z3 z4 z5 hm hs;rw[O1,O1,O1,O1,O1]at q;obtain⟨⟨⟨⟨⟨q1,q2⟩,q3⟩,q4⟩,q5⟩,q6⟩:=q;have d1:=PN.mp q1;have d2:=PN.mp q2;have d6:=PN.mp q6;have d3:cd.hasDel=false:=by revert q3;cases cd.hasDel <;> decide
   clear q1 q2 q3 q6;subst d1;subst d2;cases cd;dsimp only at hm d3 q5 d6;subst hm;subst d3;have ez:sl = #[z0,z1,z2,z3,some (.builtin z4),z5]:=by
    cases sl;dsimp only at hs;rw[hs]
   subst ez;exact⟨_,_,_,_,_,_,_,_,_,_,_,_,_,_,_,_,_,X _ _ ho,.of_isNs (PySem.W.isNs_of_in X q5),PySem.W.nsMap_none_of_in X q5 d6,PySem.W.tail_of_in X q4⟩
  ·cases q
 ·cases q
noncomputable def Lr(P:Program)(w:World)(base:Heap)(C:Addr):Ig:=fun outer H s E e s'=>
 ∃(a t:Addr) (B:Heap) (H':Hp),e=.ref a/\s'.os=s.os/\AllBare s'.gens/\Un (F6 outer) [] H H' s.heap s'.heap/\HOk P w H' s'.heap/\Heap.FlyingW B outer a (.ref C) (.ref t) s'.heap/\
  (∀b u,s'.heap.get? b=some u->(H' b≠none\/∃o,s.heap.get? b=some o)->b∉F6 outer->B.get? b=some u)/\E (.ref C) none H'
def Acc(X:Cx)(C:Addr)(Ww:Hp->Prop):Prop:=∀(pr:List (Addr×Obj)) (σ:L2.St) (H:Hp) (s:Shared) (h':Heap) (a:Addr) (args:List Value),Inv X pr σ H s->Ww H->Heap.MadeExcOf s.heap h' a (.ref C) args->X.xe (.ref a) {s with heap:=h'}
theorem z6{P:Program}{w:World}{K:W.Frag}{mg:Str->Option Value}{base:Heap}{N:List Str}{qual:Str}{scope:Scope}{f C:Addr}{cd:Value}{A:Around}{outer:List Env}{s:Shared}{H:Hp}{E:XK}:
  Acc (qj (Lr P w base C) P w K mg base N qual scope f cd A outer s H E) C (fun H'=>E (.ref C) none H'):=by
 intro pr σ H1 s1 h' a args I hW hm;have Nv:∀b,b∈F6 (envOfC qual scope s.heap.objs.size f cd::outer)->b∈s.heap.objs.size::F6 outer:=I.stkSub;have nl:∀b o,s.heap.get? b=some o->b∉F6 outer->b∉F6 (envOfC qual scope s.heap.objs.size f cd::outer):=fun b o e n z=>by
  rcases O6.mp (Nv b z) with r|r
  ·exact absurd (OY e) (by rw[r];exact QQ _)
  ·exact n r
 have nt:∀b,H1 b≠none->b∉F6 (envOfC qual scope s.heap.objs.size f cd::outer):=fun b n z=>n (I.stkFree b z)
 refine wpAny_leaves_madeW (base:=PySem.W.hideAll s1.heap (F6 (envOfC qual scope s.heap.objs.size f cd::outer))) (L:=s.heap.objs.size) I.ok.frames rfl (fun b o q=>S6 _ q) (PySem.W.funFrames_hide I.stack fun env he b hb=>RP.mpr ⟨env,he,hb⟩) hm fun h2 t LV _ _ sm=>?_
 have k:∀b u,s1.heap.get? b=some u->b∉F6 (envOfC qual scope s.heap.objs.size f cd::outer)->h2.get? b=some u:=fun b u q n=>LV.1 b u (RH _ q n)
 have sl:∀b u,s1.heap.get? b=some u->b∈F6 outer->∃z,h2.get? b=some {u with slots:=z}:=fun b u q n=>by
  obtain⟨_,o,ho,hd⟩:=I.funs.mem n;rw[q]at ho;cases ho;exact sm b u (hm.keeps b u q) hd
 have there:∀b o,s.heap.get? b=some o->∃o',s1.heap.get? b=some o':=fun b o q=>I.base.there b o q (fun z=>nomatch z)
 refine⟨a,t,_,H1,rfl,I.os,I.bare,⟨fun b o q n hb hx=>k b o (I.base.keep b o q n hb hx) (nl b o q hb),fun b o q n hb hx=>?_,I.base.free,fun b o q hx=>?_,I.base.tups,I.base.frzs,I.base.tbls⟩,fun b o e=>?_,LV,fun b u q hb n=>?_,hW⟩
 ·obtain⟨z,e⟩:=I.base.slot b o q n hb hx;obtain⟨z',e'⟩:=sl b _ e hb;exact⟨z',e'⟩
 ·obtain⟨o',e⟩:=there b o q;by_cases hb:b∈F6 outer
  ·obtain⟨z,e'⟩:=sl b o' e hb;exact⟨_,e'⟩
  ·exact⟨o',k b o' e (nl b o q hb)⟩
 ·refine(I.hok b o e).stay (fun c u hc q=>k c u q (nt c ?_)) (fun _ q=>q) fun _ _ q=>q
  rcases hc with rfl|hc
  ·rw[e];exact fun z=>nomatch z
  ·rw[hc];exact fun z=>nomatch z
 ·have h1:∃u0,s1.heap.get? b=some u0/\b∉F6 (envOfC qual scope s.heap.objs.size f cd::outer):=by
   rcases hb with hb|⟨o,ho⟩
   ·cases hq:H1 b with
    |none=>exact absurd hq hb
    |some ho=>
     obtain⟨u0,e0⟩:=ook_get (I.hok b ho hq);exact⟨u0,e0,nt b hb⟩
   ·obtain⟨o',e⟩:=there b o ho;exact⟨o',e,nl b o ho n⟩
  obtain⟨u0,e0,n0⟩:=h1;have:=k b u0 e0 n0;rw[show h2.get? b=some u from q]at this;cases this;exact RH _ e0 n0
def PX(X:Cx)(st:List Stmt)(t:L2.St->Hp->Prop):Prop:=
 ∀(pr:List (Addr×Obj)) (s:Shared) (σ:L2.St) (H:Hp),Inv X pr σ H s->t σ H->wpAny (model X.prog X.w) X.A (execs st X.env) (fun _ _=>False) X.xe s
section
variable{X:Cx}{st:Stmt}{dg:List Stmt}{t:TS}{u u':L2.St->Hp->Prop}{e:Expr}{es:List Expr}{x:Str}{C:Addr}{Ww:Hp->Prop}{np Eo pos:Pos}
theorem ux{ta:TA}(O:Kw X.mg X.base x C)(acc:Acc X C Ww)(hc:X.calm=true)(hg:Gl X x)(ha:PA X (e::es) ta)(Fm:(x==("__debug__" : Str))=false:=by decide)
  (he:starEach (e::es) X.env=(false,eval e X.env)::starEach es X.env:=by rfl) (Fd:(backTo Eo (starEach es X.env)).any (·.1)=false:=by rfl):
  PX X (.Raise (some (.Call (.Name x np) (e::es) [] Eo)) none pos::dg) (fun σ H=>ta σ H fun vs H1=>vs.length<=sizeLine/\Ww H1):=by
 intro pr s σ H I h;obtain⟨B,nw,ini,bm,FB,O⟩:=O;obtain⟨tl,N,nm,q,bs,hdct,sn,sub,ab,col,dd,k0,k1,k2,k3,k5,mN,hC,hN,Oh,T⟩:=O.obj;refine QV (wpAny_Raise_call_subT (C:=C) (nm:=nm) (q:=q) (N:=N) (bs:=bs) (bm:=tl) (hdct:=hdct) (sn:=sn) (sub:=sub) (ab:=ab) (col:=col) (dd:=dd) (k0:=k0) (k1:=k1) (k2:=k2) (k3:=k3) (k5:=k5) FB (mN:=mN) (T.hasType FB.hasBase) (I.ok.hd hc) (by rw[he];show(false||(backTo Eo (starEach es X.env)).any (·.1))=false;rw[Fd];rfl) Oh (jh I hg O.bound ⟨rfl,?_⟩ Fm));have z:=ha Eo pr s σ H _ I h;rw[he]at z ⊢;exact Rz (PH z (fun us s2 ⟨vs,H1,I1,r,hl,hw⟩=>⟨rfl,by rw[<-r.length];exact hl,I1.bk _ _ hC,hN.keeps I1.bk,T.keeps I1.bk,fun h' a hm=>acc pr σ H1 s2 h' a us I1 hw hm⟩) fun _ _ y=>y)
theorem xt(h1:PS X st t)(h2:PX X dg u):PX X (st::dg) (fun σ H=>t {nx:=u,rt:=fun _ _=>False} σ H):=by
 intro pr s σ H I h;refine QV (Ey (h1 pr s σ H _ I h) fun f s1 q=>?_);cases f with
 |next=>
  obtain⟨σ',H',I',q⟩:=q;exact h2 pr s1 σ' H' I' q
 |ret v=>obtain⟨_,_,_,_,_,q⟩:=q;exact q
 |brk=>obtain⟨_,_,_,q⟩:=q;exact q
 |cont=>obtain⟨_,_,_,q⟩:=q;exact q
theorem Ce{c:Expr}{a b:List Stmt}{tc:TT}(hc:PT X c tc)(ha:PX X a u):PX X (.If c a b pos::dg) (fun σ H=>tc σ H fun bb H1=>bb=true/\u σ H1):=by
 intro pr s σ H I h;refine QV (wpAny_If (Ey (hc pr s σ H _ I h) fun d s1 Ez=>?_));obtain⟨H1,I1,e,q⟩:=Ez;subst e;exact PH (ha pr s1 σ H1 I1 q) (fun _ _ z=>z.elim) fun _ _ z=>z
theorem qY(h:PX X dg u)(k:∀σ H,u' σ H->u σ H):PX X dg u':=fun pr s σ H I z=>h pr s σ H I (k σ H z)
theorem z7(h:PX X dg u):PSs X dg (fun _ σ H=>u σ H):=fun pr s σ H _ I z=>PH (h pr s σ H I z) (fun _ _ z=>z.elim) fun _ _ z=>z
theorem z8(h:PS X.nox st t):PS X st t:=fun pr s σ H D I hw=>PH (h pr s σ H D (I.wish _) hw) (fun _ _ q=>q.unwish) fun _ _ z=>False.elim z
theorem z9{t:TA}(h:PA X.nox es t):PA X es t:=fun p pr s σ H Q I hw=>PH (h p pr s σ H Q (I.wish _) hw) (fun _ _ ⟨v,H',I',r,q⟩=>⟨v,H',I'.unwish,r,q⟩) fun _ _ z=>False.elim z
end
def CtX(P:Program)(w:World)(K:W.Frag)(mg:Str->Option Value)(base:Heap)(x:Str)(k:Nat)(C:Addr)(sp:Sp):Prop:=
 ∃f fd ps,FnOk P w K mg base (Lr P w base C) k f fd ps sp/\mg x=some (.ref f)/\PySem.W.keepIn K (.ref f)=true/\Binds K fd ps []
theorem xu{P:Program}{w:World}{K:W.Frag}{mg:Str->Option Value}{base:Heap}{x qual:Str}{st:Stmt}{f C:Addr}{fd:FuncData}{N ps:List Str}{k:Nat}{sp:Sp}(F:Fun K x qual st f fd)(S:FnScope N ps (defScope st))(len:∀vs H Q E,sp vs H Q E->vs.length=ps.length)
  (He:∀(EF:Value) (A:Around) (outer:List Env) (s:Shared) (H:Hp) (vs:List V) (Q:VK) (E:XK),Room k (A.deeper (envOfC qual (defScope st) s.heap.objs.size f EF))->sp vs H Q E->
   ∃t,PX (qj (Lr P w base C) P w K mg base N qual (defScope st) f EF A outer s H E) (bU st) t/\t (hJ N vs) H):FnOk P w K mg base (Lr P w base C) (k+1) f fd ps sp:=by
 obtain⟨oc,od,kV,doc,pm,an,EF,ct,IE,rfl,lk,GU⟩:=F.ex;refine zt lk GU S len fun A outer s H vs Q E hr Jh=>?_
 obtain⟨t,h,q⟩:=He EF A outer s H vs Q E hr Jh;exact⟨_,z7 h,q⟩
def XP(X:Cx)(pr:List (Addr×Obj))(σ:L2.St)(C:Addr)(Ww:Hp->Prop)(e:Value)(s':Shared):Prop:=∃(s1:Shared) (H1:Hp),Inv X pr σ H1 s1/\Lr X.prog X.w X.base C X.stack H1 s1 (fun _ _ H'=>Ww H') e s'
abbrev TX:=L2.St->Hp->(Hp->Prop)->Prop
def Nw(X:Cx)(e:Expr)(C:Addr)(t:TX):Prop:=∀(pr:List (Addr×Obj)) (s:Shared) (σ:L2.St) (H:Hp) (Ww:Hp->Prop),Inv X pr σ H s->t σ H Ww->wpAny (model X.prog X.w) X.A (eval e X.env) (fun _ _=>False) (XP X pr σ C Ww) s
def Nx(X:Cx)(st:List Stmt)(C:Addr)(t:TX):Prop:=∀(pr:List (Addr×Obj)) (s:Shared) (σ:L2.St) (H:Hp) (Ww:Hp->Prop),Inv X pr σ H s->t σ H Ww->wpAny (model X.prog X.w) X.A (execs st X.env) (fun _ _=>False) (XP X pr σ C Ww) s
section
variable{X:Cx}{st:Stmt}{dg:List Stmt}{tx:TX}{e a b:Expr}{es:List Expr}{x:Str}{C:Addr}{k:Nat}{sp:Sp}{p pos:Pos}
theorem uy{t:TA}(c:CtX X.prog X.w X.K X.mg X.base x k C sp)(hr:Room k X.A)(hg:Gl X x)(ha:PA X.nox (e::es) t)(Fm:(x==("__debug__" : Str))=false:=by decide)
  (he:starEach (e::es) X.env=(false,eval e X.env)::starEach es X.env:=by rfl) (Fd:(backTo pos (starEach es X.env)).any (·.1)=false:=by rfl):
  Nw X (.Call (.Name x p) (e::es) [] pos) C (fun σ H Ww=>t σ H fun vs H1=>sp vs H1 (fun _ _=>False) fun _ _ H'=>Ww H'):=by
 intro pr s σ H Ww I h;obtain⟨f,fd,ps,F,m,kp,b⟩:=c;refine Q0 (jh I hg m ?_ Fm);refine S7 (h₀:=X.base) I.ok.mod.kin kp (PH (ha pos pr s σ H _ (I.wish _) h) (fun us s1 ⟨vs,H1,I1,r,q⟩=>⟨I1.kIn,?_⟩) fun _ _ z=>z.elim) he Fd;have I1:=I1.unwish;have hl:us.length=ps.length:=by rw[<-r.length];exact F.len _ _ _ _ q
 have hb:BindsTo s1 fd ⟨us,[]⟩ (ps.zip us):=by
  have:=b s1 us I1.kIn (by rw[O8];exact hl);rw[O8]at this;exact this
 refine wpAny_call (Sw (F.run X.A X.stack s1 H1 ⟨us,[]⟩ us vs _ _ hr I1.env0 hb r q) fun r s' hq=>?_);cases r with
 |error e=>exact⟨s1,H1,I1,hq⟩
 |ok fl=>
  cases fl with
  |ret u=>obtain⟨_,_,_,_,_,_,_,z⟩:=hq;exact z.elim
  |next=>exact False.elim hq
  |brk=>exact False.elim hq
  |cont=>exact False.elim hq
theorem xv{y:Str}{pos':Pos}(h:Nw X e C tx)(hs:swapsWith e (some (.Name y pos')) pos.line X.env=pure false:=by rfl):Nx X (.Assign [.Name y pos'] e pos::dg) C tx:=fun pr s σ H Ww I z=>
 QV (wpAny_Assign_Name (PH (h pr s σ H Ww I z) (fun _ _ z=>z.elim) fun _ _ z=>z) hs)
end
abbrev handX(X:Cx)(a:Addr):Cx:={X with A:=X.A.mark (some (.ref a)),calm:=false,xe:=fun _ _=>False}
theorem oT{X:Cx}{pr:List (Addr×Obj)}{σ:L2.St}{H:Hp}{s:Shared}(I:Inv X pr σ H s)(a:Addr):Inv (handX X a) pr σ H s:=
 ⟨⟨I.ok.mod,I.ok.kind,I.ok.glob,I.ok.blt,I.ok.above,I.ok.inj,I.ok.has,I.ok.cab,(fun z=>nomatch z),I.ok.frames,I.ok.stk,I.ok.exf,I.ok.bs,I.ok.bsz,I.ok.noex,I.ok.exfs,I.ok.funs,I.ok.frf⟩,I.os,I.bare,I.base,I.loc,I.cell,I.free,I.freeC,I.pin,I.hok,I.len⟩
theorem fQ{X:Cx}{pr:List (Addr×Obj)}{σ:L2.St}{H:Hp}{s:Shared}{a:Addr}(ok:X.Ok)(I:Inv (handX X a) pr σ H s):Inv X pr σ H s:=⟨ok,I.os,I.bare,I.base,I.loc,I.cell,I.free,I.freeC,I.pin,I.hok,I.len⟩
theorem qZ{X:Cx}{pr:List (Addr×Obj)}{D:Ends}{f:Flow}{s:Shared}{a:Addr}(ok:X.Ok)(h:SP (handX X a) pr D f s):SP X pr D f s:=by
 cases f with
 |next=>obtain⟨σ',H',I,q⟩:=h;exact⟨σ',H',fQ ok I,q⟩
 |brk=>obtain⟨σ',H',I,q⟩:=h;exact⟨σ',H',fQ ok I,q⟩
 |cont=>obtain⟨σ',H',I,q⟩:=h;exact⟨σ',H',fQ ok I,q⟩
 |ret u=>obtain⟨v,σ',H',I,r,q⟩:=h;exact⟨v,σ',H',fQ ok I,r,q⟩
theorem Aa{X:Cx}{body Hg:List Stmt}{b0:Stmt}{x:Str}{C:Addr}{np Kx pos:Pos}{t th:TS}{tx:TX}(O:Kw X.mg X.base x C)(hg:Gl X x)(hn:PSs X.nox body t)(hx:Nx X body C tx)(hh:∀a,PSs (handX X a) (b0::Hg) th)
  (hs:X.stack=X.env::X.outer:=by rfl) (hf:X.env.frame=some X.env.locals:=by rfl) (Fm:(x==("__debug__" : Str))=false:=by decide):
  PS X (.Try body [.ExceptHandler (some (.Name x np)) none (b0::Hg) Kx] [] [] pos) (fun D σ H=>t D σ H\/tx σ H fun H'=>th D σ H'):=by
 intro pr s σ H D I h;rcases h with h|h
 ·refine wpAny_Try_except (PH (hn pr s σ H D (I.wish _) h) (fun f s1 q=>?_) fun _ _ z=>z.elim);have q:=q.unwish;cases f with
  |next=>exact Rf q
  |ret v=>exact q
  |brk=>exact q
  |cont=>exact q
 refine wpAny_Try_except (PH (hx pr s σ H _ I h) (fun _ _ z=>z.elim) fun e s1 z=>?_);obtain⟨s0,H1,I1,a,tt,B,H',rfl,Jp,hgen,un,hok,LV,Ny,hW⟩:=z;have key:∀h6:Heap,Heap.FlyingW B X.stack a (.ref C) (.ref tt) h6->s1.heap.UpToSlots h6->Inv X pr σ H' {s1 with heap:=h6}:=fun h6 f6 sm=>by
  have nt:∀b,H' b≠none->b∉F6 X.stack:=fun b n z=>by
   obtain⟨_,o,ho,_⟩:=I1.stack.mem z;exact n (un.free b o ho (I1.stkFree b z) fun z=>nomatch z)
  have sl:∀b u,s1.heap.get? b=some u->b∈F6 X.stack->∃z,h6.get? b=some {u with slots:=z}:=fun b u q n=>by
   obtain⟨_,o,ho,hd⟩:=LV.2.2.1.mem n;rw[q]at ho;cases ho;exact sm b u q hd
  refine I1.call' (ch:=[]) Jp ⟨fun b o q n hb hx=>?_,fun b o q n hb hx=>?_,un.free,fun b o q hx=>?_,un.tups,un.frzs,un.tbls⟩ (fun b o e=>?_) hgen fun b z=>nomatch z
  ·have:=un.keep b o q n hb hx;exact f6.1 b o (Ny b o this (.inr ⟨o,q⟩) hb)
  ·obtain⟨z,e⟩:=un.slot b o q n hb hx;obtain⟨z',e'⟩:=sl b _ e hb;exact⟨z',e'⟩
  ·obtain⟨o',e⟩:=un.there b o q hx;by_cases hb:b∈F6 X.stack
   ·obtain⟨z,e'⟩:=sl b o' e hb;exact⟨_,e'⟩
   ·exact⟨o',f6.1 b o' (Ny b o' e (.inr ⟨o,q⟩) hb)⟩
  ·refine(hok b o e).stay (fun c u hc q=>?_) (fun _ q=>q) fun _ _ q=>q
   have hc:H' c≠none:=by
    rcases hc with rfl|hc
    ·rw[e];exact fun z=>nomatch z
    ·rw[hc];exact fun z=>nomatch z
   exact f6.1 c u (Ny c u q (.inl hc) (nt c hc))
 have fl:Heap.FlyingW B (X.env::X.outer) a (.ref C) (.ref tt) s1.heap:=by rw[<-hs];exact LV
 refine wpAny_looks_onW (by rw[<-hs];exact I1.ok.frames) hf fl fun h4 LX sm4=>?_
 refine wpAny_landsW LX fun h5 Ky sm5=>?_
 have LY:=sm4.trans sm5;have I5:=oT (key h5 (by rw[hs];exact Ky) LY) a;obtain⟨ob,Kz,hobc⟩:=Ky.there;refine wpAny_handleBy_cons (codeAny_handlers_test (jh I5 hg (show(handX X a).mg x=some (.ref C) from by obtain⟨_,_,_,_,_,O⟩:=O;exact O.bound) ?_ Fm)) (by intro q;cases q);obtain⟨_,_,_,bm,FB,O⟩:=O;obtain⟨tl,N,nm,q,bs,hdct,sn,sub,ab,col,dd,k0,k1,k2,k3,k5,mN,hC,hN,Oh,T⟩:=O.obj;refine wpAny_excMatches_sub_self (I5.bk _ _ hC) Kz hobc (T.hasType FB.hasBase) (codeAny_handlers_suite ?_);refine lands_againW Ky fun h6 fly6 sm6=>?_
 have I6:=key h6 (by rw[hs];exact fly6) (LY.trans sm6);exact PH (hh a pr _ σ H' D (oT I6 a) hW) (fun f s2 q=>qZ I6.ok q) fun _ _ z=>z.elim
open PySem.Builtin.ObjectAttr PySem.Builtin.Getset_descriptor
section
variable{prog:Program}{w:World}{A:Around}{E:Value->Shared->Prop}{s:Shared}{K:W.Frag}{x D:Addr}
end
section
variable{X:Cx}{pr:List (Addr×Obj)}{σ:L2.St}{H:Hp}{s:Shared}{a:Addr}{o:Obj}
end
end NX
namespace NX
open PySem PySem.W PySem.Spec PyProof.Rows L2
section
variable{prog:Program}{w:World}{A:Around}{E:Value->Shared->Prop}{s:Shared}
end
section
variable{X:Cx}
end
end NX
namespace NX
open PySem PySem.Spec PyProof.Rows L2
section
variable{X:Cx}{es:List Expr}{kt:Nat}{pt:Pos}
end
end NX
namespace PV
open PySem L2 NX
inductive D where
 |non|bl (b:Bool)|int (i:Int)|str (l:List Nat)|tup (ds:List D)|lst (ds:List D)|dct (tk:Bool) (ks vs:List D)
inductive O where
 |f|l (c:O)|t (cs:List O)|d|pin (p:Addr) (c:O)
abbrev R:=O×D
abbrev Env:=List (Option R)
inductive Res(α:Type) where
 |ok (a:α)|exc (c:List Nat)|bad
def kD:Key->D
 | .inl i=>.int i
 | .inr x=>.str x.cps.toList
def isM:HO->Bool
 | .lst _=>true
 | .dK _=>true
 | .dT _=>true
 |_=>false
def isT:HO->Bool
 | .tup _=>true
 | .frz _ (.tup _)=>true
 |_=>false
def uz:Key->Prop
 | .inl _=>True
 | .inr x=>x.cps.toList.length<=sizeLine
def DictO(o:HO)(tk:Bool)(ks:List D)(xs:List V):Prop:=match tk with
 |true=>∃kvs:List (List Key×V),o=.dT kvs/\ks=kvs.map (fun kv=>D.tup (kv.1.map kD))/\xs=kvs.map (·.2)/\∀kv∈kvs,∀k∈kv.1,uz k
 |false=>∃kvs:List (Key×V),o=.dK kvs/\ks=kvs.map (fun kv=>kD kv.1)/\xs=kvs.map (·.2)/\∀kv∈kvs,uz kv.1
mutual
noncomputable def Rep(K:W.Frag)(G:Hp):D->V->Prop
 | .non,v=>v=.non
 | .bl b,v=>v=.bl b
 | .int i,v=>v=.int i
 | .str l,v=>v=.str (S l)/\l.length<=sizeLine
 | .tup ds,v=>∃p xs,v=.ref p/\G p=some (.tup xs)/\Reps K G ds xs
 | .lst ds,v=>∃p xs,v=.ref p/\SqL K G p xs/\Reps K G ds xs
 | .dct tk ks vs,v=>∃p xs o,v=.ref p/\Rd G p o/\DictO o tk ks xs/\Reps K G vs xs
noncomputable def Reps(K:W.Frag)(G:Hp):List D->List V->Prop
 |[],xs=>xs=[]
 |d::ds,xs=>∃y ys,xs=y::ys/\Rep K G d y/\Reps K G ds ys
end
def AllO(P:D->V->List Addr->Prop):List D->List V->List Addr->Prop
 |[],xs,fp=>xs=[]/\fp=[]
 |d::ds,xs,fp=>∃y ys a b,xs=y::ys/\fp=a++b/\P d y a/\AllO P ds ys b
mutual
noncomputable def RepO(K:W.Frag)(G H:Hp):O->D->V->List Addr->Prop
 | .f,d,v,fp=>Rep K G d v/\fp=[]
 | .l c,.lst ds,v,fp=>∃p xs Ej,v=.ref p/\H p=some (.lst xs)/\fp=p::Ej/\AllO (RepO K G H c) ds xs Ej
 | .t cs,.tup ds,v,fp=>∃p xs,v=.ref p/\G p=some (.tup xs)/\RepT K G H cs ds xs fp
 | .d,.dct tk ks vs,v,fp=>∃p xs o,v=.ref p/\H p=some o/\DictO o tk ks xs/\fp=[p]/\Reps K G vs xs
 | .pin p c,d,v,fp=>v=.ref p/\RepO K G H c d v fp
 |_,_,_,_=>False
noncomputable def RepT(K:W.Frag)(G H:Hp):List O->List D->List V->List Addr->Prop
 |[],[],xs,fp=>xs=[]/\fp=[]
 |c::cs,d::ds,xs,fp=>∃y ys a b,xs=y::ys/\fp=a++b/\RepO K G H c d y a/\RepT K G H cs ds ys b
 |_,_,_,_=>False
end
section
variable{K:W.Frag}{G G' H H':Hp}
theorem Rd.mono{p:Addr}{u:HO}(h:Same G G')(r:Rd G p u):Rd G' p u:=by
 rcases r with r|⟨o,r⟩
 ·exact .inl (h _ _ r)
 ·exact .inr ⟨o,h _ _ r⟩
theorem fR{p:Addr}{xs:List V}(h:Same G G')(r:SqL K G p xs):SqL K G' p xs:=r.elim (fun r=>.inl (Rd.mono h r)) .inr
theorem br{p:Addr}{xs:List V}(h:Same G G')(r:SqT K G p xs):SqT K G' p xs:=r.elim (fun r=>.inl (Rd.mono h r)) .inr
mutual
theorem Rep.mono(h:Same G G'):∀{d:D}{v:V},Rep K G d v->Rep K G' d v
 | .non,_,r=>by simpa only[Rep] using r
 | .bl _,_,r=>by simpa only[Rep] using r
 | .int _,_,r=>by simpa only[Rep] using r
 | .str _,_,r=>by simpa only[Rep] using r
 | .tup ds,_,r=>by
  simp only[Rep]at r ⊢;obtain⟨p,xs,e,q,rs⟩:=r;exact⟨p,xs,e,h _ _ q,Reps.mono h rs⟩
 | .lst ds,_,r=>by
  simp only[Rep]at r ⊢;obtain⟨p,xs,e,q,rs⟩:=r;exact⟨p,xs,e,fR h q,Reps.mono h rs⟩
 | .dct tk ks vs,_,r=>by
  simp only[Rep]at r ⊢;obtain⟨p,xs,o,e,q,dd,rs⟩:=r;exact⟨p,xs,o,e,Rd.mono h q,dd,Reps.mono h rs⟩
theorem Reps.mono(h:Same G G'):∀{ds:List D}{xs:List V},Reps K G ds xs->Reps K G' ds xs
 |[],_,r=>by simpa only[Reps] using r
 |d::ds,_,r=>by
  simp only[Reps]at r ⊢;obtain⟨y,ys,e,r1,r2⟩:=r;exact⟨y,ys,e,Rep.mono h r1,Reps.mono h r2⟩
end
theorem AllO.imp{P P':D->V->List Addr->Prop}:∀{ds:List D}{xs:List V}{fp:List Addr},(∀d v a,(∀p∈a,p∈fp)->P d v a->P' d v a)->AllO P ds xs fp->AllO P' ds xs fp
 |[],_,_,_,r=>r
 |d::ds,xs,fp,h,r=>by
  obtain⟨y,ys,a,b,e1,e2,p,q⟩:=r;subst e2;exact⟨y,ys,a,b,e1,rfl,h _ _ _ (fun p hp=>O3 _ hp) p,AllO.imp (fun d v c hc=>h d v c fun p hp=>OV _ (hc p hp)) q⟩
mutual
theorem RepO.step(h:Same G G'):∀{o:O}{d:D}{v:V}{fp:List Addr},(∀p∈fp,H' p=H p)->RepO K G H o d v fp->RepO K G' H' o d v fp
 | .f,d,v,fp,hk,r=>by
  simp only[RepO]at r ⊢;exact⟨Rep.mono h r.1,r.2⟩
 | .pin p c,d,v,fp,hk,r=>by
  simp only[RepO]at r ⊢;exact⟨r.1,RepO.step h hk r.2⟩
 | .l c,.lst ds,v,fp,hk,r=>by
  simp only[RepO]at r ⊢;obtain⟨p,xs,Ej,e,q,e2,a⟩:=r;subst e2;exact⟨p,xs,Ej,e,(hk p OX).trans q,rfl,AllO.imp (fun d v c hc=>RepO.step h fun z hz=>hk z (O7 _ (hc z hz))) a⟩
 | .t cs,.tup ds,v,fp,hk,r=>by
  simp only[RepO]at r ⊢;obtain⟨p,xs,e,q,a⟩:=r;exact⟨p,xs,e,h _ _ q,RepT.step h hk a⟩
 | .d,.dct tk ks vs,v,fp,hk,r=>by
  simp only[RepO]at r ⊢;obtain⟨p,xs,o,e,q,dd,e2,rs⟩:=r;subst e2;exact⟨p,xs,o,e,(hk p OX).trans q,dd,rfl,Reps.mono h rs⟩
 | .l _,.non,_,_,_,r | .l _,.bl _,_,_,_,r | .l _,.int _,_,_,_,r | .l _,.str _,_,_,_,r | .l _,.tup _,_,_,_,r | .l _,.dct _ _ _,_,_,_,r=>by simp only[RepO]at r
 | .t _,.non,_,_,_,r | .t _,.bl _,_,_,_,r | .t _,.int _,_,_,_,r | .t _,.str _,_,_,_,r | .t _,.lst _,_,_,_,r | .t _,.dct _ _ _,_,_,_,r=>by simp only[RepO]at r
 | .d,.non,_,_,_,r | .d,.bl _,_,_,_,r | .d,.int _,_,_,_,r | .d,.str _,_,_,_,r | .d,.tup _,_,_,_,r | .d,.lst _,_,_,_,r=>by simp only[RepO]at r
theorem RepT.step(h:Same G G'):∀{cs:List O}{ds:List D}{xs:List V}{fp:List Addr},(∀p∈fp,H' p=H p)->RepT K G H cs ds xs fp->RepT K G' H' cs ds xs fp
 |[],[],_,_,_,r=>by simpa only[RepT] using r
 |c::cs,d::ds,xs,fp,hk,r=>by
  simp only[RepT]at r ⊢;obtain⟨y,ys,a,b,e1,e2,r1,r2⟩:=r;subst e2;exact⟨y,ys,a,b,e1,rfl,RepO.step h (fun p hp=>hk p (O3 _ hp)) r1,RepT.step h (fun p hp=>hk p (OV _ hp)) r2⟩
 |[],_::_,_,_,_,r=>by simp only[RepT]at r
 |_::_,[],_,_,_,r=>by simp only[RepT]at r
end
theorem AllO.frozen{P:D->V->List Addr->Prop}:∀{ds:List D}{xs:List V}{fp:List Addr},(∀d v a,(∀p∈a,p∈fp)->P d v a->Rep K G' d v)->AllO P ds xs fp->Reps K G' ds xs
 |[],_,_,_,r=>by simp only[Reps];exact r.1
 |d::ds,xs,fp,h,r=>by
  obtain⟨y,ys,a,b,e1,e2,p,q⟩:=r;subst e2;simp only[Reps];exact⟨y,ys,e1,h _ _ _ (fun p hp=>O3 _ hp) p,AllO.frozen (fun d v c hc=>h d v c fun p hp=>OV _ (hc p hp)) q⟩
mutual
theorem RepO.frozen(h:Same G G'):∀{o:O}{d:D}{v:V}{fp:List Addr},(∀p∈fp,∀u,H p=some u->G' p=some u)->RepO K G H o d v fp->Rep K G' d v
 | .f,d,v,fp,hk,r=>by
  simp only[RepO]at r;exact Rep.mono h r.1
 | .pin p c,d,v,fp,hk,r=>by
  simp only[RepO]at r;exact RepO.frozen h hk r.2
 | .l c,.lst ds,v,fp,hk,r=>by
  simp only[RepO]at r;simp only[Rep];obtain⟨p,xs,Ej,e,q,e2,a⟩:=r;subst e2;exact⟨p,xs,e,SqL.of (hk p OX _ q),AllO.frozen (fun d v c hc=>RepO.frozen h fun z hz=>hk z (O7 _ (hc z hz))) a⟩
 | .t cs,.tup ds,v,fp,hk,r=>by
  simp only[RepO]at r;simp only[Rep];obtain⟨p,xs,e,q,a⟩:=r;exact⟨p,xs,e,h _ _ q,RepT.frozen h hk a⟩
 | .d,.dct tk ks vs,v,fp,hk,r=>by
  simp only[RepO]at r;simp only[Rep];obtain⟨p,xs,o,e,q,dd,e2,rs⟩:=r;subst e2;exact⟨p,xs,o,e,.inl (hk p OX _ q),dd,Reps.mono h rs⟩
 | .l _,.non,_,_,_,r | .l _,.bl _,_,_,_,r | .l _,.int _,_,_,_,r | .l _,.str _,_,_,_,r | .l _,.tup _,_,_,_,r | .l _,.dct _ _ _,_,_,_,r=>by simp only[RepO]at r
 | .t _,.non,_,_,_,r | .t _,.bl _,_,_,_,r | .t _,.int _,_,_,_,r | .t _,.str _,_,_,_,r | .t _,.lst _,_,_,_,r | .t _,.dct _ _ _,_,_,_,r=>by simp only[RepO]at r
 | .d,.non,_,_,_,r | .d,.bl _,_,_,_,r | .d,.int _,_,_,_,r | .d,.str _,_,_,_,r | .d,.tup _,_,_,_,r | .d,.lst _,_,_,_,r=>by simp only[RepO]at r
theorem RepT.frozen(h:Same G G'):∀{cs:List O}{ds:List D}{xs:List V}{fp:List Addr},(∀p∈fp,∀u,H p=some u->G' p=some u)->RepT K G H cs ds xs fp->Reps K G' ds xs
 |[],[],_,_,_,r=>by simp only[RepT]at r;simp only[Reps];exact r.1
 |c::cs,d::ds,xs,fp,hk,r=>by
  simp only[RepT]at r;simp only[Reps];obtain⟨y,ys,a,b,e1,e2,r1,r2⟩:=r;subst e2;exact⟨y,ys,e1,RepO.frozen h (fun p hp=>hk p (O3 _ hp)) r1,RepT.frozen h (fun p hp=>hk p (OV _ hp)) r2⟩
 |[],_::_,_,_,_,r=>by simp only[RepT]at r
 |_::_,[],_,_,_,r=>by simp only[RepT]at r
end
theorem AllO.live{P:D->V->List Addr->Prop}:∀{ds:List D}{xs:List V}{fp:List Addr},(∀d v a,P d v a->∀p∈a,∃u,H p=some u)->AllO P ds xs fp->∀p∈fp,∃u,H p=some u
 |[],_,_,_,r=>by rw[r.2];intro p hp;cases hp
 |d::ds,xs,fp,h,r=>by
  obtain⟨y,ys,a,b,e1,e2,p,q⟩:=r;subst e2;intro z hz;rcases Pj.mp hz with hz|hz
  ·exact h _ _ _ p z hz
  ·exact AllO.live h q z hz
mutual
theorem RepO.live:∀{o:O}{d:D}{v:V}{fp:List Addr},RepO K G H o d v fp->∀p∈fp,∃u,H p=some u
 | .f,d,v,fp,r=>by
  simp only[RepO]at r;rw[r.2];intro p hp;cases hp
 | .pin p c,d,v,fp,r=>by
  simp only[RepO]at r;exact RepO.live r.2
 | .l c,.lst ds,v,fp,r=>by
  simp only[RepO]at r;obtain⟨p,xs,Ej,e,q,e2,a⟩:=r;subst e2;intro z hz;rcases O6.mp hz with rfl|hz
  ·exact⟨_,q⟩
  ·exact AllO.live (fun d v a=>RepO.live) a z hz
 | .t cs,.tup ds,v,fp,r=>by
  simp only[RepO]at r;obtain⟨p,xs,e,q,a⟩:=r;exact RepT.live a
 | .d,.dct tk ks vs,v,fp,r=>by
  simp only[RepO]at r;obtain⟨p,xs,o,e,q,dd,e2,rs⟩:=r;subst e2;intro z hz;rw[Pr]at hz;exact⟨_,hz▸q⟩
 | .l _,.non,_,_,r | .l _,.bl _,_,_,r | .l _,.int _,_,_,r | .l _,.str _,_,_,r | .l _,.tup _,_,_,r | .l _,.dct _ _ _,_,_,r=>by simp only[RepO]at r
 | .t _,.non,_,_,r | .t _,.bl _,_,_,r | .t _,.int _,_,_,r | .t _,.str _,_,_,r | .t _,.lst _,_,_,r | .t _,.dct _ _ _,_,_,r=>by simp only[RepO]at r
 | .d,.non,_,_,r | .d,.bl _,_,_,r | .d,.int _,_,_,r | .d,.str _,_,_,r | .d,.tup _,_,_,r | .d,.lst _,_,_,r=>by simp only[RepO]at r
theorem RepT.live:∀{cs:List O}{ds:List D}{xs:List V}{fp:List Addr},RepT K G H cs ds xs fp->∀p∈fp,∃u,H p=some u
 |[],[],_,_,r=>by
  simp only[RepT]at r;rw[r.2];intro p hp;cases hp
 |c::cs,d::ds,xs,fp,r=>by
  simp only[RepT]at r;obtain⟨y,ys,a,b,e1,e2,r1,r2⟩:=r;subst e2;intro z hz;rcases Pj.mp hz with hz|hz
  ·exact RepO.live r1 z hz
  ·exact RepT.live r2 z hz
 |[],_::_,_,_,r=>by simp only[RepT]at r
 |_::_,[],_,_,r=>by simp only[RepT]at r
end
theorem DictO.isM{o:HO}{tk:Bool}{ks:List D}{xs:List V}(h:DictO o tk ks xs):PV.isM o=true:=by
 cases tk with
 |true=>
  obtain⟨kvs,e,_⟩:=h;rw[e];rfl
 |false=>
  obtain⟨kvs,e,_⟩:=h;rw[e];rfl
theorem AllO.mut{P:D->V->List Addr->Prop}:∀{ds:List D}{xs:List V}{fp:List Addr},(∀d v a,P d v a->∀p∈a,∃u,H p=some u/\isM u=true)->AllO P ds xs fp->∀p∈fp,∃u,H p=some u/\isM u=true
 |[],_,_,_,r=>by rw[r.2];intro p hp;cases hp
 |d::ds,xs,fp,h,r=>by
  obtain⟨y,ys,a,b,e1,e2,p,q⟩:=r;subst e2;intro z hz;rcases Pj.mp hz with hz|hz
  ·exact h _ _ _ p z hz
  ·exact AllO.mut h q z hz
mutual
theorem RepO.mut:∀{o:O}{d:D}{v:V}{fp:List Addr},RepO K G H o d v fp->∀p∈fp,∃u,H p=some u/\isM u=true
 | .f,d,v,fp,r=>by
  simp only[RepO]at r;rw[r.2];intro p hp;cases hp
 | .pin p c,d,v,fp,r=>by
  simp only[RepO]at r;exact RepO.mut r.2
 | .l c,.lst ds,v,fp,r=>by
  simp only[RepO]at r;obtain⟨p,xs,Ej,e,q,e2,a⟩:=r;subst e2;intro z hz;rcases O6.mp hz with rfl|hz
  ·exact⟨_,q,rfl⟩
  ·exact AllO.mut (fun d v a=>RepO.mut) a z hz
 | .t cs,.tup ds,v,fp,r=>by
  simp only[RepO]at r;obtain⟨p,xs,e,q,a⟩:=r;exact RepT.mut a
 | .d,.dct tk ks vs,v,fp,r=>by
  simp only[RepO]at r;obtain⟨p,xs,o,e,q,dd,e2,rs⟩:=r;subst e2;intro z hz;rw[Pr]at hz;exact⟨_,hz▸q,dd.isM⟩
 | .l _,.non,_,_,r | .l _,.bl _,_,_,r | .l _,.int _,_,_,r | .l _,.str _,_,_,r | .l _,.tup _,_,_,r | .l _,.dct _ _ _,_,_,r=>by simp only[RepO]at r
 | .t _,.non,_,_,r | .t _,.bl _,_,_,r | .t _,.int _,_,_,r | .t _,.str _,_,_,r | .t _,.lst _,_,_,r | .t _,.dct _ _ _,_,_,r=>by simp only[RepO]at r
 | .d,.non,_,_,r | .d,.bl _,_,_,r | .d,.int _,_,_,r | .d,.str _,_,_,r | .d,.tup _,_,_,r | .d,.lst _,_,_,r=>by simp only[RepO]at r
theorem RepT.mut:∀{cs:List O}{ds:List D}{xs:List V}{fp:List Addr},RepT K G H cs ds xs fp->∀p∈fp,∃u,H p=some u/\isM u=true
 |[],[],_,_,r=>by
  simp only[RepT]at r;rw[r.2];intro p hp;cases hp
 |c::cs,d::ds,xs,fp,r=>by
  simp only[RepT]at r;obtain⟨y,ys,a,b,e1,e2,r1,r2⟩:=r;subst e2;intro z hz;rcases Pj.mp hz with hz|hz
  ·exact RepO.mut r1 z hz
  ·exact RepT.mut r2 z hz
 |[],_::_,_,_,r=>by simp only[RepT]at r
 |_::_,[],_,_,r=>by simp only[RepT]at r
end
noncomputable def RepE(K:W.Frag)(G H:Hp):Env->List (Option V)->List Addr->Prop
 |[],vs,fp=>vs=[]/\fp=[]
 |e::es,vs,fp=>∃y ys,vs=y::ys/\match e with
  |none=>RepE K G H es ys fp
  |some r=>∃v a b,y=some v/\fp=a++b/\RepO K G H r.1 r.2 v a/\RepE K G H es ys b
theorem RepE.step(h:Same G G'):∀{es:Env}{vs:List (Option V)}{fp:List Addr},(∀p∈fp,H' p=H p)->RepE K G H es vs fp->RepE K G' H' es vs fp
 |[],_,_,_,r=>r
 |none::es,vs,fp,hk,r=>by
  obtain⟨y,ys,e,r⟩:=r;exact⟨y,ys,e,RepE.step h hk r⟩
 |some r::es,vs,fp,hk,q=>by
  obtain⟨y,ys,e,v,a,b,e1,e2,r1,r2⟩:=q;subst e2;exact⟨y,ys,e,v,a,b,e1,rfl,RepO.step h (fun p hp=>hk p (O3 _ hp)) r1,RepE.step h (fun p hp=>hk p (OV _ hp)) r2⟩
theorem RepE.live:∀{es:Env}{vs:List (Option V)}{fp:List Addr},RepE K G H es vs fp->∀p∈fp,∃u,H p=some u
 |[],_,_,r=>by
  rw[r.2];intro p hp;cases hp
 |none::es,vs,fp,r=>by
  obtain⟨y,ys,e,r⟩:=r;exact RepE.live r
 |some r::es,vs,fp,q=>by
  obtain⟨y,ys,e,v,a,b,e1,e2,r1,r2⟩:=q;subst e2;intro z hz;rcases Pj.mp hz with hz|hz
  ·exact r1.live z hz
  ·exact RepE.live r2 z hz
theorem RepE.mut:∀{es:Env}{vs:List (Option V)}{fp:List Addr},RepE K G H es vs fp->∀p∈fp,∃u,H p=some u/\isM u=true
 |[],_,_,r=>by
  rw[r.2];intro p hp;cases hp
 |none::es,vs,fp,r=>by
  obtain⟨y,ys,e,r⟩:=r;exact RepE.mut r
 |some r::es,vs,fp,q=>by
  obtain⟨y,ys,e,v,a,b,e1,e2,r1,r2⟩:=q;subst e2;intro z hz;rcases Pj.mp hz with hz|hz
  ·exact r1.mut z hz
  ·exact RepE.mut r2 z hz
theorem RepE.length:∀{es:Env}{vs:List (Option V)}{fp:List Addr},RepE K G H es vs fp->vs.length=es.length
 |[],_,_,r=>by rw[r.1];rfl
 |none::es,vs,fp,r=>by
  obtain⟨y,ys,e,r⟩:=r;rw[e,O2,O2,RepE.length r]
 |some r::es,vs,fp,q=>by
  obtain⟨y,ys,e,v,a,b,e1,e2,r1,r2⟩:=q;rw[e,O2,O2,RepE.length r2]
theorem RepE.take:∀{es:Env}{vs:List (Option V)}{fp:List Addr}{i:Nat}{r:R},RepE K G H es vs fp->es[i]?=some (some r)->
  ∃v a b,vs[i]?=some (some v)/\RepO K G H r.1 r.2 v a/\RepE K G H (es.set i none) vs b/\fp.Perm (a++b)
 |[],_,_,_,_,_,e=>by simp at e
 |none::es,vs,fp,0,r,q,e=>by simp at e
 |some r'::es,vs,fp,0,r,q,e=>by
  obtain⟨y,ys,e0,v,a,b,e1,e2,r1,r2⟩:=q;simp at e;subst e;subst e0;subst e1;exact⟨v,a,b,rfl,r1,⟨some v,ys,rfl,r2⟩,by rw[e2]⟩
 |none::es,vs,fp,i+1,r,q,e=>by
  obtain⟨y,ys,e0,q⟩:=q;obtain⟨v,a,b,g1,g2,g3,g4⟩:=RepE.take q (i:=i) (r:=r) (by simpa using e);subst e0;exact⟨v,a,b,by simpa using g1,g2,⟨y,ys,rfl,g3⟩,g4⟩
 |some r'::es,vs,fp,i+1,r,q,e=>by
  obtain⟨y,ys,e0,v',a',b',e1,e2,r1,r2⟩:=q;obtain⟨v,a,b,g1,g2,g3,g4⟩:=RepE.take r2 (i:=i) (r:=r) (by simpa using e);subst e0;refine⟨v,a,a'++b,by simpa using g1,g2,⟨y,ys,rfl,v',a',b,e1,rfl,r1,g3⟩,?_⟩;rw[e2];refine(SG a' g4).trans ?_;rw[<-Po,<-Po];exact Ss b SH
theorem RepE.put:∀{es:Env}{vs:List (Option V)}{b:List Addr}{i:Nat}{r:R}{v:V}{a:List Addr},RepE K G H es vs b->es[i]?=some none->RepO K G H r.1 r.2 v a->
  ∃fp,RepE K G H (es.set i (some r)) (vs.set i (some v)) fp/\fp.Perm (a++b)
 |[],_,_,_,_,_,_,_,e,_=>by simp at e
 |none::es,vs,b,0,r,v,a,q,e,ro=>by
  obtain⟨y,ys,e0,q⟩:=q;subst e0;exact⟨a++b,⟨some v,ys,rfl,v,a,b,rfl,rfl,ro,q⟩,.refl _⟩
 |some r'::es,vs,b,0,r,v,a,q,e,ro=>by simp at e
 |none::es,vs,b,i+1,r,v,a,q,e,ro=>by
  obtain⟨y,ys,e0,q⟩:=q;obtain⟨fp,g1,g2⟩:=RepE.put q (i:=i) (r:=r) (by simpa using e) ro;subst e0;exact⟨fp,⟨y,_,rfl,g1⟩,g2⟩
 |some r'::es,vs,b,i+1,r,v,a,q,e,ro=>by
  obtain⟨y,ys,e0,v',a',b',e1,e2,r1,r2⟩:=q;obtain⟨fp,g1,g2⟩:=RepE.put r2 (i:=i) (r:=r) (by simpa using e) ro;subst e0;refine⟨a'++fp,⟨y,_,rfl,v',a',fp,e1,rfl,r1,g1⟩,?_⟩;rw[e2];refine(SG a' g2).trans ?_;rw[<-Po,<-Po];exact Ss b' SH
structure Rel(K:W.Frag)(G H:Hp)(es:Env)(vs:List (Option V))(fp:List Addr):Prop where
 rep:RepE K G H es vs fp
 nd:fp.Nodup
 gn:∀p∈fp,G p=none
 gh:Same G H
structure Step(G H:Hp)(fp:List Addr)(G' H':Hp)(Ej:List Addr):Prop where
 gg:Same G G'
 keep:∀q u,H q=some u->q∉fp->H' q=some u
 fpn:∀q∈Ej,q∈fp\/H q=none
 gnew:∀q u,G' q=some u->G q=some u\/q∈fp\/H q=none\/isT u=true/\H q=some u
 there:∀q u,H q=some u->∃u',H' q=some u'
theorem Step.refl{fp:List Addr}:Step G H fp G H fp:=⟨.refl _,fun _ _ h _=>h,fun _ h=>.inl h,fun _ _ h=>.inl h,fun _ u h=>⟨u,h⟩⟩
theorem Step.trans{G1 H1 G2 H2:Hp}{fp EB EW:List Addr}(a:Step G H fp G1 H1 EB)(b:Step G1 H1 EB G2 H2 EW):Step G H fp G2 H2 EW:=by
 refine⟨a.gg.trans b.gg,fun q u h n=>?_,fun q hq=>?_,fun q u hq=>?_,fun q u h=>?_⟩
 ·refine b.keep q u (a.keep q u h n) fun hq=>?_
  rcases a.fpn q hq with z|z
  ·exact n z
  ·rw[z]at h;cases h
 ·rcases b.fpn q hq with z|z
  ·exact a.fpn q z
  ·cases e:H q with
   |none=>exact .inr rfl
   |some u=>
    obtain⟨u',e'⟩:=a.there q u e;rw[z]at e';cases e'
 ·rcases b.gnew q u hq with z|z|z|⟨t,z⟩
  ·exact a.gnew q u z
  ·exact .inr ((a.fpn q z).imp_right .inl)
  ·cases e:H q with
   |none=>exact .inr (.inr (.inl rfl))
   |some u=>
    obtain⟨u',e'⟩:=a.there q u e;rw[z]at e';cases e'
  ·cases e:H q with
   |none=>exact .inr (.inr (.inl rfl))
   |some u2=>
    by_cases hf:q∈fp
    ·exact .inr (.inl hf)
    ·rw[a.keep q u2 e hf]at z;cases z;exact .inr (.inr (.inr ⟨t,rfl⟩))
 ·obtain⟨u',h'⟩:=a.there q u h;exact b.there q u' h'
theorem Step.wide{fp fq Ej Oi:List Addr}(a:Step G H fp G' H' Ej)(h:∀q∈fp,q∈fq)(h':∀q∈Oi,q∈Ej\/q∈fq):Step G H fq G' H' Oi:=
 ⟨a.gg,fun q u e n=>a.keep q u e fun z=>n (h q z),fun q hq=>(h' q hq).elim (fun z=>(a.fpn q z).imp_left (h q)) .inl,fun q u e=>(a.gnew q u e).imp_right (Or.imp_left (h q)),a.there⟩
theorem Rel.perm{es:Env}{vs:List (Option V)}{fp fq:List Addr}(r:RepE K G H es vs fq)(nd:fp.Nodup)(gn:∀p∈fp,G p=none)(gh:Same G H)(h:fp.Perm fq):Rel K G H es vs fq:=
 ⟨r,h.nodup_iff.mp nd,fun p hp=>gn p (h.mem_iff.mpr hp),gh⟩
theorem Rel.frame{r:R}{v:V}{es:Env}{vs:List (Option V)}{fp:List Addr}(q:Rel K G H (some r::es) (some v::vs) fp):
  ∃a b,fp=a++b/\RepO K G H r.1 r.2 v a/\Rel K G H es vs b/\∀(G' H':Hp) (Kf:Env) (IJ:List (Option V)) (b':List Addr),Step G H b G' H' b'->Rel K G' H' Kf IJ b'->
   Rel K G' H' (some r::Kf) (some v::IJ) (a++b')/\Step G H (a++b) G' H' (a++b'):=by
 obtain⟨y,ys,e,v',a,b,e1,e2,r1,r2⟩:=q.rep;cases e;cases e1;subst e2;have nd:=Pg.mp q.nd;refine⟨a,b,rfl,r1,⟨r2,nd.2.1,fun p hp=>q.gn p (OV _ hp),q.gh⟩,fun G' H' Kf IJ b' st k=>?_⟩;have nb:∀p∈a,p∉b:=fun p hp hb=>nd.2.2 p hp p hb rfl
 have same:∀p∈a,H' p=H p:=fun p hp=>by
  obtain⟨u,hu⟩:=r1.live p hp;rw[hu];exact st.keep p u hu (nb p hp)
 refine⟨⟨⟨some v,IJ,rfl,v,a,b',rfl,rfl,r1.step st.gg same,k.rep⟩,?_,fun p hp=>?_,k.gh⟩,st.wide (fun p hp=>OV _ hp) fun p hp=>?_⟩
 ·rw[Pg];refine⟨nd.1,k.nd,fun p hp z hz e=>?_⟩;subst e;obtain⟨u,hu⟩:=r1.live p hp;rcases st.fpn p hz with z|z
  ·exact nb p hp z
  ·rw[z]at hu;cases hu
 ·rcases Pj.mp hp with hp|hp
  ·cases e:G' p with
   |none=>rfl
   |some u=>
    exfalso;obtain⟨u',hu⟩:=r1.live p hp;rcases st.gnew p u e with z|z|z|⟨t,z⟩
    ·rw[q.gn p (O3 _ hp)]at z;cases z
    ·exact nb p hp z
    ·rw[z]at hu;cases hu
    ·obtain⟨u2,h2,hm⟩:=r1.mut p hp;rw[z]at h2;cases h2;cases u with
     |tup _=>cases hm
     |frz _ _=>cases hm
     |_=>cases t
  ·exact k.gn p hp
 ·rcases Pj.mp hp with hp|hp
  ·exact .inr (O3 _ hp)
  ·exact .inl hp
theorem Rel.freeze{r:R}{v:V}{es:Env}{vs:List (Option V)}{fp:List Addr}(q:Rel K G H (some r::es) (some v::vs) fp):
  ∃G' b,Rep K G' r.2 v/\Rel K G' H es vs b/\Step G H fp G' H b:=by
 obtain⟨y,ys,e,v',a,b,e1,e2,r1,r2⟩:=q.rep;cases e;cases e1;subst e2;have nd:=Pg.mp q.nd;have nb:∀p∈a,p∉b:=fun p hp hb=>nd.2.2 p hp p hb rfl
 have hg:Same G (fun p=>if p∈a then H p else G p):=fun p u e=>by
  show(if p∈a then H p else G p)=some u;by_cases hp:p∈a
  ·rw[OZ hp];exact q.gh p u e
  ·rw[O5 hp];exact e
 refine⟨fun p=>if p∈a then H p else G p,b,r1.frozen hg fun p hp u e=>?_,⟨r2.step hg fun _ _=>rfl,nd.2.1,fun p hp=>?_,fun p u e=>?_⟩,⟨hg,fun _ _ e _=>e,fun p hp=>.inl (OV _ hp),fun p u e=>?_,fun _ u e=>⟨u,e⟩⟩⟩
 ·show(if p∈a then H p else G p)=some u;rw[OZ hp];exact e
 ·show(if p∈a then H p else G p)=none;rw[O5 (fun z=>nb p z hp)];exact q.gn p (OV _ hp)
 ·have e:(if p∈a then H p else G p)=some u:=e;by_cases hp:p∈a
  ·rw[OZ hp]at e;exact e
  ·rw[O5 hp]at e;exact q.gh p u e
 ·have e:(if p∈a then H p else G p)=some u:=e;by_cases hp:p∈a
  ·exact .inr (.inl (O3 _ hp))
  ·rw[O5 hp]at e;exact .inl e
end
section
variable{K:W.Frag}{G G' H H':Hp}{es:Env}{vs:List (Option V)}{fp:List Addr}
theorem oU:∀{ds:List D}{xs:List V}{fp:List Addr},AllO (RepO K G H .f) ds xs fp<->Reps K G ds xs/\fp=[]
 |[],xs,fp=>by simp only[AllO,Reps]
 |d::ds,xs,fp=>by
  simp only[AllO,Reps,RepO];constructor
  ·rintro⟨y,ys,a,b,e1,e2,⟨r,e3⟩,q⟩;obtain⟨q1,q2⟩:=oU.mp q;subst e3;subst q2;exact⟨⟨y,ys,e1,r,q1⟩,e2⟩
  ·rintro⟨⟨y,ys,e1,r,q1⟩,e⟩;exact⟨y,ys,[],[],e1,e,⟨r,rfl⟩,oU.mpr ⟨q1,rfl⟩⟩
theorem eS{d:D}{v:V}{a:List Addr}:RepO K G H .f d v a<->Rep K G d v/\a=[]:=by simp only[RepO]
theorem eh{ds:List D}{v:V}{a:List Addr}:RepO K G H (.l .f) (.lst ds) v a<->∃p xs,v=.ref p/\H p=some (.lst xs)/\a=[p]/\Reps K G ds xs:=by
 rw[RepO];constructor
 ·rintro⟨p,xs,b,e,q,e2,r⟩;obtain⟨r',eb⟩:=oU.mp r;subst eb;exact⟨p,xs,e,q,e2,r'⟩
 ·rintro⟨p,xs,e,q,e2,r⟩;exact⟨p,xs,[],e,q,e2,oU.mpr ⟨r,rfl⟩⟩
theorem Reps.length:∀{ds:List D}{xs:List V},Reps K G ds xs->xs.length=ds.length
 |[],xs,r=>by simp only[Reps]at r;rw[r];rfl
 |d::ds,xs,r=>by
  simp only[Reps]at r;obtain⟨y,ys,e,_,q⟩:=r;rw[e,O2,O2,Reps.length q]
theorem Reps.get:∀{ds:List D}{xs:List V}{i:Nat}{d:D},Reps K G ds xs->ds[i]?=some d->∃v,xs[i]?=some v/\Rep K G d v
 |[],_,_,_,_,e=>by simp at e
 |d'::ds,xs,0,d,r,e=>by
  simp only[Reps]at r;obtain⟨y,ys,e1,q,_⟩:=r;simp at e;subst e;exact⟨y,by rw[e1];rfl,q⟩
 |d'::ds,xs,i+1,d,r,e=>by
  simp only[Reps]at r;obtain⟨y,ys,e1,_,q⟩:=r;obtain⟨v,a,b⟩:=Reps.get q (i:=i) (d:=d) (by simpa using e);exact⟨v,by rw[e1];simpa using a,b⟩
theorem Reps.app:∀{ds es:List D}{xs ys:List V},Reps K G ds xs->Reps K G es ys->Reps K G (ds++es) (xs++ys)
 |[],_,_,_,r,q=>by simp only[Reps]at r;rw[r];exact q
 |d::ds,es,xs,ys,r,q=>by
  simp only[Reps]at r;obtain⟨z,zs,e,r1,r2⟩:=r;rw[e];simp only[Sk,Reps];exact⟨z,_,rfl,r1,r2.app q⟩
theorem Reps.one{d:D}{v:V}(r:Rep K G d v):Reps K G [d] [v]:=by
 simp only[Reps];exact⟨v,[],rfl,r,rfl⟩
theorem Reps.nil:Reps K G [] []:=by simp only[Reps]
theorem Reps.cons{d:D}{v:V}{ds:List D}{xs:List V}(r:Rep K G d v)(q:Reps K G ds xs):Reps K G (d::ds) (v::xs):=by
 simp only[Reps];exact⟨v,xs,rfl,r,q⟩
theorem Reps.cons_iff{d:D}{v:V}{ds:List D}{xs:List V}:Reps K G (d::ds) (v::xs)<->Rep K G d v/\Reps K G ds xs:=by
 simp only[Reps];constructor
 ·rintro⟨y,ys,e,r,q⟩;cases e;exact⟨r,q⟩
 ·rintro⟨r,q⟩;exact⟨v,xs,rfl,r,q⟩
theorem Reps.take:∀{ds:List D}{xs:List V}(n:Nat),Reps K G ds xs->Reps K G (ds.take n) (xs.take n)
 |_,_,0,_=>by rw[List.take_zero,List.take_zero];exact Reps.nil
 |[],xs,n+1,r=>by simp only[Reps]at r;rw[r];exact Reps.nil
 |d::ds,xs,n+1,r=>by
  simp only[Reps]at r;obtain⟨y,ys,e,r1,r2⟩:=r;rw[e,S2,S2];exact .cons r1 (r2.take n)
theorem Reps.drop:∀{ds:List D}{xs:List V}(n:Nat),Reps K G ds xs->Reps K G (ds.drop n) (xs.drop n)
 |_,_,0,r=>r
 |[],xs,n+1,r=>by simp only[Reps]at r;rw[r];exact Reps.nil
 |d::ds,xs,n+1,r=>by
  simp only[Reps]at r;obtain⟨y,ys,e,r1,r2⟩:=r;rw[e,S3,S3];exact r2.drop n
theorem Reps.set:∀{ds:List D}{xs:List V}(n:Nat) {d:D}{v:V},Reps K G ds xs->Rep K G d v->Reps K G (ds.set n d) (xs.set n v)
 |[],xs,n,d,v,r,q=>by simp only[Reps]at r;rw[r];exact Reps.nil
 |d'::ds,xs,0,d,v,r,q=>by
  simp only[Reps]at r;obtain⟨y,ys,e,r1,r2⟩:=r;rw[e];exact .cons q r2
 |d'::ds,xs,n+1,d,v,r,q=>by
  simp only[Reps]at r;obtain⟨y,ys,e,r1,r2⟩:=r;rw[e];exact .cons r1 (r2.set n q)
theorem Reps.eraseIdx:∀{ds:List D}{xs:List V}(n:Nat),Reps K G ds xs->Reps K G (ds.eraseIdx n) (xs.eraseIdx n)
 |[],xs,n,r=>by simp only[Reps]at r;rw[r];exact Reps.nil
 |d'::ds,xs,0,r=>by
  simp only[Reps]at r;obtain⟨y,ys,e,r1,r2⟩:=r;rw[e];exact r2
 |d'::ds,xs,n+1,r=>by
  simp only[Reps]at r;obtain⟨y,ys,e,r1,r2⟩:=r;rw[e];exact .cons r1 (r2.eraseIdx n)
theorem Step.cut{fq:List Addr}(h:∀q∈fq,q∈fp):Step G H fp G H fq:=⟨.refl _,fun _ _ e _=>e,fun q hq=>.inl (h q hq),fun _ _ e=>.inl e,fun _ u e=>⟨u,e⟩⟩
theorem Rel.drop{r:R}{y:Option V}(q:Rel K G H (some r::es) (y::vs) fp):∃b,Rel K G H es vs b/\Step G H fp G H b:=by
 obtain⟨y,ys,e,v',a,b,e1,e2,r1,r2⟩:=q.rep;cases e;cases e1;subst e2;have nd:=Pg.mp q.nd;exact⟨b,⟨r2,nd.2.1,fun p hp=>q.gn p (OV _ hp),q.gh⟩,Step.cut fun p hp=>OV _ hp⟩
theorem Rel.top{r:R}{v:V}(q:Rel K G H (some r::es) (some v::vs) fp):Rep K H r.2 v:=by
 obtain⟨y,ys,e,v',a,b,e1,e2,r1,r2⟩:=q.rep;cases e;cases e1;exact r1.frozen q.gh fun p hp u e=>e
theorem Rel.out{i:Nat}{r:R}(q:Rel K G H es vs fp)(e:es[i]?=some (some r)):∃v fq,vs[i]?=some (some v)/\Rel K G H (some r::es.set i none) (some v::vs) fq/\Step G H fp G H fq/\Step G H fq G H fp:=by
 obtain⟨v,a,b,e1,r1,r2,pm⟩:=q.rep.take e;exact⟨v,a++b,e1,Rel.perm ⟨some v,vs,rfl,v,a,b,rfl,rfl,r1,r2⟩ q.nd q.gn q.gh pm,Step.cut fun p hp=>pm.mem_iff.mpr hp,Step.cut fun p hp=>pm.mem_iff.mp hp⟩
theorem Rel.view{i:Nat}{r:R}(q:Rel K G H es vs fp)(e:es[i]?=some (some r)):∃v,vs[i]?=some (some v)/\Rep K H r.2 v:=by
 obtain⟨v,fq,e1,r1,_⟩:=q.out e;exact⟨v,e1,r1.top⟩
theorem kW{α:Type}{l:List α}{i:Nat}{x:α}(h:l[i]?=some x):l.set i x=l:=by
 apply Rp;intro j;by_cases e:i=j
 ·subst e;rw[List.getElem?_set_self (List.getElem?_eq_some_iff.mp h).1,h]
 ·rw[List.getElem?_set_ne e]
theorem Rel.store{i:Nat}{r:R}{v:V}(q:Rel K G H (some r::es) (some v::vs) fp)(hi:i<es.length):∃fq,Rel K G H (es.set i (some r)) (vs.set i (some v)) fq/\Step G H fp G H fq:=by
 obtain⟨y,ys,e,v',a,b,e1,e2,r1,r2⟩:=q.rep;cases e;cases e1;subst e2;obtain⟨c,hc⟩:∃c,es[i]?=some c:=⟨_,List.getElem?_eq_getElem hi⟩
 have nd:=Pg.mp q.nd;have key:∃b',RepE K G H (es.set i none) vs b'/\(∀p∈b',p∈b)/\b'.Nodup:=by
  cases c with
  |none=>exact⟨b,by rw[kW hc];exact r2,fun _ h=>h,nd.2.1⟩
  |some r'=>
   obtain⟨v2,a2,b2,_,_,g,pm⟩:=r2.take hc;refine⟨b2,g,fun p hp=>pm.mem_iff.mpr (OV _ hp),?_⟩;exact(Pg.mp (pm.nodup_iff.mp nd.2.1)).2.1
 obtain⟨b',g,sub,ndb⟩:=key;obtain⟨fq,g2,pm⟩:=g.put (i:=i) (r:=r) (v:=v) (by rw[List.getElem?_set_self hi]) r1;rw[RT]at g2;have KA:(a++b').Nodup:=by
  rw[Pg];exact⟨nd.1,ndb,fun p hp z hz=>nd.2.2 p hp z (sub z hz)⟩
 refine⟨fq,Rel.perm g2 KA (fun p hp=>?_) q.gh pm.symm,Step.cut fun p hp=>?_⟩
 ·refine q.gn p ?_;rcases Pj.mp hp with hp|hp
  ·exact O3 _ hp
  ·exact OV _ (sub p hp)
 ·rcases Pj.mp (pm.mem_iff.mp hp) with hp|hp
  ·exact O3 _ hp
  ·exact OV _ (sub p hp)
theorem Rel.back{i:Nat}{r:R}{v:V}(q:Rel K G H (some r::es) (some v::vs) fp)(hi:i<es.length)(hv:vs[i]?=some (some v)):∃fq,Rel K G H (es.set i (some r)) vs fq/\Step G H fp G H fq:=by
 obtain⟨fq,g,st⟩:=q.store hi;rw[kW hv]at g;exact⟨fq,g,st⟩
theorem Rel.freezeAt{i:Nat}{r:R}(q:Rel K G H es vs fp)(e:es[i]?=some (some r)):∃v G' fq,vs[i]?=some (some v)/\Rep K G' r.2 v/\Rel K G' H (es.set i (some (.f,r.2))) vs fq/\Step G H fp G' H fq:=by
 obtain⟨v,fq,ev,g,st,_⟩:=q.out e;obtain⟨G',b,rv,g2,El⟩:=g.freeze;have g3:Rel K G' H (some (.f,r.2)::es.set i none) (some v::vs) b:=by
  refine⟨⟨some v,vs,rfl,v,[],b,rfl,rfl,?_,g2.rep⟩,g2.nd,g2.gn,g2.gh⟩;exact eS.mpr ⟨rv,rfl⟩
 obtain⟨fz,g4,E7⟩:=g3.back (i:=i) (by rw[QJ];exact(List.getElem?_eq_some_iff.mp e).1) ev;rw[RT]at g4;exact⟨v,G',fz,ev,rv,g4,st.trans (El.trans E7)⟩
theorem Rel.push{d:D}{v:V}(q:Rel K G H es vs fp)(r:Rep K G d v):Rel K G H (some (.f,d)::es) (some v::vs) fp:=by
 refine⟨⟨some v,vs,rfl,v,[],fp,rfl,rfl,?_,q.rep⟩,q.nd,q.gn,q.gh⟩;exact eS.mpr ⟨r,rfl⟩
theorem Rel.newF{p:Addr}{u:HO}(q:Rel K G H es vs fp)(hp:H p=none):Rel K (upd G p u) (upd H p u) es vs fp/\Step G H fp (upd G p u) (upd H p u) fp:=by
 have gp:G p=none:=by
  cases e:G p with
  |none=>rfl
  |some o=>rw[q.gh p o e]at hp;cases hp
 have np:p∉fp:=fun z=>by
  obtain⟨u,e⟩:=q.rep.live p z;rw[hp]at e;cases e
 have sg:Same G (upd G p u):=fun b o e=>by rw[ay (aP e gp)];exact e
 have sh:Same H (upd H p u):=fun b o e=>by rw[ay (aP e hp)];exact e
 refine⟨⟨q.rep.step sg fun z hz=>ay fun e=>np (e▸hz),q.nd,fun z hz=>?_,fun b o e=>?_⟩,⟨sg,fun b o e _=>sh b o e,fun _ h=>.inl h,fun b o e=>?_,fun b o e=>⟨o,sh b o e⟩⟩⟩
 ·have:z≠p:=fun e=>np (e▸hz)
  rw[ay this];exact q.gn z hz
 ·by_cases hb:b=p
  ·subst hb;rw[aM]at e ⊢;exact e
  ·rw[ay hb]at e ⊢;exact q.gh b o e
 ·by_cases hb:b=p
  ·subst hb;exact .inr (.inr (.inl hp))
  ·rw[ay hb]at e;exact .inl e
theorem Rel.newL{p:Addr}{ds:List D}{xs:List V}(q:Rel K G H es vs fp)(hp:H p=none)(r:Reps K G ds xs):
  Rel K G (upd H p (.lst xs)) (some (.l .f,.lst ds)::es) (some (.ref p)::vs) (p::fp)/\Step G H fp G (upd H p (.lst xs)) (p::fp):=by
 have gp:G p=none:=by
  cases e:G p with
  |none=>rfl
  |some o=>rw[q.gh p o e]at hp;cases hp
 have np:p∉fp:=fun z=>by
  obtain⟨u,e⟩:=q.rep.live p z;rw[hp]at e;cases e
 have sh:Same H (upd H p (.lst xs)):=fun b o e=>by rw[ay (aP e hp)];exact e
 refine⟨⟨⟨some (.ref p),vs,rfl,.ref p,[p],fp,rfl,rfl,eh.mpr ⟨p,xs,rfl,aM,rfl,r⟩,q.rep.step (.refl _) fun z hz=>ay fun e=>np (e▸hz)⟩,Qc.mpr ⟨np,q.nd⟩,fun z hz=>?_,fun b o e=>?_⟩,
  ⟨.refl _,fun b o e _=>sh b o e,fun b hb=>?_,fun b o e=>.inl e,fun b o e=>⟨o,sh b o e⟩⟩⟩
 ·rcases O6.mp hz with rfl|hz
  ·exact gp
  ·exact q.gn z hz
 ·exact sh b o (q.gh b o e)
 ·rcases O6.mp hb with rfl|hb
  ·exact .inr hp
  ·exact .inl hb
theorem Rel.chg{i:Nat}{ds ds':List D}(q:Rel K G H es vs fp)(e:es[i]?=some (some (.l .f,.lst ds))):∃p xs,vs[i]?=some (some (.ref p))/\H p=some (.lst xs)/\Reps K G ds xs/\
  ∀FU,Reps K G ds' FU->∃fq,Rel K G (upd H p (.lst FU)) (es.set i (some (.l .f,.lst ds'))) vs fq/\Step G H fp G (upd H p (.lst FU)) fq:=by
 obtain⟨v,fq,ev,g,st,GL⟩:=q.out e;obtain⟨y,ys,e0,v',a,b,e1,e2,r1,r2⟩:=g.rep;cases e0;cases e1;obtain⟨p,xs,e3,hp,e4,rs⟩:=eh.mp r1;subst e3;subst e4;subst e2;have nd:=Qc.mp (show(p::b).Nodup from g.nd);refine⟨p,xs,ev,hp,rs,fun FU Gn=>?_⟩;have g2:Rel K G (upd H p (.lst FU)) (some (.l .f,.lst ds')::es.set i none) (some (.ref p)::vs) (p::b):=by
  refine⟨⟨some (.ref p),vs,rfl,.ref p,[p],b,rfl,rfl,eh.mpr ⟨p,FU,rfl,aM,rfl,Gn⟩,r2.step (.refl _) fun z hz=>ay fun e=>nd.1 (e▸hz)⟩,g.nd,g.gn,fun z o ez=>?_⟩;have:z≠p:=fun w=>by
   subst w;rw[g.gn z OX]at ez;cases ez
  rw[ay this];exact g.gh z o ez
 have LZ:Step G H (p::b) G (upd H p (.lst FU)) (p::b):=by
  refine⟨.refl _,fun z o ez nz=>?_,fun z hz=>.inl hz,fun z o ez=>.inl ez,fun z o ez=>?_⟩
  ·have:z≠p:=fun w=>nz (by rw[w];exact OX)
   rw[ay this];exact ez
  ·by_cases w:z=p
   ·subst w;exact⟨_,aM⟩
   ·exact⟨o,by rw[ay w];exact ez⟩
 obtain⟨fz,g3,EJ⟩:=g2.back (i:=i) (by rw[QJ];exact(List.getElem?_eq_some_iff.mp e).1) ev;rw[RT]at g3;exact⟨fz,g3,st.trans (LZ.trans EJ)⟩
end
mutual
noncomputable def cT:D->Bool
 | .tup ds=>flatDs ds
 | .lst _=>false
 | .dct _ _ _=>false
 |_=>true
noncomputable def flatDs:List D->Bool
 |[]=>true
 |d::ds=>cT d&&flatDs ds
end
mutual
noncomputable def aZ:O->D->Bool
 | .f,d=>cT d
 | .l c,.lst ds=>ds.all (aZ c)
 | .t cs,.tup ds=>iw cs ds
 | .d,.dct _ _ vs=>flatDs vs
 | .pin _ c,d=>aZ c d
 |_,_=>false
noncomputable def iw:List O->List D->Bool
 |[],[]=>true
 |c::cs,d::ds=>aZ c d&&iw cs ds
 |_,_=>false
end
def frz:Option R->Option R:=Option.map fun r=>(.f,r.2)
theorem bI:∀ds,flatDs ds=ds.all cT
 |[]=>rfl
 |d::ds=>by rw[flatDs,RF,bI ds]
section
variable{K:W.Frag}{G G' G2 G3 H H' H2:Hp}{es:Env}{vs:List (Option V)}{fp:List Addr}
mutual
theorem Rep.flat(h:∀p u,isT u=true->G2 p=some u->G3 p=some u):∀{d:D}{v:V},cT d=true->Rep K G2 d v->Rep K G3 d v
 | .non,_,_,r=>by simpa only[Rep] using r
 | .bl _,_,_,r=>by simpa only[Rep] using r
 | .int _,_,_,r=>by simpa only[Rep] using r
 | .str _,_,_,r=>by simpa only[Rep] using r
 | .tup ds,_,e,r=>by
  simp only[Rep]at r ⊢;simp only[cT]at e;obtain⟨p,xs,ev,q,rs⟩:=r;exact⟨p,xs,ev,h _ _ rfl q,Reps.flat h e rs⟩
 | .lst ds,_,e,r=>by simp only[cT]at e;cases e
 | .dct _ _ _,_,e,r=>by simp only[cT]at e;cases e
theorem Reps.flat(h:∀p u,isT u=true->G2 p=some u->G3 p=some u):∀{ds:List D}{xs:List V},flatDs ds=true->Reps K G2 ds xs->Reps K G3 ds xs
 |[],_,_,r=>by simpa only[Reps] using r
 |d::ds,_,e,r=>by
  simp only[Reps]at r ⊢;simp only[flatDs,O1]at e;obtain⟨y,ys,ev,r1,r2⟩:=r;exact⟨y,ys,ev,Rep.flat h e.1 r1,Reps.flat h e.2 r2⟩
end
theorem AllO.clean{P P':D->V->List Addr->Prop}{c:D->Bool}:∀{ds:List D}{xs:List V}{fp:List Addr},(∀d v a,c d=true->P d v a->P' d v a)->ds.all c=true->AllO P ds xs fp->AllO P' ds xs fp
 |[],_,_,_,_,r=>r
 |d::ds,xs,fp,h,e,r=>by
  obtain⟨y,ys,a,b,e1,e2,p,q⟩:=r;rw[RF,O1]at e;exact⟨y,ys,a,b,e1,e2,h _ _ _ e.1 p,AllO.clean h e.2 q⟩
mutual
theorem RepO.clean(h:∀p u,isT u=true->G2 p=some u->G3 p=some u):∀{o:O}{d:D}{v:V}{fp:List Addr},aZ o d=true->RepO K G2 H o d v fp->RepO K G3 H o d v fp
 | .f,d,v,fp,e,r=>by
  simp only[RepO]at r ⊢;simp only[aZ]at e;exact⟨r.1.flat h e,r.2⟩
 | .pin p c,d,v,fp,e,r=>by
  simp only[RepO]at r ⊢;simp only[aZ]at e;exact⟨r.1,RepO.clean h e r.2⟩
 | .l c,.lst ds,v,fp,e,r=>by
  rw[RepO]at r ⊢;rw[aZ]at e;obtain⟨p,xs,Ej,ev,q,e2,a⟩:=r;exact⟨p,xs,Ej,ev,q,e2,AllO.clean (fun d v a=>RepO.clean h) e a⟩
 | .t cs,.tup ds,v,fp,e,r=>by
  rw[RepO]at r ⊢;rw[aZ]at e;obtain⟨p,xs,ev,q,a⟩:=r;exact⟨p,xs,ev,h _ _ rfl q,RepT.clean h e a⟩
 | .d,.dct tk ks vs,v,fp,e,r=>by
  rw[RepO]at r ⊢;rw[aZ]at e;obtain⟨p,xs,o,ev,q,dd,e2,rs⟩:=r;exact⟨p,xs,o,ev,q,dd,e2,rs.flat h e⟩
 | .l _,.non,_,_,_,r | .l _,.bl _,_,_,_,r | .l _,.int _,_,_,_,r | .l _,.str _,_,_,_,r | .l _,.tup _,_,_,_,r | .l _,.dct _ _ _,_,_,_,r=>by simp only[RepO]at r
 | .t _,.non,_,_,_,r | .t _,.bl _,_,_,_,r | .t _,.int _,_,_,_,r | .t _,.str _,_,_,_,r | .t _,.lst _,_,_,_,r | .t _,.dct _ _ _,_,_,_,r=>by simp only[RepO]at r
 | .d,.non,_,_,_,r | .d,.bl _,_,_,_,r | .d,.int _,_,_,_,r | .d,.str _,_,_,_,r | .d,.tup _,_,_,_,r | .d,.lst _,_,_,_,r=>by simp only[RepO]at r
theorem RepT.clean(h:∀p u,isT u=true->G2 p=some u->G3 p=some u):∀{cs:List O}{ds:List D}{xs:List V}{fp:List Addr},iw cs ds=true->RepT K G2 H cs ds xs fp->RepT K G3 H cs ds xs fp
 |[],[],_,_,_,r=>by simpa only[RepT] using r
 |c::cs,d::ds,xs,fp,e,r=>by
  rw[RepT]at r ⊢;rw[iw,O1]at e;obtain⟨y,ys,a,b,e1,e2,r1,r2⟩:=r;exact⟨y,ys,a,b,e1,e2,RepO.clean h e.1 r1,RepT.clean h e.2 r2⟩
 |[],_::_,_,_,_,r=>by simp only[RepT]at r
 |_::_,[],_,_,_,r=>by simp only[RepT]at r
end
theorem RepE.frz(h:Same G G'):∀{es:Env}{vs:List (Option V)}{fp:List Addr},(∀p∈fp,∀u,H p=some u->G' p=some u)->RepE K G H es vs fp->RepE K G' H' (es.map PV.frz) vs []
 |[],_,_,_,r=>⟨r.1,rfl⟩
 |none::es,vs,fp,hk,r=>by
  obtain⟨y,ys,e,r⟩:=r;exact⟨y,ys,e,RepE.frz h hk r⟩
 |some r::es,vs,fp,hk,q=>by
  obtain⟨y,ys,e,v,a,b,e1,e2,r1,r2⟩:=q;subst e2;exact⟨y,ys,e,v,[],[],e1,rfl,eS.mpr ⟨r1.frozen h (fun p hp=>hk p (O3 _ hp)),rfl⟩,RepE.frz h (fun p hp=>hk p (OV _ hp)) r2⟩
theorem RepE.rep(h:Same G G'):∀{es:Env}{vs:List (Option V)}{fp:List Addr}{i:Nat}{r:R}{v:V},(∀p∈fp,∀u,H p=some u->G' p=some u)->RepE K G H es vs fp->es[i]?=some (some r)->vs[i]?=some (some v)->Rep K G' r.2 v:=fun{es vs fp i r v} hk q e ev=>by
 obtain⟨v',a,b,e1,r1,_,pm⟩:=q.take e;rw[ev]at e1;cases e1;exact r1.frozen h fun p hp=>hk p (pm.mem_iff.mpr (O3 _ hp))
theorem Rel.lend(q:Rel K G H es vs fp):∃G1,Same G G1/\Same G1 H/\(∀(i:Nat) (r:R) (v:V),es[i]?=some (some r)->vs[i]?=some (some v)->Rep K G1 r.2 v)/\
  RepE K G1 H (es.map PV.frz) vs []/\
  ∀(H2 G2:Hp) (EW:List Addr) (r:R) (v:V),Step G1 H [] G2 H2 EW->Rel K G2 H2 [some r] [some v] EW->
   (aZ r.1 r.2=true->∃G3 Ge,Step G H fp G3 H2 Ge/\Rel K G3 H2 (some r::es) (some v::vs) Ge)/\
   ∃G3 Ge,Step G H fp G3 H2 Ge/\Rel K G3 H2 (some r::es.map PV.frz) (some v::vs) Ge:=by
 have hg:Same G (fun p=>if p∈fp then H p else G p):=fun p u e=>by
  show(if p∈fp then H p else G p)=some u;by_cases hp:p∈fp
  ·rw[OZ hp];exact q.gh p u e
  ·rw[O5 hp];exact e
 have hh:Same (fun p=>if p∈fp then H p else G p) H:=fun p u e=>by
  have e:(if p∈fp then H p else G p)=some u:=e;by_cases hp:p∈fp
  ·rw[OZ hp]at e;exact e
  ·rw[O5 hp]at e;exact q.gh p u e
 have hk:∀p∈fp,∀u,H p=some u->(fun p=>if p∈fp then H p else G p) p=some u:=fun p hp u e=>by
  show(if p∈fp then H p else G p)=some u;rw[OZ hp];exact e
 refine⟨fun p=>if p∈fp then H p else G p,hg,hh,fun i r v e ev=>q.rep.rep hg hk e ev,q.rep.frz hg hk,fun H2 G2 EW r v st k=>?_⟩;obtain⟨y,ys,e0,v',a,b,e1,e2,r1,r2⟩:=k.rep;cases e0;cases e1;obtain⟨_,e3⟩:=r2;subst e3;rw[O8]at e2;subst e2;have fresh:∀p∈EW,H p=none:=fun p hp=>by
  rcases st.fpn p hp with z|z
  ·cases z
  ·exact z
 have kept:∀p∈fp,H2 p=H p:=fun p hp=>by
  obtain⟨u,hu⟩:=q.rep.live p hp;rw[hu];exact st.keep p u hu (by simp)
 refine⟨fun cl=>?_,⟨G2,EW,⟨hg.trans st.gg,fun p u e n=>st.keep p u e (by simp),fun p hp=>.inr (fresh p hp),fun p u e=>?_,st.there⟩,?_⟩⟩
 ·have apart:∀p∈EW,p∉fp:=fun p hp hf=>by
   obtain⟨u,hu⟩:=q.rep.live p hf;rw[fresh p hp]at hu;cases hu
  have g3:Same G (fun p=>if p∈fp then none else G2 p):=fun p u e=>by
   show(if p∈fp then none else G2 p)=some u;rw[O5 (fun z=>by rw[q.gn p z]at e;cases e)];exact st.gg p u (hg p u e)
  refine⟨fun p=>if p∈fp then none else G2 p,EW++fp,⟨g3,fun p u e n=>st.keep p u e (by simp),fun p hp=>?_,fun p u e=>?_,st.there⟩,⟨⟨some v,vs,rfl,v,EW,fp,rfl,rfl,r1.clean (fun p u t e=>?_) cl,q.rep.step g3 kept⟩,?_,fun p hp=>?_,fun p u e=>?_⟩⟩
  ·rcases Pj.mp hp with hp|hp
   ·exact .inr (fresh p hp)
   ·exact .inl hp
  ·have e:(if p∈fp then none else G2 p)=some u:=e;by_cases hp:p∈fp
   ·rw[OZ hp]at e;cases e
   ·rw[O5 hp]at e;rcases st.gnew p u e with z|z|z
    ·have z:(if p∈fp then H p else G p)=some u:=z;rw[O5 hp]at z;exact .inl z
    ·cases z
    ·exact .inr (.inr z)
  ·show(if p∈fp then none else G2 p)=some u;by_cases hp:p∈fp
   ·exfalso;obtain⟨u',hu,hm⟩:=q.rep.mut p hp;have:=st.gg p u' (hk p hp u' hu);rw[e]at this;cases this;cases u with
    |lst _=>cases t
    |dK _=>cases t
    |dT _=>cases t
    |_=>cases hm
   ·rw[O5 hp];exact e
  ·rw[Pg];exact⟨k.nd,q.nd,fun p hp z hz e=>apart p hp (e▸hz)⟩
  ·show(if p∈fp then none else G2 p)=none;by_cases hf:p∈fp
   ·rw[OZ hf]
   ·rw[O5 hf];rcases Pj.mp hp with hp|hp
    ·exact k.gn p hp
    ·exact absurd hp hf
  ·have e:(if p∈fp then none else G2 p)=some u:=e;by_cases hp:p∈fp
   ·rw[OZ hp]at e;cases e
   ·rw[O5 hp]at e;exact k.gh p u e
 ·rcases st.gnew p u e with z|z|z
  ·have z:(if p∈fp then H p else G p)=some u:=z;by_cases hp:p∈fp
   ·exact .inr (.inl hp)
   ·rw[O5 hp]at z;exact .inl z
  ·cases z
  ·exact .inr (.inr z)
 ·refine⟨⟨some v,vs,rfl,v,EW,[],rfl,(O8 _).symm,r1,q.rep.frz (hg.trans st.gg) fun p hp u e=>st.gg p u (hk p hp u e)⟩,k.nd,k.gn,k.gh⟩
end
end PV
namespace PV
open PySem PySem.Spec PyProof.Rows L2 NX
def Res.bind{α β:Type}:Res α->(α->Res β)->Res β
 | .ok a,f=>f a
 | .exc c,_=>.exc c
 | .bad,_=>.bad
inductive BindOk{α β:Type}(x:Res α)(f:α->Res β)(b:β):Prop
 |mk (a:α) (h:x=.ok a) (k:f a=.ok b):BindOk x f b
theorem ag{α β:Type}{x:Res α}{f:α->Res β}{b:β}(h:x.bind f=.ok b):BindOk x f b:=by
 cases x with
 |ok a=>exact⟨a,rfl,h⟩
 |exc c=>cases h
 |bad=>cases h
inductive Opd where
 |val (d:D)|var (i:Nat)
def OpdOk(K:W.Frag)(G:Hp)(σ:L2.St):Opd->V->Prop
 | .val d,v=>Rep K G d v
 | .var i,v=>σ[i]?=some (some v)
theorem OpdOk.mono{K:W.Frag}{G G':Hp}{σ:L2.St}{o:Opd}{v:V}(h:Same G G')(r:OpdOk K G σ o v):OpdOk K G' σ o v:=by
 cases o with
 |val d=>exact Rep.mono h r
 |var i=>exact r
def mh(K:W.Frag)(G:Hp)(σ:L2.St):List Opd->List V->Prop
 |[],vs=>vs=[]
 |o::os,vs=>∃y ys,vs=y::ys/\OpdOk K G σ o y/\mh K G σ os ys
def vV:O->Bool
 | .f=>true
 | .l .f=>true
 | .d=>true
 | .pin _ .f=>true
 | .pin _ (.l .f)=>true
 | .pin _ .d=>true
 |_=>false
def Ff(env:PV.Env):Opd->Res D
 | .val d=>.ok d
 | .var i=>match env[i]? with
  |some (some r)=>if vV r.1 then .ok r.2 else .bad
  |_=>.bad
def p3(env:PV.Env):Opd->Res D
 | .val d=>.ok d
 | .var i=>match env[i]? with
  |some (some r)=>.ok r.2
  |_=>.bad
def ni(env:PV.Env):List Opd->Res (List D)
 |[]=>.ok []
 |o::os=>(Ff env o).bind fun d=>(ni env os).bind fun ds=>.ok (d::ds)
def jv(env:PV.Env):List Opd->Res (List D)
 |[]=>.ok []
 |o::os=>(p3 env o).bind fun d=>(jv env os).bind fun ds=>.ok (d::ds)
def Vw(K:W.Frag)(G H:Hp):D->V->Prop
 | .lst ds,v=>∃p xs,v=.ref p/\SqL K H p xs/\Reps K G ds xs
 | .dct tk ks vs,v=>∃p xs o,v=.ref p/\Rd H p o/\DictO o tk ks xs/\Reps K G vs xs
 |d,v=>Rep K G d v
def J9(K:W.Frag)(G H:Hp):List D->List V->Prop
 |[],vs=>vs=[]
 |d::ds,vs=>∃y ys,vs=y::ys/\Vw K G H d y/\J9 K G H ds ys
section
variable{K:W.Frag}{G G' H H':Hp}{es:PV.Env}{σ:L2.St}{fp:List Addr}
theorem Vw.of{d:D}{v:V}(gh:Same G H)(r:Rep K G d v):Vw K G H d v:=by
 cases d with
 |lst ds=>
  rw[Rep]at r;obtain⟨p,xs,e,q,rs⟩:=r;exact⟨p,xs,e,fR gh q,rs⟩
 |dct tk ks vs=>
  rw[Rep]at r;obtain⟨p,xs,o,e,q,dd,rs⟩:=r;exact⟨p,xs,o,e,PV.Rd.mono gh q,dd,rs⟩
 |_=>exact r
theorem Vw.rep{d:D}{v:V}(gh:Same G H)(r:Vw K G H d v):Rep K H d v:=by
 cases d with
 |lst ds=>
  obtain⟨p,xs,e,q,rs⟩:=r;rw[Rep];exact⟨p,xs,e,q,rs.mono gh⟩
 |dct tk ks vs=>
  obtain⟨p,xs,o,e,q,dd,rs⟩:=r;rw[Rep];exact⟨p,xs,o,e,q,dd,rs.mono gh⟩
 |non=>exact Rep.mono gh r
 |bl b=>exact Rep.mono gh r
 |int i=>exact Rep.mono gh r
 |str l=>exact Rep.mono gh r
 |tup ds=>exact Rep.mono gh r
theorem RepO.vw0{o:O}{d:D}{v:V}{a:List Addr}(gh:Same G H)(hs:o=.f\/o=.l .f\/o=.d)(r:RepO K G H o d v a):Vw K G H d v:=by
 rcases hs with rfl|rfl|rfl
 ·exact Vw.of gh (eS.mp r).1
 ·cases d with
  |lst ds=>
   obtain⟨p,xs,e,q,_,rs⟩:=eh.mp r;exact⟨p,xs,e,SqL.of q,rs⟩
  |_=>simp only[RepO]at r
 ·cases d with
  |dct tk ks vs=>
   rw[RepO]at r;obtain⟨p,xs,o,e,q,dd,_,rs⟩:=r;exact⟨p,xs,o,e,.inl q,dd,rs⟩
  |_=>simp only[RepO]at r
theorem RepO.vw{o:O}{d:D}{v:V}{a:List Addr}(gh:Same G H)(hs:vV o=true)(r:RepO K G H o d v a):Vw K G H d v:=by
 unfold vV at hs;split at hs
 ·exact r.vw0 gh (.inl rfl)
 ·exact r.vw0 gh (.inr (.inl rfl))
 ·exact r.vw0 gh (.inr (.inr rfl))
 ·rw[RepO]at r;exact r.2.vw0 gh (.inl rfl)
 ·rw[RepO]at r;exact r.2.vw0 gh (.inr (.inl rfl))
 ·rw[RepO]at r;exact r.2.vw0 gh (.inr (.inr rfl))
 ·cases hs
theorem Rel.vw{o:Opd}{v:V}{d:D}(q:Rel K G H es σ fp)(k:OpdOk K G σ o v)(e:Ff es o=.ok d):Vw K G H d v:=by
 cases o with
 |val d'=>
  cases e;exact Vw.of q.gh k
 |var i=>
  unfold Ff at e;dsimp only at e;split at e
  ·rename_i r hr;split at e
   ·rename_i hs;cases e;obtain⟨v',a,b,ev,r1,_⟩:=q.rep.take hr;have k:σ[i]?=some (some v):=k;rw[k]at ev;cases ev;exact r1.vw q.gh hs
   ·cases e
  ·cases e
theorem Rel.vwA{o:Opd}{v:V}{d:D}(q:Rel K G H es σ fp)(k:OpdOk K G σ o v)(e:p3 es o=.ok d):Rep K H d v:=by
 cases o with
 |val d'=>
  cases e;exact Rep.mono q.gh k
 |var i=>
  unfold p3 at e;dsimp only at e;split at e
  ·rename_i r hr;cases e;obtain⟨v',ev,r1⟩:=q.view hr;have k:σ[i]?=some (some v):=k;rw[k]at ev;cases ev;exact r1
  ·cases e
theorem Rel.vws(q:Rel K G H es σ fp):∀{os:List Opd}{vs:List V}{ds:List D},mh K G σ os vs->ni es os=.ok ds->J9 K G H ds vs
 |[],_,_,k,e=>by
  cases e;exact k
 |o::os,_,_,⟨y,ys,e0,k1,k2⟩,e=>by
  unfold ni at e;obtain⟨d,e1,e⟩:=ag e;obtain⟨ds,e2,e⟩:=ag e;cases e;exact⟨y,ys,e0,q.vw k1 e1,Rel.vws q k2 e2⟩
theorem jw{G1:Hp}(gg:Same G G1)(ht:∀(i:Nat) (r:R) (v:V),es[i]?=some (some r)->σ[i]?=some (some v)->Rep K G1 r.2 v):∀{os:List Opd}{vs:List V}{ds:List D},mh K G σ os vs->jv es os=.ok ds->Reps K G1 ds vs
 |[],_,_,k,e=>by
  cases e;have k:_=_:=k;rw[k];exact Reps.nil
 |o::os,_,_,⟨y,ys,e0,k1,k2⟩,e=>by
  unfold jv at e;obtain⟨d,e1,e⟩:=ag e;obtain⟨ds,e2,e⟩:=ag e;cases e;rw[e0];refine .cons ?_ (jw gg ht k2 e2);cases o with
  |val d'=>
   cases e1;exact Rep.mono gg k1
  |var i=>
   unfold p3 at e1;dsimp only at e1;split at e1
   ·rename_i r hr;cases e1;exact ht i r y hr k1
   ·cases e1
end
abbrev FX:=PV.Env->Res (R×PV.Env)
abbrev FO:=PV.Env->Res (Opd×PV.Env)
abbrev Fn:=PV.Env->Res (List Opd×PV.Env)
abbrev FT:=PV.Env->Res (Bool×PV.Env)
inductive Out where
 |nx (env:PV.Env)|rt (r:R)|bk (env:PV.Env)|ct (env:PV.Env)
abbrev FS:=PV.Env->Res Out
inductive tQ(K:W.Frag)(f:FX)(σ:L2.St)(H:Hp)(Q:VK):Prop
 |mk:∀G env fp r env',Rel K G H env σ fp->f env=.ok (r,env')->(∀v H' G' Ej,Step G H fp G' H' Ej->Rel K G' H' (some r::env') (some v::σ) Ej->Q v H')->tQ K f σ H Q
inductive tO(K:W.Frag)(f:FO)(σ:L2.St)(H:Hp)(Q:VK):Prop
 |mk:∀G env fp o env',Rel K G H env σ fp->f env=.ok (o,env')->(∀v H' G' Ej,Step G H fp G' H' Ej->Rel K G' H' env' σ Ej->OpdOk K G' σ o v->Q v H')->tO K f σ H Q
inductive tOs(K:W.Frag)(f:Fn)(σ:L2.St)(H:Hp)(Q:List V->Hp->Prop):Prop
 |mk:∀G env fp o env',Rel K G H env σ fp->f env=.ok (o,env')->(∀v H' G' Ej,Step G H fp G' H' Ej->Rel K G' H' env' σ Ej->mh K G' σ o v->Q v H')->tOs K f σ H Q
inductive tQT(K:W.Frag)(f:FT)(σ:L2.St)(H:Hp)(Q:Bool->Hp->Prop):Prop
 |mk:∀G env fp b env',Rel K G H env σ fp->f env=.ok (b,env')->(∀H' G' Ej,Step G H fp G' H' Ej->Rel K G' H' env' σ Ej->Q b H')->tQT K f σ H Q
inductive Mode where
 |plain|mut
def C3(md:Mode)(K:W.Frag)(G H:Hp)(r:R)(v:V)(fp:List Addr):Prop:=match md with
 | .plain=>Rel K G H [some r] [some v] fp
 | .mut=>∃o d p c d0,r=(.t [o,.pin p c],.tup [d,d0])/\Rel K G H [some (o,d),some (.pin p c,d0)] [some v,some (.ref p)] fp
noncomputable def OutOk{md:Mode}(K:W.Frag)(G H:Hp)(fp:List Addr)(Dd:Ends):Res Out->Prop
 | .ok (.nx env')=>∀σ' H' G' Ej,Step G H fp G' H' Ej->Rel K G' H' env' σ' Ej->Dd.nx σ' H'
 | .ok (.bk env')=>∀σ' H' G' Ej,Step G H fp G' H' Ej->Rel K G' H' env' σ' Ej->Dd.bk σ' H'
 | .ok (.ct env')=>∀σ' H' G' Ej,Step G H fp G' H' Ej->Rel K G' H' env' σ' Ej->Dd.ct σ' H'
 | .ok (.rt r)=>∀v H' G' Ej,Step G H fp G' H' Ej->C3 md K G' H' r v Ej->Dd.rt v H'
 |_=>False
inductive tQS{md:Mode}(K:W.Frag)(g:FS)(Dd:Ends)(σ:L2.St)(H:Hp):Prop
 |mk:∀G env fp,Rel K G H env σ fp->OutOk (md:=md) K G H fp Dd (g env)->tQS (md:=md) K g Dd σ H
def QE(X:Cx)(e:Expr)(f:FX):Prop:=PE X e (tQ X.K f)
def QO(X:Cx)(e:Expr)(f:FO):Prop:=PE X e (tO X.K f)
def Im(X:Cx)(es:List Expr)(f:Fn):Prop:=PA X es (tOs X.K f)
def QT(X:Cx)(e:Expr)(f:FT):Prop:=PT X e (tQT X.K f)
def QW(X:Cx)(e:Expr)(f:FT):Prop:=PW X e (tQT X.K f)
def QS{md:Mode}(X:Cx)(st:Stmt)(g:FS):Prop:=PS X st (tQS (md:=md) X.K g)
def Io{md:Mode}(X:Cx)(st:List Stmt)(g:FS):Prop:=PSs X st (tQS (md:=md) X.K g)
theorem aS{X:Cx}{e:Expr}{t t':TE}(h:PE X e t)(k:∀σ H Q,t' σ H Q->t σ H Q):PE X e t':=fun pr s σ H Q I w=>h pr s σ H Q I (k σ H Q w)
theorem km{X:Cx}{e:Expr}{t t':TT}(h:PT X e t)(k:∀σ H Q,t' σ H Q->t σ H Q):PT X e t':=fun pr s σ H Q I w=>h pr s σ H Q I (k σ H Q w)
theorem Ab{X:Cx}{e:Expr}{t t':TT}(h:PW X e t)(k:∀σ H Q,t' σ H Q->t σ H Q):PW X e t':=fun wh pr s σ H Q I w=>h wh pr s σ H Q I (k σ H Q w)
theorem oV{X:Cx}{e:List Expr}{t t':TA}(h:PA X e t)(k:∀σ H Q,t' σ H Q->t σ H Q):PA X e t':=fun pos pr s σ H Q I w=>h pos pr s σ H Q I (k σ H Q w)
theorem dy{X:Cx}{e:Stmt}{t t':TS}(h:PS X e t)(k:∀D σ H,t' D σ H->t D σ H):PS X e t':=fun pr s σ H D I w=>h pr s σ H D I (k D σ H w)
theorem rg{X:Cx}{e:List Stmt}{t t':TS}(h:PSs X e t)(k:∀D σ H,t' D σ H->t D σ H):PSs X e t':=fun pr s σ H D I w=>h pr s σ H D I (k D σ H w)
theorem OutOk.imp{md:Mode}{K:W.Frag}{G H G1 H1:Hp}{fp EB:List Addr}{Dd L1:Ends}{r:Res Out}(st:Step G H fp G1 H1 EB)(h:OutOk (md:=md) K G H fp Dd r)(n:∀σ H,Dd.nx σ H->L1.nx σ H)(b:∀σ H,Dd.bk σ H->L1.bk σ H)(c:∀σ H,Dd.ct σ H->L1.ct σ H)(t:∀v H,Dd.rt v H->L1.rt v H):OutOk (md:=md) K G1 H1 EB L1 r:=by
 match r,h with
 | .ok (.nx env'),h=>exact fun σ' H' G' Ej s q=>n _ _ (h σ' H' G' Ej (st.trans s) q)
 | .ok (.bk env'),h=>exact fun σ' H' G' Ej s q=>b _ _ (h σ' H' G' Ej (st.trans s) q)
 | .ok (.ct env'),h=>exact fun σ' H' G' Ej s q=>c _ _ (h σ' H' G' Ej (st.trans s) q)
 | .ok (.rt r),h=>exact fun v H' G' Ej s q=>t _ _ (h v H' G' Ej (st.trans s) q)
theorem OutOk.after{md:Mode}{K:W.Frag}{G H G1 H1:Hp}{fp EB:List Addr}{Dd:Ends}{r:Res Out}(st:Step G H fp G1 H1 EB)(h:OutOk (md:=md) K G H fp Dd r):OutOk (md:=md) K G1 H1 EB Dd r:=h.imp st (fun _ _ z=>z) (fun _ _ z=>z) (fun _ _ z=>z) fun _ _ z=>z
def aD(d:D):FX:=fun env=>.ok ((.f,d),env)
def fz:O->O
 | .pin p .f=>.pin p .f
 |_=>.f
def aV(i:Nat):FX:=fun env=>match env[i]? with
 |some (some r)=>.ok ((.f,r.2),env.set i (some (fz r.1,r.2)))
 |_=>.bad
def iP(i:Nat):FX:=fun env=>match env[i]? with
 |some (some r)=>.ok (r,env.set i none)
 |_=>.bad
def aq(f:FX):FO:=fun env=>(f env).bind fun p=>.ok (.val p.1.2,p.2)
def au(i:Nat):FO:=fun env=>match env[i]? with
 |some (some _)=>.ok (.var i,env)
 |_=>.bad
def aB:Fn:=fun env=>.ok ([],env)
def ai(f:FO)(g:Fn):Fn:=fun env=>(f env).bind fun p=>(g p.2).bind fun q=>.ok (p.1::q.1,q.2)
section
variable{X:Cx}
theorem ml{e:Expr}{v:V}{d:D}(h:PE X e (tC v))(r:∀G,Rep X.K G d v):QE X e (aD d):=aS h fun σ H Q Er=>by
 obtain⟨G,env,fp,rr,env',rel,e,k⟩:=Er;cases e;exact k v H G fp .refl (rel.push (r G))
theorem aj{i j pos}:QE X (.Constant (.int i) j pos) (aD (.int i)):=ml jg fun G=>by rw[Rep]
theorem gy{i j pos}:QE X (.Constant (.bool i) j pos) (aD (.bl i)):=ml BK fun G=>by rw[Rep]
theorem gj{j pos}:QE X (.Constant .none j pos) (aD .non):=ml y3 fun G=>by rw[Rep]
theorem mm{x j pos}{l:List Nat}(h:x=S l)(hl:l.length<=1000):QE X (.Constant (.str x) j pos) (aD (.str l)):=ml y4 fun G=>by
 rw[Rep,h];exact⟨rfl,by rw[line_eq];lia⟩
theorem xw{x:Str}{p:Pos}{n:Int}(h:Gi X.mg x n)(hg:Gl X x)(hd:(x==("__debug__" : Str))=false:=by decide):QE X (.Name x p) (aD (.int n)):=ml (B7 h hg hd) fun G=>by rw[Rep]
theorem aG{i:Nat}{e:Expr}(h:PE X e (ny i)):QE X e (aV i):=aS h fun σ H Q Er=>by
 obtain⟨G,env,fp,rr,env',rel,e,k⟩:=Er;unfold aV at e;split at e
 ·rename_i r hr;cases e;by_cases hf:fz r.1=.f
  ·obtain⟨v,G',fq,ev,rv,EC,st⟩:=rel.freezeAt hr;rw[hf]at k;exact⟨v,ev,k v H G' fq st (EC.push rv)⟩
  ·have hp:∃p,r.1=.pin p .f:=by
    unfold fz at hf;split at hf
    ·rename_i p hp;exact⟨p,hp⟩
    ·exact absurd rfl hf
   obtain⟨p,hp⟩:=hp;obtain⟨v,a,b,ev,r1,_,_⟩:=rel.rep.take hr;rw[hp,RepO]at r1;have es:env.set i (some (fz r.1,r.2))=env:=by
    refine kW ?_;rw[hr,hp];show some (some r)=some (some (.pin p .f,r.2));rw[<-hp]
   rw[es]at k;exact⟨v,ev,k v H G fp .refl (rel.push (eS.mp r1.2).1)⟩
 ·cases e
theorem ej{i:Nat}{e:Expr}(h:PE X e (ny i)):QE X e (iP i):=aS h fun σ H Q Er=>by
 obtain⟨G,env,fp,rr,env',rel,e,k⟩:=Er;unfold iP at e;split at e
 ·rename_i r hr;cases e;obtain⟨v,fq,ev,EC,st,_⟩:=rel.out hr;exact⟨v,ev,k v H G fq st EC⟩
 ·cases e
theorem aa{e:Expr}{f:FX}(h:QE X e f):QO X e (aq f):=aS h fun σ H Q Er=>by
 obtain⟨G,env,fp,o,env',rel,e,k⟩:=Er;obtain⟨⟨r,Ee⟩,e1,e⟩:=ag e;cases e;refine⟨G,env,fp,r,Ee,rel,e1,fun v H' G' Ej st EC=>?_⟩;obtain⟨G2,b,rv,Ef,El⟩:=EC.freeze;exact k v H' G2 b (st.trans El) Ef rv
theorem ae{i:Nat}{e:Expr}(h:PE X e (ny i)):QO X e (au i):=aS h fun σ H Q Er=>by
 obtain⟨G,env,fp,o,env',rel,e,k⟩:=Er;unfold au at e;split at e
 ·rename_i r hr;cases e;obtain⟨v,ev,_⟩:=rel.view hr;exact⟨v,ev,k v H G fp .refl rel ev⟩
 ·cases e
theorem ao:Im X [] aB:=oV ji fun σ H Q Er=>by
 obtain⟨G,env,fp,o,env',rel,e,k⟩:=Er;cases e;exact k [] H G fp .refl rel rfl
theorem af{e:Expr}{es:List Expr}{f:FO}{g:Fn}(h:QO X e f)(hs:Im X es g)(ID:starEach (e::es) X.env=(false,eval e X.env)::starEach es X.env:=by rfl):Im X (e::es) (ai f g):=
 oV (cR h hs ID) fun σ H Q Er=>by
  obtain⟨G,env,fp,o,env',rel,e,k⟩:=Er;obtain⟨⟨o1,Ee⟩,e1,e⟩:=ag e;obtain⟨⟨os,Ep⟩,e2,e⟩:=ag e;cases e;exact⟨G,env,fp,o1,Ee,rel,e1,fun v H1 G1 EB Es Eh Fo=>⟨G1,Ee,EB,os,Ep,Eh,e2,fun vs H2 G2 EW El Ef Hr=>k _ H2 G2 EW (Es.trans El) Ef ⟨v,vs,rfl,Fo.mono El.gg,Hr⟩⟩⟩
def aA(g:D->D->Res R)(fa fb:FO):FX:=fun env=>(fa env).bind fun p=>(fb p.2).bind fun q=>(Ff q.2 p.1).bind fun a=>(Ff q.2 q.1).bind fun b=>(g a b).bind fun r=>.ok (r,q.2)
def dv(g:D->D->Res R)(fa fb:FO):FX:=fun env=>(fa env).bind fun p=>(fb p.2).bind fun q=>(p3 q.2 p.1).bind fun a=>(p3 q.2 q.1).bind fun b=>(g a b).bind fun r=>.ok (r,q.2)
structure Goes(K:W.Frag)(H:Hp)(G:Hp)(fp:List Addr)(es:PV.Env)(vs:L2.St)(r:R)(Q:VK):Prop where
 rel:Rel K G H es vs fp
 goes:∀v H' G' Ej,Step G H fp G' H' Ej->Rel K G' H' (some r::es) (some v::vs) Ej->Q v H'
inductive rG(K:W.Frag)(g:D->D->Res R)(x:V)(y:V)(H:Hp)(Q:VK):Prop
 |mk:∀G fp es vs a b r,Goes K H G fp es vs r Q->Vw K G H a x->Vw K G H b y->g a b=.ok r->rG K g x y H Q
inductive rGA(K:W.Frag)(g:D->D->Res R)(x:V)(y:V)(H:Hp)(Q:VK):Prop
 |mk:∀G fp es vs a b r,Goes K H G fp es vs r Q->Rep K H a x->Rep K H b y->g a b=.ok r->rGA K g x y H Q
variable{a b c:Expr}{fa fb fc:FO}{pos:Pos}{g g':D->D->Res R}
theorem oW{σ:L2.St}{H:Hp}{Q:VK}(h:tQ X.K (aA g fa fb) σ H Q):Ln (rG X.K g) (tO X.K fa) (tO X.K fb) σ H Q:=by
 obtain⟨G,env,fp,r,env',rel,e,k⟩:=h;obtain⟨⟨oa,e1⟩,ha,e⟩:=ag e;obtain⟨⟨ob,e2⟩,hb,e⟩:=ag e;obtain⟨da,IK,e⟩:=ag e;obtain⟨db,Fm,e⟩:=ag e;obtain⟨r',hr,e⟩:=ag e;cases e;exact⟨G,env,fp,oa,e1,rel,ha,fun x H1 G1 EB Es Eh Fo=>⟨G1,e1,EB,ob,e2,Eh,hb,fun y H2 G2 EW El Ef Hr=>
  ⟨G2,EW,e2,σ,da,db,r,⟨Ef,fun v H' G' Ej st EC=>k v H' G' Ej (Es.trans (El.trans st)) EC⟩,Ef.vw (Fo.mono El.gg) IK,Ef.vw Hr Fm,hr⟩⟩⟩
theorem rh{σ:L2.St}{H:Hp}{Q:VK}(h:tQ X.K (dv g fa fb) σ H Q):Ln (rGA X.K g) (tO X.K fa) (tO X.K fb) σ H Q:=by
 obtain⟨G,env,fp,r,env',rel,e,k⟩:=h;obtain⟨⟨oa,e1⟩,ha,e⟩:=ag e;obtain⟨⟨ob,e2⟩,hb,e⟩:=ag e;obtain⟨da,IK,e⟩:=ag e;obtain⟨db,Fm,e⟩:=ag e;obtain⟨r',hr,e⟩:=ag e;cases e;exact⟨G,env,fp,oa,e1,rel,ha,fun x H1 G1 EB Es Eh Fo=>⟨G1,e1,EB,ob,e2,Eh,hb,fun y H2 G2 EW El Ef Hr=>
  ⟨G2,EW,e2,σ,da,db,r,⟨Ef,fun v H' G' Ej st EC=>k v H' G' Ej (Es.trans (El.trans st)) EC⟩,Ef.vwA (Fo.mono El.gg) IK,Ef.vwA Hr Fm,hr⟩⟩⟩
theorem aJ{op:Operator}(ho:EK X (binaryOp op) (rG X.K g))(ha:QO X a fa)(hb:QO X b fb):QE X (.BinOp a op b pos) (aA g fa fb):=aS (BW ho ha hb) fun _ _ _=>oW
theorem Ac{op:CmpOp}(ho:EK X (compareOp op) (rG X.K g))(ha:QO X a fa)(hb:QO X b fb)(hm:behindInMarks op b=false):QE X (.Compare a [op] [b] pos) (aA g fa fb):=aS (qy ho ha hb hm) fun _ _ _=>oW
theorem kX{op:CmpOp}(ho:EK X (compareOp op) (rGA X.K g))(ha:QO X a fa)(hb:QO X b fb)(hm:behindInMarks op b=false):QE X (.Compare a [op] [b] pos) (dv g fa fb):=aS (qy ho ha hb hm) fun _ _ _=>rh
def E5(f:FX):FT:=fun env=>(f env).bind fun p=>match p.1.2 with
 | .bl k=>.ok (k,p.2)
 |_=>.bad
theorem uA{f:FX}{σ:L2.St}{H:Hp}{Q:Bool->Hp->Prop}(h:tQT X.K (E5 f) σ H Q):tQ X.K f σ H fun x H'=>∃k,x=.bl k/\Q k H':=by
 obtain⟨G,env,fp,k,env',rel,e,q⟩:=h;obtain⟨⟨⟨o,d⟩,Ee⟩,e1,e⟩:=ag e;dsimp only at e;split at e
 ·cases e;refine⟨G,env,fp,_,_,rel,e1,fun v H' G' Ej st EC=>?_⟩;have hv:=EC.top;rw[show((o,D.bl k):R).2=D.bl k from rfl,Rep]at hv;obtain⟨b,Ef,El⟩:=EC.drop;exact⟨k,hv,q H' G' b (st.trans El) Ef⟩
 ·cases e
theorem dA{e:Expr}{f:FX}(h:QE X e f)(he:∀whole,isTrue e X.env whole=(do let v <-whole;standAt e.pos;holding [v] (truthy v)):=by intro _;rfl):QT X e (E5 f):=km (y6 h he) fun _ _ _=>uA
theorem kn{op:CmpOp}(ho:EK X (compareOp op) (rG X.K g))(ha:QO X a fa)(hb:QO X b fb)(hm:behindInMarks op b=false):QT X (.Compare a [op] [b] pos) (E5 (aA g fa fb)):=
 km (qz ho ha hb hm) fun _ _ _ h=>oW (uA h)
theorem cu{op:CmpOp}(ho:EK X (compareOp op) (rGA X.K g))(ha:QO X a fa)(hb:QO X b fb)(hm:behindInMarks op b=false):QT X (.Compare a [op] [b] pos) (E5 (dv g fa fb)):=
 km (qz ho ha hb hm) fun _ _ _ h=>rh (uA h)
def D9(f g:FT):FT:=fun env=>(f env).bind fun p=>if p.1 then g p.2 else .ok (false,p.2)
def IL(f g:FT):FT:=fun env=>(f env).bind fun p=>if p.1 then .ok (true,p.2) else g p.2
def nj(f:FT):FT:=fun env=>(f env).bind fun p=>.ok (!p.1,p.2)
variable{ga gb:FT}{dg:List Expr}
theorem ko(h:QT X a ga):QW X (.BoolOp .Or [a] pos) ga:=y7 h
theorem kY(h:QT X a ga)(h2:QW X (.BoolOp .Or (b::dg) pos) gb):QW X (.BoolOp .Or (a::b::dg) pos) (IL ga gb):=Ab (BL h h2) fun σ H Q Er=>by
 obtain⟨G,env,fp,k,env',rel,e,q⟩:=Er;obtain⟨⟨k1,Ee⟩,e1,e⟩:=ag e;refine⟨G,env,fp,k1,Ee,rel,e1,fun H1 G1 EB Es Eh=>?_⟩;dsimp only at e;cases k1 with
 |false=>exact⟨G1,Ee,EB,k,env',Eh,e,fun H2 G2 EW El Ef=>q H2 G2 EW (Es.trans El) Ef⟩
 |true=>
  cases e;exact q H1 G1 EB Es Eh
theorem QW.qt{e:Expr}{f:FT}(h:QW X e f):QT X e f:=h.pt
theorem dB(h:QT X a ga):QT X (.UnaryOp .Not a pos) (nj ga):=km (y8 h) fun σ H Q Er=>by
 obtain⟨G,env,fp,k,env',rel,e,q⟩:=Er;obtain⟨⟨k1,Ee⟩,e1,e⟩:=ag e;cases e;exact⟨G,env,fp,k1,Ee,rel,e1,fun H1 G1 EB Es Eh=>q H1 G1 EB Es Eh⟩
def Ad(f g:FX):FX:=fun env=>(f env).bind fun p=>match p.1.2 with
 | .bl true=>g p.2
 | .bl false=>.ok ((.f,.bl false),p.2)
 |_=>.bad
def eOr(f g:FX):FX:=fun env=>(f env).bind fun p=>match p.1.2 with
 | .bl true=>.ok ((.f,.bl true),p.2)
 | .bl false=>g p.2
 |_=>.bad
def Cf(f:FX):FX:=fun env=>(f env).bind fun p=>match p.1.2 with
 | .bl k=>.ok ((.f,.bl (!k)),p.2)
 |_=>.bad
def eIf(c:FT)(f g:FX):FX:=fun env=>(c env).bind fun p=>if p.1 then f p.2 else g p.2
variable{ea eb:FX}
theorem rj{op}(h:QE X a ea):QE X (.BoolOp op [a] pos) ea:=y9 h
theorem bw{K:W.Frag}{G:Hp}(k:Bool):Rep K G (.bl k) (.bl k):=by rw[Rep]
theorem bz{K:W.Frag}{G:Hp}(k:Int):Rep K G (.int k) (.int k):=by rw[Rep]
theorem gA{K:W.Frag}{G:Hp}:Rep K G .non .non:=by rw[Rep]
theorem gB{K:W.Frag}{G:Hp}{l:List Nat}(h:l.length<=sizeLine):Rep K G (.str l) (.str (S l)):=by
 rw[Rep];exact⟨rfl,h⟩
theorem bX{K:W.Frag}{G:Hp}{k:Bool}{v:V}(h:Rep K G (.bl k) v):v=.bl k:=by rw[Rep]at h;exact h
theorem bp{K:W.Frag}{G:Hp}{k:Int}{v:V}(h:Rep K G (.int k) v):v=.int k:=by rw[Rep]at h;exact h
theorem bP{K:W.Frag}{G:Hp}{v:V}(h:Rep K G .non v):v=.non:=by rw[Rep]at h;exact h
theorem a7{K:W.Frag}{G:Hp}{l:List Nat}{v:V}(h:Rep K G (.str l) v):v=.str (S l)/\l.length<=sizeLine:=by rw[Rep]at h;exact h
inductive OfT(K:W.Frag)(G:Hp)(l:List D)(v:V):Prop
 |mk (p:Addr) (xs:List V) (e:v=.ref p) (q:SqT K G p xs) (r:Reps K G l xs):OfT K G l v
inductive OfL(K:W.Frag)(G:Hp)(l:List D)(v:V):Prop
 |mk (p:Addr) (xs:List V) (e:v=.ref p) (q:SqL K G p xs) (r:Reps K G l xs):OfL K G l v
theorem aY{K:W.Frag}{G:Hp}{l:List D}{v:V}(h:Rep K G (.tup l) v):OfT K G l v:=by
 rw[Rep]at h;obtain⟨p,xs,e,q,r⟩:=h;exact⟨p,xs,e,SqT.of q,r⟩
theorem rk{K:W.Frag}{G:Hp}{l:List D}{v:V}(h:Rep K G (.tup l) v):∃p xs,v=.ref p/\G p=some (.tup xs)/\Reps K G l xs:=by rw[Rep]at h;exact h
theorem bc{K:W.Frag}{G:Hp}{l:List D}{v:V}(h:Rep K G (.lst l) v):OfL K G l v:=by
 rw[Rep]at h;obtain⟨p,xs,e,q,r⟩:=h;exact⟨p,xs,e,q,r⟩
theorem bo{K:W.Frag}{G H:Hp}{k:Int}{v:V}(h:Vw K G H (.int k) v):v=.int k:=bp (K:=K) (G:=G) h
theorem dC{K:W.Frag}{G H:Hp}{l:List Nat}{v:V}(h:Vw K G H (.str l) v):v=.str (S l)/\l.length<=sizeLine:=a7 (K:=K) (G:=G) h
theorem gk{K:W.Frag}{G H:Hp}{l:List D}{v:V}(h:Vw K G H (.tup l) v):OfT K G l v:=aY (K:=K) (G:=G) h
theorem rm(h:QE X a ea)(h2:QE X (.BoolOp .And (b::dg) pos) eb):QE X (.BoolOp .And (a::b::dg) pos) (Ad ea eb):=aS (za h h2) fun σ H Q Er=>by
 obtain⟨G,env,fp,r,env',rel,e,q⟩:=Er;obtain⟨⟨⟨o,d⟩,Ee⟩,e1,e⟩:=ag e;refine⟨G,env,fp,_,Ee,rel,e1,fun v H1 G1 EB Es Eh=>?_⟩;have hv:=Eh.top;obtain⟨b',Ef,El⟩:=Eh.drop;dsimp only at e hv;split at e
 ·exact⟨true,bX hv,zy ⟨G1,Ee,b',r,env',Ef,e,fun v H2 G2 EW EJ EG=>q v H2 G2 EW (Es.trans (El.trans EJ)) EG⟩⟩
 ·cases e;exact⟨false,bX hv,iteF (q _ H1 G1 b' (Es.trans El) (Ef.push (bw _)))⟩
 ·cases e
theorem Ae(h:QE X a ea):QE X (.UnaryOp .Not a pos) (Cf ea):=aS (zb h) fun σ H Q Er=>by
 obtain⟨G,env,fp,r,env',rel,e,q⟩:=Er;obtain⟨⟨⟨o,d⟩,Ee⟩,e1,e⟩:=ag e;refine⟨G,env,fp,_,Ee,rel,e1,fun v H1 G1 EB Es Eh=>?_⟩;have hv:=Eh.top;obtain⟨b',Ef,El⟩:=Eh.drop;dsimp only at e hv;split at e
 ·cases e;exact⟨_,bX hv,q _ H1 G1 b' (Es.trans El) (Ef.push (bw _))⟩
 ·cases e
noncomputable def mn(g g':D->D->Res R)(fa fb fc:FO):FX:=fun env=>(fa env).bind fun p=>(fb p.2).bind fun q=>(Ff q.2 p.1).bind fun a=>(Ff q.2 q.1).bind fun b=>(g a b).bind fun r=>match r with
 |(.f,.bl true)=>(fc q.2).bind fun t=>(Ff t.2 q.1).bind fun b=>(Ff t.2 t.1).bind fun c=>(g' b c).bind fun r=>.ok (r,t.2)
 |(.f,.bl false)=>.ok ((.f,.bl false),q.2)
 |_=>.bad
theorem uB{σ:L2.St}{H:Hp}{Q:VK}(h:tQ X.K (mn g g' fa fb fc) σ H Q):vJ (rG X.K g) (rG X.K g') (tO X.K fa) (tO X.K fb) (tO X.K fc) σ H Q:=by
 obtain⟨G,env,fp,r,env',rel,e,k⟩:=h;obtain⟨⟨oa,e1⟩,ha,e⟩:=ag e;obtain⟨⟨ob,e2⟩,hb,e⟩:=ag e;obtain⟨da,IK,e⟩:=ag e;obtain⟨db,Fm,e⟩:=ag e;obtain⟨r',hr,e⟩:=ag e;refine⟨G,env,fp,oa,e1,rel,ha,fun x H1 G1 EB Es Eh Fo=>⟨G1,e1,EB,ob,e2,Eh,hb,fun y H2 G2 EW El Ef Hr=>
  ⟨G2,EW,e2,σ,da,db,r',⟨Ef,fun v H3 G3 Ge EJ EG=>?_⟩,Ef.vw (Fo.mono El.gg) IK,Ef.vw Hr Fm,hr⟩⟩⟩
 have hv:=EG.top;obtain⟨b3,EH,E7⟩:=EG.drop;split at e
 ·refine⟨true,bX hv,zy ?_⟩;obtain⟨⟨oc,e3⟩,hc,e⟩:=ag e;obtain⟨db',hdb',e⟩:=ag e;obtain⟨dc,hdc,e⟩:=ag e;obtain⟨r2,hr2,e⟩:=ag e;cases e;exact⟨G3,e2,b3,oc,e3,EH,hc,fun z H5 G5 KC Gd E8 ok5=>⟨G5,KC,e3,σ,db',dc,r,⟨E8,fun v H' G' Ej st EC=>k v H' G' Ej (Es.trans (El.trans (EJ.trans (E7.trans (Gd.trans st))))) EC⟩,
   E8.vw ((Hr.mono EJ.gg).mono Gd.gg) hdb',E8.vw ok5 hdc,hr2⟩⟩
 ·cases e;exact⟨false,bX hv,iteF (k _ H3 G3 b3 (Es.trans (El.trans (EJ.trans E7))) (EH.push (bw _)))⟩
 ·cases e
theorem uC{op Jg:CmpOp}(ho:EK X (compareOp op) (rG X.K g))(Ie:EK X (compareOp Jg) (rG X.K g'))(ha:QO X a fa)(hb:QO X b fb)(hc:QO X c fc)(hm:lastMarks [op,Jg] [b,c]=false:=by with_unfolding_all rfl):
  QT X (.Compare a [op,Jg] [b,c] pos) (E5 (mn g g' fa fb fc)):=km (tU ho Ie ha hb hc hm) fun _ _ _ h=>uB (uA h)
inductive rC(K:W.Frag)(g:List D->Res R)(xs:List V)(H:Hp)(Q:VK):Prop
 |mk:∀G fp es vs ds r,Goes K H G fp es vs r Q->J9 K G H ds xs->g ds=.ok r->rC K g xs H Q
def bA(g:List D->Res R)(fs:Fn):FX:=fun env=>(fs env).bind fun p=>(ni p.2 p.1).bind fun ds=>(g ds).bind fun r=>.ok (r,p.2)
theorem rp{gg:List D->Res R}{fs:Fn}{σ:L2.St}{H:Hp}{Q:VK}(h:tQ X.K (bA gg fs) σ H Q):Na (rC X.K gg) (tOs X.K fs) σ H Q:=by
 obtain⟨G,env,fp,r,env',rel,e,k⟩:=h;obtain⟨⟨os,e1⟩,ha,e⟩:=ag e;obtain⟨ds,hd,e⟩:=ag e;obtain⟨r',hr,e⟩:=ag e;cases e;exact⟨G,env,fp,os,e1,rel,ha,fun vs H1 G1 EB Es Eh Fo=>⟨G1,EB,e1,σ,ds,r,⟨Eh,fun v H' G' Ej st EC=>k v H' G' Ej (Es.trans st) EC⟩,Eh.vws Fo hd,hr⟩⟩
variable{x:Str}{p:Pos}{e:Expr}{es:List Expr}{gg:List D->Res R}{fs:Fn}{id T:String}
theorem bB(hc:du X (.builtin id) (rC X.K gg))(hg:Gl X x)(hm:X.mg x=none)(hv:bootBuiltins x=some (.builtin id))(ha:Im X (e::es) fs)(hn:x≠"__name__":=by decide)(Fm:(x==("__debug__" : Str))=false:=by decide)
  (he:starEach (e::es) X.env=(false,eval e X.env)::starEach es X.env:=by rfl) (Fd:(backTo pos (starEach es X.env)).any (·.1)=false:=by rfl):QE X (.Call (.Name x p) (e::es) [] pos) (bA gg fs):=
 aS (oH hc hg hm hv ha hn Fm he Fd) fun _ _ _=>rp
theorem bY(hc:du X (.type T) (rC X.K gg))(hg:Gl X x)(hm:X.mg x=none)(hv:bootBuiltins x=some (.type T))(ha:Im X (e::es) fs)(hn:x≠"__name__":=by decide)(Fm:(x==("__debug__" : Str))=false:=by decide)
  (he:starEach (e::es) X.env=(false,eval e X.env)::starEach es X.env:=by rfl) (Fd:(backTo pos (starEach es X.env)).any (·.1)=false:=by rfl):QE X (.Call (.Name x p) (e::es) [] pos) (bA gg fs):=
 aS (qC hc hg hm hv ha hn Fm he Fd) fun _ _ _=>rp
inductive spF(K:W.Frag)(F:List D->Res R)(vs:List V)(H:Hp)(Q:VK)(zz:XK):Prop
 |mk:∀G ds r,Same G H->Reps K G ds vs->F ds=.ok r->(∀v H' G' Ej,Step G H [] G' H' Ej->Rel K G' H' [some r] [some v] Ej->Q v H')->spF K F vs H Q zz
def eB(F:List D->Res R)(fs:Fn):FX:=fun env=>(fs env).bind fun p=>(jv p.2 p.1).bind fun ds=>(F ds).bind fun r=>.ok (r,if aZ r.1 r.2 then p.2 else p.2.map frz)
theorem a8{F:List D->Res R}{k:Nat}(C:Ct X.prog X.w X.K X.mg X.base x k (spF X.K F))(hr:Room k X.A)(hg:Gl X x)(ha:Im X (e::es) fs)(Fm:(x==("__debug__" : Str))=false:=by decide)
  (he:starEach (e::es) X.env=(false,eval e X.env)::starEach es X.env:=by rfl) (Fd:(backTo pos (starEach es X.env)).any (·.1)=false:=by rfl):QE X (.Call (.Name x p) (e::es) [] pos) (eB F fs):=
 aS (zL C hr hg ha Fm he Fd) fun σ H Q Er=>by
  obtain⟨G,env,fp,r,env',rel,e,k⟩:=Er;obtain⟨⟨os,e1⟩,ha,e⟩:=ag e;obtain⟨ds,hd,e⟩:=ag e;obtain⟨r',hr,e⟩:=ag e;refine⟨G,env,fp,os,e1,rel,ha,fun vs H1 G1 EB Es Eh Fo=>?_⟩;show spF X.K F (vs++[]) H1 Q _;rw[O8];obtain⟨G2,L3,L4,Gp,_,FV⟩:=Eh.lend;refine⟨G2,ds,r',L4,jw L3 Gp Fo hd,hr,fun v H' G' Ej st EC=>?_⟩;obtain⟨k1,k2⟩:=FV H' G' Ej r' v st EC;by_cases hc:aZ r'.1 r'.2=true
  ·rw[OZ hc]at e;cases e;obtain⟨G3,Ge,EJ,EG⟩:=k1 hc;exact k v H' G3 Ge (Es.trans EJ) EG
  ·rw[O5 hc]at e;cases e;obtain⟨G3,Ge,EJ,EG⟩:=k2;exact k v H' G3 Ge (Es.trans EJ) EG
end
def sSeq(g1 g2:FS):FS:=fun env=>(g1 env).bind fun o=>match o with
 | .nx e=>g2 e
 |o=>.ok o
def cU:FS:=fun env=>.ok (.nx env)
def vW:FS:=fun _=>.bad
def bW(i:Nat)(f:FX):FS:=fun env=>(f env).bind fun p=>if i<p.2.length then .ok (.nx (p.2.set i (some p.1))) else .bad
def eX(f:FX):FS:=fun env=>(f env).bind fun p=>.ok (.nx p.2)
def d7(f:FX):FS:=fun env=>(f env).bind fun p=>.ok (.rt p.1)
def FN(c:FT)(g h:FS):FS:=fun env=>(c env).bind fun p=>if p.1 then g p.2 else h p.2
section
variable{md:Mode}{X:Cx}{st:Stmt}{KD:List Stmt}{g h:FS}{f:FX}{c:FT}{pos:Pos}{e:Expr}
theorem bf:Io (md:=md) X [] cU:=rg wH fun D σ H ⟨G,env,fp,rel,k⟩=>k σ H G fp .refl rel
theorem aw(a:QS (md:=md) X st g):Io (md:=md) X [st] g:=wI a
theorem ah(a:QS (md:=md) X st g)(b:Io (md:=md) X KD h):Io (md:=md) X (st::KD) (sSeq g h):=rg (tJ a b) fun D σ H Er=>by
 obtain⟨G,env,fp,rel,k⟩:=Er;refine⟨G,env,fp,rel,?_⟩;have k:OutOk X.K G H fp D ((g env).bind fun o=>match o with | .nx e=>h e|o=>.ok o):=k;match q:g env,k with
 | .ok (.nx Ee),k=>exact fun σ1 H1 G1 EB Es Eh=>⟨G1,Ee,EB,Eh,OutOk.after Es k⟩
 | .ok (.bk Ee),k=>exact k
 | .ok (.ct Ee),k=>exact k
 | .ok (.rt r),k=>exact k
theorem uD:QS (md:=md) X st vW:=dy tN fun D σ H ⟨G,env,fp,rel,k⟩=>k
theorem rq{K:W.Frag}{G H:Hp}{fp:List Addr}{D:Ends}{i:Nat}{env:PV.Env}{σ:L2.St}(rel:Rel K G H env σ fp)(k:OutOk (md:=md) K G H fp D (bW i f env)):tQ K f σ H fun v H'=>D.nx (σ.set i (some v)) H':=by
 unfold bW at k;match q:f env,k with
 | .ok (r,Ee),k=>
  have k:OutOk K G H fp D (if i<Ee.length then .ok (.nx (Ee.set i (some r))) else .bad):=k;by_cases hi:i<Ee.length
  ·rw[OZ hi]at k;refine⟨G,env,fp,r,Ee,rel,q,fun v H1 G1 EB Es Eh=>?_⟩;obtain⟨fq,Ef,El⟩:=Eh.store hi;exact k _ H1 G1 fq (Es.trans El) Ef
  ·rw[O5 hi]at k;exact k.elim
theorem aF{i:Nat}{x:Str}{pos':Pos}(hN:X.N.Nodup)(hi:X.N[i]?=some x)(hx:Loc X.env.scope x)(he:QE X e f)(hs:swapsWith e (some (.Name x pos')) pos.line X.env=pure false:=by rfl)(hf:X.fn x=true\/X.env.scope.names.lookup x=some .local:=by first|exact .inl rfl|exact .inr rfl|assumption):
  QS (md:=md) X (.Assign [.Name x pos'] e pos) (bW i f):=dy (zf (i:=i) hN hi hx he hs hf) fun D σ H ⟨G,env,fp,rel,k⟩=>rq rel k
theorem cE(he:QE X e f)(hs:swapsWith e none pos.line X.env=pure false:=by rfl):QS (md:=md) X (.Expr e pos) (eX f):=dy (wJ he hs) fun D σ H Er=>by
 obtain⟨G,env,fp,rel,k⟩:=Er;unfold eX at k;match q:f env,k with
 | .ok (r,Ee),k=>
  refine⟨G,env,fp,r,Ee,rel,q,fun v H1 G1 EB Es Eh=>?_⟩;obtain⟨b,Ef,El⟩:=Eh.drop;exact k _ H1 G1 b (Es.trans El) Ef
theorem Rel.only{K:W.Frag}{G H:Hp}{r:R}{v:V}{es:PV.Env}{vs:L2.St}{fp:List Addr}(q:Rel K G H (some r::es) (some v::vs) fp):∃a,Rel K G H [some r] [some v] a/\Step G H fp G H a:=by
 obtain⟨y,ys,e,v',a,b,e1,e2,r1,r2⟩:=q.rep;cases e;cases e1;subst e2;have nd:=Pg.mp q.nd;exact⟨a,⟨⟨some v,[],rfl,v,a,[],rfl,(O8 _).symm,r1,rfl,rfl⟩,nd.1,fun p hp=>q.gn p (O3 _ hp),q.gh⟩,Step.cut fun p hp=>O3 _ hp⟩
theorem aW(he:QE X e f):QS (md:=.plain) X (.Return (some e) pos) (d7 f):=dy (vG he) fun D σ H Er=>by
 obtain⟨G,env,fp,rel,k⟩:=Er;unfold d7 at k;match q:f env,k with
 | .ok (r,Ee),k=>
  refine⟨G,env,fp,r,Ee,rel,q,fun v H1 G1 EB Es Eh=>?_⟩;obtain⟨b,Ef,El⟩:=Eh.only;exact k _ H1 G1 b (Es.trans El) Ef
theorem Rel.nilF{K:W.Frag}{G H:Hp}{es:PV.Env}{vs:L2.St}{fp:List Addr}(q:Rel K G H es vs fp):Rel K G H [] [] []:=⟨⟨rfl,rfl⟩,QC,(fun _ h=>nomatch h),q.gh⟩
theorem dh{a b:List Stmt}{ct:Expr}(hc:QT X ct c)(ha:Io (md:=md) X a g)(hb:Io (md:=md) X b h):QS (md:=md) X (.If ct a b pos) (FN c g h):=dy (BQ hc ha hb) fun D σ H Er=>by
 obtain⟨G,env,fp,rel,k⟩:=Er;unfold FN at k;match q:c env,k with
 | .ok (true,Ee),k=>exact⟨G,env,fp,true,Ee,rel,q,fun H1 G1 EB Es Eh=>zy ⟨G1,Ee,EB,Eh,OutOk.after Es k⟩⟩
 | .ok (false,Ee),k=>exact⟨G,env,fp,false,Ee,rel,q,fun H1 G1 EB Es Eh=>iteF ⟨G1,Ee,EB,Eh,OutOk.after Es k⟩⟩
def cZ(c:FT)(g:FS):Nat->FS
 | 0,_=>.bad
 |n+1,env=>(c env).bind fun p=>if p.1 then(g p.2).bind fun o=>match o with
  | .nx e=>cZ c g n e
  | .ct e=>cZ c g n e
  | .bk e=>.ok (.nx e)
  | .rt r=>.ok (.rt r)
  else .ok (.nx p.2)
theorem oX{ct:Expr}{body:List Stmt}(n:Nat)(hp:PassesOwn (model X.prog X.w) X.A X.env X.xe)(hc:QT X ct c)(hb:Io (md:=md) X body g):QS (md:=md) X (.While ct body [] pos) (cZ c g n):=
 dy (tP hp hc hb) fun D σ H Er=>by
  obtain⟨G,env,fp,rel,k⟩:=Er;refine⟨fun m σ' H'=>∃G' env' Ej,Rel X.K G' H' env' σ' Ej/\OutOk X.K G' H' Ej D (cZ c g m env'),⟨n,G,env,fp,rel,k⟩,?_⟩;rintro m σ1 H1 ⟨G1,Ee,EB,Eh,k1⟩;cases m with
  |zero=>exact k1.elim
  |succ m=>
   unfold cZ at k1;match q:c Ee,k1 with
   | .ok (false,Ep),k1=>exact⟨G1,Ee,EB,false,Ep,Eh,q,fun H2 G2 EW El Ef=>iteF (k1 _ H2 G2 EW El Ef)⟩
   | .ok (true,Ep),k1=>
    refine⟨G1,Ee,EB,true,Ep,Eh,q,fun H2 G2 EW El Ef=>zy ?_⟩;refine⟨fun σ' H'=>∃G' env' Ej,Rel X.K G' H' env' σ' Ej/\OutOk X.K G' H' Ej D (cZ c g m env'),fun σ' H' z=>⟨m,Qf _,z⟩,G2,Ep,EW,Ef,?_⟩;have k2:OutOk X.K G1 H1 EB D ((g Ep).bind fun o=>match o with | .nx e=>cZ c g m e | .ct e=>cZ c g m e | .bk e=>.ok (.nx e) | .rt r=>.ok (.rt r)):=k1;match q2:g Ep,k2 with
    | .ok (.nx e),k2=>exact fun σ' H' G' Ej st rel=>⟨G',e,Ej,rel,OutOk.after (El.trans st) k2⟩
    | .ok (.ct e),k2=>exact fun σ' H' G' Ej st rel=>⟨G',e,Ej,rel,OutOk.after (El.trans st) k2⟩
    | .ok (.bk e),k2=>exact fun σ' H' G' Ej st rel=>k2 σ' H' G' Ej (El.trans st) rel
    | .ok (.rt r),k2=>exact fun v H' G' Ej st rel=>k2 v H' G' Ej (El.trans st) rel
def Walk(K:W.Frag)(G:Hp)(J:It)(ds:List D):Prop:=∀G' H' es vs fp,Same G G'->Rel K G' H' es vs fp->∀i:Nat,
 (∀d,ds[i]?=some d->J.go i H'/\∀x H2,J.yld i H' x H2->∃G2,Rep K G2 d x/\Rel K G2 H2 es vs fp/\Step G' H' fp G2 H2 fp)/\(i=ds.length->J.stop i H')
abbrev FI:=PV.Env->Res (List D×PV.Env)
inductive tQI(K:W.Frag)(f:FI)(σ:L2.St)(H:Hp)(R:It->Hp->Prop):Prop
 |mk:∀G env fp ds env',Rel K G H env σ fp->f env=.ok (ds,env')->(∀J H' G' Ej,Step G H fp G' H' Ej->Rel K G' H' env' σ Ej->Walk K G' J ds->R J H')->tQI K f σ H R
def QI(X:Cx)(tg e:Expr)(f:FI):Prop:=PI X tg e (tQI X.K f)
theorem jx{X:Cx}{tg e:Expr}{t t':TI}(h:PI X tg e t)(k:∀σ H R,t' σ H R->t σ H R):PI X tg e t':=fun pr s σ H R I w=>h pr s σ H R I (k σ H R w)
abbrev FG:=D->PV.Env->Res PV.Env
inductive tQG(K:W.Frag)(a:FG)(v:V)(σ:L2.St)(H:Hp)(Q:L2.St->Hp->Prop):Prop
 |mk:∀G env fp d env',Rel K G H env σ fp->Rep K G d v->a d env=.ok env'->(∀σ' G' Ej,Step G H fp G' H Ej->Rel K G' H env' σ' Ej->Q σ' H)->tQG K a v σ H Q
def QG(X:Cx)(tg:Expr)(a:FG):Prop:=PG X tg (tQG X.K a)
def az(i:Nat):FG:=fun d env=>if i<env.length then .ok (env.set i (some (.f,d))) else .bad
theorem vX{X:Cx}{tg:Expr}{t t':TG}(h:PG X tg t)(k:∀v σ H Q,t' v σ H Q->t v σ H Q):PG X tg t':=fun pr s σ H v u Q I r w=>h pr s σ H v u Q I r (k v σ H Q w)
theorem rA{X:Cx}{tg:List Expr}{t t':J5}(h:Kh X tg t)(k:∀v σ H Q,t' v σ H Q->t v σ H Q):Kh X tg t':=fun pr s σ H v u Q I r w=>h pr s σ H v u Q I r (k v σ H Q w)
theorem aI{i:Nat}{x:Str}(hN:X.N.Nodup)(hi:X.N[i]?=some x)(hx:Loc X.env.scope x)(hf:X.fn x=true\/X.env.scope.names.lookup x=some .local:=by first|exact .inl rfl|exact .inr rfl|assumption):QG X (.Name x pos) (az i):=
 vX (nE (i:=i) hN hi hx hf) fun v σ H Q Er=>by
  obtain⟨G,env,fp,d,env',rel,r,e,k⟩:=Er;unfold az at e;split at e
  ·rename_i hl;cases e;obtain⟨fq,Ef,El⟩:=(rel.push r).store hl;exact k _ G fq El Ef
  ·cases e
abbrev Jw:=List D->PV.Env->Res PV.Env
inductive tQGs(K:W.Frag)(a:Jw)(vs:List V)(σ:L2.St)(H:Hp)(Q:L2.St->Hp->Prop):Prop
 |mk:∀G env fp ds env',Rel K G H env σ fp->Reps K G ds vs->a ds env=.ok env'->(∀σ' G' Ej,Step G H fp G' H Ej->Rel K G' H env' σ' Ej->Q σ' H)->tQGs K a vs σ H Q
def MQ(X:Cx)(tg:List Expr)(a:Jw):Prop:=Kh X tg (tQGs X.K a)
def eC:Jw:=fun ds env=>match ds with
 |[]=>.ok env
 |_=>.bad
def aK(a:FG)(b:Jw):Jw:=fun ds env=>match ds with
 |d::ds=>(a d env).bind fun e=>b ds e
 |_=>.bad
theorem gC:MQ X [] eC:=rA qo fun vs σ H Q Er=>by
 obtain⟨G,env,fp,ds,env',rel,r,e,k⟩:=Er;cases ds with
 |nil=>
  cases e;rw[Reps]at r;exact⟨r,k σ G fp .refl rel⟩
 |cons d ds=>cases e
theorem bj{tg:Expr}{Ip:List Expr}{a:FG}{b:Jw}(h1:QG X tg a)(h2:MQ X Ip b)(hs:(assignEach (tg::Ip) X.env).map (·.2)=assign tg X.env::(assignEach Ip X.env).map (·.2):=by rfl):MQ X (tg::Ip) (aK a b):=
 rA (kH h1 h2 hs) fun vs σ H Q Er=>by
  obtain⟨G,env,fp,ds,env',rel,r,e,k⟩:=Er;cases ds with
  |nil=>cases e
  |cons d ds=>
   rw[Reps]at r;obtain⟨y,ys,ev,r1,r2⟩:=r;obtain⟨Ee,e1,e2⟩:=ag e;exact⟨y,ys,ev,G,env,fp,d,Ee,rel,r1,e1,fun σ1 G1 EB Es Eh=>⟨G1,Ee,EB,ds,env',Eh,r2.mono Es.gg,e2,fun σ2 G2 EW El Ef=>k σ2 G2 EW (Es.trans El) Ef⟩⟩
def kq(n:Nat)(a:Jw):FG:=fun d env=>match d with
 | .tup ds=>if ds.length=n then a ds env else .bad
 |_=>.bad
theorem jy{Ip:List Expr}{k n:Nat}{a:Jw}(hc:X.calm=true)(h:MQ X Ip a)(hn:(assignEach Ip X.env).length=n:=by rfl)(ID:(assignEach Ip X.env).findIdx? (·.1)=none:=by rfl):QG X (.Tuple Ip k pos) (kq n a):=
 vX (vH hc h hn ID) fun v σ H Q Er=>by
  obtain⟨G,env,fp,d,env',rel,r,e,k⟩:=Er;unfold kq at e;split at e
  ·rename_i ds;split at e
   ·rename_i hl;obtain⟨p,xs,ev,sq,rs⟩:=aY r;exact⟨p,xs,ev,br rel.gh sq,rs.length.trans hl,G,env,fp,ds,env',rel,rs,e,k⟩
   ·cases e
  ·cases e
def jX(a:FG)(g:FS):List D->FS
 |[],env=>.ok (.nx env)
 |d::ds,env=>(a d env).bind fun e=>(g e).bind fun o=>match o with
  | .nx e=>jX a g ds e
  | .ct e=>jX a g ds e
  | .bk e=>.ok (.nx e)
  | .rt r=>.ok (.rt r)
def oY(f:FI)(a:FG)(g:FS):FS:=fun env=>(f env).bind fun p=>jX a g p.1 p.2
theorem eY{tg iter:Expr}{body:List Stmt}{fi:FI}{a:FG}(hp:PassesOwn (model X.prog X.w) X.A X.env X.xe)(hc:X.calm=true)(hi:QI X tg iter fi)(hg:QG X tg a)(hb:Io (md:=md) X body g)(hs:∀x,foldedSetIterable iter X.env x=pure x:=by intro _;rfl):QS (md:=md) X (.For tg iter body [] pos) (oY fi a g):=
 dy (zi hp hc hi hg hb hs) fun D σ H Er=>by
  obtain⟨G,env,fp,rel,k⟩:=Er;unfold oY at k;match q:fi env,k with
  | .ok (ds,Ee),k=>
   refine⟨G,env,fp,ds,Ee,rel,q,fun J H1 G1 EB Es Eh wk=>?_⟩;have k:OutOk X.K G H fp D (jX a g ds Ee):=k;refine⟨fun i m σ' H'=>m=ds.length-i/\i<=ds.length/\∃G' env' Ej,Same G1 G'/\Rel X.K G' H' env' σ' Ej/\OutOk X.K G' H' Ej D (jX a g (ds.drop i) env'),⟨_,rfl,PD _,G1,Ee,EB,.refl _,Eh,OutOk.after Es k⟩,?_⟩;rintro i m σ2 H2 ⟨rfl,hi,G2,Ep,EW,gg,Ef,k2⟩;obtain⟨w1,w2⟩:=wk G2 H2 _ _ _ gg Ef i;by_cases E3:i<ds.length
   ·have hd:ds[i]?=some ds[i]:=List.getElem?_eq_getElem E3;obtain⟨go,yl⟩:=w1 _ hd;rw[RW E3]at k2;refine .inr ⟨go,fun σ' H'=>∃G' env' Ej,Same G1 G'/\Rel X.K G' H' env' σ' Ej/\OutOk X.K G' H' Ej D (jX a g (ds.drop (i+1)) env'),fun σ' H' z=>⟨ds.length-(i+1),by lia,rfl,E3,z⟩,fun x H3 y=>?_⟩;obtain⟨G3,rx,EG,EJ⟩:=yl x H3 y;unfold jX at k2;match q3:a ds[i] Ep,k2 with
    | .ok Fp,k2=>
     refine⟨G3,Ep,EW,ds[i],Fp,EG,rx,q3,fun σ4 G4 L5 E7 EH=>⟨G4,Fp,L5,EH,?_⟩⟩;have k3:OutOk X.K G2 H2 EW D ((g Fp).bind fun o=>match o with | .nx e=>jX a g (ds.drop (i+1)) e | .ct e=>jX a g (ds.drop (i+1)) e | .bk e=>.ok (.nx e) | .rt r=>.ok (.rt r)):=k2;match q4:g Fp,k3 with
     | .ok (.nx e),k3=>exact fun σ' H' G' Ej st rel=>⟨G',e,Ej,gg.trans (EJ.gg.trans (E7.gg.trans st.gg)),rel,OutOk.after (EJ.trans (E7.trans st)) k3⟩
     | .ok (.ct e),k3=>exact fun σ' H' G' Ej st rel=>⟨G',e,Ej,gg.trans (EJ.gg.trans (E7.gg.trans st.gg)),rel,OutOk.after (EJ.trans (E7.trans st)) k3⟩
     | .ok (.bk e),k3=>exact fun σ' H' G' Ej st rel=>k3 σ' H' G' Ej (EJ.trans (E7.trans st)) rel
     | .ok (.rt r),k3=>exact fun v H' G' Ej st rel=>k3 v H' G' Ej (EJ.trans (E7.trans st)) rel
   ·have e:i=ds.length:=by lia
    subst e;rw[List.drop_length]at k2;exact .inl ⟨w2 rfl,k2 σ2 H2 G2 EW .refl Ef⟩
def Af(f:FX):FI:=fun env=>(f env).bind fun p=>match p.1.2 with
 | .lst ds=>.ok (ds,p.2)
 |_=>.bad
def iQ(f:FX):FI:=fun env=>(f env).bind fun p=>match p.1.2 with
 | .tup ds=>.ok (ds,p.2)
 |_=>.bad
variable{tg l:Expr}
theorem mq{K:W.Frag}{G:Hp}{a:Addr}{xs:List V}{ds:List D}(sq:SqL K G a xs)(rs:Reps K G ds xs):Walk K G (Lm K a) ds:=by
 intro G' H' es vs fp gg rel i;have Fx:SqL K H' a xs:=fR rel.gh (fR gg sq);refine⟨fun d hd=>?_,fun e=>⟨xs,Fx,by rw[rs.length];lia⟩⟩;obtain⟨x,hx,rx⟩:=rs.get hd;refine⟨⟨xs,x,Fx,hx⟩,fun y H2 ⟨e,hy⟩=>?_⟩;subst e;have:=hy xs Fx;rw[hx]at this;cases this;exact⟨G',Rep.mono gg rx,rel,.refl⟩
theorem uE{K:W.Frag}{G:Hp}{a:Addr}{xs:List V}{ds:List D}(sq:SqT K G a xs)(rs:Reps K G ds xs):Walk K G (M6 K a) ds:=by
 intro G' H' es vs fp gg rel i;have Fx:SqT K H' a xs:=br rel.gh (br gg sq);refine⟨fun d hd=>?_,fun e=>⟨xs,Fx,by rw[rs.length];lia⟩⟩;obtain⟨x,hx,rx⟩:=rs.get hd;refine⟨⟨xs,x,Fx,hx⟩,fun y H2 ⟨e,hy⟩=>?_⟩;subst e;have:=hy xs Fx;rw[hx]at this;cases this;exact⟨G',Rep.mono gg rx,rel,.refl⟩
theorem xx(h:QE X l f):QI X tg l (Af f):=jx (qr h) fun σ H R Er=>by
 obtain⟨G,env,fp,ds,env',rel,e,k⟩:=Er;obtain⟨⟨⟨o,d⟩,Ee⟩,e1,e⟩:=ag e;dsimp only at e;split at e
 ·cases e;refine⟨G,env,fp,_,_,rel,e1,fun v H1 G1 EB Es Eh=>?_⟩;obtain⟨G2,b,rv,Ef,El⟩:=Eh.freeze;obtain⟨p,xs,ev,sq,rs⟩:=bc rv;exact⟨p,ev,⟨xs,fR Ef.gh sq⟩,k _ H1 G2 b (Es.trans El) Ef (mq sq rs)⟩
 ·cases e
theorem mr(h:QE X l f):QI X tg l (iQ f):=jx (zh h) fun σ H R Er=>by
 obtain⟨G,env,fp,ds,env',rel,e,k⟩:=Er;obtain⟨⟨⟨o,d⟩,Ee⟩,e1,e⟩:=ag e;dsimp only at e;split at e
 ·cases e;refine⟨G,env,fp,_,_,rel,e1,fun v H1 G1 EB Es Eh=>?_⟩;obtain⟨G2,b,rv,Ef,El⟩:=Eh.freeze;obtain⟨p,xs,ev,sq,rs⟩:=aY rv;exact⟨p,ev,⟨xs,br Ef.gh sq⟩,k _ H1 G2 b (Es.trans El) Ef (uE sq rs)⟩
 ·cases e
def iR(f:FX):FI:=fun env=>(f env).bind fun p=>match p.1.2 with
 | .str l=>.ok (l.map fun c=>.str [c],p.2)
 |_=>.bad
theorem mw(h:QE X l f):QI X tg l (iR f):=jx (zO h) fun σ H R Er=>by
 obtain⟨G,env,fp,ds,env',rel,e,k⟩:=Er;obtain⟨⟨⟨o,d⟩,Ee⟩,e1,e⟩:=ag e;dsimp only at e;split at e
 ·rename_i cs;cases e;refine⟨G,env,fp,_,_,rel,e1,fun v H1 G1 EB Es Eh=>?_⟩;obtain⟨G2,b,rv,Ef,El⟩:=Eh.freeze;obtain⟨ev,hl⟩:=a7 rv;refine⟨cs,ev,k _ H1 G2 b (Es.trans El) Ef fun G' H' es vs Ej gg EC i=>⟨fun d hd=>?_,fun e=>?_⟩⟩
  ·rw[List.getElem?_map]at hd;cases hc:cs[i]? with
   |none=>rw[hc]at hd;cases hd
   |some c=>
    rw[hc]at hd;cases hd;refine⟨(List.getElem?_eq_some_iff.mp hc).1,fun x H2 ⟨e1,e2⟩=>?_⟩;subst e1;refine⟨G',?_,EC,.refl⟩;rw[e2];show Rep X.K G' (.str [c]) (.str (S [cs.getD i 0]));rw[List.getD_eq_getElem?_getD,hc];exact gB (by rw[line_eq];simp)
  ·rw[OT]at e;exact e
 ·cases e
def ib(f:FO):FI:=fun env=>(f env).bind fun p=>(Ff p.2 p.1).bind fun d=>match d with
 | .int j=>if -4611686018427387904<=j/\j<4611686018427387904 then .ok ((List.range j.toNat).map fun(k:Nat)=>D.int (k:Int),p.2) else .bad
 |_=>.bad
theorem p4{K:W.Frag}{G:Hp}(lo:Int)(n:Nat):Walk K G (MF lo n) ((List.range n).map fun(k:Nat)=>D.int (lo+(k:Int))):=by
 intro G' H' es vs fp gg rel i;refine⟨fun d hd=>?_,fun e=>?_⟩
 ·rw[List.getElem?_map]at hd;cases hc:(List.range n)[i]? with
  |none=>rw[hc]at hd;cases hd
  |some c=>
   rw[hc]at hd;cases hd;obtain⟨h1,h2⟩:=List.getElem?_eq_some_iff.mp hc;rw[Pu]at h1;rw[Tg]at h2;subst h2;refine⟨h1,fun x H2 ⟨e1,e2⟩=>?_⟩;subst e1;exact⟨G',by rw[e2];exact bz _,rel,.refl⟩
 ·rw[OT,Pu]at e;exact Nat.le_of_eq e.symm
theorem gR{a:Expr}{fa:FO}{p pos:Pos}(hg:Gl X "range")(hm:X.mg "range" = none)(ha:QO X a fa)(hs:starEach [a] X.env=[(false,eval a X.env)]:=by rfl):QI X tg (.Call (.Name "range" p) [a] [] pos) (ib fa):=
 jx (qu hg hm (af ha ao hs) hs) fun σ H R Er=>by
  obtain⟨G,env,fp,ds,env',rel,e,k⟩:=Er;obtain⟨⟨o,Ee⟩,e1,e⟩:=ag e;obtain⟨d,e2,e⟩:=ag e;dsimp only at e;split at e
  ·rename_i j;split at e
   ·rename_i hj;cases e;refine⟨G,env,fp,[o],_,rel,by show(fa env).bind _=_;rw[e1];rfl,fun vs H1 G1 EB Es Eh Fo=>?_⟩;obtain⟨y,ys,ev,k1,k2⟩:=Fo;have k2:ys=[]:=k2;subst k2;have hv:=bo (Eh.vw k1 e2);subst hv;refine⟨j,ev,by lia,by lia,k _ H1 G1 EB Es Eh ?_⟩;have w:=p4 (K:=X.K) (G:=G1) 0 j.toNat
    simpa using w
   ·cases e
  ·cases e
noncomputable def Cg(fs:Fn):FI:=fun env=>(fs env).bind fun p=>(ni p.2 p.1).bind fun d=>match d with
 |[.int i,.int j]=>if(-4611686018427387904<=i/\i<4611686018427387904)/\-4611686018427387904<=j/\j<4611686018427387904 then .ok ((List.range (j-i).toNat).map fun(k:Nat)=>D.int (i+(k:Int)),p.2) else .bad
 |_=>.bad
def ic(k:Bool):D->Res (List D)
 | .lst ds=>if k then .ok ds else .bad
 | .tup ds=>if k then .bad else .ok ds
 |_=>.bad
def p5(k1 k2:Bool)(fs:Fn):FI:=fun env=>(fs env).bind fun p=>match p.1 with
 |[.val d1,.val d2]=>(ic k1 d1).bind fun a=>(ic k2 d2).bind fun b=>.ok ((a.zip b).map fun z=>D.tup [z.1,z.2],p.2)
 |_=>.bad
theorem oZ{K:W.Frag}{G:Hp}{k:Bool}{d:D}{ds:List D}{v:V}(e:ic k d=.ok ds)(r:Rep K G d v):∃p xs,v=.ref p/\(if k then SqL K G p xs else SqT K G p xs)/\Reps K G ds xs:=by
 cases d with
 |lst es=>
  cases k with
  |true=>
   cases e;obtain⟨p,xs,e1,q,rs⟩:=bc r;exact⟨p,xs,e1,q,rs⟩
  |false=>cases e
 |tup es=>
  cases k with
  |true=>cases e
  |false=>
   cases e;obtain⟨p,xs,e1,q,rs⟩:=aY r;exact⟨p,xs,e1,q,rs⟩
 |_=>cases e
theorem kZ{K:W.Frag}{G G':Hp}{k:Bool}{p:Addr}{xs:List V}(h:Same G G')(r:if k then SqL K G p xs else SqT K G p xs):if k then SqL K G' p xs else SqT K G' p xs:=by
 cases k with
 |true=>exact fR h r
 |false=>exact br h r
theorem uF{K:W.Frag}{G:Hp}{k1 k2:Bool}{p1 p2:Addr}{xs ys:List V}{as bs:List D}(s1:if k1 then SqL K G p1 xs else SqT K G p1 xs)(s2:if k2 then SqL K G p2 ys else SqT K G p2 ys)(r1:Reps K G as xs)(r2:Reps K G bs ys):
  Walk K G (Nj K k1 k2 p1 p2) ((as.zip bs).map fun z=>D.tup [z.1,z.2]):=by
 intro G' H' es vs fp gg rel i;have g1:=kZ (gg.trans rel.gh) s1;have g2:=kZ (gg.trans rel.gh) s2;refine⟨fun d hd=>?_,fun e=>⟨xs,ys,g1,g2,?_⟩⟩
 ·rw[List.getElem?_map]at hd;cases hz:(as.zip bs)[i]? with
  |none=>rw[hz]at hd;cases hd
  |some z=>
   rw[hz]at hd;cases hd;obtain⟨h1,h2⟩:=List.getElem?_zip_eq_some.mp hz;obtain⟨x,hx,rx⟩:=r1.get h1;obtain⟨y,hy,ry⟩:=r2.get h2;refine⟨⟨xs,ys,x,y,g1,g2,hx,hy⟩,fun v H2 ⟨T,hT,ev,hh⟩=>?_⟩;have e2:=hh xs ys x y g1 g2 hx hy;subst e2;obtain⟨Ef,El⟩:=rel.newF (u:=.tup [x,y]) hT;refine⟨_,?_,Ef,El⟩;rw[Rep];exact⟨T,[x,y],ev,aM,.cons (Rep.mono (gg.trans El.gg) rx) (.one (Rep.mono (gg.trans El.gg) ry))⟩
 ·rw[OT,Q2]at e;rw[r1.length,r2.length];exact e
theorem o4(k1 k2:Bool){Ip:List Expr}{kt:Nat}{pt:Pos}{e1 e2:Expr}{fs:Fn}{p pos:Pos}(hg:Gl X "zip")(hm:X.mg "zip" = none)(ha:Im X [e1,e2] fs)(he:starEach [e1,e2] X.env=(false,eval e1 X.env)::starEach [e2] X.env:=by rfl)(Fd:(backTo pos (starEach [e2] X.env)).any (·.1)=false:=by rfl):
  QI X (.Tuple Ip kt pt) (.Call (.Name "zip" p) [e1,e2] [] pos) (p5 k1 k2 fs):=
 jx (zS k1 k2 hg hm ha he Fd) fun σ H R Er=>by
  obtain⟨G,env,fp,ds,env',rel,e,k⟩:=Er;obtain⟨⟨o,Ee⟩,e1,e⟩:=ag e;dsimp only at e;split at e
  ·rename_i d1 d2;obtain⟨a,ea,e⟩:=ag e;obtain⟨b,eb,e⟩:=ag e;cases e;refine⟨G,env,fp,_,_,rel,e1,fun vs H1 G1 EB Es Eh Fo=>?_⟩;obtain⟨y,ys,ev,v1,z,zs,MR,v2,e3⟩:=Fo;have e3:zs=[]:=e3;subst e3;obtain⟨p1,xs1,ep1,q1,r1⟩:=oZ ea v1;obtain⟨p2,Ls,ep2,q2,r2⟩:=oZ eb v2;subst ep1;subst ep2;subst MR;exact⟨p1,p2,xs1,Ls,ev,kZ Eh.gh q1,kZ Eh.gh q2,k _ H1 G1 EB Es Eh (uF q1 q2 r1 r2)⟩
  ·cases e
end
def fBody(np nn:Nat)(g:FS):List D->Res R:=fun ds=>if ds.length=np then(g (ds.map (fun d=>some (O.f,d))++List.replicate nn none)).bind fun o=>match o with
 | .rt r=>.ok r
 | .nx _=>.ok (.f,.non)
 |_=>.bad
 else .bad
theorem eZ{K:W.Frag}{G H:Hp}(n:Nat):∀{ds:List D}{vs:List V},Reps K G ds vs->RepE K G H (ds.map (fun d=>some (O.f,d))++List.replicate n none) (vs.map some++List.replicate n none) []
 |[],vs,r=>by
  rw[Reps]at r;subst r;show RepE K G H (List.replicate n none) (List.replicate n none) [];induction n with
  |zero=>exact⟨rfl,rfl⟩
  |succ n ih=>exact⟨none,_,rfl,ih⟩
 |d::ds,vs,r=>by
  rw[Reps]at r;obtain⟨y,ys,e,r1,r2⟩:=r;subst e;exact⟨some y,_,rfl,y,[],[],rfl,rfl,eS.mpr ⟨r1,rfl⟩,eZ n r2⟩
theorem eD{P:Program}{w:World}{K:W.Frag}{mg:Str->Option Value}{base:Heap}{x:Str}{st:Stmt}{N ps:List Str}{k:Nat}{g:FS}(Df:Def K mg x st)(sc:FnScope N ps (defScope st))
  (hb:∀(kV doc pm:Value) (an:Option Addr) (EF ct:Value) (us:List Value),us.length=ps.length->bindArgs (PySem.W.fnOf x x (dH st) (bU st) (defScope st) .none kV doc pm an EF ct) ⟨us,[]⟩=pure (ps.zip us))
  (body:∀(f:Addr) (EF:Value) (A:Around) (outer:List PySem.Env) (s:Shared) (H:Hp) (E:XK),Room k (A.deeper (envOfC x (defScope st) s.heap.objs.size f EF))->Io (md:=.plain) (qj Iw P w K mg base N x (defScope st) f EF A outer s H E).nox (bU st) g):
  Ct P w K mg base x (k+1) (spF K (fBody ps.length (N.length-ps.length) g)):=by
 obtain⟨f,fd,F,m⟩:=Df;refine⟨f,fd,ps,F.ok sc (fun vs H Q E h=>?_) (fun EF A outer s H vs Q E hr h=>?_),m,F.kp,F.binds hb⟩
 ·obtain⟨G,ds,r,_,rs,e,_⟩:=h;unfold fBody at e;split at e
  ·rename_i hl;rw[rs.length,hl]
  ·cases e
 ·obtain⟨G,ds,r,gh,rs,e,q⟩:=h;unfold fBody at e;split at e
  ·rename_i hl;refine⟨_,body f EF A outer s H E hr,G,ds.map (fun d=>some (O.f,d))++List.replicate (N.length-ps.length) none,[],⟨?_,QC,(fun _ h=>nomatch h),gh⟩,?_⟩
   ·have:=eZ (K:=K) (G:=G) (H:=H) (N.length-ps.length) rs;unfold L2.hJ;rw[rs.length,hl];exact this
   ·obtain⟨o,eo,e⟩:=ag e;rw[eo];cases o with
    |rt r'=>
     cases e;exact fun v H' G' Ej st rel=>q v H' G' Ej st rel
    |nx env'=>
     cases e;exact fun σ' H' G' Ej st rel=>q .non H' G' [] (st.trans (Step.cut fun _ h=>nomatch h)) (rel.nilF.push gA)
    |bk env'=>cases e
    |ct env'=>cases e
  ·cases e
def di(ix:List (Option Nat))(env:PV.Env):PV.Env:=ix.map fun j=>j.bind fun j=>match env[j]? with
 |some (some r)=>some (O.f,r.2)
 |_=>none
def fS:FT:=fun env=>.ok (true,env)
def c8(a:FG)(c:FT)(f:FX):List D->PV.Env->Res (List D)
 |[],_=>.ok []
 |d::ds,env=>(a d env).bind fun e=>(c e).bind fun p=>if p.1 then(f p.2).bind fun q=>(c8 a c f ds q.2).bind fun rs=>.ok (q.1.2::rs) else c8 a c f ds p.2
def dw(fi:FI)(ix:List (Option Nat))(a:FG)(c:FT)(f:FX):FX:=fun env=>(fi env).bind fun p=>(c8 a c f p.1 (di ix p.2)).bind fun ds=>if ds.length<=sizeLine then .ok ((.l .f,.lst ds),if flatDs ds then p.2 else p.2.map frz) else .bad
theorem k4:∀ds,ds.all (aZ .f)=flatDs ds
 |[]=>rfl
 |d::ds=>by rw[RF,flatDs,k4 ds,aZ]
theorem e7{K:W.Frag}{G1 H:Hp}{es:PV.Env}{σ:L2.St}(ht:∀(i:Nat) (r:R) (v:V),es[i]?=some (some r)->σ[i]?=some (some v)->Rep K G1 r.2 v)(hv:∀(i:Nat) (r:R),es[i]?=some (some r)->∃v,σ[i]?=some (some v)):
  ∀ix:List (Option Nat),RepE K G1 H (di ix es) (kg ix σ) []
 |[]=>⟨rfl,rfl⟩
 |none::ix=>⟨none,_,rfl,e7 ht hv ix⟩
 |some j::ix=>by
  show RepE K G1 H ((match es[j]? with|some (some r)=>some (O.f,r.2)|_=>none)::di ix es) ((σ[j]?).bind id::kg ix σ) [];cases e:es[j]? with
  |none=>exact⟨_,_,rfl,e7 ht hv ix⟩
  |some r=>
   cases r with
   |none=>exact⟨_,_,rfl,e7 ht hv ix⟩
   |some r=>
    obtain⟨v,ev⟩:=hv j r e;refine⟨_,_,rfl,v,[],[],?_,rfl,eS.mpr ⟨ht j r v e ev,rfl⟩,e7 ht hv ix⟩;rw[ev];rfl
section
variable{md:Mode}{X:Cx}{scope:Scope}{N:List Str}{tg iter elt:Expr}{ifs:List Expr}{pos:Pos}{fi:FI}{a:FG}{c:FT}{f:FX}
def Nz(X:Cx)(ifs:List Expr)(c:FT):Prop:=LP X ifs (tQT X.K c)
theorem cF:Nz X [] fS:=fun pr s σ H Q I Er=>by
 obtain⟨G,env,fp,b,env',rel,e,k⟩:=Er;cases e;exact w6 pr s σ H Q I (k H G fp .refl rel)
end
section
variable{X:Cx}
inductive rCatS(K:W.Frag)(x:V)(y:V)(H:Hp)(Q:VK):Prop
 |mk:∀l b xs zs,x=.ref l->y=.ref b->SqL K H l xs->SqL K H b zs->xs.length+zs.length<=sizeLine->(∀p,H p=none->Q (.ref p) (upd H p (.lst (xs++zs))))->rCatS K x y H Q
theorem xy:EK X (binaryOp .Add) (rCatS X.K):=by
 intro pr s σ H x y v u Q I rx ry h;obtain⟨l,b,xs,zs,rfl,rfl,hH,hB,hz,q⟩:=h;cases rx;cases ry;obtain⟨Eg,r1,p1,_⟩:=I.list hH;obtain⟨Hu,r2,p2,_⟩:=I.list hB;have l1:=r1.length;have l2:=r2.length;obtain⟨⟨cls,dd,data,sl⟩,ho,hc,n,hd⟩:=id p1.isList;obtain⟨⟨Jo,HL,data2,HM⟩,FA,GV,n2,hd2⟩:=id p2.isList;simp only at hc hd GV hd2;subst hc hd GV hd2;have e:Eg.toArray++Hu.toArray=(Eg++Hu).toArray:=by simp
 refine Sy ⟨_,ho,rfl⟩ ⟨_,FA,rfl⟩ noFill_list_add seq_list_add PySem.F.slot_list_add PySem.F.entry_list_add (PySem.F.args_list_add_2 _ _) (list_addW l b Eg.toArray Hu.toArray n n2 dd HL sl HM (by rw[OS,OS];lia)) ⟨ho,FA,?_⟩;rw[e];exact⟨.ref _,_,I.lnew (t':=s.toks) (r1.append r2) (by rw[Pw];lia),rfl,q _ I.fresh⟩
end
noncomputable def addD:D->D->Res R
 | .int i,.int j=>.ok (.f,.int (i+j))
 | .str a,.str b=>if a.length+b.length<=sizeLine then .ok (.f,.str (a++b)) else .bad
 | .lst a,.lst b=>if a.length+b.length<=sizeLine then .ok (.l .f,.lst (a++b)) else .bad
 | .tup a,.tup b=>if a≠[]/\a.length+b.length<=sizeLine then .ok (.f,.tup (a++b)) else .bad
 |_,_=>.bad
section
variable{X:Cx}
theorem k7{K:W.Frag}{G H:Hp}{fp:List Addr}{es:PV.Env}{vs:L2.St}{ds:List D}{xs:List V}{p:Addr}(rel:Rel K G H es vs fp)(hp:H p=none)(r:Reps K G ds xs):
  ∃G',Rel K G' (upd H p (.tup xs)) (some (.f,.tup ds)::es) (some (.ref p)::vs) fp/\Step G H fp G' (upd H p (.tup xs)) fp:=by
 obtain⟨Ef,El⟩:=rel.newF (u:=.tup xs) hp;refine⟨_,Ef.push ?_,El⟩;rw[Rep];exact⟨p,xs,rfl,aM,r.mono El.gg⟩
theorem Ag:EK X (binaryOp .Add) (rG X.K addD):=by
 rintro pr s σ H x y v u Q I rx ry ⟨G,fp,es,vs,a,b,r,⟨rel,k⟩,va,vb,e⟩;unfold addD at e;split at e
 ·rename_i i j;cases e;cases bo va;cases bo vb;exact zj pr s σ H _ _ v u Q I rx ry ⟨i,j,rfl,rfl,k _ H G fp .refl (rel.push (bz _))⟩
 ·rename_i i j;split at e
  ·rename_i hl;cases e;obtain⟨e1,h1⟩:=dC va;obtain⟨e2,h2⟩:=dC vb;subst e1;subst e2;refine pP pr s σ H _ _ v u Q I rx ry ⟨_,_,rfl,rfl,by rw[jZ,jZ];exact hl,?_⟩;rw[B6];exact k _ H G fp .refl (rel.push (gB (by rw[Pw];exact hl)))
  ·cases e
 ·rename_i i j;split at e
  ·rename_i hl;cases e;obtain⟨p,xs,e1,h1,r1⟩:=va;obtain⟨p2,Ls,e2,h2,r2⟩:=vb;subst e1;subst e2;refine xy pr s σ H _ _ v u Q I rx ry ⟨p,p2,xs,Ls,rfl,rfl,h1,h2,by rw[r1.length,r2.length];exact hl,fun q hq=>?_⟩;obtain⟨Ef,El⟩:=rel.newL hq (r1.app r2);exact k _ _ G _ El Ef
  ·cases e
 ·rename_i i j;split at e
  ·rename_i hl;cases e;obtain⟨p,xs,e1,h1,r1⟩:=gk va;obtain⟨p2,Ls,e2,h2,r2⟩:=gk vb;subst e1;subst e2;have hx:xs≠[]:=fun z=>hl.1 (PU (by rw[<-r1.length,z];rfl))
   refine wU pr s σ H _ _ v u Q I rx ry ⟨p,p2,xs,Ls,rfl,rfl,br rel.gh h1,br rel.gh h2,hx,by rw[r1.length,r2.length];exact hl.2,fun z=>?_,fun z q hq=>?_⟩
   ·have:j=[]:=PU (by rw[<-r2.length,z];rfl);subst this;rw[O8]at k;exact k _ H G fp .refl (rel.push va)
   ·obtain⟨G',Ef,El⟩:=k7 rel hq (r1.app r2);exact k _ _ G' _ El Ef
  ·cases e
 ·cases e
def uG:D->D->Res R
 | .int i,.int j=>.ok (.f,.int (i-j))
 |_,_=>.bad
theorem mx:EK X (binaryOp .Sub) (rG X.K uG):=by
 rintro pr s σ H x y v u Q I rx ry ⟨G,fp,es,vs,a,b,r,⟨rel,k⟩,va,vb,e⟩;unfold uG at e;split at e
 ·rename_i i j;cases e;cases bo va;cases bo vb;exact zk pr s σ H _ _ v u Q I rx ry ⟨i,j,rfl,rfl,k _ H G fp .refl (rel.push (bz _))⟩
 ·cases e
def c5(i:Int):Bool:=decide (-(2 ^ 64)<i/\i<2 ^ 64)
def Ci:D->D->Res R
 | .int i,.int j=>if c5 i||c5 j then .ok (.f,.int (i*j)) else .bad
 |_,_=>.bad
theorem Ah:EK X (binaryOp .Mult) (rG X.K Ci):=by
 rintro pr s σ H x y v u Q I rx ry ⟨G,fp,es,vs,a,b,r,⟨rel,k⟩,va,vb,e⟩;unfold Ci at e;split at e
 ·rename_i i j;split at e
  ·rename_i hc;cases e;cases bo va;cases bo vb;have hc:CMul i j:=by
    rw[SA]at hc;exact hc.imp Qn Qn
   exact zl pr s σ H _ _ v u Q I rx ry ⟨i,j,rfl,rfl,hc,k _ H G fp .refl (rel.push (bz _))⟩
  ·cases e
 ·cases e
def fY:D->D->Res R
 | .int i,.int j=>if 0<j/\j<1073741824 then .ok (.f,.int (i / j)) else .bad
 |_,_=>.bad
theorem dI:EK X (binaryOp .FloorDiv) (rG X.K fY):=by
 rintro pr s σ H x y v u Q I rx ry ⟨G,fp,es,vs,a,b,r,⟨rel,k⟩,va,vb,e⟩;unfold fY at e;split at e
 ·rename_i i j;split at e
  ·rename_i hc;cases e;cases bo va;cases bo vb;exact wK pr s σ H _ _ v u Q I rx ry ⟨i,j,rfl,rfl,hc,k _ H G fp .refl (rel.push (bz _))⟩
  ·cases e
 ·cases e
def iy:D->D->Res R
 | .int i,.int j=>if 0<j then .ok (.f,.int (i%j)) else .bad
 |_,_=>.bad
theorem cC:EK X (binaryOp .Mod) (rG X.K iy):=by
 rintro pr s σ H x y v u Q I rx ry ⟨G,fp,es,vs,a,b,r,⟨rel,k⟩,va,vb,e⟩;unfold iy at e;split at e
 ·rename_i i j;split at e
  ·rename_i hc;cases e;cases bo va;cases bo vb;exact zm pr s σ H _ _ v u Q I rx ry ⟨i,j,rfl,rfl,hc,k _ H G fp .refl (rel.push (bz _))⟩
  ·cases e
 ·cases e
def yN:D->D->Res R
 | .int i,.int j=>if 0<=j/\j<=1000000/\i.natAbs<2 ^ 64 then .ok (.f,.int (i ^ j.toNat)) else .bad
 |_,_=>.bad
theorem Ai:EK X (binaryOp .Pow) (rG X.K yN):=by
 rintro pr s σ H x y v u Q I rx ry ⟨G,fp,es,vs,a,b,r,⟨rel,k⟩,va,vb,e⟩;unfold yN at e;split at e
 ·rename_i i j;split at e
  ·rename_i hc;cases e;cases bo va;cases bo vb;exact zo pr s σ H _ _ v u Q I rx ry ⟨i,j,rfl,rfl,hc,k _ H G fp .refl (rel.push (bz _))⟩
  ·cases e
 ·cases e
def Lp:D->D->Res R
 | .int i,.int j=>.ok (.f,.bl (decide (i<j)))
 | .str a,.str b=>.ok (.f,.bl (decide (a<b)))
 |_,_=>.bad
theorem Cj:EK X (compareOp .Lt) (rG X.K Lp):=by
 rintro pr s σ H x y v u Q I rx ry ⟨G,fp,es,vs,a,b,r,⟨rel,k⟩,va,vb,e⟩;unfold Lp at e;split at e
 ·rename_i i j;cases e;cases bo va;cases bo vb;exact BX pr s σ H _ _ v u Q I rx ry ⟨i,j,rfl,rfl,k _ H G fp .refl (rel.push (bw _))⟩
 ·rename_i i j;cases e;obtain⟨e1,h1⟩:=dC va;obtain⟨e2,h2⟩:=dC vb;subst e1;subst e2;refine qw pr s σ H _ _ v u Q I rx ry ⟨_,_,rfl,rfl,?_⟩;rw[cq,cq];exact k _ H G fp .refl (rel.push (bw _))
 ·cases e
def L6:D->D->Res R
 | .int i,.int j=>.ok (.f,.bl (decide (i<=j)))
 | .str a,.str b=>.ok (.f,.bl (!decide (b<a)))
 |_,_=>.bad
theorem Ck:EK X (compareOp .LtE) (rG X.K L6):=by
 rintro pr s σ H x y v u Q I rx ry ⟨G,fp,es,vs,a,b,r,⟨rel,k⟩,va,vb,e⟩;unfold L6 at e;split at e
 ·rename_i i j;cases e;cases bo va;cases bo vb;exact L2.BY pr s σ H _ _ v u Q I rx ry ⟨i,j,rfl,rfl,k _ H G fp .refl (rel.push (bw _))⟩
 ·rename_i i j;cases e;obtain⟨e1,h1⟩:=dC va;obtain⟨e2,h2⟩:=dC vb;subst e1;subst e2;refine qJ pr s σ H _ _ v u Q I rx ry ⟨_,_,rfl,rfl,?_⟩;rw[cq,cq];exact k _ H G fp .refl (rel.push (bw _))
 ·cases e
def KG:D->D->Res R
 | .int i,.int j=>.ok (.f,.bl (decide (j<i)))
 |_,_=>.bad
theorem xA:EK X (compareOp .Gt) (rG X.K KG):=by
 rintro pr s σ H x y v u Q I rx ry ⟨G,fp,es,vs,a,b,r,⟨rel,k⟩,va,vb,e⟩;unfold KG at e;split at e
 ·rename_i i j;cases e;cases bo va;cases bo vb;exact BZ pr s σ H _ _ v u Q I rx ry ⟨i,j,rfl,rfl,k _ H G fp .refl (rel.push (bw _))⟩
 ·cases e
def NA:D->D->Res R
 | .int i,.int j=>.ok (.f,.bl (decide (j<=i)))
 |_,_=>.bad
theorem Cm:EK X (compareOp .GtE) (rG X.K NA):=by
 rintro pr s σ H x y v u Q I rx ry ⟨G,fp,es,vs,a,b,r,⟨rel,k⟩,va,vb,e⟩;unfold NA at e;split at e
 ·rename_i i j;cases e;cases bo va;cases bo vb;exact B0 pr s σ H _ _ v u Q I rx ry ⟨i,j,rfl,rfl,k _ H G fp .refl (rel.push (bw _))⟩
 ·cases e
end
abbrev FDs:=PV.Env->Res (List D×PV.Env)
inductive tDs(K:W.Frag)(f:FDs)(σ:L2.St)(H:Hp)(Q:List V->Hp->Prop):Prop
 |mk:∀G env fp ds env',Rel K G H env σ fp->f env=.ok (ds,env')->(∀vs H' G' Ej,Step G H fp G' H' Ej->Rel K G' H' env' σ Ej->Reps K G' ds vs->Q vs H')->tDs K f σ H Q
def L7(X:Cx)(es:List Expr)(f:FDs):Prop:=PA X es (tDs X.K f)
def cp:FDs:=fun env=>.ok ([],env)
def aH(f:FX)(g:FDs):FDs:=fun env=>(f env).bind fun p=>(g p.2).bind fun q=>.ok (p.1.2::q.1,q.2)
section
variable{X:Cx}
theorem aQ:L7 X [] cp:=oV ji fun σ H Q Er=>by
 obtain⟨G,env,fp,o,env',rel,e,k⟩:=Er;cases e;exact k [] H G fp .refl rel .nil
theorem ax{e:Expr}{es:List Expr}{f:FX}{g:FDs}(h:QE X e f)(hs:L7 X es g)(ID:starEach (e::es) X.env=(false,eval e X.env)::starEach es X.env:=by rfl):L7 X (e::es) (aH f g):=
 oV (cR h hs ID) fun σ H Q Er=>by
  obtain⟨G,env,fp,o,env',rel,e,k⟩:=Er;obtain⟨⟨r,Ee⟩,e1,e⟩:=ag e;obtain⟨⟨ds,Ep⟩,e2,e⟩:=ag e;cases e;refine⟨G,env,fp,r,Ee,rel,e1,fun v H1 G1 EB Es Eh=>?_⟩;obtain⟨G2,b,rv,Ef,El⟩:=Eh.freeze;exact⟨G2,Ee,b,ds,Ep,Ef,e2,fun vs H3 G3 Ge EJ EG rs=>k _ H3 G3 Ge (Es.trans (El.trans EJ)) EG (.cons (Rep.mono EJ.gg rv) rs)⟩
def j6(fs:FDs):FX:=fun env=>(fs env).bind fun p=>if p.1.length<=1000 then .ok ((.f,.tup p.1),p.2) else .bad
def rB(fs:FDs):FX:=fun env=>(fs env).bind fun p=>if p.1.length<=1000 then .ok ((.l .f,.lst p.1),p.2) else .bad
variable{es:List Expr}{fs:FDs}{pos:Pos}
theorem c6{x1}(h:L7 X es fs):QE X (.Tuple es x1 pos) (j6 fs):=aS (oF h) fun σ H Q Er=>by
 obtain⟨G,env,fp,r,env',rel,e,k⟩:=Er;obtain⟨⟨ds,Ee⟩,e1,e⟩:=ag e;dsimp only at e;split at e
 ·rename_i hl;cases e;refine⟨G,env,fp,ds,env',rel,e1,fun vs H1 G1 EB Es Eh rs=>⟨by rw[rs.length,line_eq];lia,fun p hp=>?_⟩⟩;obtain⟨G2,Ef,El⟩:=k7 Eh hp rs;exact k _ _ G2 _ (Es.trans El) Ef
 ·cases e
theorem gS(h:L7 X es fs):QE X (.List es pos) (rB fs):=aS (zq h) fun σ H Q Er=>by
 obtain⟨G,env,fp,r,env',rel,e,k⟩:=Er;obtain⟨⟨ds,Ee⟩,e1,e⟩:=ag e;dsimp only at e;split at e
 ·rename_i hl;cases e;refine⟨G,env,fp,ds,env',rel,e1,fun vs H1 G1 EB Es Eh rs=>⟨by rw[rs.length,line_eq];lia,fun p hp=>?_⟩⟩;obtain⟨Ef,El⟩:=Eh.newL hp rs;exact k _ _ G1 _ (Es.trans El) Ef
 ·cases e
noncomputable def ED:D->D->Res R
 | .lst ds,.int i=>match F4 ds i with
  |some d=>.ok (.f,d)
  |none=>.bad
 | .tup ds,.int i=>match F4 ds i with
  |some d=>.ok (.f,d)
  |none=>.bad
 | .str l,.int i=>match F4 l i with
  |some c=>.ok (.f,.str [c])
  |none=>.bad
 |_,_=>.bad
theorem o5{K:W.Frag}{G:Hp}{ds:List D}{xs:List V}{i:Int}{d:D}(r:Reps K G ds xs)(e:F4 ds i=some d):∃v,F4 xs i=some v/\Rep K G d v:=by
 unfold F4 at e ⊢;rw[r.length];cases hn:ixN ds.length i with
 |none=>rw[hn]at e;cases e
 |some j=>
  rw[hn]at e;exact r.get e
theorem Cn:LK X (rG X.K ED):=by
 rintro value slice pr s σ H x y v u Q I rx ry ⟨G,fp,es,vs,a,b,r,⟨rel,k⟩,va,vb,e⟩ hs;unfold ED at e;split at e
 ·rename_i ds i;split at e
  ·rename_i d hd;cases e;obtain⟨p,xs,ev,sq,rs⟩:=va;subst ev;cases bo vb;obtain⟨w',hw,Ii⟩:=o5 rs hd;exact wV value slice pr s σ H _ _ v u Q I rx ry ⟨p,xs,i,w',rfl,rfl,sq,hw,k _ H G fp .refl (rel.push Ii)⟩ hs
  ·cases e
 ·rename_i ds i;split at e
  ·rename_i d hd;cases e;obtain⟨p,xs,ev,sq,rs⟩:=gk va;subst ev;cases bo vb;obtain⟨w',hw,Ii⟩:=o5 rs hd;exact jk value slice pr s σ H _ _ v u Q I rx ry ⟨p,xs,i,w',rfl,rfl,br rel.gh sq,hw,k _ H G fp .refl (rel.push Ii)⟩ hs
  ·cases e
 ·rename_i l i;split at e
  ·rename_i c hc;cases e;obtain⟨ev,hl⟩:=dC va;subst ev;cases bo vb;refine zv value slice pr s σ H _ _ v u Q I rx ry ⟨_,i,c,rfl,rfl,by rw[jZ];exact hl,by rw[cq];exact hc,?_⟩ hs;exact k _ H G fp .refl (rel.push (gB (l:=[c]) (by rw[line_eq];simp)))
  ·cases e
 ·cases e
variable{a b:Expr}{fa fb:FO}
theorem aT(ha:QO X a fa)(hb:QO X b fb)(hs:qG b:=by exact fun _ _=>rfl):QE X (.Subscript a b pos) (aA ED fa fb):=aS (nH Cn ha hb hs) fun _ _ _=>oW
abbrev FP:=PV.Env->Res (Option Int×PV.Env)
inductive tQP(K:W.Frag)(f:FP)(σ:L2.St)(H:Hp)(Q:Option Int->Hp->Prop):Prop
 |mk:∀G env fp i env',Rel K G H env σ fp->f env=.ok (i,env')->(∀H' G' Ej,Step G H fp G' H' Ej->Rel K G' H' env' σ Ej->Q i H')->tQP K f σ H Q
def QP(X:Cx)(e:Option Expr)(f:FP):Prop:=PO X e (tQP X.K f)
def uH:FP:=fun env=>.ok (none,env)
def k8(f:FX):FP:=fun env=>(f env).bind fun p=>match p.1.2 with
 | .int i=>.ok (some i,p.2)
 |_=>.bad
theorem vY{X:Cx}{e:Option Expr}{t t':TO}(h:PO X e t)(k:∀σ H Q,t' σ H Q->t σ H Q):PO X e t':=fun pr s σ H Q I w=>h pr s σ H Q I (k σ H Q w)
theorem rD:QP X none uH:=vY wQ fun σ H Q Er=>by
 obtain⟨G,env,fp,i,env',rel,e,k⟩:=Er;cases e;exact k H G fp .refl rel
theorem gD{e:Expr}{f:FX}(h:QE X e f):QP X (some e) (k8 f):=vY (wR h) fun σ H Q Er=>by
 obtain⟨G,env,fp,i,env',rel,e,k⟩:=Er;obtain⟨⟨⟨o,d⟩,Ee⟩,e1,e⟩:=ag e;dsimp only at e;split at e
 ·rename_i j;cases e;refine⟨G,env,fp,_,_,rel,e1,fun v H1 G1 EB Es Eh=>?_⟩;have hv:=Eh.top;obtain⟨b,Ef,El⟩:=Eh.drop;exact⟨j,bp hv,k H1 G1 b (Es.trans El) Ef⟩
 ·cases e
def iS{α:Type}(xs:List α)(lo hi:Option Int):List α:=(xs.drop (HT.sIx xs.length 0 lo)).take (HT.sIx xs.length xs.length hi-HT.sIx xs.length 0 lo)
noncomputable def L8(k:D)(lo hi:Option Int):Res R:=match k with
 | .lst ds=>.ok (.l .f,.lst (iS ds lo hi))
 | .tup ds=>if ¬ (HT.sIx ds.length 0 lo=0/\HT.sIx ds.length ds.length hi=ds.length) then .ok (.f,.tup (iS ds lo hi)) else .bad
 | .str l=>.ok (.f,.str (iS l lo hi))
 |_=>.bad
def eSl(fa:FO)(lo hi:FP):FX:=fun env=>(fa env).bind fun p=>(lo p.2).bind fun q=>(hi q.2).bind fun t=>(Ff t.2 p.1).bind fun d=>(L8 d q.1 t.1).bind fun r=>.ok (r,t.2)
theorem o6{K:W.Frag}{G:Hp}{ds:List D}{xs:List V}{lo hi:Option Int}(r:Reps K G ds xs):Reps K G (iS ds lo hi) (vK xs lo hi):=by
 unfold iS vK;rw[r.length];exact(r.drop _).take _
theorem xB{α:Type}(xs:List α)(lo hi:Option Int):(iS xs lo hi).length<=xs.length:=by
 unfold iS;rw[Py,Rw];lia
inductive rSl(K:W.Frag)(x:V)(lo:Option Int)(hi:Option Int)(H:Hp)(Q:VK):Prop
 |mk:∀G fp es vs d r,Goes K H G fp es vs r Q->Vw K G H d x->L8 d lo hi=.ok r->rSl K x lo hi H Q
theorem Aj:Ki X (rSl X.K):=by
 rintro pr s σ H x v vl vu lo hi sl Q I rx hs pl pu ⟨G,fp,es,vs,d,r,⟨rel,k⟩,vd,e⟩;unfold L8 at e;split at e
 ·rename_i ds;cases e;obtain⟨p,xs,ev,sq,rs⟩:=vd;subst ev;refine wW pr s σ H _ v vl vu lo hi sl Q I rx hs pl pu ⟨p,xs,rfl,sq,fun q hq=>?_⟩;obtain⟨Ef,El⟩:=rel.newL hq (o6 (lo:=lo) (hi:=hi) rs);exact k _ _ G _ El Ef
 ·rename_i ds;split at e
  ·rename_i hw;cases e;obtain⟨p,xs,ev,sq,rs⟩:=gk vd;subst ev;refine zu pr s σ H _ v vl vu lo hi sl Q I rx hs pl pu ⟨p,xs,rfl,br rel.gh sq,by rw[rs.length];exact hw,fun q hq=>?_⟩;obtain⟨G2,Ef,El⟩:=k7 rel hq (o6 (lo:=lo) (hi:=hi) rs);exact k _ _ G2 _ El Ef
  ·cases e
 ·rename_i l;cases e;obtain⟨ev,hl⟩:=dC vd;subst ev;exact zJ pr s σ H _ v vl vu lo hi sl Q I rx hs pl pu ⟨l,rfl,hl,k _ H G fp .refl (rel.push (gB (l:=zI l lo hi) (PB (xB l lo hi) hl)))⟩
 ·cases e
def rE(env:PV.Env)(i:Nat):Bool:=match env[i]? with
 |some (some (_,.lst _))=>true
 |_=>false
theorem uI{K:W.Frag}{G H:Hp}{es:PV.Env}{σ:L2.St}{fp:List Addr}{i:Nat}(rel:Rel K G H es σ fp)(h:rE es i=true):∃v,σ[i]?=some (some v)/\MH K "list" v H:=by
 unfold rE at h;split at h
 ·rename_i o ds hr;obtain⟨v,ev,rv⟩:=rel.view hr;obtain⟨p,xs,e,sq,_⟩:=bc rv;subst e;exact⟨_,ev,.inl ⟨rfl,xs,sq⟩⟩
 ·cases h
def p6(i:Nat)(f:FX):FX:=fun env=>if rE env i then(f env).bind fun p=>match p.2[i]? with
 |some (some (.l .f,.lst ds))=>if ds.length<sizeLine then .ok ((.f,.non),p.2.set i (some (.l .f,.lst (ds++[p.1.2])))) else .bad
 |_=>.bad
 else .bad
theorem bZ{i:Nat}{o e:Expr}{f:FX}{apos Eo:Pos}(ho:PE X o (ny i))(he:QE X e f)
  (EL:attributeBase o "append" X.env (eval o X.env)=eval o X.env:=by rfl)
  (F7:((backTo Eo (starEach [e] X.env)).all (fun x=>!x.1)&&(backToKw Eo (keywordEach [] X.env)).all (fun x=>x.1.isSome)&&decide ([e].length+([]:List Keyword).length+(if([]:List Keyword).isEmpty then 0 else 1)<30))=true:=by rfl)
  (EO:(apos.endLine==Eo.line)=true:=by rfl) (hs:starEach [e] X.env=(false,eval e X.env)::starEach [] X.env:=by rfl) (ET:(backTo Eo (starEach [] X.env)).any (·.1)=false:=by rfl):
  QE X (.Call (.Attribute o "append" apos) [e] [] Eo) (p6 i f):=by
 refine aS (t9 Qj R7 R8 jl ho (ax he aQ hs) EL F7 EO hs ET) fun σ H Q Ez=>?_
 obtain⟨G,env,fp,r,env',rel,e,k⟩:=Ez;unfold p6 at e;split at e
 ·rename_i hil;obtain⟨v,ev,ty⟩:=uI rel hil;obtain⟨⟨r1,Ee⟩,e1,e⟩:=ag e;dsimp only at e;split at e
  ·rename_i ds Ih;split at e
   ·rename_i hl;cases e;refine⟨v,ev,ty,G,env,fp,[r1.2],Ee,rel,by show(f env).bind _=_;rw[e1];rfl,fun vs H1 G1 EB Es Eh rs=>?_⟩;rw[Reps]at rs;obtain⟨y,ys,NB,ry,rn⟩:=rs;rw[Reps]at rn;subst rn;obtain⟨p,xs,ep,hp,L9,cg⟩:=Eh.chg (ds':=ds++[r1.2]) Ih;rw[ev]at ep;cases ep;obtain⟨fq,Ef,El⟩:=cg (xs++[y]) (L9.app (.one ry));exact⟨p,xs,y,rfl,NB,hp,by rw[L9.length];exact hl,k _ _ G1 fq (Es.trans El) (Ef.push gA)⟩
   ·cases e
  ·cases e
 ·cases e
def Co:List D->Res R
 |[.lst ds]=>.ok (.f,.int ds.length)
 |[.tup ds]=>.ok (.f,.int ds.length)
 |[.str l]=>.ok (.f,.int l.length)
 |_=>.bad
theorem nq{K:W.Frag}{G H:Hp}{d:D}{xs:List V}(h:J9 K G H [d] xs):∃v,xs=[v]/\Vw K G H d v:=by
 obtain⟨y,ys,e,v1,e2⟩:=h;have e2:ys=[]:=e2;subst e2;exact⟨y,e,v1⟩
theorem DO{K:W.Frag}{G H:Hp}{d d':D}{xs:List V}(h:J9 K G H [d,d'] xs):∃v w,xs=[v,w]/\Vw K G H d v/\Vw K G H d' w:=by
 obtain⟨y,ys,e,v1,h2⟩:=h;obtain⟨z,e2,v2⟩:=nq h2;subst e2;exact⟨y,z,e,v1,v2⟩
theorem Ak:du X (.builtin "len") (rC X.K Co):=by
 rintro pr s σ H xs us Q I rx ⟨G,fp,es,vs,ds,r,⟨rel,k⟩,vd,e⟩;unfold Co at e;split at e
 ·rename_i ds;cases e;obtain⟨v,ev,p,ys,ep,sq,rs⟩:=nq vd;subst ev;subst ep;refine ir pr s σ H _ us Q I rx ⟨p,ys,rfl,.inl sq,?_⟩;rw[rs.length];exact k _ H G fp .refl (rel.push (bz _))
 ·rename_i ds;cases e;obtain⟨v,ev,vt⟩:=nq vd;obtain⟨p,ys,ep,sq,rs⟩:=gk vt;subst ev;subst ep;refine ir pr s σ H _ us Q I rx ⟨p,ys,rfl,.inr (br rel.gh sq),?_⟩;rw[rs.length];exact k _ H G fp .refl (rel.push (bz _))
 ·rename_i l;cases e;obtain⟨v,ev,vt⟩:=nq vd;obtain⟨ep,hl⟩:=dC vt;subst ev;subst ep;refine lX pr s σ H _ us Q I rx ⟨S l,rfl,by rw[jZ];exact hl,?_⟩;rw[jZ];exact k _ H G fp .refl (rel.push (bz _))
 ·cases e
def uJ:List D->Res R
 |[.lst ds]=>.ok (.l .f,.lst ds)
 |[.tup ds]=>.ok (.l .f,.lst ds)
 |_=>.bad
theorem xC:du X (.type "list") (rC X.K uJ):=by
 rintro pr s σ H xs us Q I rx ⟨G,fp,es,vs,ds,r,⟨rel,k⟩,vd,e⟩;unfold uJ at e;split at e
 ·rename_i ds;cases e;obtain⟨v,ev,p,ys,ep,sq,rs⟩:=nq vd;subst ev;subst ep;refine iu pr s σ H _ us Q I rx ⟨p,ys,rfl,.inl sq,fun q hq=>?_⟩;obtain⟨Ef,El⟩:=rel.newL hq rs;exact k _ _ G _ El Ef
 ·rename_i ds;cases e;obtain⟨v,ev,vt⟩:=nq vd;obtain⟨p,ys,ep,sq,rs⟩:=gk vt;subst ev;subst ep;refine iu pr s σ H _ us Q I rx ⟨p,ys,rfl,.inr (br rel.gh sq),fun q hq=>?_⟩;obtain⟨Ef,El⟩:=rel.newL hq rs;exact k _ _ G _ El Ef
 ·cases e
def c7:List D->Res R
 |[.lst ds]=>.ok (.f,.tup ds)
 |[.tup ds]=>.ok (.f,.tup ds)
 |_=>.bad
theorem c9:du X (.type "tuple") (rC X.K c7):=by
 rintro pr s σ H xs us Q I rx ⟨G,fp,es,vs,ds,r,⟨rel,k⟩,vd,e⟩;unfold c7 at e;split at e
 ·rename_i ds;cases e;obtain⟨v,ev,p,ys,ep,sq,rs⟩:=nq vd;subst ev;subst ep;refine gM pr s σ H _ us Q I rx ⟨p,ys,rfl,.inl ⟨sq,fun q hq=>?_⟩⟩;obtain⟨G2,Ef,El⟩:=k7 rel hq rs;exact k _ _ G2 _ El Ef
 ·rename_i ds;cases e;obtain⟨v,ev,vt⟩:=nq vd;obtain⟨p,ys,ep,sq,rs⟩:=gk vt;subst ev;subst ep;exact gM pr s σ H _ us Q I rx ⟨p,ys,rfl,.inr ⟨br rel.gh sq,k _ H G fp .refl (rel.push vt)⟩⟩
 ·cases e
def my:List D->Option (List Bool)
 |[]=>some []
 | .bl b::ds=>(my ds).map (b:: ·)
 |_=>none
def e8:List D->Option (List Int)
 |[]=>some []
 | .int b::ds=>(e8 ds).map (b:: ·)
 |_=>none
theorem kr{K:W.Frag}{G:Hp}:∀{ds:List D}{bs:List Bool}{xs:List V},my ds=some bs->Reps K G ds xs->xs=bs.map V.bl
 |[],_,_,e,r=>by
  cases e;rw[Reps]at r;exact r
 | .bl b::ds,_,_,e,r=>by
  rw[my,Pp]at e;obtain⟨bs,e1,e2⟩:=e;subst e2;rw[Reps]at r;obtain⟨y,ys,e3,r1,r2⟩:=r;rw[e3,bX r1,kr e1 r2];rfl
 | .non::_,_,_,e,_ | .int _::_,_,_,e,_ | .str _::_,_,_,e,_ | .tup _::_,_,_,e,_ | .lst _::_,_,_,e,_ | .dct _ _ _::_,_,_,e,_=>by simp[my]at e
theorem gE{K:W.Frag}{G:Hp}:∀{ds:List D}{bs:List Int}{xs:List V},e8 ds=some bs->Reps K G ds xs->xs=bs.map V.int
 |[],_,_,e,r=>by
  cases e;rw[Reps]at r;exact r
 | .int b::ds,_,_,e,r=>by
  rw[e8,Pp]at e;obtain⟨bs,e1,e2⟩:=e;subst e2;rw[Reps]at r;obtain⟨y,ys,e3,r1,r2⟩:=r;rw[e3,bp r1,gE e1 r2];rfl
 | .non::_,_,_,e,_ | .bl _::_,_,_,e,_ | .str _::_,_,_,e,_ | .tup _::_,_,_,e,_ | .lst _::_,_,_,e,_ | .dct _ _ _::_,_,_,e,_=>by simp[e8]at e
theorem rF(ns:List Bool):my (ns.map D.bl)=some ns:=by
 induction ns with
 |nil=>rfl
 |cons n ns ih=>rw[Pb,my,ih];rfl
def nO:D->Option (List D)
 | .lst ds=>some ds
 | .tup ds=>some ds
 |_=>none
theorem rH{K:W.Frag}{G H:Hp}{d:D}{ds:List D}{v:V}(gh:Same G H)(e:nO d=some ds)(h:Vw K G H d v):∃p xs,v=.ref p/\(SqL K H p xs\/SqT K H p xs)/\Reps K G ds xs:=by
 cases d with
 |lst es=>
  cases e;obtain⟨p,xs,ev,sq,rs⟩:=h;exact⟨p,xs,ev,.inl sq,rs⟩
 |tup es=>
  cases e;obtain⟨p,xs,ev,sq,rs⟩:=aY h;exact⟨p,xs,ev,.inr (br gh sq),rs⟩
 |_=>cases e
def Al:List D->Res R
 |[d]=>match(nO d).bind my with
  |some bs=>.ok (.f,.bl (bs.all id))
  |none=>.bad
 |_=>.bad
theorem uK(bs:List Bool):(bs.map V.bl).all B8=true:=by
 rw[Qd,Pm];intro b _;rfl
theorem xD(bs:List Bool):(bs.map V.bl).all zP=bs.all id:=by
 rw[Qd];rfl
theorem Am(hc:X.calm=true):du X (.builtin "all") (rC X.K Al):=by
 rintro pr s σ H xs us Q I rx ⟨G,fp,es,vs,ds,r,⟨rel,k⟩,vd,e⟩;unfold Al at e;split at e
 ·rename_i d;split at e
  ·rename_i bs hb;cases e;obtain⟨l,hl,hb⟩:=Px.mp hb;obtain⟨v,ev,vt⟩:=nq vd;obtain⟨p,ys,ep,sq,rs⟩:=rH rel.gh hl vt;have:=kr hb rs;subst this;subst ev;subst ep;refine ue hc pr s σ H _ us Q I rx ⟨p,_,rfl,sq,uK bs,?_⟩;rw[xD];exact k _ H G fp .refl (rel.push (bw _))
  ·cases e
 ·cases e
def maxD:List D->Res R
 |[d]=>match(nO d).bind e8 with
  |some (n::ns)=>.ok (.f,.int (ug (n::ns)))
  |_=>.bad
 |[.int i,.int j]=>.ok (.f,.int (if i<j then j else i))
 |_=>.bad
theorem rJ{K:W.Frag}{G H:Hp}{d:D}{ns:List Int}{v:V}(gh:Same G H)(hb:(nO d).bind e8=some ns)(vt:Vw K G H d v):∃p,v=.ref p/\(SqL K H p (ns.map V.int)\/SqT K H p (ns.map V.int)):=by
 obtain⟨l,hl,hb⟩:=Px.mp hb;obtain⟨p,ys,ep,sq,rs⟩:=rH gh hl vt;have:=gE hb rs;subst this;exact⟨p,ep,sq⟩
end
mutual
noncomputable def Ek:D->D->Bool
 | .non,.non=>true
 | .bl a,.bl b=>a==b
 | .bl a,.int j=>(if a then 1 else 0)==j
 | .int i,.bl b=>i==(if b then 1 else 0)
 | .int i,.int j=>i==j
 | .str a,.str b=>a==b
 | .tup a,.tup b=>iz a b
 | .lst a,.lst b=>iz a b
 |_,_=>false
noncomputable def iz:List D->List D->Bool
 |[],[]=>true
 |a::as,b::bs=>Ek a b&&iz as bs
 |_,_=>false
end
mutual
noncomputable def plainD:Nat->D->Bool
 |n+1,.tup ds=>plainDs n ds
 |n+1,.lst ds=>plainDs n ds
 | 0,.tup _=>false
 | 0,.lst _=>false
 |_,.dct _ _ _=>false
 |_,_=>true
noncomputable def plainDs:Nat->List D->Bool
 |_,[]=>true
 |n,d::ds=>plainD n d&&plainDs n ds
end
theorem plainDs_mem:∀{n:Nat}{ds:List D},plainDs n ds=true->∀{i:Nat}{d:D},ds[i]?=some d->plainD n d=true
 |_,[],_,_,_,e=>by simp at e
 |n,a::ds,h,0,d,e=>by
  rw[plainDs,O1]at h;simp at e;rw[<-e];exact h.1
 |n,a::ds,h,i+1,d,e=>by
  rw[plainDs,O1]at h;exact plainDs_mem h.2 (i:=i) (by simpa using e)
theorem gT:∀{a b:List D},a.length≠b.length->iz a b=false
 |[],[],h=>absurd rfl h
 |[],_::_,_=>by simp only[iz]
 |_::_,[],_=>by simp only[iz]
 |x::xs,y::ys,h=>by
  rw[iz,gT (fun e=>h (by simp[e])),SW]
theorem dQ:∀{a b:List D},a.length=b.length->(List.range a.length).all (fun j=>Ek (a.getD j .non) (b.getD j .non))=iz a b
 |[],[],_=>rfl
 |[],_::_,h=>by simp at h
 |_::_,[],h=>by simp at h
 |x::xs,y::ys,h=>by
  rw[iz,<-dQ (a:=xs) (b:=ys) (by simpa using h),O2,List.range_succ_eq_map,RF,Qd];rfl
section
variable{X:Cx}{pr:List (Addr×Obj)}{σ:L2.St}{H:Hp}{s:Shared}
theorem jz(I:Inv X pr σ H s){p:Addr}{xs ys:List V}(h:SqL X.K H p xs)(h':SqT X.K H p ys):False:=by
 obtain⟨us,_,p1,_⟩:=I.list h;obtain⟨ws,_,p2,_⟩:=I.tuple h';exact SeqAt.ne_of_list_tuple p1.isList (show s.heap.IsTuple p ws.toArray from p2) rfl
mutual
theorem jA(I:Inv X pr σ H s):∀(d e:D) (x:V) (n:Nat),plainD n d=true->Rep X.K H d x->Rep X.K H e x->d=e
 | .non,e,x,n,_,r,q=>by
  cases bP r;cases e with
  |non=>rfl
  |bl b=>cases bX q
  |int i=>cases bp q
  |str l=>cases(a7 q).1
  |tup l=>obtain⟨p,xs,ev,_⟩:=aY q;cases ev
  |lst l=>obtain⟨p,xs,ev,_⟩:=bc q;cases ev
  |dct tk ks vs=>rw[Rep]at q;obtain⟨p,xs,o,ev,_⟩:=q;cases ev
 | .bl b,e,x,n,_,r,q=>by
  cases bX r;cases e with
  |non=>cases bP q
  |bl b=>cases bX q;rfl
  |int i=>cases bp q
  |str l=>cases(a7 q).1
  |tup l=>obtain⟨p,xs,ev,_⟩:=aY q;cases ev
  |lst l=>obtain⟨p,xs,ev,_⟩:=bc q;cases ev
  |dct tk ks vs=>rw[Rep]at q;obtain⟨p,xs,o,ev,_⟩:=q;cases ev
 | .int i,e,x,n,_,r,q=>by
  cases bp r;cases e with
  |non=>cases bP q
  |bl b=>cases bX q
  |int i=>cases bp q;rfl
  |str l=>cases(a7 q).1
  |tup l=>obtain⟨p,xs,ev,_⟩:=aY q;cases ev
  |lst l=>obtain⟨p,xs,ev,_⟩:=bc q;cases ev
  |dct tk ks vs=>rw[Rep]at q;obtain⟨p,xs,o,ev,_⟩:=q;cases ev
 | .str l,e,x,n,_,r,q=>by
  have hr:=(a7 r).1;subst hr;cases e with
  |non=>cases bP q
  |bl b=>cases bX q
  |int i=>cases bp q
  |str l'=>
   have hq:=(a7 q).1;injection hq with hq;rw[S_inj hq]
  |tup l=>obtain⟨p,xs,ev,_⟩:=aY q;cases ev
  |lst l=>obtain⟨p,xs,ev,_⟩:=bc q;cases ev
  |dct tk ks vs=>rw[Rep]at q;obtain⟨p,xs,o,ev,_⟩:=q;cases ev
 | .tup l,e,x,n,h,r,q=>by
  obtain⟨p,xs,ev,sq,rs⟩:=aY r;subst ev;cases e with
  |non=>cases bP q
  |bl b=>cases bX q
  |int i=>cases bp q
  |str l=>cases(a7 q).1
  |tup l'=>
   obtain⟨p',FU,Ga,Fx,Gn⟩:=aY q;cases Ga;have:=I.tuple_inj sq Fx;subst this;cases n with
   |zero=>simp only[plainD]at h;cases h
   |succ n=>
    simp only[plainD]at h;rw[k9 I l l' xs n h rs Gn]
  |lst l'=>
   obtain⟨p',FU,Ga,Fx,Gn⟩:=bc q;cases Ga;exact(jz I Fx sq).elim
  |dct tk ks vs=>
   exfalso;rw[Rep]at q;obtain⟨p',FU,o,Ga,rd,dd,_⟩:=q;cases Ga;obtain⟨Eg,_,ip,_⟩:=I.tuple sq;obtain⟨ob,ho,hc,_⟩:=ip;have Kz:=rd.ok I.hok;cases tk with
   |true=>
    obtain⟨kvs,eo,_⟩:=dd;subst eo;obtain⟨_,_,_,_,o2,_,_,FA,ex,_⟩:=Kz;rw[ho]at FA;cases FA;rw[ex.1]at hc;exact absurd hc (by decide)
   |false=>
    obtain⟨kvs,eo,_⟩:=dd;subst eo;obtain⟨_,_,_,_,o2,_,_,FA,ex,_⟩:=Kz;rw[ho]at FA;cases FA;rw[ex.1]at hc;exact absurd hc (by decide)
 | .lst l,e,x,n,h,r,q=>by
  obtain⟨p,xs,ev,sq,rs⟩:=bc r;subst ev;cases e with
  |non=>cases bP q
  |bl b=>cases bX q
  |int i=>cases bp q
  |str l=>cases(a7 q).1
  |tup l'=>
   obtain⟨p',FU,Ga,Fx,Gn⟩:=aY q;cases Ga;exact(jz I sq Fx).elim
  |lst l'=>
   obtain⟨p',FU,Ga,Fx,Gn⟩:=bc q;cases Ga;have:=I.list_inj sq Fx;subst this;cases n with
   |zero=>simp only[plainD]at h;cases h
   |succ n=>
    simp only[plainD]at h;rw[k9 I l l' xs n h rs Gn]
  |dct tk ks vs=>
   exfalso;rw[Rep]at q;obtain⟨p',FU,o,Ga,rd,dd,_⟩:=q;cases Ga;obtain⟨Eg,_,ip,_⟩:=I.list sq;obtain⟨ob,_,ho,hc,_⟩:=ip;have Kz:=rd.ok I.hok;cases tk with
   |true=>
    obtain⟨kvs,eo,_⟩:=dd;subst eo;obtain⟨_,_,_,_,o2,_,_,FA,ex,_⟩:=Kz;rw[ho]at FA;cases FA;rw[ex.1]at hc;exact absurd hc (by decide)
   |false=>
    obtain⟨kvs,eo,_⟩:=dd;subst eo;obtain⟨_,_,_,_,o2,_,_,FA,ex,_⟩:=Kz;rw[ho]at FA;cases FA;rw[ex.1]at hc;exact absurd hc (by decide)
 | .dct _ _ _,_,_,n,h,_,_=>by cases n <;> (simp only[plainD]at h;cases h)
theorem k9(I:Inv X pr σ H s):∀(ds es:List D) (xs:List V) (n:Nat),plainDs n ds=true->Reps X.K H ds xs->Reps X.K H es xs->ds=es
 |[],es,xs,n,_,r,q=>by
  rw[Reps]at r;subst r;cases es with
  |nil=>rfl
  |cons e es=>
   rw[Reps]at q;obtain⟨y,ys,ev,_⟩:=q;cases ev
 |d::ds,es,xs,n,h,r,q=>by
  rw[Reps]at r;obtain⟨y,ys,ev,r1,r2⟩:=r;subst ev;rw[plainDs,O1]at h;cases es with
  |nil=>
   rw[Reps]at q;cases q
  |cons e es=>
   rw[Reps]at q;obtain⟨y',ys',ev,q1,q2⟩:=q;cases ev;rw[jA I d e y n h.1 r1 q1,k9 I ds es ys n h.2 r2 q2]
end
mutual
theorem gU:∀(d:D) (n:Nat),plainD n d=true->Ek d d=true
 | .non,_,_=>by simp only[Ek]
 | .bl _,_,_=>by simp only[Ek,PY]
 | .int _,_,_=>by simp only[Ek,PY]
 | .str _,_,_=>by simp only[Ek,PY]
 | .tup ds,0,h=>by simp only[plainD]at h;cases h
 | .tup ds,n+1,h=>by simp only[plainD]at h;simp only[Ek];exact jB ds n h
 | .lst ds,0,h=>by simp only[plainD]at h;cases h
 | .lst ds,n+1,h=>by simp only[plainD]at h;simp only[Ek];exact jB ds n h
 | .dct _ _ _,n,h=>by cases n <;> (simp only[plainD]at h;cases h)
theorem jB:∀(ds:List D) (n:Nat),plainDs n ds=true->iz ds ds=true
 |[],_,_=>by simp only[iz]
 |d::ds,n,h=>by
  rw[plainDs,O1]at h;rw[iz,gU d n h.1,jB ds n h.2];rfl
end
open PySem.SeqAt
theorem bq{n:Nat}{tk:Bool}{ks vs:List D}(h:plainD n (.dct tk ks vs)=true):False:=by cases n <;> (simp only[plainD]at h;cases h)
mutual
theorem xE(I:Inv X pr σ H s):∀(d e:D) (x y:V) (v u:Value) (A:Around) (n:Nat),plainD n d=true->plainD n e=true->A.units+n<cLine->Rep X.K H d x->Rep X.K H e y->RelV x v->RelV y u->EqAt A s v u (Ek d e)
 | .non,e,x,y,v,u,A,n,h,h',hu,r,q,rx,ry=>by
  cases bP r;cases rx;cases e with
  |non=>cases bP q;cases ry;simp only[Ek];exact .same _
  |bl b=>cases bX q;cases ry;simp only[Ek];exact .none_bool _
  |int i=>cases bp q;obtain⟨t,rfl⟩:=ry;simp only[Ek];exact .none_int _ _
  |str l=>cases(a7 q).1;obtain⟨t,rfl⟩:=ry;simp only[Ek];exact .none_str _ _
  |tup l=>obtain⟨p,xs,rfl,sq,_⟩:=aY q;cases ry;obtain⟨Eg,_,ip,_⟩:=I.tuple sq;simp only[Ek];exact .none_tuple (show s.heap.IsTuple p Eg.toArray from ip) (by lia)
  |lst l=>obtain⟨p,xs,rfl,sq,_⟩:=bc q;cases ry;obtain⟨Eg,_,ip,_⟩:=I.list sq;simp only[Ek];exact .none_list ip.isList (by lia)
  |dct tk ks vs=>exact(bq h').elim
 | .bl b,e,x,y,v,u,A,n,h,h',hu,r,q,rx,ry=>by
  cases bX r;cases rx;cases e with
  |non=>cases bP q;cases ry;simp only[Ek];exact .bool_none _
  |bl b=>cases bX q;cases ry;simp only[Ek];exact .bool_bool _ _
  |int i=>cases bp q;obtain⟨t,rfl⟩:=ry;simp only[Ek];exact .bool_int _ _ _
  |str l=>cases(a7 q).1;obtain⟨t,rfl⟩:=ry;simp only[Ek];exact .bool_str _ _ _
  |tup l=>obtain⟨p,xs,rfl,sq,_⟩:=aY q;cases ry;obtain⟨Eg,_,ip,_⟩:=I.tuple sq;simp only[Ek];exact .bool_tuple _ (show s.heap.IsTuple p Eg.toArray from ip) (by lia)
  |lst l=>obtain⟨p,xs,rfl,sq,_⟩:=bc q;cases ry;obtain⟨Eg,_,ip,_⟩:=I.list sq;simp only[Ek];exact .bool_list _ ip.isList (by lia)
  |dct tk ks vs=>exact(bq h').elim
 | .int b,e,x,y,v,u,A,n,h,h',hu,r,q,rx,ry=>by
  cases bp r;obtain⟨t0,rfl⟩:=rx;cases e with
  |non=>cases bP q;cases ry;simp only[Ek];exact .int_none _ _
  |bl b=>cases bX q;cases ry;simp only[Ek];exact .int_bool _ _ _
  |int i=>cases bp q;obtain⟨t,rfl⟩:=ry;simp only[Ek];exact .int_int _ _ _ _
  |str l=>cases(a7 q).1;obtain⟨t,rfl⟩:=ry;simp only[Ek];exact .int_str _ _ _ _
  |tup l=>obtain⟨p,xs,rfl,sq,_⟩:=aY q;cases ry;obtain⟨Eg,_,ip,_⟩:=I.tuple sq;simp only[Ek];exact .int_tuple _ _ (show s.heap.IsTuple p Eg.toArray from ip) (by lia)
  |lst l=>obtain⟨p,xs,rfl,sq,_⟩:=bc q;cases ry;obtain⟨Eg,_,ip,_⟩:=I.list sq;simp only[Ek];exact .int_list _ _ ip.isList (by lia)
  |dct tk ks vs=>exact(bq h').elim
 | .str b,e,x,y,v,u,A,n,h,h',hu,r,q,rx,ry=>by
  have hr:=(a7 r).1;subst hr;obtain⟨t0,rfl⟩:=rx;cases e with
  |non=>cases bP q;cases ry;simp only[Ek];exact .str_none _ _
  |bl b=>cases bX q;cases ry;simp only[Ek];exact .str_bool _ _ _
  |int i=>cases bp q;obtain⟨t,rfl⟩:=ry;simp only[Ek];exact .str_int _ _ _ _
  |str l=>
   have hq:=(a7 q).1;subst hq;obtain⟨t,rfl⟩:=ry;have e1:(b==l)=(S b==S l):=by
    rw[Pk,PN,PN];exact⟨fun z=>by rw[z],S_inj⟩
   simp only[Ek,e1];exact .str_str _ _ _ _
  |tup l=>obtain⟨p,xs,rfl,sq,_⟩:=aY q;cases ry;obtain⟨Eg,_,ip,_⟩:=I.tuple sq;simp only[Ek];exact .str_tuple _ _ (show s.heap.IsTuple p Eg.toArray from ip) (by lia)
  |lst l=>obtain⟨p,xs,rfl,sq,_⟩:=bc q;cases ry;obtain⟨Eg,_,ip,_⟩:=I.list sq;simp only[Ek];exact .str_list _ _ ip.isList (by lia)
  |dct tk ks vs=>exact(bq h').elim
 | .tup l,e,x,y,v,u,A,n,h,h',hu,r,q,rx,ry=>by
  have rr:=r;obtain⟨p,xs,ev,sq,rs⟩:=aY r;subst ev;cases rx;obtain⟨Eg,vl,ip,_⟩:=I.tuple sq;have ip:s.heap.IsTuple p Eg.toArray:=ip;cases e with
  |non=>cases bP q;cases ry;simp only[Ek];exact .tuple_none ip (by lia)
  |bl b=>cases bX q;cases ry;simp only[Ek];exact .tuple_bool _ ip (by lia)
  |int i=>cases bp q;obtain⟨t,rfl⟩:=ry;simp only[Ek];exact .tuple_int _ _ ip (by lia)
  |str l=>cases(a7 q).1;obtain⟨t,rfl⟩:=ry;simp only[Ek];exact .tuple_str _ _ ip (by lia)
  |tup l'=>
   obtain⟨p',FU,Ga,Fx,Gn⟩:=aY q;subst Ga;cases ry;by_cases hp:p=p'
   ·subst hp;have hz:=jA I _ _ _ n h rr q;rw[<-hz,gU _ n h];exact .same _
   ·obtain⟨its',IM,FQ,_⟩:=I.tuple Fx;have FQ:s.heap.IsTuple p' its'.toArray:=FQ;cases n with
    |zero=>simp only[plainD]at h;cases h
    |succ n=>
     simp only[plainD]at h h';have l1:=vl.length;have l2:=IM.length;have l3:=rs.length;have l4:=Gn.length;have key:=RcAt.tuples (A:=A) (e:=fun j=>Ek (l.getD j .non) (l'.getD j .non)) ip FQ (by lia) fun j h1 h2=>by
      simp only[OS]at h1 h2;have g1:l[j]?=some (l[j]'(by lia)):=List.getElem?_eq_getElem _;have g2:l'[j]?=some (l'[j]'(by lia)):=List.getElem?_eq_getElem _;obtain⟨w1,Hy,Hz⟩:=rs.get g1;obtain⟨w2,IP,IQ⟩:=Gn.get g2;obtain⟨u1,Gx,HA⟩:=vl.get Hy;obtain⟨u2,Hh,IS⟩:=IM.get IP;have q1:Eg.toArray[j]=u1:=by rw[List.getElem?_eq_getElem h1]at Gx;simpa using Gx
      have q2:its'.toArray[j]=u2:=by rw[List.getElem?_eq_getElem h2]at Hh;simpa using Hh
      rw[q1,q2,List.getD_eq_getElem?_getD,List.getD_eq_getElem?_getD,g1,g2];exact mz I l j _ g1 _ w1 w2 u1 u2 A.in1 n (plainDs_mem h g1) (plainDs_mem h' g2) (by show A.units+1+n<cLine;lia) Hz IQ HA IS
     simp only[Ek];have fin:((List.range (min Eg.toArray.size its'.toArray.size)).all (fun j=>Ek (l.getD j .non) (l'.getD j .non))&&Eg.toArray.size==its'.toArray.size)=iz l l':=by
      simp only[OS];by_cases hl:l.length=l'.length
      ·rw[<-dQ hl,show min Eg.length its'.length=l.length by lia,show(Eg.length==its'.length)=true by rw[PN];lia,Rk]
      ·rw[gT hl,show(Eg.length==its'.length)=false by rw[Qo];lia,SW]
     rw[<-fin];exact .of_refs hp key
  |lst l'=>obtain⟨p',FU,Ga,Fx,_⟩:=bc q;subst Ga;cases ry;obtain⟨its',_,FQ,_⟩:=I.list Fx;simp only[Ek];exact .tuple_list ip FQ.isList (by lia)
  |dct tk ks vs=>exact(bq h').elim
 | .lst l,e,x,y,v,u,A,n,h,h',hu,r,q,rx,ry=>by
  have rr:=r;obtain⟨p,xs,ev,sq,rs⟩:=bc r;subst ev;cases rx;obtain⟨Eg,vl,ip,_⟩:=I.list sq;have ip:=ip.isList;cases e with
  |non=>cases bP q;cases ry;simp only[Ek];exact .list_none ip (by lia)
  |bl b=>cases bX q;cases ry;simp only[Ek];exact .list_bool _ ip (by lia)
  |int i=>cases bp q;obtain⟨t,rfl⟩:=ry;simp only[Ek];exact .list_int _ _ ip (by lia)
  |str l=>cases(a7 q).1;obtain⟨t,rfl⟩:=ry;simp only[Ek];exact .list_str _ _ ip (by lia)
  |lst l'=>
   obtain⟨p',FU,Ga,Fx,Gn⟩:=bc q;subst Ga;cases ry;by_cases hp:p=p'
   ·subst hp;have hz:=jA I _ _ _ n h rr q;rw[<-hz,gU _ n h];exact .same _
   ·obtain⟨its',IM,FQ,_⟩:=I.list Fx;have FQ:=FQ.isList;cases n with
    |zero=>simp only[plainD]at h;cases h
    |succ n=>
     simp only[plainD]at h h';have l1:=vl.length;have l2:=IM.length;have l3:=rs.length;have l4:=Gn.length;simp only[Ek];by_cases hl:l.length=l'.length
     ·have key:=RcAt.lists (A:=A) (e:=fun j=>Ek (l.getD j .non) (l'.getD j .non)) ip FQ (by simp only[OS];lia) (by lia) fun j h1 h2=>by
       simp only[OS]at h1 h2;have g1:l[j]?=some (l[j]'(by lia)):=List.getElem?_eq_getElem _;have g2:l'[j]?=some (l'[j]'(by lia)):=List.getElem?_eq_getElem _;obtain⟨w1,Hy,Hz⟩:=rs.get g1;obtain⟨w2,IP,IQ⟩:=Gn.get g2;obtain⟨u1,Gx,HA⟩:=vl.get Hy;obtain⟨u2,Hh,IS⟩:=IM.get IP;have q1:Eg.toArray[j]=u1:=by rw[List.getElem?_eq_getElem h1]at Gx;simpa using Gx
       have q2:its'.toArray[j]=u2:=by rw[List.getElem?_eq_getElem h2]at Hh;simpa using Hh
       rw[q1,q2,List.getD_eq_getElem?_getD,List.getD_eq_getElem?_getD,g1,g2];exact mz I l j _ g1 _ w1 w2 u1 u2 A.in1 n (plainDs_mem h g1) (plainDs_mem h' g2) (by show A.units+1+n<cLine;lia) Hz IQ HA IS
      rw[<-dQ hl,show l.length=Eg.toArray.size by simp only[OS];lia];exact .of_refs hp key
     ·rw[gT hl];exact .of_refs hp (RcAt.lists_lengths ip FQ (by simp only[OS,US];lia) (by lia))
  |tup l'=>obtain⟨p',FU,Ga,Fx,_⟩:=aY q;subst Ga;cases ry;obtain⟨its',_,FQ,_⟩:=I.tuple Fx;simp only[Ek];exact .list_tuple ip (show s.heap.IsTuple p' its'.toArray from FQ) (by lia)
  |dct tk ks vs=>exact(bq h').elim
 | .dct _ _ _,_,_,_,_,_,_,n,h,_,_,_,_,_,_=>(bq h).elim
theorem mz(I:Inv X pr σ H s):∀(ds:List D) (j:Nat) (d:D),ds[j]?=some d->∀(e:D) (x y:V) (v u:Value) (A:Around) (n:Nat),plainD n d=true->plainD n e=true->A.units+n<cLine->Rep X.K H d x->Rep X.K H e y->RelV x v->RelV y u->EqAt A s v u (Ek d e)
 |[],_,_,hj=>by simp at hj
 |d'::ds,0,d,hj=>by
  simp at hj;subst hj;exact xE I d'
 |d'::ds,j+1,d,hj=>mz I ds j d (by simpa using hj)
end
end
section
variable{X:Cx}
def HS(a b:D):Res R:=if plainD 40 a&&plainD 40 b then .ok (.f,.bl (Ek a b)) else .bad
def HU(a b:D):Res R:=if plainD 40 a&&plainD 40 b then .ok (.f,.bl (!Ek a b)) else .bad
open PySem.SeqAt in
theorem An{pr:List (Addr×Obj)}{σ:L2.St}{H:Hp}{s:Shared}(I:Inv X pr σ H s){d e:D}{x y:V}{v u:Value}{A:Around}(h:plainD 40 d=true)(h':plainD 40 e=true)(hu:A.units+64<cLine)(r:Rep X.K H d x)(q:Rep X.K H e y)(rx:RelV x v)(ry:RelV y u):
  RcAt A s v u (Ek d e)/\RcNeAt A s v u (!Ek d e):=by
 cases d with
 |non=>
  cases bP r;cases rx;cases e with
  |non=>cases bP q;cases ry;simp only[Ek];exact⟨.none_none,.none_none⟩
  |bl b=>cases bX q;cases ry;simp only[Ek];exact⟨.none_bool _,.none_bool _⟩
  |int i=>cases bp q;obtain⟨t,rfl⟩:=ry;simp only[Ek];exact⟨.none_int _ _,.none_int _ _⟩
  |str l=>cases(a7 q).1;obtain⟨t,rfl⟩:=ry;simp only[Ek];exact⟨.none_str _ _,.none_str _ _⟩
  |tup l=>obtain⟨p,xs,rfl,sq,_⟩:=aY q;cases ry;obtain⟨Eg,_,ip,_⟩:=I.tuple sq;simp only[Ek];exact⟨.none_tuple (show s.heap.IsTuple p Eg.toArray from ip) (by lia),.none_tuple (show s.heap.IsTuple p Eg.toArray from ip) (by lia)⟩
  |lst l=>obtain⟨p,xs,rfl,sq,_⟩:=bc q;cases ry;obtain⟨Eg,_,ip,_⟩:=I.list sq;simp only[Ek];exact⟨.none_list ip.isList (by lia),.none_list ip.isList (by lia)⟩
  |dct tk ks vs=>exact(bq h').elim
 |bl b=>
  cases bX r;cases rx;cases e with
  |non=>cases bP q;cases ry;simp only[Ek];exact⟨.bool_none _,.bool_none _⟩
  |bl b=>cases bX q;cases ry;simp only[Ek];exact⟨.bool_bool _ _,.bool_bool _ _⟩
  |int i=>cases bp q;obtain⟨t,rfl⟩:=ry;simp only[Ek];exact⟨.bool_int _ _ _,.bool_int _ _ _⟩
  |str l=>cases(a7 q).1;obtain⟨t,rfl⟩:=ry;simp only[Ek];exact⟨.bool_str _ _ _,.bool_str _ _ _⟩
  |tup l=>obtain⟨p,xs,rfl,sq,_⟩:=aY q;cases ry;obtain⟨Eg,_,ip,_⟩:=I.tuple sq;simp only[Ek];exact⟨.bool_tuple _ (show s.heap.IsTuple p Eg.toArray from ip) (by lia),.bool_tuple _ (show s.heap.IsTuple p Eg.toArray from ip) (by lia)⟩
  |lst l=>obtain⟨p,xs,rfl,sq,_⟩:=bc q;cases ry;obtain⟨Eg,_,ip,_⟩:=I.list sq;simp only[Ek];exact⟨.bool_list _ ip.isList (by lia),.bool_list _ ip.isList (by lia)⟩
  |dct tk ks vs=>exact(bq h').elim
 |int b=>
  cases bp r;obtain⟨t0,rfl⟩:=rx;cases e with
  |non=>cases bP q;cases ry;simp only[Ek];exact⟨.int_none _ _,.int_none _ _⟩
  |bl b=>cases bX q;cases ry;simp only[Ek];exact⟨.int_bool _ _ _,.int_bool _ _ _⟩
  |int i=>cases bp q;obtain⟨t,rfl⟩:=ry;simp only[Ek];exact⟨.int_int _ _ _ _,.int_int _ _ _ _⟩
  |str l=>cases(a7 q).1;obtain⟨t,rfl⟩:=ry;simp only[Ek];exact⟨.int_str _ _ _ _,.int_str _ _ _ _⟩
  |tup l=>obtain⟨p,xs,rfl,sq,_⟩:=aY q;cases ry;obtain⟨Eg,_,ip,_⟩:=I.tuple sq;simp only[Ek];exact⟨.int_tuple _ _ (show s.heap.IsTuple p Eg.toArray from ip) (by lia),.int_tuple _ _ (show s.heap.IsTuple p Eg.toArray from ip) (by lia)⟩
  |lst l=>obtain⟨p,xs,rfl,sq,_⟩:=bc q;cases ry;obtain⟨Eg,_,ip,_⟩:=I.list sq;simp only[Ek];exact⟨.int_list _ _ ip.isList (by lia),.int_list _ _ ip.isList (by lia)⟩
  |dct tk ks vs=>exact(bq h').elim
 |str b=>
  have hr:=(a7 r).1;subst hr;obtain⟨t0,rfl⟩:=rx;cases e with
  |non=>cases bP q;cases ry;simp only[Ek];exact⟨.str_none _ _,.str_none _ _⟩
  |bl b=>cases bX q;cases ry;simp only[Ek];exact⟨.str_bool _ _ _,.str_bool _ _ _⟩
  |int i=>cases bp q;obtain⟨t,rfl⟩:=ry;simp only[Ek];exact⟨.str_int _ _ _ _,.str_int _ _ _ _⟩
  |str l=>
   have hq:=(a7 q).1;subst hq;obtain⟨t,rfl⟩:=ry;have e1:(b==l)=(S b==S l):=by
    rw[Pk,PN,PN];exact⟨fun z=>by rw[z],S_inj⟩
   simp only[Ek,e1];exact⟨.str_str _ _ _ _,.str_str _ _ _ _⟩
  |tup l=>obtain⟨p,xs,rfl,sq,_⟩:=aY q;cases ry;obtain⟨Eg,_,ip,_⟩:=I.tuple sq;simp only[Ek];exact⟨.str_tuple _ _ (show s.heap.IsTuple p Eg.toArray from ip) (by lia),.str_tuple _ _ (show s.heap.IsTuple p Eg.toArray from ip) (by lia)⟩
  |lst l=>obtain⟨p,xs,rfl,sq,_⟩:=bc q;cases ry;obtain⟨Eg,_,ip,_⟩:=I.list sq;simp only[Ek];exact⟨.str_list _ _ ip.isList (by lia),.str_list _ _ ip.isList (by lia)⟩
  |dct tk ks vs=>exact(bq h').elim
 |tup l=>
  obtain⟨p,xs,ev,sq,rs⟩:=aY r;subst ev;cases rx;obtain⟨Eg,vl,ip,_⟩:=I.tuple sq;have ip:s.heap.IsTuple p Eg.toArray:=ip;cases e with
  |non=>cases bP q;cases ry;simp only[Ek];exact⟨.tuple_none ip (by lia),.tuple_none ip (by lia)⟩
  |bl b=>cases bX q;cases ry;simp only[Ek];exact⟨.tuple_bool _ ip (by lia),.tuple_bool _ ip (by lia)⟩
  |int i=>cases bp q;obtain⟨t,rfl⟩:=ry;simp only[Ek];exact⟨.tuple_int _ _ ip (by lia),.tuple_int _ _ ip (by lia)⟩
  |str l=>cases(a7 q).1;obtain⟨t,rfl⟩:=ry;simp only[Ek];exact⟨.tuple_str _ _ ip (by lia),.tuple_str _ _ ip (by lia)⟩
  |tup l'=>
   obtain⟨p',FU,Ga,Fx,Gn⟩:=aY q;subst Ga;cases ry;obtain⟨its',IM,FQ,_⟩:=I.tuple Fx;have FQ:s.heap.IsTuple p' its'.toArray:=FQ;simp only[plainD]at h h';have l1:=vl.length;have l2:=IM.length;have l3:=rs.length;have l4:=Gn.length;have el:∀j (h1:j<Eg.toArray.size) (h2:j<its'.toArray.size),EqAt A.in1 s Eg.toArray[j] its'.toArray[j] ((fun j=>Ek (l.getD j .non) (l'.getD j .non)) j):=fun j h1 h2=>by
    simp only[OS]at h1 h2;have g1:l[j]?=some (l[j]'(by lia)):=List.getElem?_eq_getElem _;have g2:l'[j]?=some (l'[j]'(by lia)):=List.getElem?_eq_getElem _;obtain⟨w1,Hy,Hz⟩:=rs.get g1;obtain⟨w2,IP,IQ⟩:=Gn.get g2;obtain⟨u1,Gx,HA⟩:=vl.get Hy;obtain⟨u2,Hh,IS⟩:=IM.get IP;have q1:Eg.toArray[j]=u1:=by rw[List.getElem?_eq_getElem h1]at Gx;simpa using Gx
    have q2:its'.toArray[j]=u2:=by rw[List.getElem?_eq_getElem h2]at Hh;simpa using Hh
    dsimp only;rw[q1,q2,List.getD_eq_getElem?_getD,List.getD_eq_getElem?_getD,g1,g2];exact mz I l j _ g1 _ w1 w2 u1 u2 A.in1 39 (plainDs_mem h g1) (plainDs_mem h' g2) (by show A.units+1+39<cLine;lia) Hz IQ HA IS
   simp only[Ek];have fin:((List.range (min Eg.toArray.size its'.toArray.size)).all (fun j=>Ek (l.getD j .non) (l'.getD j .non))&&Eg.toArray.size==its'.toArray.size)=iz l l':=by
    simp only[OS];by_cases hl:l.length=l'.length
    ·rw[<-dQ hl,show min Eg.length its'.length=l.length by lia,show(Eg.length==its'.length)=true by rw[PN];lia,Rk]
    ·rw[gT hl,show(Eg.length==its'.length)=false by rw[Qo];lia,SW]
   rw[<-fin];exact⟨.tuples ip FQ (by lia) el,.tuples ip FQ (by lia) el⟩
  |lst l'=>obtain⟨p',FU,Ga,Fx,_⟩:=bc q;subst Ga;cases ry;obtain⟨its',_,FQ,_⟩:=I.list Fx;simp only[Ek];exact⟨.tuple_list ip FQ.isList (by lia),.tuple_list ip FQ.isList (by lia)⟩
  |dct tk ks vs=>exact(bq h').elim
 |lst l=>
  obtain⟨p,xs,ev,sq,rs⟩:=bc r;subst ev;cases rx;obtain⟨Eg,vl,ip,_⟩:=I.list sq;have ip:=ip.isList;cases e with
  |non=>cases bP q;cases ry;simp only[Ek];exact⟨.list_none ip (by lia),.list_none ip (by lia)⟩
  |bl b=>cases bX q;cases ry;simp only[Ek];exact⟨.list_bool _ ip (by lia),.list_bool _ ip (by lia)⟩
  |int i=>cases bp q;obtain⟨t,rfl⟩:=ry;simp only[Ek];exact⟨.list_int _ _ ip (by lia),.list_int _ _ ip (by lia)⟩
  |str l=>cases(a7 q).1;obtain⟨t,rfl⟩:=ry;simp only[Ek];exact⟨.list_str _ _ ip (by lia),.list_str _ _ ip (by lia)⟩
  |lst l'=>
   obtain⟨p',FU,Ga,Fx,Gn⟩:=bc q;subst Ga;cases ry;obtain⟨its',IM,FQ,_⟩:=I.list Fx;have FQ:=FQ.isList;simp only[plainD]at h h';have l1:=vl.length;have l2:=IM.length;have l3:=rs.length;have l4:=Gn.length;simp only[Ek];by_cases hl:l.length=l'.length
   ·have el:∀j (h1:j<Eg.toArray.size) (h2:j<its'.toArray.size),EqAt A.in1 s Eg.toArray[j] its'.toArray[j] ((fun j=>Ek (l.getD j .non) (l'.getD j .non)) j):=fun j h1 h2=>by
     simp only[OS]at h1 h2;have g1:l[j]?=some (l[j]'(by lia)):=List.getElem?_eq_getElem _;have g2:l'[j]?=some (l'[j]'(by lia)):=List.getElem?_eq_getElem _;obtain⟨w1,Hy,Hz⟩:=rs.get g1;obtain⟨w2,IP,IQ⟩:=Gn.get g2;obtain⟨u1,Gx,HA⟩:=vl.get Hy;obtain⟨u2,Hh,IS⟩:=IM.get IP;have q1:Eg.toArray[j]=u1:=by rw[List.getElem?_eq_getElem h1]at Gx;simpa using Gx
     have q2:its'.toArray[j]=u2:=by rw[List.getElem?_eq_getElem h2]at Hh;simpa using Hh
     dsimp only;rw[q1,q2,List.getD_eq_getElem?_getD,List.getD_eq_getElem?_getD,g1,g2];exact mz I l j _ g1 _ w1 w2 u1 u2 A.in1 39 (plainDs_mem h g1) (plainDs_mem h' g2) (by show A.units+1+39<cLine;lia) Hz IQ HA IS
    rw[<-dQ hl,show l.length=Eg.toArray.size by simp only[OS];lia];exact⟨.lists ip FQ (by simp only[OS];lia) (by lia) el,.lists ip FQ (by simp only[OS];lia) (by lia) el⟩
   ·rw[gT hl];exact⟨.lists_lengths ip FQ (by simp only[OS,US];lia) (by lia),.lists_lengths ip FQ (by simp only[OS,US];lia) (by lia)⟩
  |tup l'=>obtain⟨p',FU,Ga,Fx,_⟩:=aY q;subst Ga;cases ry;obtain⟨its',_,FQ,_⟩:=I.tuple Fx;simp only[Ek];exact⟨.list_tuple ip (show s.heap.IsTuple p' its'.toArray from FQ) (by lia),.list_tuple ip (show s.heap.IsTuple p' its'.toArray from FQ) (by lia)⟩
  |dct tk ks vs=>exact(bq h').elim
 |dct tk ks vs=>exact(bq h).elim
theorem rK(hu:X.A.units+64<cLine):EK X (compareOp .Eq) (rGA X.K HS):=by
 rintro pr s σ H x y v u Q I rx ry ⟨G,fp,es,vs,a,b,r,⟨rel,k⟩,va,vb,e⟩;unfold HS at e;split at e
 ·rename_i hp;cases e;rw[O1]at hp;exact(An I hp.1 hp.2 hu va vb rx ry).1 _ _ _ _ ⟨.bl _,H,I,rfl,k _ H G fp .refl (rel.push (bw _))⟩
 ·cases e
theorem p7(hu:X.A.units+64<cLine):EK X (compareOp .NotEq) (rGA X.K HU):=by
 rintro pr s σ H x y v u Q I rx ry ⟨G,fp,es,vs,a,b,r,⟨rel,k⟩,va,vb,e⟩;unfold HU at e;split at e
 ·rename_i hp;cases e;rw[O1]at hp;exact(An I hp.1 hp.2 hu va vb rx ry).2 _ _ _ _ ⟨.bl _,H,I,rfl,k _ H G fp .refl (rel.push (bw _))⟩
 ·cases e
def tu(a:D)(ds:List D):Bool:=ds.any fun d=>Ek d a
noncomputable def IT(a b:D):Res R:=match b with
 | .lst ds=>if plainD 40 a&&plainDs 40 ds then .ok (.f,.bl (tu a ds)) else .bad
 | .tup ds=>if plainD 40 a&&plainDs 40 ds then .ok (.f,.bl (tu a ds)) else .bad
 | .str l=>match a with
  | .str [c]=>.ok (.f,.bl (decide (c∈l)))
  |_=>.bad
 |_=>.bad
def yO(a b:D):Res R:=(IT a b).bind fun r=>match r.2 with
 | .bl k=>.ok (.f,.bl (!k))
 |_=>.bad
open PySem.SeqAt in
theorem o7{pr:List (Addr×Obj)}{σ:L2.St}{H:Hp}{s:Shared}(I:Inv X pr σ H s){a:D}{x:V}{v:Value}{A:Around}(h:plainD 40 a=true)(hu:A.units+64<cLine)(r:Rep X.K H a x)(rx:RelV x v):
  ∀(ds:List D) (xs:List V) (us:List Value),plainDs 40 ds=true->Reps X.K H ds xs->Vals xs us->∃e:Value->Bool,us.any e=tu a ds/\∀u∈us,EqAt A s u v (e u):=by
 classical
 intro ds xs us hp rs vl;refine⟨fun u=>decide (∃(j:Nat) (d:D),ds[j]?=some d/\us[j]?=some u/\Ek d a=true),?_,fun u NC=>?_⟩
 ·rw[Pk,Qh];unfold tu;rw[Qh];constructor
  ·rintro⟨u,_,hd⟩;obtain⟨j,d,h1,_,h2⟩:=Qn hd;exact⟨d,PM h1,h2⟩
  ·rintro⟨d,hd,h2⟩;obtain⟨j,hj⟩:=Qz.mp hd;obtain⟨w1,Hy,Hz⟩:=rs.get hj;obtain⟨u1,Gx,HA⟩:=vl.get Hy;exact⟨u1,PM Gx,Ph ⟨j,d,hj,Gx,h2⟩⟩
 ·obtain⟨j,hj⟩:=Qz.mp NC;have l1:=vl.length;have l2:=rs.length;have hjl:=(List.getElem?_eq_some_iff.mp hj).1;have g1:ds[j]?=some (ds[j]'(by lia)):=List.getElem?_eq_getElem _;obtain⟨w1,Hy,Hz⟩:=rs.get g1;obtain⟨u1,Gx,HA⟩:=vl.get Hy;rw[hj]at Gx;cases Gx;have z:=xE I _ _ w1 x u v A 40 (plainDs_mem hp g1) h (by lia) Hz r HA rx;have e:decide (∃(j:Nat) (d:D),ds[j]?=some d/\us[j]?=some u/\Ek d a=true)=Ek (ds[j]'(by lia)) a:=by
   rw[Pk,O9];constructor
   ·rintro⟨j2,d2,k1,k2,k3⟩;obtain⟨w2,IP,IQ⟩:=rs.get k1;obtain⟨u2,Hh,IS⟩:=vl.get IP;rw[k2]at Hh;cases Hh;have:=HA.inj IS;subst this;rw[jA I _ _ _ 40 (plainDs_mem hp g1) Hz IQ];exact k3
   ·intro k3;exact⟨j,_,g1,hj,k3⟩
  show EqAt A s u v (decide (∃(j:Nat) (d:D),ds[j]?=some d/\us[j]?=some u/\Ek d a=true));rw[e];exact z
theorem mC(l:List Nat)(c:Nat):(!(Builtin.Str.occurrences (S l) (S [c]) 0 (S l).length 1).isEmpty)=decide (c∈l):=by
 have h:=PySem.StrLaws.found_one (S l) c;rw[cq]at h;exact h
theorem lb{e:Value->Bool}(us:List Value):us.toArray.any e=us.any e:=by simp
theorem Cp(hu:X.A.units+65<cLine):EK X (compareOp .In) (rGA X.K IT):=by
 rintro pr s σ H x y v u Q I rx ry ⟨G,fp,es,vs,a,b,r,⟨rel,k⟩,va,vb,e⟩;unfold IT at e;split at e
 ·rename_i ds;split at e
  ·rename_i hp;cases e;rw[O1]at hp;obtain⟨p,xs,ev,sq,rs⟩:=bc vb;subst ev;cases ry;obtain⟨Eg,vl,ip,_⟩:=I.list sq;obtain⟨ef,e1,e2⟩:=o7 (A:=X.A.in1) I hp.1 (by show X.A.units+1+64<cLine;lia) va rx ds xs Eg hp.2 rs vl;refine SeqAt.in_listAt ef ip.isList (fun z hz=>e2 z (by simpa using hz)) ?_;rw[lb,e1];exact⟨.bl _,H,I,rfl,k _ H G fp .refl (rel.push (bw _))⟩
  ·cases e
 ·rename_i ds;split at e
  ·rename_i hp;cases e;rw[O1]at hp;obtain⟨p,xs,ev,sq,rs⟩:=aY vb;subst ev;cases ry;obtain⟨Eg,vl,ip,_⟩:=I.tuple sq;obtain⟨ef,e1,e2⟩:=o7 (A:=X.A.in1) I hp.1 (by show X.A.units+1+64<cLine;lia) va rx ds xs Eg hp.2 rs vl;refine SeqAt.in_tupleAt ef (show s.heap.IsTuple p Eg.toArray from ip) (fun z hz=>e2 z (by simpa using hz)) ?_;rw[lb,e1];exact⟨.bl _,H,I,rfl,k _ H G fp .refl (rel.push (bw _))⟩
  ·cases e
 ·rename_i l;split at e
  ·rename_i c;cases e;obtain⟨e1,h1⟩:=a7 va;obtain⟨e2,h2⟩:=a7 vb;subst e1;subst e2;refine qx pr s σ H _ _ v u Q I rx ry ⟨_,_,rfl,rfl,?_⟩;rw[mC];exact k _ H G fp .refl (rel.push (bw _))
  ·cases e
 ·cases e
theorem Ao(hu:X.A.units+65<cLine):EK X (compareOp .NotIn) (rGA X.K yO):=by
 rintro pr s σ H x y v u Q I rx ry ⟨G,fp,es,vs,a,b,r,⟨rel,k⟩,va,vb,e⟩;unfold yO at e;obtain⟨r0,e0,e⟩:=ag e;unfold IT at e0;split at e0
 ·rename_i ds;split at e0
  ·rename_i hp;cases e0;cases e;rw[O1]at hp;obtain⟨p,xs,ev,sq,rs⟩:=bc vb;subst ev;cases ry;obtain⟨Eg,vl,ip,_⟩:=I.list sq;obtain⟨ef,e1,e2⟩:=o7 (A:=X.A.in1) I hp.1 (by show X.A.units+1+64<cLine;lia) va rx ds xs Eg hp.2 rs vl;refine SeqAt.notIn_listAt ef ip.isList (fun z hz=>e2 z (by simpa using hz)) ?_;rw[lb,e1];exact⟨.bl _,H,I,rfl,k _ H G fp .refl (rel.push (bw _))⟩
  ·cases e0
 ·rename_i ds;split at e0
  ·rename_i hp;cases e0;cases e;rw[O1]at hp;obtain⟨p,xs,ev,sq,rs⟩:=aY vb;subst ev;cases ry;obtain⟨Eg,vl,ip,_⟩:=I.tuple sq;obtain⟨ef,e1,e2⟩:=o7 (A:=X.A.in1) I hp.1 (by show X.A.units+1+64<cLine;lia) va rx ds xs Eg hp.2 rs vl;refine SeqAt.notIn_tupleAt ef (show s.heap.IsTuple p Eg.toArray from ip) (fun z hz=>e2 z (by simpa using hz)) ?_;rw[lb,e1];exact⟨.bl _,H,I,rfl,k _ H G fp .refl (rel.push (bw _))⟩
  ·cases e0
 ·rename_i l;split at e0
  ·rename_i c;cases e0;cases e;obtain⟨e1,h1⟩:=a7 va;obtain⟨e2,h2⟩:=a7 vb;subst e1;subst e2;refine lR pr s σ H _ _ v u Q I rx ry ⟨_,_,rfl,rfl,?_⟩;rw[mC];exact k _ H G fp .refl (rel.push (bw _))
  ·cases e0
 ·cases e0
def Ka(a b:D):Res R:=match b with
 | .bl k=>.ok (.f,.bl (match a with | .bl j=>j==k|_=>false))
 | .non=>.ok (.f,.bl (match a with | .non=>true|_=>false))
 |_=>.bad
def isnO(a b:D):Res R:=(Ka a b).bind fun r=>match r.2 with
 | .bl k=>.ok (.f,.bl (!k))
 |_=>.bad
theorem o8{K:W.Frag}{H:Hp}{a b:D}{x y:V}{v u:Value}{r:R}(va:Rep K H a x)(vb:Rep K H b y)(rx:RelV x v)(ry:RelV y u)(e:Ka a b=.ok r):plainIs v u=true/\r=(.f,.bl (v==u)):=by
 unfold Ka at e;split at e
 ·rename_i k;cases e;cases bX vb;cases ry;cases a with
  |non=>cases bP va;cases rx;exact⟨rfl,rfl⟩
  |bl j=>cases bX va;cases rx;refine⟨rfl,?_⟩;cases j <;> cases k <;> rfl
  |int i=>cases bp va;obtain⟨t,rfl⟩:=rx;exact⟨rfl,rfl⟩
  |str l=>cases(a7 va).1;obtain⟨t,rfl⟩:=rx;exact⟨rfl,rfl⟩
  |tup l=>obtain⟨p,xs,rfl,_⟩:=aY va;cases rx;exact⟨rfl,rfl⟩
  |lst l=>obtain⟨p,xs,rfl,_⟩:=bc va;cases rx;exact⟨rfl,rfl⟩
  |dct tk ks vs=>rw[Rep]at va;obtain⟨p,xs,o,rfl,_⟩:=va;cases rx;exact⟨rfl,rfl⟩
 ·cases e;cases bP vb;cases ry;cases a with
  |non=>cases bP va;cases rx;exact⟨rfl,rfl⟩
  |bl j=>cases bX va;cases rx;exact⟨rfl,rfl⟩
  |int i=>cases bp va;obtain⟨t,rfl⟩:=rx;exact⟨rfl,rfl⟩
  |str l=>cases(a7 va).1;obtain⟨t,rfl⟩:=rx;exact⟨rfl,rfl⟩
  |tup l=>obtain⟨p,xs,rfl,_⟩:=aY va;cases rx;exact⟨rfl,rfl⟩
  |lst l=>obtain⟨p,xs,rfl,_⟩:=bc va;cases rx;exact⟨rfl,rfl⟩
  |dct tk ks vs=>rw[Rep]at va;obtain⟨p,xs,o,rfl,_⟩:=va;cases rx;exact⟨rfl,rfl⟩
 ·cases e
theorem Ap:EK X (compareOp .Is) (rGA X.K Ka):=by
 rintro pr s σ H x y v u Q I rx ry ⟨G,fp,es,vs,a,b,r,⟨rel,k⟩,va,vb,e⟩;obtain⟨h1,h2⟩:=o8 va vb rx ry e;subst h2;exact wpAny_is_plain h1 ⟨.bl _,H,I,rfl,k _ H G fp .refl (rel.push (bw _))⟩
theorem vZ:EK X (compareOp .IsNot) (rGA X.K isnO):=by
 rintro pr s σ H x y v u Q I rx ry ⟨G,fp,es,vs,a,b,r,⟨rel,k⟩,va,vb,e⟩;obtain⟨r0,e0,e⟩:=ag e;obtain⟨h1,h2⟩:=o8 va vb rx ry e0;subst h2;cases e;exact wpAny_isNot_plain h1 ⟨.bl _,H,I,rfl,k _ H G fp .refl (rel.push (bw _))⟩
end
section
variable{X:Cx}
theorem v7(hc:X.calm=true):du X (.builtin "max") (rC X.K maxD):=by
 rintro pr s σ H xs us Q I rx ⟨G,fp,es,vs,ds,r,⟨rel,k⟩,vd,e⟩;unfold maxD at e;split at e
 ·rename_i d;split at e
  ·rename_i n ns hb;cases e;obtain⟨v,ev,vt⟩:=nq vd;obtain⟨p,ep,sq⟩:=rJ rel.gh hb vt;subst ev;subst ep;exact qO hc pr s σ H _ us Q I rx ⟨p,n::ns,rfl,sq,by simp,k _ H G fp .refl (rel.push (bz _))⟩
  ·cases e
 ·rename_i i j;cases e;obtain⟨v,w',ev,v1,v2⟩:=DO vd;subst ev;cases bo v1;cases bo v2;obtain⟨u,u',rfl,⟨t,rfl⟩,t',rfl⟩:=wL rx;refine max_two_ints (I.ok.hd hc) fun h' tk kk=>?_
  have I2:Inv X pr σ H {s with heap:=h',toks:=tk}:=I.kept kk;refine⟨.int (if i<j then j else i),H,I2,?_,k _ H G fp .refl (rel.push (bz _))⟩;by_cases Jj:i<j
  ·rw[OZ Jj,OZ (show j>i from Jj)];exact⟨_,rfl⟩
  ·rw[O5 Jj,O5 (show ¬ j>i from Jj)];exact⟨_,rfl⟩
 ·cases e
def DP(f g:FX):FX:=fun env=>(f env).bind fun p=>(g p.2).bind fun q=>match(nO p.1.2).bind e8,q.1.2 with
 |some ns,.int d=>.ok ((.f,.int (NX.maxD ns d)),q.2)
 |_,_=>.bad
def Ea:List D->Res R
 |[.bl b]=>.ok (.f,.int (if b then 1 else 0))
 |[.int i]=>.ok (.f,.int i)
 |_=>.bad
def nP:D->String
 | .non=>"NoneType"
 | .bl _=>"bool"
 | .int _=>"int"
 | .str _=>"str"
 | .tup _=>"tuple"
 | .lst _=>"list"
 | .dct _ _ _=>"dict"
def mD(T:String)(d:D):Bool:=nP d==T||(nP d == "bool" && T == "int")
def Iy(T:String)(f:FO):FX:=fun env=>(f env).bind fun p=>(p3 p.2 p.1).bind fun d=>.ok ((.f,.bl (mD T d)),p.2)
theorem Aq(K:W.Frag)(d:D){T:String}(hT:T = "int"\/T = "bool"\/T = "str"\/T = "list"\/T = "tuple"\/T = "dict"):PySem.W.kitOne K (.type (nP d)) (.type T)=some (mD T d):=by
 rcases hT with rfl|rfl|rfl|rfl|rfl|rfl <;> cases d <;> (unfold PySem.W.kitOne PySem.W.kitCls PySem.W.subIn;kernel_rfl)
theorem uL:du X (.builtin "isinstance") (fun xs H Q=>∃d x T,xs=[x,.ty T]/\Rep X.K H d x/\(T = "int"\/T = "bool"\/T = "str"\/T = "list"\/T = "tuple"\/T = "dict")/\Q (.bl (mD T d)) H):=by
 intro pr s σ H xs us Q I r h;obtain⟨d,x,T,rfl,rd,hT,q⟩:=h;obtain⟨u,w',rfl,r1,r2⟩:=wL r;cases(show w'=Value.type T from r2);have e:=Aq X.K d hT;have fin:∀tk,EP X pr σ Q (.bool (mD T d)) {s with toks:=tk}:=fun tk=>⟨.bl (mD T d),H,I.tok tk,rfl,q⟩
 cases d with
 |non=>cases bP rd;cases(show u=Value.none from r1);exact Qr PySem.W.kitx_none I.kIn True.intro e (fun z=>nomatch z) fin
 |bl y=>cases bX rd;cases(show u=Value.bool y from r1);exact Qr PySem.W.kitx_bool I.kIn True.intro e (fun z=>nomatch z) fin
 |int i=>cases bp rd;obtain⟨t,z⟩:=(show ∃t,u=Value.int i t from r1);cases z;exact Qr PySem.W.kitx_int I.kIn True.intro e (fun z=>nomatch z) fin
 |str l=>
  have hr:=(a7 rd).1;subst hr;obtain⟨t,z⟩:=(show ∃t,u=Value.str (S l) t from r1)
  cases z;exact Qr PySem.W.kitx_str I.kIn True.intro e (fun z=>nomatch z) fin
 |lst l=>
  obtain⟨p,xs,ev,sq,_⟩:=bc rd;subst ev;cases(show u=Value.ref p from r1);obtain⟨Eg,_,ip,_⟩:=I.list sq;obtain⟨o,ho,hc,_⟩:=ip.isList;exact Qr PySem.W.kitx_list I.kIn ⟨o,ho,hc⟩ e (fun z=>nomatch z) fin
 |tup l=>
  obtain⟨p,xs,ev,sq,_⟩:=aY rd;subst ev;cases(show u=Value.ref p from r1);obtain⟨Eg,_,ip,_⟩:=I.tuple sq;obtain⟨o,ho,hc,_⟩:=ip;exact Qr PySem.W.kitx_tuple I.kIn ⟨o,ho,hc⟩ e (fun z=>nomatch z) fin
 |dct tk ks vs=>
  rw[Rep]at rd;obtain⟨p,xs,o,ev,hr,dd,_⟩:=rd;subst ev;cases(show u=Value.ref p from r1);have ok:=hr.ok I.hok;cases tk with
  |true=>
   obtain⟨kvs,eo,_⟩:=dd;subst eo;obtain⟨_,_,_,_,o2,_,_,FA,ex,_⟩:=ok;exact Qr PySem.W.kitx_dict I.kIn ⟨o2,FA,ex.1⟩ e (fun z=>nomatch z) fin
  |false=>
   obtain⟨kvs,eo,_⟩:=dd;subst eo;obtain⟨_,_,_,_,o2,_,_,FA,ex,_⟩:=ok;exact Qr PySem.W.kitx_dict I.kIn ⟨o2,FA,ex.1⟩ e (fun z=>nomatch z) fin
theorem j7{T:String}{x:Str}{e:Expr}{f:FO}{p q pos:Pos}(hT:T = "int"\/T = "bool"\/T = "str"\/T = "list"\/T = "tuple"\/T = "dict")(he:QO X e f)(hg:Gl X "isinstance")(hm:X.mg "isinstance" = none)(hg2:Gl X x)(ND:X.mg x=none)(Lu:bootBuiltins x=some (.type T))(hn:x≠"__name__":=by decide)(Fm:(x==("__debug__" : Str))=false:=by decide)
  (hs:starEach [e,.Name x q] X.env=(false,eval e X.env)::starEach [.Name x q] X.env:=by rfl) (NF:starEach [.Name x q] X.env=(false,eval (.Name x q) X.env)::starEach [] X.env:=by rfl) (Fd:(backTo pos (starEach [.Name x q] X.env)).any (·.1)=false:=by rfl):
  QE X (.Call (.Name "isinstance" p) [e,.Name x q] [] pos) (Iy T f):=
 aS (oH uL hg hm kK (cR he (cR (wG (v:=.ty T) hg2 ND Lu rfl hn Fm) ji NF) hs) (by decide) (by decide) hs Fd) fun σ H Q Er=>by
  obtain⟨G,env,fp,r,env',rel,e,k⟩:=Er;obtain⟨⟨o,Ee⟩,e1,e⟩:=ag e;obtain⟨d,e2,e⟩:=ag e;cases e;exact⟨G,env,fp,o,_,rel,e1,fun v H1 G1 EB Es Eh Fo=>⟨d,v,T,rfl,Eh.vwA Fo e2,hT,k _ H1 G1 EB Es (Eh.push (bw _))⟩⟩
def FW{α:Type}(f g:PV.Env->Res α):PV.Env->Res α:=fun env=>match f env with
 | .ok a=>.ok a
 |_=>g env
theorem v9{α:Type}{f g:PV.Env->Res α}{env:PV.Env}{a:α}(h:FW f g env=.ok a):f env=.ok a\/g env=.ok a:=by
 unfold FW at h;split at h
 ·rename_i b hb;cases h;exact .inl hb
 ·exact .inr h
theorem rL{tg e:Expr}{f g:FI}(h:QI X tg e f)(h2:QI X tg e g):QI X tg e (FW f g):=fun pr s σ H R I Er=>by
 obtain⟨G,env,fp,ds,env',rel,ee,k⟩:=Er;rcases v9 ee with z|z
 ·exact h pr s σ H R I ⟨G,env,fp,ds,env',rel,z,k⟩
 ·exact h2 pr s σ H R I ⟨G,env,fp,ds,env',rel,z,k⟩
end
section
variable{α:Type}
def ins(lt:α->α->Bool)(x:α):List α->List α
 |[]=>[x]
 |y::ys=>if lt y x then y::ins lt x ys else x::y::ys
def cI(lt:α->α->Bool)(l:List α):List α:=l.foldr (ins lt) []
structure Ord(lt:α->α->Bool):Prop where
 irr:∀a,lt a a=false
 trans:∀a b c,lt a b=true->lt b c=true->lt a c=true
 tot:∀a b,lt a b=false->lt b a=false->a=b
theorem lg(lt:α->α->Bool)(x:α):∀l,(ins lt x l).Perm (x::l)
 |[]=>.refl _
 |y::ys=>by
  unfold ins;split
  ·exact(List.Perm.cons y (lg lt x ys)).trans (List.Perm.swap x y ys)
  ·exact .refl _
theorem dR(lt:α->α->Bool):∀l,(cI lt l).Perm l
 |[]=>.refl _
 |x::l=>(lg lt x _).trans (List.Perm.cons x (dR lt l))
theorem ku{lt:α->α->Bool}(o:Ord lt)(x:α):∀l:List α,l.Pairwise (fun a b=>lt b a=false)->(ins lt x l).Pairwise (fun a b=>lt b a=false)
 |[],_=>by simp[ins]
 |y::ys,h=>by
  rw[QA]at h;unfold ins;split
  ·rename_i hy;rw[QA];refine⟨fun z hz=>?_,ku o x ys h.2⟩;rcases O6.mp ((lg lt x ys).mem_iff.mp hz) with rfl|hz
   ·cases e:lt z y with
    |false=>rfl
    |true=>
     have:=o.trans y z y hy e;rw[o.irr]at this;cases this
   ·exact h.1 z hz
  ·rename_i hy;have hy:lt y x=false:=by simpa using hy
   rw[QA,QA];refine⟨fun z hz=>?_,h⟩;rcases O6.mp hz with rfl|Jk
   ·exact hy
   ·cases e:lt z x with
    |false=>rfl
    |true=>
     exfalso;cases e2:lt x y with
     |true=>
      have:=o.trans z x y e e2;rw[h.1 z Jk]at this;cases this
     |false=>
      have hxy:=o.tot x y e2 hy;rw[hxy,h.1 z Jk]at e;cases e
theorem dD{lt:α->α->Bool}(o:Ord lt):∀l:List α,(cI lt l).Pairwise (fun a b=>lt b a=false)
 |[]=>.nil
 |x::l=>ku o x _ (dD o l)
theorem mE{lt:α->α->Bool}(o:Ord lt):∀{a b:List α},a.Perm b->a.Pairwise (fun a b=>lt b a=false)->b.Pairwise (fun a b=>lt b a=false)->a=b
 |[],_,p,_,_=>p.nil_eq
 |x::xs,[],p,_,_=>absurd p.length_eq (by simp)
 |x::xs,y::ys,p,ha,hb=>by
  rw[QA]at ha hb;have hx:x∈y::ys:=p.mem_iff.mp OX;have hy:y∈x::xs:=p.mem_iff.mpr OX;have e:x=y:=by
   rcases O6.mp hx with e|hx
   ·exact e
   ·rcases O6.mp hy with e|hy
    ·exact e.symm
    ·exact o.tot x y (hb.1 x hx) (ha.1 y hy)
  subst e;rw[mE o p.cons_inv ha.2 hb.2]
theorem gW{lt:α->α->Bool}(o:Ord lt){l ms:List α}(p:ms.Perm l)(h:ms.Pairwise (fun a b=>lt b a=false)):ms=cI lt l:=mE o (p.trans (dR lt l).symm) h (dD o l)
end
def ltI(a b:Int):Bool:=decide (a<b)
def GS(a b:List Nat):Bool:=decide (a<b)
theorem xF:Ord ltI:=⟨fun a=>by simp[ltI],fun a b c=>by simp only[ltI,O9];lia,fun a b=>by simp only[ltI,PK];lia⟩
theorem nQ:Ord GS:=by
 refine⟨fun a=>?_,fun a b c h1 h2=>?_,fun a b h1 h2=>?_⟩
 ·unfold GS;rw[PK];exact List.lt_irrefl a
 ·unfold GS at *;rw[O9] at *;exact List.lt_trans h1 h2
 ·unfold GS at *;rw[PK] at *;exact List.le_antisymm (Sd.mp h2) (Sd.mp h1)
theorem rM:Ord cS:=⟨gw,fN,fO⟩
def eT:List D->Option (List (List Nat))
 |[]=>some []
 | .str b::ds=>(eT ds).map (b:: ·)
 |_=>none
def jC:D->Option Key
 | .int i=>some (.inl i)
 | .str l=>some (.inr (S l))
 |_=>none
def cV:List D->Option (List Key)
 |[]=>some []
 |d::ds=>(jC d).bind fun k=>(cV ds).map (k:: ·)
def eE:D->Option (List Key)
 | .tup ds=>cV ds
 |_=>none
def iA:List D->Option (List (List Key))
 |[]=>some []
 |d::ds=>(eE d).bind fun k=>(iA ds).map (k:: ·)
def kT(k:List Key):D:=.tup (k.map kD)
section
variable{K:W.Frag}{G:Hp}
theorem gF:∀{ds:List D}{bs:List (List Nat)}{xs:List V},eT ds=some bs->Reps K G ds xs->xs=bs.map (fun l=>V.str (S l))/\∀l∈bs,l.length<=sizeLine
 |[],_,_,e,r=>by
  cases e;rw[Reps]at r;exact⟨r,fun _ h=>nomatch h⟩
 |d::ds,_,_,e,r=>by
  cases d with
  |str b=>
   rw[eT,Pp]at e;obtain⟨bs,e1,e2⟩:=e;subst e2;rw[Reps]at r;obtain⟨y,ys,e3,r1,r2⟩:=r;obtain⟨h1,h2⟩:=gF e1 r2;obtain⟨h3,h4⟩:=a7 r1;subst h3;refine⟨by rw[e3,h1];rfl,fun l hl=>?_⟩;rcases O6.mp hl with rfl|hl
   ·exact h4
   ·exact h2 l hl
  |_=>simp[eT]at e
theorem ie{d:D}{k:Key}{v:V}(e:jC d=some k)(r:Rep K G d v):v=kV k/\d=kD k:=by
 cases d with
 |int i=>
  cases e;exact⟨bp r,rfl⟩
 |str l=>
  cases e;refine⟨(a7 r).1,?_⟩;show D.str l=D.str (S l).cps.toList;rw[cq]
 |_=>cases e
theorem iC:∀{ds:List D}{ks:List Key}{xs:List V},cV ds=some ks->Reps K G ds xs->xs=ks.map kV/\ds=ks.map kD
 |[],_,_,e,r=>by
  cases e;rw[Reps]at r;exact⟨r,rfl⟩
 |d::ds,_,_,e,r=>by
  rw[cV,Px]at e;obtain⟨k,e1,e⟩:=e;rw[Pp]at e;obtain⟨ks,e2,e3⟩:=e;subst e3;rw[Reps]at r;obtain⟨y,ys,e4,r1,r2⟩:=r;obtain⟨h1,h2⟩:=ie e1 r1;obtain⟨h3,h4⟩:=iC e2 r2;rw[e4,h1,h2,h3,h4];exact⟨rfl,rfl⟩
theorem bR{d:D}{ks:List Key}{v:V}(e:eE d=some ks)(r:Rep K G d v):∃p,v=.ref p/\G p=some (.tup (ks.map kV))/\d=kT ks:=by
 cases d with
 |tup ds=>
  obtain⟨p,xs,ev,g,rs⟩:=rk r;obtain⟨h1,h2⟩:=iC e rs;subst h1;exact⟨p,ev,g,by rw[h2];rfl⟩
 |_=>cases e
theorem jD:∀{ds:List D}{Gy:List (List Key)}{xs:List V},iA ds=some Gy->Reps K G ds xs->∃al:List (Addr×List Key),xs=al.map (fun a=>V.ref a.1)/\Gy=al.map (·.2)/\ds=al.map (fun a=>kT a.2)/\∀a∈al,G a.1=some (.tup (a.2.map kV))/\Rep K G (kT a.2) (.ref a.1)
 |[],_,_,e,r=>by
  cases e;rw[Reps]at r;exact⟨[],r,rfl,rfl,fun _ h=>nomatch h⟩
 |d::ds,_,_,e,r=>by
  rw[iA,Px]at e;obtain⟨k,e1,e⟩:=e;rw[Pp]at e;obtain⟨ks,e2,e3⟩:=e;subst e3;rw[Reps]at r;obtain⟨y,ys,e4,r1,r2⟩:=r;obtain⟨p,h1,h2,h5⟩:=bR e1 r1;obtain⟨al,h3,h4,h6,h7⟩:=jD e2 r2;subst h1;refine⟨(p,k)::al,by rw[e4,h3];rfl,by rw[h4];rfl,by rw[h5,h6];rfl,fun a ha=>?_⟩;rcases O6.mp ha with rfl|ha
  ·exact⟨h2,by rw[<-h5];exact r1⟩
  ·exact h7 a ha
theorem eF{α:Type}{f:α->D}{g:α->V}:∀{l:List α},(∀a∈l,Rep K G (f a) (g a))->Reps K G (l.map f) (l.map g)
 |[],_=>Reps.nil
 |a::l,h=>.cons (h a OX) (eF fun b hb=>h b (O7 _ hb))
end
def sameKinds(k:List Key)(Gy:List (List Key)):Bool:=!k.isEmpty&&Gy.all fun j=>kinds j==kinds k
noncomputable def jE(ds:List D):Option (List D):=match e8 ds with
 |some ns=>some ((cI ltI ns).map D.int)
 |none=>match eT ds with
  |some ls=>some ((cI GS ls).map D.str)
  |none=>match iA ds with
   |some (k::Gy)=>if sameKinds k Gy then some ((cI cS (k::Gy)).map kT) else none
   |_=>none
noncomputable def e9:List D->Res R
 |[.lst ds]=>if ds.length<64 then match jE ds with
  |some l=>.ok (.l .f,.lst l)
  |none=>.bad
  else .bad
 |[.dct true ks _]=>if ks.length<64 then match ks,iA ks with
  |[],_=>.ok (.l .f,.lst [])
  |_,some (k::Gy)=>if sameKinds k Gy then .ok (.l .f,.lst ((cI cS (k::Gy)).map kT)) else .bad
  |_,_=>.bad
  else .bad
 |_=>.bad
theorem gX{k:List Key}{Gy:List (List Key)}(h:sameKinds k Gy=true):∃top t,∀j∈k::Gy,kinds j=top::t:=by
 unfold sameKinds at h;rw[O1,Pm]at h;cases k with
 |nil=>simp at h
 |cons a k=>
  refine⟨a.isLeft,kinds k,fun j hj=>?_⟩;rcases O6.mp hj with rfl|hj
  ·rfl
  ·exact PN.mp (h.2 j hj)
def iE(H G:Hp):Hp:=fun p=>match H p with
 |some (HO.tup xs)=>some (HO.tup xs)
 |_=>G p
theorem p8{H G:Hp}{p:Addr}{xs:List V}(e:H p=some (.tup xs)):iE H G p=some (.tup xs):=by
 unfold iE;rw[e]
theorem jF{H G:Hp}{p:Addr}{u:HO}(e:iE H G p=some u):G p=some u\/(isT u=true/\H p=some u):=by
 unfold iE at e;split at e
 ·rename_i xs hx;cases e;exact .inr ⟨rfl,hx⟩
 ·exact .inl e
theorem rN{H G:Hp}(gh:Same G H):Same G (iE H G):=fun p u e=>by
 unfold iE;rw[gh p u e];cases u with
 |tup xs=>rfl
 |_=>exact e
theorem Rel.addT{K:W.Frag}{G H:Hp}{es:PV.Env}{vs:L2.St}{fp:List Addr}(q:Rel K G H es vs fp):∃G',Rel K G' H es vs fp/\Step G H fp G' H fp/\∀p xs,H p=some (.tup xs)->G' p=some (.tup xs):=by
 have gg:=rN q.gh;refine⟨iE H G,⟨q.rep.step gg fun _ _=>rfl,q.nd,fun p hp=>?_,fun p u e=>?_⟩,⟨gg,fun _ _ e _=>e,fun _ h=>.inl h,fun p u e=>(jF e).imp_right fun z=>.inr (.inr z),fun _ u e=>⟨u,e⟩⟩,fun p xs e=>p8 e⟩
 ·cases e:iE H G p with
  |none=>rfl
  |some u=>
   exfalso;rcases jF e with z|⟨t,z⟩
   ·rw[q.gn p hp]at z;cases z
   ·obtain⟨u2,h2,hm⟩:=q.rep.mut p hp;rw[z]at h2;cases h2;cases u with
    |tup _=>cases hm
    |frz _ _=>cases hm
    |_=>cases t
 ·rcases jF e with z|z
  ·exact q.gh p u z
  ·exact z.2
theorem Ar{K:W.Frag}{G:Hp}{k:Key}(h:uz k):Rep K G (kD k) (kV k):=by
 cases k with
 |inl i=>exact bz i
 |inr x=>
  have:=gB (K:=K) (G:=G) (l:=x.cps.toList) h;rw[l5]at this;exact this
theorem As(k:Key):jC (kD k)=some k:=by
 cases k with
 |inl i=>rfl
 |inr x=>
  show some (Sum.inr (S x.cps.toList))=_;rw[l5]
theorem jG:∀ks:List Key,cV (ks.map kD)=some ks
 |[]=>rfl
 |k::ks=>by
  rw[Pb,cV,As,jG ks];rfl
theorem ig:∀Gy:List (List Key),iA (Gy.map kT)=some Gy
 |[]=>rfl
 |k::Gy=>by
  rw[Pb,iA];show(cV (k.map kD)).bind _=_;rw[jG,ig Gy];rfl
section
variable{X:Cx}
theorem Oj{α:Type}{lt:α->α->Bool}{p:α->α->Prop}(h:∀a b,p a b->lt b a=false){l:List α}(q:l.Pairwise p):l.Pairwise (fun a b=>lt b a=false):=q.imp (h _ _)
theorem mF(hc:X.calm=true):du X (.builtin "sorted") (rC X.K e9):=by
 rintro pr s σ H xs us Q I rx ⟨G,fp,es,vs,ds,r,⟨rel,k⟩,vd,e⟩;unfold e9 at e;split at e
 ·rename_i ds;split at e
  ·rename_i Il;split at e
   ·rename_i l hl;cases e;obtain⟨v,ev,p,ys,ep,sq,rs⟩:=nq vd;subst ev;subst ep;unfold jE at hl;split at hl
    ·rename_i ns MJ;cases hl;have hy:=gE MJ rs;subst hy;have hlen:ns.length<64:=by have:=rs.length;rw[OT]at this;lia
     refine iM hc pr s σ H _ us Q I rx ⟨p,ns,rfl,sq,hlen,fun q ms hq pm sm=>?_⟩;have em:=gW xF pm (Oj (fun a b h=>by unfold ltI;rw[PK];lia) sm);subst em;obtain⟨Ef,El⟩:=rel.newL hq (eF (K:=X.K) (G:=G) (f:=D.int) (g:=V.int) fun a _=>bz a);exact k _ _ G _ El Ef
    ·split at hl
     ·rename_i ls hls;cases hl;obtain⟨hy,hz⟩:=gF hls rs;subst hy;have hlen:ls.length<64:=by have:=rs.length;rw[OT]at this;lia
      refine iN hc pr s σ H _ us Q I rx ⟨p,ls,rfl,sq,hlen,fun q ms hq pm sm=>?_⟩;have em:=gW nQ pm (Oj (fun a b h=>by unfold GS;rw[PK];exact h) sm);obtain⟨Ef,El⟩:=rel.newL hq (eF (K:=X.K) (G:=G) (f:=D.str) (g:=fun l=>V.str (S l)) (l:=ms) fun a ha=>gB (hz a (pm.mem_iff.mp ha)));rw[<-em]at k;exact k _ _ G _ El Ef
     ·split at hl
      ·rename_i kk Gy hk;split at hl
       ·rename_i hsk;cases hl;obtain⟨al,h1,h2,h3,h4⟩:=jD hk rs;obtain⟨top,t,Gz⟩:=gX hsk;subst h1;have hlen:al.length<64:=by have:=rs.length;rw[OT]at this;lia
        refine iO hc pr s σ H _ us Q I rx ⟨p,al,top,t,rfl,sq,fun a ha=>⟨SqT.of (rel.gh _ _ (h4 a ha).1),Gz a.2 (by rw[h2];exact Qw.mpr ⟨a,ha,rfl⟩)⟩,hlen,fun q ms hq pm sm=>?_⟩;have em:ms.map (·.2)=cI cS (kk::Gy):=by
         rw[h2];refine gW rM (pm.map _) ?_;rw[Rr];exact sm
        obtain⟨Ef,El⟩:=rel.newL hq (eF (K:=X.K) (G:=G) (f:=fun a:Addr×List Key=>kT a.2) (g:=fun a=>V.ref a.1) (l:=ms) fun a ha=>(h4 a (pm.mem_iff.mp ha)).2);have ek:ms.map (fun a=>kT a.2)=(cI cS (kk::Gy)).map kT:=by rw[<-em,Pf];rfl
        rw[ek]at Ef;exact k _ _ G _ El Ef
       ·cases hl
      ·cases hl
   ·cases e
  ·cases e
 ·rename_i ks vv;split at e
  ·rename_i Il;obtain⟨v,ev,vt⟩:=nq vd;obtain⟨p,ys,o,ep,rd,dd,rs⟩:=vt;subst ev;subst ep;obtain⟨kvs,eo,ek,ex,HB⟩:=dd;subst eo;have ek:ks=(kvs.map (·.1)).map kT:=by rw[ek,Pf];rfl
   have hlen:kvs.length<64:=by rw[ek,OT,OT]at Il;exact Il
   have go:∀(top:Bool) (t:List Bool),(∀kv∈kvs,kinds kv.1=top::t)->r=(.l .f,.lst ((cI cS (kvs.map (·.1))).map kT))->wpAny (model X.prog X.w) X.A (call (.builtin "sorted") us) (EP X pr σ Q) X.xe s:=fun top t Gz er=>by
    subst er;refine j5 hc pr s σ H _ us Q I rx ⟨p,kvs,top,t,rfl,rd,Gz,hlen,fun q ms hq hm pm sm=>?_⟩;have em:ms.map (·.2)=cI cS (kvs.map (·.1)):=by
     refine gW rM pm ?_;rw[Rr];exact sm
    obtain⟨G2,Ef,El,ht⟩:=rel.addT;have Gp:∀a∈ms,Rep X.K G2 (kT a.2) (.ref a.1):=fun a ha=>by
     unfold kT;rw[Rep];refine⟨a.1,_,rfl,ht _ _ (hm a ha),?_⟩;refine eF (f:=kD) (g:=kV) fun key Gb=>Ar ?_
     have:a.2∈kvs.map (·.1):=pm.mem_iff.mp (Qw.mpr ⟨a,ha,rfl⟩);obtain⟨kv,Hf,e2⟩:=Qw.mp this;exact HB kv Hf key (by rw[e2];exact Gb)
    obtain⟨EG,EJ⟩:=Ef.newL hq (eF (K:=X.K) (G:=G2) (f:=fun a:Addr×List Key=>kT a.2) (g:=fun a=>V.ref a.1) (l:=ms) Gp);have ek:ms.map (fun a=>kT a.2)=(cI cS (kvs.map (·.1))).map kT:=by rw[<-em,Pf];rfl
    rw[ek]at EG;exact k _ _ G2 _ (El.trans EJ) EG
   rw[ek,ig]at e;split at e
   ·rename_i hnil;cases e;have:kvs=[]:=by
     cases kvs with
     |nil=>rfl
     |cons a b=>cases hnil
    subst this;exact go true [] (fun _ h=>nomatch h) rfl
   ·rename_i kk Gy heq HQ;split at e
    ·rename_i hsk;cases e;obtain⟨top,t,Gz⟩:=gX hsk;have heq:kvs.map (·.1)=kk::Gy:=by
      injection heq
     refine go top t (fun kv Hf=>Gz kv.1 ?_) (by rw[heq]);rw[<-heq];exact Qw.mpr ⟨kv,Hf,rfl⟩
    ·cases e
   ·cases e
  ·cases e
 ·cases e
def Iz(a b:D):Res R:=match eE a,eE b with
 |some ks,some js=>if kinds ks==kinds js then .ok (.f,.bl (cS ks js)) else .bad
 |_,_=>Lp a b
def Ma(a b:D):Res R:=match eE a,eE b with
 |some ks,some js=>if kinds ks==kinds js then .ok (.f,.bl (!cS ks js)) else .bad
 |_,_=>match a,b with
  | .str a,.str b=>.ok (.f,.bl (!decide (a<b)))
  |a,b=>NA a b
theorem o9(hu:X.A.units<cLine):EK X (compareOp .Lt) (rG X.K Iz):=by
 rintro pr s σ H x y v u Q I rx ry ⟨G,fp,es,vs,a,b,r,⟨rel,k⟩,va,vb,e⟩;unfold Iz at e;split at e
 ·rename_i ks js h1 h2;split at e
  ·rename_i hk;cases e;have ra:Rep X.K G a x:=by cases a <;> first|exact va|cases h1
   have rb:Rep X.K G b y:=by cases b <;> first|exact vb|cases h2
   obtain⟨p,e1,g1,_⟩:=bR h1 ra;obtain⟨p2,e2,g2,_⟩:=bR h2 rb;subst e1;subst e2;exact zX hu pr s σ H _ _ v u Q I rx ry ⟨p,p2,ks,js,rfl,rfl,SqT.of (rel.gh _ _ g1),SqT.of (rel.gh _ _ g2),PN.mp hk,k _ H G fp .refl (rel.push (bw _))⟩
  ·cases e
 ·exact Cj pr s σ H x y v u Q I rx ry ⟨G,fp,es,vs,a,b,r,⟨rel,k⟩,va,vb,e⟩
theorem Au(hu:X.A.units<cLine):EK X (compareOp .GtE) (rG X.K Ma):=by
 rintro pr s σ H x y v u Q I rx ry ⟨G,fp,es,vs,a,b,r,⟨rel,k⟩,va,vb,e⟩;unfold Ma at e;split at e
 ·rename_i ks js h1 h2;split at e
  ·rename_i hk;cases e;have ra:Rep X.K G a x:=by cases a <;> first|exact va|cases h1
   have rb:Rep X.K G b y:=by cases b <;> first|exact vb|cases h2
   obtain⟨p,e1,g1,_⟩:=bR h1 ra;obtain⟨p2,e2,g2,_⟩:=bR h2 rb;subst e1;subst e2;exact zY hu pr s σ H _ _ v u Q I rx ry ⟨p,p2,ks,js,rfl,rfl,SqT.of (rel.gh _ _ g1),SqT.of (rel.gh _ _ g2),PN.mp hk,k _ H G fp .refl (rel.push (bw _))⟩
  ·cases e
 ·split at e
  ·rename_i l l';cases e;obtain⟨e1,h1⟩:=dC va;obtain⟨e2,h2⟩:=dC vb;subst e1;subst e2;obtain⟨t,rfl⟩:=rx;obtain⟨t',rfl⟩:=ry;refine PySem.P.ge_str ?_;rw[cq,cq];exact⟨.bl _,H,I,rfl,k _ H G fp .refl (rel.push (bw _))⟩
  ·exact Cm pr s σ H x y v u Q I rx ry ⟨G,fp,es,vs,_,_,r,⟨rel,k⟩,va,vb,e⟩
end
def eNewD(tk:Bool):FX:=fun env=>.ok ((.d,.dct tk [] []),env)
section
variable{md:Mode}{X:Cx}
def p9(ks vs:List D)(k v:D):List D×List D:=if ks.any (Ek k) then(ks,(ks.zip vs).map fun p=>if Ek k p.1 then v else p.2) else(ks++[k],vs++[v])
def dS(tk:Bool)(k:D):Bool:=if tk then(eE k).isSome else(jC k).isSome
noncomputable def BI(i:Nat)(fk fv:FX):FS:=fun env=>(fv env).bind fun p=>(fk p.2).bind fun q=>match p.2[i]?,q.2[i]? with
 |some (some _),some (some (.d,.dct tk ks vs))=>if dS tk q.1.2&&decide (ks.length<sizeLine) then .ok (.nx (q.2.set i (some (.d,.dct tk (p9 ks vs q.1.2 p.1.2).1 (p9 ks vs q.1.2 p.1.2).2)))) else .bad
 |_,_=>.bad
theorem rO(a b:Key):Ek (kD a) (kD b)=decide (a=b):=by
 cases a with
 |inl i=>
  cases b with
  |inl j=>simp only[kD,Ek];rw[Pk];simp
  |inr y=>simp only[kD,Ek];simp
 |inr x=>
  cases b with
  |inl j=>simp only[kD,Ek];simp
  |inr y=>
   simp only[kD,Ek];rw[Pk];simp only[PN,O9,Sum.inr.injEq];exact⟨fun h=>by rw[<-l5 x,<-l5 y,h],fun h=>by rw[h]⟩
theorem rP:∀a b:List Key,iz (a.map kD) (b.map kD)=decide (a=b)
 |[],[]=>by simp[iz]
 |[],_::_=>by simp[iz]
 |_::_,[]=>by simp[iz]
 |a::r,b::t=>by
  rw[Pb,Pb,iz,rO,rP r t,Pk];simp
theorem wa(a b:List Key):Ek (kT a) (kT b)=decide (a=b):=by
 unfold kT;rw[Ek];exact rP a b
theorem mG{κ:Type}[DecidableEq κ]{K:W.Frag}{G:Hp}(f:κ->D)(hf:∀a b,Ek (f a) (f b)=decide (a=b)){kvs:List (κ×V)}{vs:List D}{k:κ}{v:D}{y:V}(r:Reps K G vs (kvs.map (·.2)))(ry:Rep K G v y):
  (j4 kvs k y).map (fun kv=>f kv.1)=(p9 (kvs.map fun kv=>f kv.1) vs (f k) v).1/\Reps K G (p9 (kvs.map fun kv=>f kv.1) vs (f k) v).2 ((j4 kvs k y).map (·.2)):=by
 have e:(kvs.map fun kv=>f kv.1).any (Ek (f k))=kvs.any fun kv=>decide (kv.1=k):=by
  rw[Ra];congr 1
  funext kv
  show Ek (f k) (f kv.1)=_;rw[hf,Pk];simp only[O9];exact⟨fun z=>z.symm,fun z=>z.symm⟩
 unfold p9 j4;rw[e];split
 ·refine⟨?_,?_⟩
  ·rw[Pf];refine Qb fun kv _=>?_
   show f (if kv.1=k then(kv.1,y) else kv).1=f kv.1;split <;> rfl
  ·rename_i hany;clear e hany;induction kvs generalizing vs with
   |nil=>
    have:vs=[]:=PU (by rw[<-r.length];rfl);subst this;exact Reps.nil
   |cons kv kvs ih=>
    cases vs with
    |nil=>have:=r.length;simp at this
    |cons d vs=>
     rw[Pb,Reps.cons_iff]at r;rw[Pb,P6,Pb,Pb,Pb];refine .cons ?_ (ih r.2);show Rep K G (if Ek (f k) (f kv.1)=true then v else d) (if kv.1=k then(kv.1,y) else kv).2;rw[hf];by_cases hk:kv.1=k
     ·rw[OZ (by simp[hk]),OZ hk];exact ry
     ·rw[O5 (by simp;exact fun z=>hk z.symm),O5 hk];exact r.1
 ·refine⟨?_,?_⟩
  ·rw[Pe];rfl
  ·rw[Pe];exact r.app (.one ry)
theorem Rel.chgD{K:W.Frag}{G H:Hp}{es:PV.Env}{vs:L2.St}{fp:List Addr}{i:Nat}{tk:Bool}{ks ws:List D}(q:Rel K G H es vs fp)(e:es[i]?=some (some (.d,.dct tk ks ws))):∃p xs u,vs[i]?=some (some (.ref p))/\H p=some u/\DictO u tk ks xs/\Reps K G ws xs/\
  ∀u' F5 FU Lq,DictO u' tk F5 FU->Reps K G Lq FU->∃fq,Rel K G (upd H p u') (es.set i (some (.d,.dct tk F5 Lq))) vs fq/\Step G H fp G (upd H p u') fq:=by
 obtain⟨v,fq,ev,g,st,GL⟩:=q.out e;obtain⟨y,ys,e0,v',a,b,e1,e2,r1,r2⟩:=g.rep;cases e0;cases e1;rw[RepO]at r1;obtain⟨p,xs,u,e3,hp,dd,e4,rs⟩:=r1;subst e3;subst e4;subst e2;have nd:=Qc.mp (show(p::b).Nodup from g.nd);refine⟨p,xs,u,ev,hp,dd,rs,fun u' F5 FU Lq J8 Gn=>?_⟩;have g2:Rel K G (upd H p u') (some (.d,.dct tk F5 Lq)::es.set i none) (some (.ref p)::vs) (p::b):=by
  refine⟨⟨some (.ref p),vs,rfl,.ref p,[p],b,rfl,rfl,?_,r2.step (.refl _) fun z hz=>ay fun e=>nd.1 (e▸hz)⟩,g.nd,g.gn,fun z o ez=>?_⟩
  ·rw[RepO];exact⟨p,FU,u',rfl,aM,J8,rfl,Gn⟩
  ·have:z≠p:=fun w=>by
    subst w;rw[g.gn z OX]at ez;cases ez
   rw[ay this];exact g.gh z o ez
 have LZ:Step G H (p::b) G (upd H p u') (p::b):=by
  refine⟨.refl _,fun z o ez nz=>?_,fun z hz=>.inl hz,fun z o ez=>.inl ez,fun z o ez=>?_⟩
  ·have:z≠p:=fun w=>nz (by rw[w];exact OX)
   rw[ay this];exact ez
  ·by_cases w:z=p
   ·subst w;exact⟨_,aM⟩
   ·exact⟨o,by rw[ay w];exact ez⟩
 obtain⟨fz,g3,EJ⟩:=g2.back (i:=i) (by rw[QJ];exact(List.getElem?_eq_some_iff.mp e).1) ev;rw[RT]at g3;exact⟨fz,g3,st.trans (LZ.trans EJ)⟩
theorem wb{K:W.Frag}{G:Hp}{d:D}{k:Key}{v:V}(e:jC d=some k)(r:Rep K G d v):uz k:=by
 cases d with
 |int i=>cases e;trivial
 |str l=>
  cases e;show(S l).cps.toList.length<=sizeLine;rw[cq];exact(a7 r).2
 |_=>cases e
theorem nR{K:W.Frag}{G:Hp}:∀{ds:List D}{ks:List Key}{xs:List V},cV ds=some ks->Reps K G ds xs->∀k∈ks,uz k
 |[],_,_,e,_=>by
  cases e;exact fun _ h=>nomatch h
 |d::ds,_,_,e,r=>by
  rw[cV,Px]at e;obtain⟨k,e1,e⟩:=e;rw[Pp]at e;obtain⟨ks,e2,e3⟩:=e;subst e3;rw[Reps]at r;obtain⟨y,ys,e4,r1,r2⟩:=r;intro z hz;rcases O6.mp hz with rfl|hz
  ·exact wb e1 r1
  ·exact nR e2 r2 z hz
theorem pb{κ:Type}[DecidableEq κ]{P:κ->Prop}{kvs:List (κ×V)}{k:κ}{y:V}(h:∀kv∈kvs,P kv.1)(hk:P k):∀kv∈j4 kvs k y,P kv.1:=by
 intro kv Hf;unfold j4 at Hf;split at Hf
 ·obtain⟨z,hz,e⟩:=Qw.mp Hf;rw[<-e];split
  ·exact h z hz
  ·exact h z hz
 ·rcases Pj.mp Hf with Hf|Hf
  ·exact h kv Hf
  ·rw[Pr]at Hf;rw[Hf];exact hk
theorem Av{i:Nat}{o ix value:Expr}{fk fv:FX}{pos pos':Pos}(hu:X.A.units+1<cLine)(ho:PE X o (ny i))(hi:QE X ix fk)(hv:QE X value fv)(hs:swapsWith value (some (.Subscript o ix pos')) pos.line X.env=pure false:=by rfl):
  QS (md:=md) X (.Assign [.Subscript o ix pos'] value pos) (BI i fk fv):=dy (xm hu ho hi hv hs) fun Dd σ H Er=>by
 obtain⟨G,env,fp,rel,k⟩:=Er;unfold BI at k;match q1:fv env,k with
 | .ok (r1,Ee),k=>
  have k:OutOk X.K G H fp Dd ((fk Ee).bind fun q=>match Ee[i]?,q.2[i]? with
   |some (some _),some (some (.d,.dct tk ks vs))=>if dS tk q.1.2&&decide (ks.length<sizeLine) then .ok (.nx (q.2.set i (some (.d,.dct tk (p9 ks vs q.1.2 r1.2).1 (p9 ks vs q.1.2 r1.2).2)))) else .bad
   |_,_=>.bad):=k
  match q2:fk Ee,k with
  | .ok (r2,Ep),k=>
   have k:OutOk X.K G H fp Dd (match Ee[i]?,Ep[i]? with
    |some (some _),some (some (.d,.dct tk ks vs))=>if dS tk r2.2&&decide (ks.length<sizeLine) then .ok (.nx (Ep.set i (some (.d,.dct tk (p9 ks vs r2.2 r1.2).1 (p9 ks vs r2.2 r1.2).2)))) else .bad
    |_,_=>.bad):=k
   split at k
   ·rename_i rr tk ks ws h1 h2;split at k
    ·rename_i hc;rw[O1,O9]at hc;refine⟨G,env,fp,r1,Ee,rel,q1,fun y H1 G1 EB Es Eh=>?_⟩;obtain⟨G2,b,ry,Ef,El⟩:=Eh.freeze;obtain⟨v0,Lv,_⟩:=Ef.view h1;refine⟨v0,Lv,G2,Ee,b,r2,Ep,Ef,q2,fun z H3 G3 Ge EJ EG=>?_⟩;obtain⟨G4,b4,rz,EH,E7⟩:=EG.freeze;obtain⟨p,xs,u,ep,hp,dd,rs,cg⟩:=EH.chgD h2;rw[Lv]at ep;cases ep;have MS:Rep X.K G4 r1.2 y:=Rep.mono (EJ.gg.trans E7.gg) ry;cases tk with
     |true=>
      obtain⟨kvs,eu,ek,ex,HB⟩:=dd;subst eu;subst ex;have hk:=hc.1;unfold dS at hk;rw[OZ rfl,P2]at hk;obtain⟨kk,hk⟩:=hk;obtain⟨pz,ez,gz,dz⟩:=bR hk rz;subst ez;obtain⟨t1,t2⟩:=mG (K:=X.K) (G:=G4) kT wa (k:=kk) rs MS;have ek:ks=kvs.map fun kv=>kT kv.1:=ek
      rw[<-ek,<-dz]at t1 t2;have hfk:∀key∈kk,uz key:=by
       cases hd:r2.2 with
       |tup ds=>
        rw[hd]at hk rz;obtain⟨_,FU,_,_,Gn⟩:=rk rz;exact nR hk Gn
       |_=>rw[hd]at hk;cases hk
      obtain⟨fq,E8,Gd⟩:=cg (.dT (j4 kvs kk y)) _ _ _ ⟨j4 kvs kk y,rfl,t1.symm,rfl,pb (P:=fun ks=>∀k∈ks,uz k) HB hfk⟩ t2;have hlen:kvs.length<sizeLine:=by have:=hc.2;rw[ek,OT]at this;exact this
      exact⟨p,_,rfl,DPut.t hp (EH.gh _ _ gz) hlen,k _ _ G4 fq (Es.trans (El.trans (EJ.trans (E7.trans Gd)))) E8⟩
     |false=>
      obtain⟨kvs,eu,ek,ex,HB⟩:=dd;subst eu;subst ex;have hk:=hc.1;unfold dS at hk;rw[O5 O0,P2]at hk;obtain⟨kk,hk⟩:=hk;obtain⟨ez,dz⟩:=ie hk rz;subst ez;obtain⟨t1,t2⟩:=mG (K:=X.K) (G:=G4) kD rO (k:=kk) rs MS;rw[<-ek,<-dz]at t1 t2;obtain⟨fq,E8,Gd⟩:=cg (.dK (j4 kvs kk y)) _ _ _ ⟨j4 kvs kk y,rfl,t1.symm,rfl,pb (P:=uz) HB (wb hk rz)⟩ t2;have hlen:kvs.length<sizeLine:=by have:=hc.2;rw[ek,OT]at this;exact this
      exact⟨p,_,rfl,DPut.k hp hlen,k _ _ G4 fq (Es.trans (El.trans (EJ.trans (E7.trans Gd)))) E8⟩
    ·exact k.elim
   ·exact k.elim
end
end PV
namespace NX
open PySem PySem.Spec PyProof.Rows L2
section
variable{prog:Program}{w:World}{A:Around}{E:Value->Shared->Prop}{s:Shared}{d:Addr}{es:Array DictEntry}{ep:Nat}
theorem lh(nm:(d==sysModules)=false):MeetsIn prog w (Builtin.«dict.__len__» ⟨[.ref d],[]⟩) (fun _ R s=>RawD s.heap d es ep/\R (.ok (.ret (.int es.size s.toks))) {s with toks:=s.toks+1}):=
 .of_wp fun A R s Er=>by
  obtain⟨⟨o,g,_,dat⟩,h⟩:=Er;show wpAny _ _ (dictSize d >>= fun _=>_) _ _ s;unfold dictSize;refine OR (OR (Rq g dat (OU ?_)));show wpAny _ _ (Builtin.Dict.pendingCount d >>= fun _=>_) _ _ s;refine OR (wpAny_pendingCount_other nm (wpAny_ret_mkInt ?_));rw[Nat.add_zero];exact h
theorem xG{Q:Value->Shared->Prop}(nm:(d==sysModules)=false)(x:RawD s.heap d es ep)(hf:(es.size:Int)<2 ^ 63)(h:Q (.int es.size (s.toks+1)) {s with toks:=s.toks+1+1}):wpAny (model prog w) A (call (.builtin "len") [.ref d]) Q E s:=by
 have ty:=i8 x;refine Q4 kind_len plain_len entry_len (args_len1 _) ?_;unfold Builtin.«len»;refine OR (m:=oneArg "len" _) (OU (OR (m:=callSpecial? (.ref d) (Str.ofString "__len__")) (wpAny_callSpecial?_slot (name:=Str.ofString "__len__") ty F.slot_dict_len
  (call_meetsIn F.slot_dict_len ty F.entry_dict_len (F.args_dict_len_1 _) (lh (es:=es) (ep:=ep) nm) ⟨x,?_⟩))))
 show wpAny _ _ _ _ _ {s with toks:=s.toks+1};refine OR (Qv (OU (OR (SY ?_))));show wpAny _ _ (if((es.size:Nat):Int)<0 then _ else _) _ _ _;rw[O5 (Int.not_lt.mpr (Int.natCast_nonneg _))];show wpAny _ _ (if((es.size:Nat):Int)>=2 ^ 63 then _ else _) _ _ _;rw[O5 (Int.not_le.mpr hf)];exact OR (wpAny_mkInt (OU ⟨_,rfl,h⟩))
end
end NX
namespace PV
open PySem PySem.Spec PyProof.Rows L2 NX
section
variable{X:Cx}
def jY:List D->Res R
 |[.dct _ ks _]=>.ok (.f,.int ks.length)
 |ds=>Co ds
theorem Aw{pr:List (Addr×Obj)}{σ:L2.St}{H:Hp}{s:Shared}(I:Inv X pr σ H s){p:Addr}{o:HO}{tk:Bool}{ks:List D}{xs:List V}(rd:Rd H p o)(dd:DictO o tk ks xs):(p==sysModules)=false/\∃es ep,RawD s.heap p es ep/\es.size=ks.length/\ks.length<=sizeLine:=by
 have ok:=rd.ok I.hok;cases tk with
 |true=>
  obtain⟨kvs,eo,ek,_⟩:=dd;subst eo;obtain⟨z,nm,ws,r,o2,es,ep,h1,h2,h3,h4,_⟩:=ok;refine⟨nm,es,ep,⟨o2,h1,h2,h3⟩,?_,by rw[ek,OT];exact z⟩;have:=P4 List.length h4;rw[OT,P8,<-RB r]at this;rw[ek,OT];exact this
 |false=>
  obtain⟨kvs,eo,ek,_⟩:=dd;subst eo;obtain⟨z,nm,ws,r,o2,es,ep,h1,h2,h3,h4,h5,_⟩:=ok;refine⟨nm,es,ep,⟨o2,h1,h2,h3⟩,?_,by rw[ek,OT];exact z⟩;have l1:=h5.length;have l2:kvs.length=ws.length:=RB r;rw[ek,OT];rw[P8]at l1;lia
theorem dJ:du X (.builtin "len") (rC X.K jY):=by
 rintro pr s σ H xs us Q I rx ⟨G,fp,es,vs,ds,r,⟨rel,k⟩,vd,e⟩;unfold jY at e;split at e
 ·rename_i tk ks ws;cases e;obtain⟨v,ev,p,ys,o,ep,rd,dd,_⟩:=nq vd;subst ev;subst ep;obtain⟨u,rfl,ru⟩:=gL rx;cases ru;obtain⟨nm,en,ep,raw,h1,h2⟩:=Aw I rd dd;refine xG nm raw (by rw[h1];rw[PL]at h2;lia) ?_;refine⟨.int ks.length,H,I.tok _,⟨_,by rw[h1]⟩,k _ H G fp .refl (rel.push (bz _))⟩
 ·exact Ak pr s σ H xs us Q I rx ⟨G,fp,es,vs,_,r,⟨rel,k⟩,vd,e⟩
def Cq(g:List Nat->List D->Res R)(fa:FO)(fs:Fn):FX:=fun env=>(fa env).bind fun p=>match Ff p.2 p.1 with
 | .ok (.str l)=>(fs p.2).bind fun q=>(ni q.2 q.1).bind fun ds=>(g l ds).bind fun r=>.ok (r,q.2)
 |_=>.bad
inductive rMtS(K:W.Frag)(g:List Nat->List D->Res R)(x:V)(xs:List V)(H:Hp)(Q:VK):Prop
 |mk:∀G fp es vs l ds r,Goes K H G fp es vs r Q->x=.str (S l)->l.length<=sizeLine->J9 K G H ds xs->g l ds=.ok r->rMtS K g x xs H Q
theorem Ax{g:List Nat->List D->Res R}{id:String}{name:Str}{o e:Expr}{es:List Expr}{fa:FO}{fs:Fn}{apos Eo:Pos}(slot:Slot "str" name id)(Ij:typeOf (.builtin id)=pure (.type "method_descriptor"))(hm:Jq X id (rMtS X.K g))(ho:QO X o fa)(ha:Im X (e::es) fs)
  (EL:attributeBase o name X.env (eval o X.env)=eval o X.env:=by rfl)
  (F7:((backTo Eo (starEach (e::es) X.env)).all (fun x=>!x.1)&&(backToKw Eo (keywordEach [] X.env)).all (fun x=>x.1.isSome)&&decide ((e::es).length+([]:List Keyword).length+(if([]:List Keyword).isEmpty then 0 else 1)<30))=true:=by rfl)
  (EO:(apos.endLine==Eo.line)=true:=by rfl) (hs:starEach (e::es) X.env=(false,eval e X.env)::starEach es X.env:=by rfl) (ET:(backTo Eo (starEach es X.env)).any (·.1)=false:=by rfl):
  QE X (.Call (.Attribute o name apos) (e::es) [] Eo) (Cq g fa fs):=by
 refine aS (t9 PySem.F.plainAttrs_str slot Ij hm ho ha EL F7 EO hs ET) fun σ H Q Ez=>?_
 obtain⟨G,env,fp,r,env',rel,e,k⟩:=Ez;obtain⟨⟨oa,Ee⟩,e1,e⟩:=ag e;dsimp only at e;split at e
 ·rename_i l hl;obtain⟨⟨os,Ep⟩,e2,e⟩:=ag e;obtain⟨ds,e3,e⟩:=ag e;obtain⟨r',e4,e⟩:=ag e;cases e;refine⟨G,env,fp,oa,Ee,rel,e1,fun v H1 G1 EB Es Eh Fo=>?_⟩;obtain⟨ev,hz⟩:=dC (Eh.vw Fo hl);subst ev;exact⟨rfl,G1,Ee,EB,os,Ep,Eh,e2,fun vs H2 G2 EW El Ef Hr=>⟨G2,EW,Ep,σ,l,ds,r,⟨Ef,fun v H' G' Ej st EC=>k v H' G' Ej (Es.trans (El.trans st)) EC⟩,rfl,hz,Ef.vws Hr e3,e4⟩⟩
 ·cases e
end
theorem fnok_of{P:Program}{w:World}{K:W.Frag}{mg:Str->Option Value}{base:Heap}{x:Str}{st:Stmt}{N ps:List Str}{k:Nat}{g:FS}{f:Addr}{fd:FuncData}(F:Fun K x x st f fd)(sc:FnScope N ps (defScope st))
  (body:∀(EF:Value) (A:Around) (outer:List PySem.Env) (s:Shared) (H:Hp) (E:XK),Room k (A.deeper (envOfC x (defScope st) s.heap.objs.size f EF))->Io (md:=.plain) (qj Iw P w K mg base N x (defScope st) f EF A outer s H E).nox (bU st) g):
  FnOk P w K mg base Iw (k+1) f fd ps (spF K (fBody ps.length (N.length-ps.length) g)):=by
 refine F.ok sc (fun vs H Q E h=>?_) (fun EF A outer s H vs Q E hr h=>?_)
 ·obtain⟨G,ds,r,_,rs,e,_⟩:=h;unfold fBody at e;split at e
  ·rename_i hl;rw[rs.length,hl]
  ·cases e
 ·obtain⟨G,ds,r,gh,rs,e,q⟩:=h;unfold fBody at e;split at e
  ·rename_i hl;refine⟨_,body EF A outer s H E hr,G,ds.map (fun d=>some (O.f,d))++List.replicate (N.length-ps.length) none,[],⟨?_,QC,(fun _ h=>nomatch h),gh⟩,?_⟩
   ·have:=eZ (K:=K) (G:=G) (H:=H) (N.length-ps.length) rs;unfold L2.hJ;rw[rs.length,hl];exact this
   ·obtain⟨o,eo,e⟩:=ag e;rw[eo];cases o with
    |rt r'=>
     cases e;exact fun v H' G' Ej st rel=>q v H' G' Ej st rel
    |nx env'=>
     cases e;exact fun σ' H' G' Ej st rel=>q .non H' G' [] (st.trans (Step.cut fun _ h=>nomatch h)) (rel.nilF.push gA)
    |bk env'=>cases e
    |ct env'=>cases e
  ·cases e
def uM(K:W.Frag):Sp:=fun vs H Q _=>∃(a:Addr) (ns:List Int),vs=[.ref a]/\SqL K H a (ns.map V.int)/\ns.length<=63/\∀H',Q (.bl true) H'
theorem Ay{K:W.Frag}{F:List D->Res R}(h:∀ns:List Int,ns.length<=63->∃o,F [.lst (ns.map D.int)]=.ok (o,.bl true)):∀vs H Q E,uM K vs H Q E->spF K F vs H Q E:=by
 rintro vs H Q E ⟨a,ns,rfl,sq,hl,q⟩;obtain⟨o,e⟩:=h ns hl;refine⟨H,_,_,.refl _,?_,e,fun v H' G' Ej st rel=>?_⟩
 ·refine .one ?_;rw[Rep];exact⟨a,_,rfl,sq,eF fun n _=>bz n⟩
 ·rw[bX rel.top];exact q H'
theorem _root_.L2.Room.u65{k:Nat}{A:Around}(r:Room k A):A.units+65<cLine:=by have:=r.un;lia
def BJ(f:FX)(a:FG):FS:=fun env=>(f env).bind fun p=>(a p.1.2 p.2).bind fun e=>.ok (.nx e)
theorem Az{X:Cx}{tg e:Expr}{f:FX}{a:FG}{pos:Pos}(he:QE X e f)(hg:QG X tg a)(hs:swapsWithSole [tg] e pos.line X.env=pure false:=by rfl)(hw:swappedStores [tg] e X.env=pure none:=by rfl)
  (h1:(assignEach [tg] X.env).map (·.2)=[assign tg X.env]:=by rfl):QS (md:=md) X (.Assign [tg] e pos) (BJ f a):=dy (vI he hg hs hw h1) fun Dd σ H Er=>by
 obtain⟨G,env,fp,rel,k⟩:=Er;unfold BJ at k;match q:f env,k with
 | .ok (r,Ee),k=>
  have k:OutOk X.K G H fp Dd ((a r.2 Ee).bind fun e=>.ok (.nx e)):=k;match q2:a r.2 Ee,k with
  | .ok Ep,k=>
   refine⟨G,env,fp,r,Ee,rel,q,fun v H1 G1 EB Es Eh=>?_⟩;obtain⟨G2,b,rv,Ef,El⟩:=Eh.freeze;exact⟨G2,Ee,b,r.2,Ep,Ef,rv,q2,fun σ' G' Ej st EC=>k σ' H1 G' Ej (Es.trans (El.trans st)) EC⟩
theorem DQ{l:PySem.W.OpenLaw}{q:Program}{loose:List Str}{XP:(Str->Option Value)->Heap->Prop}{YP:World->Heap->Prop}{d:DefRec}{K:Params->W.Frag}{k:Nat}{x:Str}(hn:l.most=some 63)(LL:d.params.defaults=[])(hr:Room k PySem.callerA)
  (hY:∀(w:World) (h:Heap),YP w h->(K w.params).In h)
  (F:∀(w:World) (mg:Str->Option Value) (fa:Addr) (h:Heap),(K w.params).In h->h.Ns mainGlobals mg->mg d.name=some (.ref fa)->
   ∃fd:FuncData,(∀(s:Shared) (u:Value),BindsTo s fd ⟨[u],[]⟩ [(x,u)])/\∀base:Heap,(K w.params).In base->base.Ns mainGlobals mg->FnOk l.prog w (K w.params) mg base Iw k fa fd [x] (uM (K w.params))):
  PySem.W.WalkO q loose XP YP l.row.toRowW d [] (fun f vs=>PySem.call f vs):=
 L2.wY (n:=63) (k:=k) (x:=x) (CX:=fun _=>Iw) (sp:=fun w=>uM (K w.params)) hn (by decide) LL hr hY F (fun _ _ a ns hl _ hS=>⟨a,ns,rfl,hS,hl,fun _=>rfl⟩) fun _ _ _ _ _ z=>z
theorem wc:bootBuiltins "max" = some (.builtin "max"):=by decide +kernel
theorem AB:bootBuiltins "all" = some (.builtin "all"):=by decide +kernel
theorem mH:bootBuiltins "sorted" = some (.builtin "sorted"):=by decide +kernel
theorem AD{K:W.Frag}{h:Heap}{mg:Str->Option Value}{x:Str}{st:Stmt}{f:Addr}{oc:Value}{od an:Option Addr}{IE:Array (Option Value)}{kV doc pm EF ct:Value}(X:K.In h)(G:h.Ns mainGlobals mg)
  (a:PySem.W.nsIn K mainGlobals x=some (some (.ref f))) (l:K.lookup f=some ⟨oc,od,.func (PySem.W.fnOf x x (dH st) (bU st) (defScope st) .none kV doc pm an EF ct),IE⟩)
  (c:PySem.W.codeIn K EF x=true) (k:PySem.W.keepIn K (.ref f)=true):Def K mg x st:=⟨f,_,vO l c k,RE X G a⟩
theorem Cr{K:W.Frag}{h:Heap}{mg:Str->Option Value}{x:Str}{n:Int}{t:Tok}(X:K.In h)(G:h.Ns mainGlobals mg)(a:PySem.W.nsIn K mainGlobals x=some (some (.int n t))):Gi mg x n:=⟨t,RE X G a⟩
inductive tQL(K:W.Frag)(f:FI)(σ:L2.St)(H:Hp)(R:It->Hp->Prop):Prop
 |mk:∀G env fp ds env',Rel K G H env σ fp->f env=.ok (ds,env')->(∀J H' G' Ej,Step G H fp G' H' Ej->Rel K G' H' env' σ Ej->(∀G2,Same G' G2->(∀(i:Nat) (r:PV.R) (v:V),env'[i]?=some (some r)->σ[i]?=some (some v)->Rep K G2 r.2 v)->Walk K G2 J ds)->R J H')->tQL K f σ H R
def KH(X:Cx)(tg e:Expr)(f:FI):Prop:=PI X tg e (tQL X.K f)
theorem Walk.mono{K:W.Frag}{G G2:Hp}{J:It}{ds:List D}(w:Walk K G J ds)(gg:Same G G2):Walk K G2 J ds:=fun G' H' es vs fp g rel=>w G' H' es vs fp (gg.trans g) rel
theorem we{K:W.Frag}{fi:FI}{ix:List (Option Nat)}{a:FG}{c:FT}{f:FX}{σ:L2.St}{H:Hp}{Q:VK}(h:tQ K (dw fi ix a c f) σ H Q):w5 (tQL K fi) ix (tQG K a) (tQT K c) (tQ K f) σ H Q:=by
 obtain⟨G,env,fp,r,env',rel,e,k⟩:=h;obtain⟨⟨ds,Ee⟩,e1,e⟩:=ag e;obtain⟨rs,e2,e⟩:=ag e;refine⟨G,env,fp,ds,Ee,rel,e1,fun J H1 G1 EB Es Eh wk D hD=>?_⟩;dsimp only at e e2;split at e
 ·rename_i hz;have er:r=(.l .f,.lst rs):=by cases e;rfl
  have ee:env'=if flatDs rs then Ee else Ee.map frz:=by cases e;rfl
  subst er;obtain⟨G2,L3,L4,Gp,hrE,FV⟩:=Eh.lend;have wk2:=wk G2 L3 Gp;have Ef:Rel K G2 H1 (di ix Ee) (kg ix σ) []:=⟨e7 Gp (fun i r er=>let⟨v,ev,_⟩:=Eh.view er;⟨v,ev⟩) ix,QC,(fun _ h=>nomatch h),L4⟩
  obtain⟨EG,EJ⟩:=Ef.newL (ds:=[]) (xs:=[]) hD .nil;refine⟨fun i m σ1 H2=>m=ds.length-i/\i<=ds.length/\∃G' es Ej acc dg,Step G2 H1 [] G' H2 Ej/\Rel K G' H2 (some (.l .f,.lst acc)::es) (some (.ref D)::σ1) Ej/\c8 a c f (ds.drop i) es=.ok dg/\acc++dg=rs,
   ⟨_,rfl,PD _,G2,di ix Ee,_,[],rs,EJ,EG,e2,rfl⟩,?_⟩
  rintro i m σ1 H2 ⟨rfl,hi,G3,es,Ge,acc,dg,E7,EH,e4,IU⟩;obtain⟨w1,w2⟩:=wk2 G3 H2 _ _ _ E7.gg EH i;by_cases E3:i<ds.length
  ·have hd:ds[i]?=some ds[i]:=List.getElem?_eq_getElem E3;obtain⟨go,yl⟩:=w1 _ hd;rw[RW E3]at e4;unfold c8 at e4;obtain⟨Ol,h1,e4⟩:=ag e4;obtain⟨⟨b,Mb⟩,h2,e4⟩:=ag e4;dsimp only at e4;refine .inr ⟨go,fun x H3 y=>?_⟩;obtain⟨G4,rx,E8,Gd⟩:=yl x H3 y;obtain⟨fa,fb,MT,ra,KI,bk⟩:=E8.frame;refine⟨G4,es,fb,ds[i],Ol,KI,rx,h1,fun σ2 G5 KC KJ HC=>?_⟩;refine⟨G5,Ol,KC,b,Mb,HC,h2,fun H6 G6 KL NG Jx=>?_⟩;have Mc:=KJ.trans NG;cases b with
   |false=>
    refine iteF ⟨ds.length-(i+1),by lia,rfl,E3,?_⟩;obtain⟨HD,IA⟩:=bk G6 H6 Mb σ2 KL Mc Jx;rw[<-MT]at IA;exact⟨G6,Mb,_,acc,dg,E7.trans (Gd.trans IA),HD,e4,IU⟩
   |true=>
    have e4:((f Mb).bind fun q=>(c8 a c f (ds.drop (i+1)) q.2).bind fun rs=>.ok (q.1.2::rs))=.ok dg:=e4;obtain⟨⟨r,NH⟩,h3,e4⟩:=ag e4;obtain⟨Md,h4,e4⟩:=ag e4;cases e4;refine zy ⟨G6,Mb,KL,r,NH,Jx,h3,fun v H7 G7 fp7 st8 rel8=>?_⟩;obtain⟨G8,fp8,rv,rel9,st9⟩:=rel8.freeze;obtain⟨HD,IA⟩:=bk G8 H7 NH σ2 fp8 (Mc.trans (st8.trans st9)) rel9;rw[<-MT]at IA;obtain⟨p,xs,ep,hp,L9,cg⟩:=HD.chg (i:=0) (ds:=acc) (ds':=acc++[r.2]) rfl;have ep:some (some (V.ref D))=some (some (V.ref p)):=ep;cases ep;obtain⟨fq,rely,sty⟩:=cg (xs++[v]) (L9.app (.one rv));refine⟨xs,hp,?_,ds.length-(i+1),by lia,rfl,E3,G8,NH,fq,acc++[r.2],Md,E7.trans (Gd.trans (IA.trans sty)),rely,h4,?_⟩
    ·rw[L9.length];have:=P4 List.length IU;rw[Pw,O2]at this;lia
    ·rw[<-IU,Po];rfl
  ·have ei:i=ds.length:=by lia
   subst ei;rw[List.drop_length]at e4;cases e4;rw[O8]at IU;subst IU;refine .inl ⟨w2 rfl,?_⟩;obtain⟨fa,IV,Mf⟩:=EH.only;obtain⟨k1,k2⟩:=FV H2 G3 fa _ _ (E7.trans Mf) IV;rw[ee]at k;by_cases hc:flatDs acc=true
   ·rw[OZ hc]at k;obtain⟨G5,KC,Gd,E8⟩:=k1 (by rw[aZ,k4];exact hc);exact k _ H2 G5 KC (Es.trans Gd) E8
   ·rw[O5 hc]at k;obtain⟨G5,KC,Gd,E8⟩:=k2;exact k _ H2 G5 KC (Es.trans Gd) E8
 ·cases e
section
variable{md:Mode}{X:Cx}{scope:Scope}{N:List Str}{tg iter elt:Expr}{ifs:List Expr}{pos:Pos}{fi:FI}{a:FG}{c:FT}{f:FX}
variable{l e:Expr}{g fj:FI}
theorem cJ(h:QI X tg e fi):KH X tg e fi:=jx h fun σ H R ⟨G,env,fp,ds,env',rel,e,k⟩=>⟨G,env,fp,ds,env',rel,e,fun J H' G' Ej st EC wk=>k J H' G' Ej st EC fun _ gg _=>wk.mono gg⟩
theorem iF(h:KH X tg e fi)(h2:KH X tg e fj):KH X tg e (FW fi fj):=fun pr s σ H R I Er=>by
 obtain⟨G,env,fp,ds,env',rel,ee,k⟩:=Er;rcases v9 ee with z|z
 ·exact h pr s σ H R I ⟨G,env,fp,ds,env',rel,z,k⟩
 ·exact h2 pr s σ H R I ⟨G,env,fp,ds,env',rel,z,k⟩
def j8(i:Nat):FI:=fun env=>match env[i]? with
 |some (some (_,.lst ds))=>.ok (ds,env)
 |_=>.bad
theorem lj{i:Nat}(h:PE X l (ny i)):KH X tg l (j8 i):=jx (qr h) fun σ H R Er=>by
 obtain⟨G,env,fp,ds,env',rel,e,k⟩:=Er;unfold j8 at e;split at e
 ·rename_i o ds hr;cases e;obtain⟨v,ev,rv⟩:=rel.view hr;obtain⟨p,xs,NI,sq,rs⟩:=bc rv;refine⟨v,ev,p,NI,⟨xs,sq⟩,k _ H G fp .refl rel fun G2 gg Gp=>?_⟩;obtain⟨p',FU,Mg,Fx,Gn⟩:=bc (Gp i _ v hr ev);rw[NI]at Mg;cases Mg;exact mq Fx Gn
 ·cases e
theorem de(ix:List (Option Nat))(N:List Str)(hc:X.calm=true)(hi:KH X tg iter fi)(hg:∀C s H fp pn,QG (bH X scope N C s H fp pn) tg a)(ht:∀C s H fp pn,Nz (bH X scope N C s H fp pn) ifs c)(he:∀C s H fp pn,QE (bH X scope N C s H fp pn) elt f)
  (hf:gN scope X.env=true:=by rfl) (hk:scope.kind=.function:=by rfl) (E2:∀y∈scope.names,y.2≠.cell:=by decide +kernel) (FH:∀y∈scope.names,y.2=.local->scope.names.lookup y.1=some .local:=by decide +kernel) (FF:vQ X scope N ix=true:=by rfl)
  (hs:∀x,foldedSetIterable iter X.env x=pure x:=by intro _;rfl):QE X (.ListComp elt [⟨tg,iter,ifs,0⟩] scope pos) (dw fi ix a c f):=
 aS (w9 (g:=tQG X.K a) (tc:=tQT X.K c) (te:=tQ X.K f) ix N hc hi hg ht he hf hk E2 FH FF hs) fun _ _ _=>we
theorem i9{i:Nat}{y:Str}{py Fe:Pos}(ix:List (Option Nat))(N:List Str)(hN:X.N.Nodup)(Nh:X.N[i]?=some y)(hy:Loc X.env.scope y)(hc:X.calm=true)(hi:KH X tg iter fi)(hg:∀C s H fp pn,QG (bH X scope N C s H fp pn) tg a)(ht:∀C s H fp pn,Nz (bH X scope N C s H fp pn) ifs c)
  (he:∀C s H fp pn,QE (bH X scope N C s H fp pn) elt f) (Ni:swapsWith (.ListComp elt [⟨tg,iter,ifs,0⟩] scope pos) (some (.Name y py)) Fe.line X.env=pure true:=by rfl)
  (hf:gN scope X.env=true:=by rfl) (hk:scope.kind=.function:=by rfl) (E2:∀y∈scope.names,y.2≠.cell:=by decide +kernel) (FH:∀y∈scope.names,y.2=.local->scope.names.lookup y.1=some .local:=by decide +kernel) (FF:vQ X scope N ix=true:=by rfl)
  (hs:∀x,foldedSetIterable iter X.env x=pure x:=by intro _;rfl) (Kg:X.fn y=true\/X.env.scope.names.lookup y=some .local:=by first|exact .inl rfl|exact .inr rfl):
  QS (md:=md) X (.Assign [.Name y py] (.ListComp elt [⟨tg,iter,ifs,0⟩] scope pos) Fe) (bW i (dw fi ix a c f)):=
 dy (xa (i:=i) (g:=tQG X.K a) (tc:=tQT X.K c) (te:=tQ X.K f) ix N hN Nh hy hc hi hg ht he Ni hf hk E2 FH FF hs Kg) fun D σ H ⟨G,env,fp,rel,k⟩=>we (rq rel k)
end
section
variable{X:Cx}{a:Expr}{pos:Pos}{fa:FO}
def Eb(fa:FO):FX:=fun env=>(fa env).bind fun p=>(Ff p.2 p.1).bind fun d=>match d with
 | .int i=>.ok ((.f,.int (-i)),p.2)
 |_=>.bad
theorem rQ{i:Int}(h:i.natAbs<2 ^ 1000):Builtin.Int.intBits i<=2 ^ 20:=by
 unfold Builtin.Int.intBits;split
 ·exact PD _
 ·rename_i h0;have h1:i.natAbs≠0:=by
   intro e;rw[Int.natAbs_eq_zero]at e;exact h0 (by rw[e];rfl)
  have:=(Nat.log2_lt h1).mpr h;have e:(2:Nat) ^ 20=1048576:=by decide
  lia
theorem xH:EK X (binaryOp .Mult) (rI (fun i j=>i.natAbs<2 ^ 1000/\j.natAbs<2 ^ 1000) fun i j=>.int (i*j)):=LG fun _ _ _ _ _ _ _ hc q=>mul_int q (.of_bits (rQ hc.1) (rQ hc.2))
theorem mI{α:Type}:∀(ls:List (Array α)) (acc:Array α),(ls.foldl (·++·) acc).toList=acc.toList++(ls.map Array.toList).flatten
 |[],acc=>by simp
 |a::ls,acc=>by
  rw[PR,mI ls,Array.toList_append,Pb,Qm,Po]
theorem Cs(l:List Nat)(n:Nat):(⟨(List.replicate n (S l).cps).foldl (·++·) #[]⟩:Str)=S (List.replicate n l).flatten:=by
 have h:((List.replicate n (S l).cps).foldl (·++·) #[]).toList=(List.replicate n l).flatten:=by
  rw[mI,List.map_replicate];simp only[cq,SI]
 show Str.mk _=Str.mk _;rw[<-h]
theorem xI(a b:Int):Ci (.int a) (.int b)=if c5 a||c5 b then .ok (.f,.int (a*b)) else .bad:=rfl
noncomputable def xJ:D->D->Res R
 | .int i,.int j=>if c5 i||c5 j then .ok (.f,.int (i*j)) else if i.natAbs<2 ^ 1000/\j.natAbs<2 ^ 1000 then .ok (.f,.int (i*j)) else .bad
 | .str l,.int k=>if 2<=k/\k<=1000/\1<=l.length/\l.length<=1000 then .ok (.f,.str (List.replicate k.toNat l).flatten) else .bad
 |_,_=>.bad
theorem xK:EK X (binaryOp .Mult) (rG X.K xJ):=by
 rintro pr s σ H x y v u Q I rx ry ⟨G,fp,es,vs,a,b,r,⟨rel,k⟩,va,vb,e⟩;unfold xJ at e;split at e
 ·rename_i i j;split at e
  ·rename_i hc;exact Ah pr s σ H x y v u Q I rx ry ⟨G,fp,es,vs,.int i,.int j,r,⟨rel,k⟩,va,vb,by rw[xI,OZ hc];exact e⟩
  ·split at e
   ·rename_i hc;cases e;cases bo va;cases bo vb;exact xH pr s σ H _ _ v u Q I rx ry ⟨i,j,rfl,rfl,hc,k _ H G fp .refl (rel.push (bz _))⟩
   ·cases e
 ·rename_i l j;split at e
  ·rename_i hc;cases e;obtain⟨ev,hl⟩:=dC va;subst ev;cases bo vb;obtain⟨t,rfl⟩:=rx;obtain⟨t',rfl⟩:=ry;have hlen:(S l).length=l.length:=jZ l;have hz:(List.replicate j.toNat l).flatten.length<=1000000:=by
    rw[kJ];exact Nat.mul_le_mul (by lia:j.toNat<=1000) hc.2.2.2
   have Jk:(List.replicate j.toNat l).flatten.length<=sizeLine:=PB hz (by decide);refine PySem.P.mul_str ?_ ?_ ?_ ?_
   ·rw[Pa (by lia),Pa (by lia)];rfl
   ·intro _ _;rw[hlen];have h1:1000<=(2 ^ 63-1) / j:=(Int.le_ediv_iff_mul_le (by lia)).mpr (by lia);lia
   ·intro _ _;unfold Builtin.Str.tooLong;rw[PK,hlen,TK,<-kJ];lia
   ·rw[O5 (by lia),O5 (by rw[hlen,SA,PN,PN];lia),Cs];refine⟨?_,?_⟩
    ·rw[jZ];exact Jk
    ·exact⟨.str (S (List.replicate j.toNat l).flatten),H,I.tok _,⟨_,rfl⟩,k _ H G fp .refl (rel.push (gB Jk))⟩
  ·cases e
 ·cases e
end
end PV
namespace HT
open PySem PySem.Spec PyProof.Rows L2
variable{prog:Program}{w:World}{A:Around}{E:Value->Shared->Prop}{s:Shared}
theorem gY{t sl:Addr}{items:Array Value}{vl vu:Value}{lo hi:Option Int}{Q:Value->Shared->Prop}(ht:IsTup s.heap t items)(hs:s.heap.IsSliceOf sl vl vu .none)(pl:IsPart vl lo)(pu:IsPart vu hi)
  (hw:sIx items.size 0 lo=0/\sIx items.size items.size hi=items.size) (h:Q (.ref t) s):wpAny (model prog w) A (getItem (.ref t) (.ref sl)) Q E s:=by
 obtain⟨os,Jp,MG,Ih⟩:=id hs;have Nb:s.TypeIs (.ref sl) "slice":=⟨os,Jp,MG⟩
 unfold getItem;try with_reducible refine Qv ?_
 first|refine OR (OU ?_)|skip
 refine OR (wpAny_sequenceKey ht.typeIs (by decide) ?_);refine OR (wpAny_callSpecial?_slot (name:=Str.ofString "__getitem__") ht.typeIs P9
  (PF P9 ht.typeIs entry_tuple_getitem ?_ (args_tuple_getitem _ _)))
 show wpAny _ _ (Builtin.Tuple.tupleItemsOf (.ref t) >>= _) _ _ s;refine OR (tupleItemsOf_ ht ?_);refine OR (Q9 Nb ?_);rw[OZ (by decide)];refine OR (eR hs pl pu ?_);have hyes:(((sIx items.size 0 lo:Nat):Int)==0&&(1:Int)==1&&(sIx items.size items.size hi-sIx items.size 0 lo)==items.size)=true:=by
  rw[hw.1,hw.2];simp
 show wpAny _ _ (if(((sIx items.size 0 lo:Nat):Int)==0&&(1:Int)==1&&(sIx items.size items.size hi-sIx items.size 0 lo)==items.size)=true then _ else _) _ _ s;rw[OZ hyes];refine OR (m:=Builtin.Tuple.tupleIsExact _) ?_;unfold Builtin.Tuple.tupleIsExact;refine OR (Q9 ht.typeIs (OU ?_));rw[OZ (by decide)];exact OR (Tw (OU ⟨_,rfl,OU h⟩))
end HT
namespace PV
open PySem PySem.Spec PyProof.Rows L2 NX
section
variable{X:Cx}{pos:Pos}{fa:FO}
theorem xM:Ki X (fun x lo hi H Q=>∃a xs,x=.ref a/\SqT X.K H a xs/\(HT.sIx xs.length 0 lo=0/\HT.sIx xs.length xs.length hi=xs.length)/\Q x H):=by
 intro pr s σ H x v vl vu lo hi sl Q I rx hs pl pu h;obtain⟨a,xs,rfl,hx,hw,q⟩:=h;cases rx;obtain⟨Eg,r,ht,hz⟩:=I.tuple hx;have hlen:Eg.toArray.size=xs.length:=by rw[OS];exact r.length.symm
 refine⟨"tuple",_,PyProof.Rows.slot_tuple_getitem.lookup,ht.typeIs,?_⟩;exact HT.gY ht hs pl pu (by rw[hlen];exact hw) ⟨.ref a,H,I,rfl,q⟩
def Mh(k:D)(lo hi:Option Int):Res R:=match k with
 | .tup ds=>if HT.sIx ds.length 0 lo=0/\HT.sIx ds.length ds.length hi=ds.length then .ok (.f,.tup ds) else L8 k lo hi
 |_=>L8 k lo hi
def AE(fa:FO)(lo hi:FP):FX:=fun env=>(fa env).bind fun p=>(lo p.2).bind fun q=>(hi q.2).bind fun t=>(Ff t.2 p.1).bind fun d=>(Mh d q.1 t.1).bind fun r=>.ok (r,t.2)
inductive rSlW(K:W.Frag)(x:V)(lo:Option Int)(hi:Option Int)(H:Hp)(Q:VK):Prop
 |mk:∀G fp es vs d r,Goes K H G fp es vs r Q->Vw K G H d x->Mh d lo hi=.ok r->rSlW K x lo hi H Q
theorem AF:Ki X (rSlW X.K):=by
 rintro pr s σ H x v vl vu lo hi sl Q I rx hs pl pu ⟨G,fp,es,vs,d,r,⟨rel,k⟩,vd,e⟩;unfold Mh at e;split at e
 ·rename_i ds;split at e
  ·rename_i hw;cases e;obtain⟨p,xs,ev,sq,rs⟩:=gk vd;subst ev;refine xM pr s σ H _ v vl vu lo hi sl Q I rx hs pl pu ⟨p,xs,rfl,br rel.gh sq,by rw[rs.length];exact hw,?_⟩;exact k _ H G fp .refl (rel.push vd)
  ·exact Aj pr s σ H x v vl vu lo hi sl Q I rx hs pl pu ⟨G,fp,es,vs,_,r,⟨rel,k⟩,vd,e⟩
 ·exact Aj pr s σ H x v vl vu lo hi sl Q I rx hs pl pu ⟨G,fp,es,vs,_,r,⟨rel,k⟩,vd,e⟩
theorem rR{e:Expr}{lo hi:Option Expr}{p2:Pos}{fl fh:FP}(he:QO X e fa)(hl:QP X lo fl)(hh:QP X hi fh):QE X (.Subscript e (.Slice lo hi none p2) pos) (AE fa fl fh):=
 aS (tY AF he hl hh) fun σ H Q Er=>by
  obtain⟨G,env,fp,r,env',rel,e,k⟩:=Er;obtain⟨⟨o,Ee⟩,e1,e⟩:=ag e;obtain⟨⟨i,Ep⟩,e2,e⟩:=ag e;obtain⟨⟨j,Fp⟩,e3,e⟩:=ag e;obtain⟨d,e4,e⟩:=ag e;obtain⟨r',e5,e⟩:=ag e;cases e;exact⟨G,env,fp,o,Ee,rel,e1,fun v H1 G1 EB Es Eh Fo=>⟨G1,Ee,EB,i,Ep,Eh,e2,fun H2 G2 EW El Ef=>⟨G2,Ep,EW,j,Fp,Ef,e3,fun H3 G3 Ge EJ EG=>
   ⟨G3,Ge,Fp,σ,d,r,⟨EG,fun v H' G' Ej st EC=>k v H' G' Ej (Es.trans (El.trans (EJ.trans st))) EC⟩,EG.vw ((Fo.mono El.gg).mono EJ.gg) e4,e5⟩⟩⟩⟩
end
end PV
namespace L2
open PySem PySem.Spec PyProof.Rows
section
variable{X:Cx}{tg:Expr}
def rS(i j c:Int):Prop:=(-1048576<=i/\i<=1048576)/\(-1048576<=j/\j<=1048576)/\(c = -1\/1<=c)/\c<=1048576
instance (i j c:Int):Decidable (rS i j c):=by unfold rS;infer_instance
end
end L2
namespace PV
open PySem PySem.Spec PyProof.Rows L2 NX
section
variable{X:Cx}{tg:Expr}
def Ec:List D->Res R
 |[d]=>match(nO d).bind e8 with
  |some (n::ns)=>.ok (.f,.int (B9 (n::ns)))
  |_=>.bad
 |[.int i,.int j]=>.ok (.f,.int (if j<i then j else i))
 |_=>.bad
def Ed:List D->Res R
 |[.int i]=>.ok (.f,.int (if i<0 then -i else i))
 |_=>.bad
noncomputable def Cu(fs:Fn):FI:=fun env=>(fs env).bind fun p=>(ni p.2 p.1).bind fun d=>match d with
 |[.int i,.int j,.int c]=>if rS i j c then .ok ((List.range (Builtin.Range.rangeSize i j c).toNat).map fun(k:Nat)=>D.int (i+(k:Int)*c),p.2) else .bad
 |_=>.bad
end
end PV
namespace NX
open PySem PySem.Spec PyProof.Rows L2
section
open PySem.SeqAt
open PySem.AutoSeq1 (wpAny_loadPart')
theorem jH{M:Model}{A:Around}{E:Value->Shared->Prop}{s:Shared}{β:Type}(f:Nat->β->Sem (ForInStep β))(n:Nat)(I:Nat->β->Shared->Prop)(Q:β->Shared->Prop)
  (turn:∀(i:Nat) (b:β) (s:Shared),i<n->I i b s->wpAny M A (f i b) (fun r s'=>match r with | .yield b'=>I (i+1) b' s' | .done b'=>Q b' s') E s)
  (fin:∀(b:β) (s:Shared),I n b s->Q b s) (b:β) (h:I 0 b s):wpAny M A (forIn [0:n] b f) Q E s:=by
 rw[Std.Legacy.Range.forIn_eq_forIn_range'];refine Sj f (fun dg b s=>∃i,i<=n/\dg=List.range' i (n-i)/\I i b s) Q ?_ ?_ _ b ?_
 ·rintro x dg b s ⟨i,hi,hr,h⟩;by_cases NJ:i<n
  ·have e:n-i=(n-(i+1))+1:=by lia
   rw[e,Sl]at hr;injection hr with h1 h2;subst h1;refine Ey (turn x b s NJ h) fun r s' Om=>?_
   cases r with
   |yield b'=>exact⟨x+1,by lia,h2,Om⟩
   |done b'=>exact Om
  ·have e:n-i=0:=by lia
   rw[e]at hr;cases hr
 ·rintro b s ⟨i,hi,hr,h⟩;by_cases NJ:i<n
  ·have e:n-i=(n-(i+1))+1:=by lia
   rw[e,Sl]at hr;cases hr
  ·have e:i=n:=by lia
   subst e;exact fin b s h
 ·refine⟨0,PD _,?_,h⟩;simp[Std.Legacy.Range.size]
theorem iT(l:Addr)(items:Array Value)(n:Nat)(dd:Option Addr)(sl:Array (Option Value))(ns:List Str)(c:Str)(t:Tok)(hi:Vals (ns.map V.str) items.toList)(i:Nat)(hx:ns[i]?=some c)(h0:∀j,j<i->ns[j]?≠some c):
  Meets (Builtin.«tuple.index» ⟨[.ref l,.str c t],[]⟩)
   (fun _ R s=>s.heap.get? l=some {cls:=.type "tuple",dict:=dd,data:=.seq items n,slots:=sl}/\R (.ok (.ret (.int (i:Int) s.toks))) {s with toks:=s.toks+1}):=
 .of_wp fun prog w A R s h=>by
  obtain⟨hp,g,d,tk,os⟩:=s;obtain⟨hl,h⟩:=h;have z1:items.size=ns.length:=by have:=hi.length;simp at this;lia
  have NJ:i<ns.length:=(List.getElem?_eq_some_iff.mp hx).1;have key:∀(j:Nat),j<ns.length->∃(b:Str) (u:Tok),items[j]?=some (.str b u)/\ns[j]?=some b:=by
   intro j hj;obtain⟨v,hv,hr⟩:=hi.get (i:=j) (x:=V.str ns[j]) (by simp[hj]);obtain⟨u,rfl⟩:=hr;exact⟨ns[j],u,by rw[<-Array.getElem?_toList];exact hv,by simp[hj]⟩
  wp_walk using wpAny_loadPart' hl,jH _ _ (fun j b s'=>b.1=none/\s'=⟨hp,g,d,tk,os⟩/\j<=i) _
  case turn=>
   rintro j ⟨b1,b2⟩ s' hj ⟨hb,rfl,Oo⟩;simp only at hb;subst hb;obtain⟨b,u,e1,e2⟩:=key j (by lia);have he:EqAt A.in1 ⟨hp,g,d,tk,os⟩ (.str b u) (.str c t) (b==c):=EqAt.str_str b u c t;by_cases hbc:b=c
   ·have hji2:j=i:=by
     rcases Nat.lt_or_ge j i with E3|hge
     ·exact absurd (by rw[e2,hbc]) (h0 j E3)
     ·lia
    subst hji2 hbc;rw[e1];refine OR (he prog w _ _ ?_);rw[show(b==b)=true from PY b]
    wp_walk
    exact⟨_,rfl,h⟩
   ·rw[e1];refine OR (he prog w _ _ ?_);rw[show(b==c)=false from Qo.mpr hbc]
    wp_walk
    refine⟨rfl,rfl,?_⟩;rcases Nat.lt_or_ge j i with E3|hge
    ·exact E3
    ·have:j=i:=by lia
     subst this;rw[e2]at hx;cases hx;exact absurd rfl hbc
  case fin=>
   rintro⟨b1,b2⟩ s' ⟨hb,rfl,Oo⟩;rw[Nat.min_self]at Oo;lia
  case h=>exact⟨rfl,rfl,PD _⟩
end
end NX
namespace L2
open PySem PySem.Spec PyProof.Rows
section
variable{X:Cx}{o e:Expr}{es:List Expr}{to:TE}{t:TA}{name:Str}{apos Eo:Pos}{id:String}{r:V->List V->Hp->VK->Prop}
def DR(K:W.Frag)(r:V->List V->Hp->VK->Prop)(to:TE)(t:TA):TE:=fun σ H Q=>to σ H fun x H1=>(∃p ys,x=.ref p/\SqT K H1 p ys)/\t σ H1 fun xs H2=>r x xs H2 Q
theorem AG(slot:Slot "tuple" name id)(Ij:typeOf (.builtin id)=pure (.type "method_descriptor"))(hm:Jq X id r)(ho:PE X o to)(ha:PA X (e::es) t)
  (EL:attributeBase o name X.env (eval o X.env)=eval o X.env:=by rfl)
  (F7:((backTo Eo (starEach (e::es) X.env)).all (fun x=>!x.1)&&(backToKw Eo (keywordEach [] X.env)).all (fun x=>x.1.isSome)
   && decide ((e::es).length+([]:List Keyword).length+(if([]:List Keyword).isEmpty then 0 else 1)<30))=true:=by rfl)
  (EO:(apos.endLine==Eo.line)=true:=by rfl) (hs:starEach (e::es) X.env=(false,eval e X.env)::starEach es X.env:=by rfl) (ET:(backTo Eo (starEach es X.env)).any (·.1)=false:=by rfl):
  PE X (.Call (.Attribute o name apos) (e::es) [] Eo) (DR X.K r to t):=by
 intro pr s σ H Q I h;refine wpAny_Call_method_late EL F7 EO rfl (Ey (ho pr s σ H _ I h) fun v s1 Ez=>?_);obtain⟨x,H1,I1,r1,⟨p,ys,ex,sq⟩,q1⟩:=Ez;subst ex;cases r1;obtain⟨Eg,_,⟨ob,ho,hc,⟨n,hd⟩,hn⟩,_⟩:=I1.tupleN sq;refine⟨"tuple",id,PySem.F.plainAttrs_tuple,slot,Ij,⟨ob,ho,hc⟩,fun a e2=>?_,?_⟩
 ·cases e2;exact⟨ob,ho,hn⟩
 have hA:=ha Eo pr s1 σ H1 _ I1 q1;rw[hs]at hA ⊢;refine Rm (by show(false||(backTo Eo (starEach es X.env)).any (·.1))=false;rw[ET] <;> rfl) (Rz ?_);exact Ey hA fun us s2 ⟨vs,H2,I2,r2,q2⟩=>hm pr s2 σ H2 (.ref p) vs _ us Q I2 rfl r2 q2
end
end L2
namespace PV
open PySem PySem.Spec PyProof.Rows L2 NX
section
variable{X:Cx}
noncomputable def AH(g:List D->List D->Res R)(fa:FO)(fs:Fn):FX:=fun env=>(fa env).bind fun p=>(Ff p.2 p.1).bind fun a=>match a with
 | .tup _=>(fs p.2).bind fun q=>(Ff q.2 p.1).bind fun a2=>match a2 with
  | .tup l=>(ni q.2 q.1).bind fun ds=>(g l ds).bind fun r=>.ok (r,q.2)
  |_=>.bad
 |_=>.bad
inductive rMtT(K:W.Frag)(g:List D->List D->Res R)(x:V)(xs:List V)(H:Hp)(Q:VK):Prop
 |mk:∀G fp es vs l ds r,Goes K H G fp es vs r Q->Vw K G H (.tup l) x->J9 K G H ds xs->g l ds=.ok r->rMtT K g x xs H Q
theorem rT{g:List D->List D->Res R}{id:String}{name:Str}{o e:Expr}{es:List Expr}{fa:FO}{fs:Fn}{apos Eo:Pos}(slot:Slot "tuple" name id)(Ij:typeOf (.builtin id)=pure (.type "method_descriptor"))(hm:Jq X id (rMtT X.K g))(ho:QO X o fa)(ha:Im X (e::es) fs)
  (EL:attributeBase o name X.env (eval o X.env)=eval o X.env:=by rfl)
  (F7:((backTo Eo (starEach (e::es) X.env)).all (fun x=>!x.1)&&(backToKw Eo (keywordEach [] X.env)).all (fun x=>x.1.isSome)&&decide ((e::es).length+([]:List Keyword).length+(if([]:List Keyword).isEmpty then 0 else 1)<30))=true:=by rfl)
  (EO:(apos.endLine==Eo.line)=true:=by rfl) (hs:starEach (e::es) X.env=(false,eval e X.env)::starEach es X.env:=by rfl) (ET:(backTo Eo (starEach es X.env)).any (·.1)=false:=by rfl):
  QE X (.Call (.Attribute o name apos) (e::es) [] Eo) (AH g fa fs):=by
 refine aS (AG slot Ij hm ho ha EL F7 EO hs ET) fun σ H Q Ez=>?_
 obtain⟨G,env,fp,r,env',rel,e,k⟩:=Ez;obtain⟨⟨oa,Ee⟩,e1,e⟩:=ag e;obtain⟨da,IK,e⟩:=ag e;dsimp only at e;split at e
 ·obtain⟨⟨os,Ep⟩,e2,e⟩:=ag e;obtain⟨d2,hd2,e⟩:=ag e;dsimp only at e;split at e
  ·obtain⟨ds,e3,e⟩:=ag e;obtain⟨r',e4,e⟩:=ag e;cases e;refine⟨G,env,fp,oa,Ee,rel,e1,fun v H1 G1 EB Es Eh Fo=>?_⟩;obtain⟨p,xs,ev,sq,_⟩:=aY (Vw.rep Eh.gh (Eh.vw Fo IK));exact⟨⟨p,xs,ev,sq⟩,G1,Ee,EB,os,_,Eh,e2,fun vs H2 G2 EW El Ef Hr=>⟨G2,EW,_,σ,_,ds,r,⟨Ef,fun v H' G' Ej st EC=>k v H' G' Ej (Es.trans (El.trans st)) EC⟩,Ef.vw (Fo.mono El.gg) hd2,Ef.vws Hr e3,e4⟩⟩
  ·cases e
 ·cases e
def mJ(l:List D):List D->Res R
 |[.str c]=>match eT l with
  |some bs=>if c∈bs then .ok (.f,.int (bs.idxOf c:Nat)) else .bad
  |none=>.bad
 |_=>.bad
theorem AI{a b:List Nat}(h:S a=S b):a=b:=by
 have:=P4 (fun s:Str=>s.cps.toList) h;simpa only[cq] using this
theorem pd:∀(bs:List (List Nat)) (c:List Nat) (j:Nat),bs[j]?=some c->bs.idxOf c<=j
 |[],c,j,h=>by simp at h
 |b::bs,c,0,h=>by
  simp at h;subst h;simp[List.idxOf_cons]
 |b::bs,c,j+1,h=>by
  rw[List.getElem?_cons_succ]at h;have:=pd bs c j h;rw[List.idxOf_cons];cases b==c with
  |true=>exact PD _
  |false=>exact Nat.succ_le_succ this
theorem gG:Jq X "tuple.index" (rMtT X.K mJ):=by
 rintro pr s σ H x xs v us Q I rx rv ⟨G,fp,es,vs,l,ds,r,⟨rel,k⟩,vx,vd,e⟩;unfold mJ at e;split at e
 ·rename_i c;split at e
  ·rename_i bs hb;split at e
   ·rename_i hc;cases e;obtain⟨p,ys,ev,sq,rs⟩:=aY (Vw.rep rel.gh vx);obtain⟨hy,_⟩:=gF hb rs;subst ev;cases rx;obtain⟨w',ew,vc⟩:=nq vd;obtain⟨ev,_⟩:=dC vc;subst ew;subst ev;obtain⟨u,rfl,t',rfl⟩:=gL rv;obtain⟨Eg,vl,⟨ob,h1,h2,⟨n,h3⟩,h4⟩,_⟩:=I.tupleN sq;subst hy;obtain⟨cls,dict,data,slots⟩:=ob;dsimp only at h2 h3 h4;subst h2 h3 h4;have E3:=Qs hc;refine PySem.call_meets QL ⟨_,h1,rfl⟩ PySem.F.entry_tuple_index (PySem.F.args_tuple_index_2 _ _) (iT p Eg.toArray n _ _ (bs.map S) (S c) t' (by rw[Pf];exact vl) (bs.idxOf c) ?_ ?_) ⟨h1,⟨.int (bs.idxOf c:Nat),H,I.tok _,⟨_,rfl⟩,k _ H G fp .refl (rel.push (bz _))⟩⟩
    ·rw[List.getElem?_map,List.getElem?_eq_getElem E3,List.getElem_idxOf E3];rfl
    ·intro j hj he;rw[List.getElem?_map,List.getElem?_eq_getElem (by lia)]at he;have he:=AI (Pn he);have:=pd bs c j (by rw[List.getElem?_eq_getElem (by lia),he]);lia
   ·cases e
  ·cases e
 ·cases e
def dU(a b:D):Res R:=match a,b with
 | .tup [],.tup l=>.ok (.f,.tup l)
 |a,b=>addD a b
theorem aO:EK X (binaryOp .Add) (rG X.K dU):=by
 rintro pr s σ H x y v u Q I rx ry ⟨G,fp,es,vs,a,b,r,⟨rel,k⟩,va,vb,e⟩;unfold dU at e;split at e
 ·rename_i l;cases e;obtain⟨p,xs,e1,h1,r1⟩:=gk va;obtain⟨p2,Ls,e2,h2,r2⟩:=gk vb;subst e1;subst e2;cases rx;cases ry;have hx:xs=[]:=PU (by rw[r1.length];rfl);subst hx;obtain⟨Eg,v1,⟨⟨cls,dd,data,sl⟩,ho,hc,n,hd⟩,_⟩:=I.tuple (br rel.gh h1);obtain⟨Hu,v2,⟨⟨Jo,HL,data2,HM⟩,FA,GV,n2,hd2⟩,_⟩:=I.tuple (br rel.gh h2);dsimp only at hc hd GV hd2;subst hc hd GV hd2;cases v1;exact Sy ⟨_,ho,rfl⟩ ⟨_,FA,rfl⟩ Sh S8 Rl Rg (Q8 _ _) (tuple_addW0 p p2 _ _ n n2 dd HL sl HM rfl) ⟨ho,FA,⟨.ref p2,H,I,rfl,k _ H G fp .refl (rel.push vb)⟩⟩
 ·exact Ag pr s σ H _ _ v u Q I rx ry ⟨G,fp,es,vs,a,b,r,⟨rel,k⟩,va,vb,e⟩
def qa(fs:Fn):FI:=FW (p5 true true fs) (FW (p5 true false fs) (FW (p5 false true fs) (p5 false false fs)))
theorem nS{Ip:List Expr}{kt:Nat}{pt:Pos}{e1 e2:Expr}{fs:Fn}{p pos:Pos}(hg:Gl X "zip")(hm:X.mg "zip" = none)(ha:Im X [e1,e2] fs)(he:starEach [e1,e2] X.env=(false,eval e1 X.env)::starEach [e2] X.env:=by rfl)(Fd:(backTo pos (starEach [e2] X.env)).any (·.1)=false:=by rfl):
  QI X (.Tuple Ip kt pt) (.Call (.Name "zip" p) [e1,e2] [] pos) (qa fs):=rL (o4 true true hg hm ha he Fd) (rL (o4 true false hg hm ha he Fd) (rL (o4 false true hg hm ha he Fd) (o4 false false hg hm ha he Fd)))
end
end PV
namespace NX
open PySem PySem.Spec PyProof.Rows L2
section
open PySem.AutoSeq1 (wpAny_loadPart')
theorem mK(l:Addr)(items:Array Value)(n:Nat)(dd:Option Addr)(sl:Array (Option Value))(x:Int)(u:Tok)(h1:¬ (!Builtin.List.listFitsIndex x)=true)(h2:¬ items.size*x.toNat>(2 ^ 63-1) / 8)(h3:¬ Builtin.List.listTooLong (items.size*x.toNat)=true)(h4:(List.foldl (fun x1 x2=>x1++x2) #[] (List.replicate (if items.isEmpty=true then 0 else x.toNat) items)).size<=sizeLine):
  Meets (Builtin.«list.__mul__» ⟨[.ref l,.int x u],[]⟩)
   (fun _ R s=>s.heap.get? l=some {cls:=.type "list",dict:=dd,data:=.seq items n,slots:=sl}/\R (.ok (.ret (.ref s.heap.objs.size))) {s with heap:=s.heap.push {cls:=.type "list",data:=.seq (List.foldl (fun x1 x2=>x1++x2) #[] (List.replicate (if items.isEmpty=true then 0 else x.toNat) items))}}):=
 .of_wp fun prog w A R s h=>by
  obtain⟨hp,g,d,tk,os⟩:=s;obtain⟨hl,h⟩:=h
  wp_walk using wpAny_loadPart' hl
  rw[O5 (by lia)]
  wp_walk
  exact⟨_,rfl,h⟩
theorem mL(a:Int)(t:Tok)(l:Addr)(T:String)(items:Array Value)(n:Nat)(dd:Option Addr)(sl:Array (Option Value)):
  Meets (Builtin.«int.__rmul__» ⟨[.int a t,.ref l],[]⟩)
   (fun _ R s=>s.heap.get? l=some {cls:=.type "list",dict:=dd,data:=.seq items n,slots:=sl}/\R (.ok (.ret .notImplemented)) s):=
 .of_wp fun prog w A R s h=>by
  obtain⟨hp,g,d,tk,os⟩:=s;obtain⟨hl,h⟩:=h
  wp_walk using wpAny_loadPart' hl
  exact⟨_,rfl,h⟩
end
end NX
namespace PV
open PySem PySem.Spec PyProof.Rows L2 NX
section
variable{md:Mode}{X:Cx}
inductive rRepS(K:W.Frag)(x:V)(y:V)(H:Hp)(Q:VK):Prop
 |mk:∀l k xs,x=.ref l->y=.int k->SqL K H l xs->-(2 ^ 62)<=k->k<2 ^ 62->xs.length*k.toNat<=sizeLine->(∀p,H p=none->Q (.ref p) (upd H p (.lst (List.replicate k.toNat xs).flatten)))->rRepS K x y H Q
theorem xN:EK X (binaryOp .Mult) (rRepS X.K):=by
 intro pr s σ H x y v u Q I rx ry h;obtain⟨l,k,xs,rfl,rfl,hH,h1,h2,hz,q⟩:=h;cases rx;obtain⟨t,rfl⟩:=ry;obtain⟨Eg,r,p1,_⟩:=I.list hH;have hl:=r.length;obtain⟨⟨cls,dd,data,sl⟩,ho,hc,n,hd⟩:=id p1.isList;simp only at hc hd;subst hc hd;have hlen:Eg.toArray.size*k.toNat<=sizeLine:=by rw[OS,<-hl];exact hz
 have hcap:¬ Eg.toArray.size*k.toNat>(2 ^ 63-1) / 8:=by
  have:(sizeLine:Nat)<=(2 ^ 63-1) / 8:=by decide
  lia
 have HB:¬ (!Builtin.List.listFitsIndex k)=true:=by
  rw[fitsIndex_both (by lia) (by lia)];exact O0
 have Mi:¬ Builtin.List.listTooLong (Eg.toArray.size*k.toNat)=true:=by
  rw[ua hlen];exact O0
 have Mj:List.foldl (fun x1 x2=>x1++x2) #[] (List.replicate (if Eg.toArray.isEmpty=true then 0 else k.toNat) Eg.toArray)=(List.replicate k.toNat Eg).flatten.toArray:=by
  have f0:∀m:Nat,List.foldl (fun x1 x2=>x1++x2) #[] (List.replicate m Eg.toArray)=(List.replicate m Eg).flatten.toArray:=fun m=>by
   have:=lY Eg m [];rw[SI]at this;exact this
  rw[f0];cases Eg with
  |nil=>simp
  |cons a r'=>rw[O5 (by simp)]
 have hsz:(List.foldl (fun x1 x2=>x1++x2) #[] (List.replicate (if Eg.toArray.isEmpty=true then 0 else k.toNat) Eg.toArray)).size<=sizeLine:=by
  rw[Mj,OS,kJ,TK];rw[OS]at hlen;exact hlen
 refine wpAny_binaryOp_repeat_ref (T:="list") (U:="int") (by decide) ⟨_,ho,rfl⟩ (fun s'=>SN s' k t) noFill_list_mul F.fills_int_mul F.slot_int_rmul repeat_list F.slot_int_index.lookup
  (SO F.slot_int_rmul (SN s k t) F.entry_int_rmul (F.args_int_rmul_2 _ _) (mL k t l "" Eg.toArray n dd sl)
   ⟨ho,rfl,⟨_,ho,rfl⟩,SO F.slot_list_mul ⟨_,ho,rfl⟩ F.entry_list_mul (F.args_list_mul_2 _ _) (mK l Eg.toArray n dd sl k t HB hcap Mi hsz) ⟨ho,?_⟩⟩)
 rw[Mj];exact⟨.ref _,_,I.lnew (t':=s.toks) (r.rep k.toNat) (by rw[kJ,TK];exact hz),rfl,q _ I.fresh⟩
theorem pe{K:W.Frag}{G:Hp}{ds:List D}{xs:List V}(r:Reps K G ds xs):∀n:Nat,Reps K G (List.replicate n ds).flatten (List.replicate n xs).flatten
 | 0=>.nil
 |n+1=>by
  rw[Qa,Qa,Qm,Qm];exact r.app (pe r n)
def ll(a b:D):Res R:=match a,b with
 | .lst ds,.int k=>if 0<=k/\k<1000000/\ds.length*k.toNat<=sizeLine then .ok (.l .f,.lst (List.replicate k.toNat ds).flatten) else .bad
 |a,b=>xJ a b
theorem fe:EK X (binaryOp .Mult) (rG X.K ll):=by
 rintro pr s σ H x y v u Q I rx ry ⟨G,fp,es,vs,a,b,r,⟨rel,k⟩,va,vb,e⟩;unfold ll at e;split at e
 ·rename_i ds j;split at e
  ·rename_i hj;cases e;obtain⟨p,xs,e1,h1,r1⟩:=va;subst e1;cases bo vb;refine xN pr s σ H _ _ v u Q I rx ry ⟨p,j,xs,rfl,rfl,h1,by lia,by lia,by rw[r1.length];exact hj.2.2,fun q hq=>?_⟩;obtain⟨Ef,El⟩:=rel.newL hq (pe r1 j.toNat);exact k _ _ G _ El Ef
  ·cases e
 ·exact xK pr s σ H _ _ v u Q I rx ry ⟨G,fp,es,vs,a,b,r,⟨rel,k⟩,va,vb,e⟩
def Cv(td ty tv:TE):TS:=fun Dd σ H=>tv σ H fun v H1=>td σ H1 fun x H2=>ty σ H2 fun y H3=>zw x y v H3 fun H4=>Dd.nx σ H4
theorem xO{o i value:Expr}{td ty tv:TE}{pos pos':Pos}(ho:PE X o td)(hi:PE X i ty)(hv:PE X value tv)(hs:swapsWith value (some (.Subscript o i pos')) pos.line X.env=pure false):
  PS X (.Assign [.Subscript o i pos'] value pos) (Cv td ty tv):=by
 intro pr s σ H Dd I h;refine wpAny_Assign_Subscript (Ey (hv pr s σ H _ I h) fun r s1 ⟨v,H1,I1,rv,q1⟩=>Ey (ho pr s1 σ H1 _ I1 q1) fun u s2 ⟨x,H2,I2,rx,q2⟩=>Ey (hi pr s2 σ H2 _ I2 q2) fun iv s3 ⟨y,H3,I3,ry,q3⟩=>?_) hs;exact Ey (tZ pr s3 σ H3 x y v u iv r _ I3 rx ry rv q3) fun _ s4 ⟨H4,I4,q4⟩=>⟨σ,H4,I4,q4⟩
noncomputable def uN(i:Nat)(fk fv:FX):FS:=fun env=>(fv env).bind fun p=>(fk p.2).bind fun q=>match p.2[i]?,q.2[i]? with
 |some (some _),some (some (.l .f,.lst ds))=>(match q.1.2 with
  | .int k=>(match ixN ds.length k with
   |some j=>.ok (.nx (q.2.set i (some (.l .f,.lst (ds.set j p.1.2)))))
   |none=>.bad)
  |_=>.bad)
 |_,_=>.bad
theorem xP{i:Nat}{o ix value:Expr}{fk fv:FX}{pos pos':Pos}(ho:PE X o (ny i))(hi:QE X ix fk)(hv:QE X value fv)(hs:swapsWith value (some (.Subscript o ix pos')) pos.line X.env=pure false:=by rfl):
  QS (md:=md) X (.Assign [.Subscript o ix pos'] value pos) (uN i fk fv):=dy (xO ho hi hv hs) fun Dd σ H Er=>by
 obtain⟨G,env,fp,rel,k⟩:=Er;unfold uN at k;match q1:fv env,k with
 | .ok (r1,Ee),k=>
  have k:OutOk X.K G H fp Dd ((fk Ee).bind fun q=>match Ee[i]?,q.2[i]? with
   |some (some _),some (some (.l .f,.lst ds))=>(match q.1.2 with
    | .int k=>(match ixN ds.length k with
     |some j=>.ok (.nx (q.2.set i (some (.l .f,.lst (ds.set j r1.2)))))
     |none=>.bad)
    |_=>.bad)
   |_,_=>.bad):=k
  match q2:fk Ee,k with
  | .ok (r2,Ep),k=>
   have k:OutOk X.K G H fp Dd (match Ee[i]?,Ep[i]? with
    |some (some _),some (some (.l .f,.lst ds))=>(match r2.2 with
     | .int k=>(match ixN ds.length k with
      |some j=>.ok (.nx (Ep.set i (some (.l .f,.lst (ds.set j r1.2)))))
      |none=>.bad)
     |_=>.bad)
    |_,_=>.bad):=k
   split at k
   ·rename_i rr ds h1 h2;split at k
    ·rename_i kk Hx;split at k
     ·rename_i j hj;refine⟨G,env,fp,r1,Ee,rel,q1,fun y H1 G1 EB Es Eh=>?_⟩;obtain⟨G2,b,ry,Ef,El⟩:=Eh.freeze;obtain⟨v0,Lv,_⟩:=Ef.view h1;refine⟨v0,Lv,G2,Ee,b,r2,Ep,Ef,q2,fun z H3 G3 Ge EJ EG=>?_⟩;obtain⟨G4,b4,rz,EH,E7⟩:=EG.freeze;have MS:Rep X.K G4 r1.2 y:=Rep.mono (EJ.gg.trans E7.gg) ry;obtain⟨p,xs,ep,hp,rs,cg⟩:=EH.chg (ds':=ds.set j r1.2) h2;rw[Lv]at ep;cases ep;rw[Hx]at rz;have hz:=bp rz;obtain⟨fq,E8,Gd⟩:=cg _ (rs.set j MS);exact⟨p,xs,kk,j,rfl,hz,hp,by rw[rs.length];exact hj,k _ _ G4 fq (Es.trans (El.trans (EJ.trans (E7.trans Gd)))) E8⟩
     ·exact k.elim
    ·exact k.elim
   ·exact k.elim
end
section
variable{X:Cx}
theorem Rel.own{K:W.Frag}{G H:Hp}{es:PV.Env}{vs:L2.St}{fp:List Addr}{p:Addr}{u:HO}{tk:Bool}{ks ws:List D}{xs:List V}(q:Rel K G H es vs fp)(np:p∉fp)(gp:G p=none)(h:DictO u tk ks xs)(rs:Reps K G ws xs):
  Rel K G (upd H p u) (some (.d,.dct tk ks ws)::es) (some (.ref p)::vs) (p::fp):=by
 refine⟨⟨some (.ref p),vs,rfl,.ref p,[p],fp,rfl,rfl,?_,q.rep.step (.refl _) fun z hz=>ay fun e=>np (e▸hz)⟩,Qc.mpr ⟨np,q.nd⟩,fun z hz=>?_,fun b o e=>?_⟩
 ·rw[RepO];exact⟨p,xs,u,rfl,aM,h,rfl,rs⟩
 ·rcases O6.mp hz with rfl|hz
  ·exact gp
  ·exact q.gn z hz
 ·rw[ay fun z=>by subst z;rw[gp]at e;cases e];exact q.gh b o e
theorem Rel.aside{K:W.Frag}{G H:Hp}{es:PV.Env}{vs:L2.St}{fp:List Addr}{p:Addr}{u:HO}(q:Rel K G H es vs fp)(hp:H p=none):Rel K G (upd H p u) es vs fp:=by
 have np:p∉fp:=fun z=>by
  obtain⟨u,e⟩:=q.rep.live p z;rw[hp]at e;cases e
 exact⟨q.rep.step (.refl _) fun z hz=>ay fun e=>np (e▸hz),q.nd,q.gn,fun b o e=>by rw[ay (aP (q.gh b o e) hp)];exact q.gh b o e⟩
theorem Step.aside{K:W.Frag}{G H G2 H2:Hp}{es:PV.Env}{vs:L2.St}{fp EW:List Addr}{p:Addr}{u u2:HO}(q:Rel K G H es vs fp)(hp:H p=none)(hu:isT u=false)(st:Step G (upd H p u) fp G2 H2 EW):
  Step G H fp G2 (upd H2 p u2) (p::EW)/\p∉EW/\G2 p=none/\H2 p=some u:=by
 have np:p∉fp:=fun z=>by
  obtain⟨u,e⟩:=q.rep.live p z;rw[hp]at e;cases e
 have ne:∀{b o},H b=some o->b≠p:=fun e=>aP e hp
 refine⟨⟨st.gg,fun b o e nb=>?_,fun b hb=>?_,fun b o e=>?_,fun b o e=>?_⟩,fun z=>?_,?_,st.keep p u aM np⟩
 ·rw[ay (ne e)];exact st.keep b o (by rw[ay (ne e)];exact e) nb
 ·rcases O6.mp hb with rfl|hb
  ·exact .inr hp
  ·rcases st.fpn b hb with h|h
   ·exact .inl h
   ·by_cases e:b=p
    ·subst e;exact .inr hp
    ·rw[ay e]at h;exact .inr h
 ·rcases st.gnew b o e with h|h|h|⟨h1,h2⟩
  ·exact .inl h
  ·exact .inr (.inl h)
  ·by_cases e:b=p
   ·subst e;exact .inr (.inr (.inl hp))
   ·rw[ay e]at h;exact .inr (.inr (.inl h))
  ·by_cases e:b=p
   ·subst e;exact .inr (.inr (.inl hp))
   ·rw[ay e]at h2;exact .inr (.inr (.inr ⟨h1,h2⟩))
 ·obtain⟨o',h⟩:=st.there b o (by rw[ay (ne e)];exact e);exact⟨o',by rw[ay (ne e)];exact h⟩
 ·rcases st.fpn p z with h|h
  ·exact np h
  ·rw[aM]at h;cases h
 ·cases e:G2 p with
  |none=>rfl
  |some o=>
   rcases st.gnew p o e with h|h|h|⟨h1,h2⟩
   ·have:=q.gh p o h;rw[hp]at this;cases this
   ·exact absurd h np
   ·rw[aM]at h;cases h
   ·rw[aM]at h2;cases h2;rw[hu]at h1;cases h1
def C4(fk fv:FX):FX:=fun env=>(fk env).bind fun p=>(fv p.2).bind fun q=>if dS false p.1.2 then .ok ((.d,.dct false [p.1.2] [q.1.2]),q.2) else .bad
def getD(ks vs:List D)(k:D):Option D:=((ks.zip vs).find? fun p=>Ek k p.1).map (·.2)
theorem jI{κ:Type}[DecidableEq κ]{K:W.Frag}{G:Hp}(f:κ->D)(hf:∀a b,Ek (f a) (f b)=decide (a=b)){k:κ}:∀{kvs:List (κ×V)}{vs:List D},Reps K G vs (kvs.map (·.2))->((getD (kvs.map fun kv=>f kv.1) vs (f k)).isSome=(me kvs k).isSome)/\∀d,getD (kvs.map fun kv=>f kv.1) vs (f k)=some d->∃v,me kvs k=some v/\Rep K G d v
 |[],vs,r=>⟨rfl,fun d h=>nomatch h⟩
 |kv::kvs,vs,r=>by
  cases vs with
  |nil=>have:=r.length;simp at this
  |cons d0 vs=>
   rw[Pb,Reps.cons_iff]at r;obtain⟨h1,h2⟩:=jI f hf (k:=k) r.2;unfold getD me at h1 h2 ⊢;rw[Pb,P6];have e:Ek (f k) (f kv.1)=decide (kv.1=k):=by
    rw[hf,Pk,O9,O9];exact⟨fun z=>z.symm,fun z=>z.symm⟩
   by_cases hk:kv.1=k
   ·rw[List.find?_cons_of_pos (by show Ek (f k) (f kv.1)=true;rw[e];exact Ph hk),List.find?_cons_of_pos (by exact Ph hk)];refine⟨rfl,fun d h=>?_⟩;cases h;exact⟨_,rfl,r.1⟩
   ·rw[List.find?_cons_of_neg (by show ¬ Ek (f k) (f kv.1)=true;rw[e];simpa using hk),List.find?_cons_of_neg (by simpa using hk)];exact⟨h1,h2⟩
theorem nU{K:W.Frag}{G H:Hp}(gh:Same G H){tk:Bool}{ks vs:List D}{xs:List V}{o:HO}{p:Addr}{b:D}{y:V}(rd:Rd H p o)(dd:DictO o tk ks xs)(rs:Reps K G vs xs)(hk:dS tk b=true)(ry:Rep K G b y):
  ∃ov,DGet H p y ov/\(getD ks vs b).isSome=ov.isSome/\∀d,getD ks vs b=some d->∃v,ov=some v/\Rep K G d v:=by
 unfold dS at hk;cases tk with
 |true=>
  rw[OZ rfl,P2]at hk;obtain⟨kk,hk⟩:=hk;obtain⟨pz,ez,gz,dz⟩:=bR hk ry;obtain⟨kvs,eo,ek,ex,_⟩:=dd;subst eo ex ez dz;have ek:ks=kvs.map fun kv=>kT kv.1:=ek
  obtain⟨h1,h2⟩:=jI (K:=K) (G:=G) kT wa (k:=kk) rs;rw[<-ek]at h1 h2;exact⟨me kvs kk,.inr ⟨kvs,kk,pz,rd,rfl,gh _ _ gz,rfl⟩,h1,h2⟩
 |false=>
  rw[O5 O0,P2]at hk;obtain⟨kk,hk⟩:=hk;obtain⟨ez,dz⟩:=ie hk ry;obtain⟨kvs,eo,ek,ex,_⟩:=dd;subst eo ex ez dz;obtain⟨h1,h2⟩:=jI (K:=K) (G:=G) kD rO (k:=kk) rs;rw[<-ek]at h1 h2;exact⟨me kvs kk,.inl ⟨kvs,kk,rd,rfl,rfl⟩,h1,h2⟩
def KN(a b:D):Res R:=match a with
 | .dct tk ks vs=>if dS tk b then(match getD ks vs b with
  |some d=>.ok (.f,d)
  |none=>.bad) else .bad
 |_=>.bad
theorem Cw{a b:Expr}{fa fb:FO}{pos:Pos}(hu:X.A.units+1<cLine)(ha:QO X a fa)(hb:QO X b fb)(hs:NoSl b:=by exact fun _ _=>rfl):QE X (.Subscript a b pos) (aA KN fa fb):=
 aS (xl hu ha hb hs) fun σ H Q h=>by
  obtain⟨G,env,fp,r,env',rel,e,k⟩:=h;obtain⟨⟨oa,e1⟩,ha,e⟩:=ag e;obtain⟨⟨ob,e2⟩,hb,e⟩:=ag e;obtain⟨da,IK,e⟩:=ag e;obtain⟨db,Fm,e⟩:=ag e;obtain⟨r',hr,e⟩:=ag e;cases e;refine⟨G,env,fp,oa,e1,rel,ha,fun x H1 G1 EB Es Eh Fo=>⟨G1,e1,EB,ob,e2,Eh,hb,fun y H2 G2 EW El Ef Hr=>?_⟩⟩;have va:=Ef.vw (Fo.mono El.gg) IK;have vb:=Ef.vw Hr Fm;unfold KN at hr;split at hr
  ·rename_i tk ks vs;split at hr
   ·rename_i Gb;split at hr
    ·rename_i d hd;cases hr;obtain⟨p,xs,o,ev,rd,dd,rs⟩:=va;subst ev;have vb':Rep X.K G2 db y:=by
      cases db with
      |lst l=>cases tk <;> simp[dS,eE,jC]at Gb
      |dct _ _ _=>cases tk <;> simp[dS,eE,jC]at Gb
      |_=>exact vb
     obtain⟨ov,g,_,h2⟩:=nU Ef.gh rd dd rs Gb vb';obtain⟨v,ho,rv⟩:=h2 d hd;subst ho;exact⟨p,v,rfl,g,k _ H2 G2 EW (Es.trans El) (Ef.push rv)⟩
    ·cases hr
   ·cases hr
  ·cases hr
def MU(a b:D):Res R:=match b with
 | .dct tk ks vs=>if dS tk a then .ok (.f,.bl (getD ks vs a).isSome) else .bad
 |_=>IT a b
def uO(a b:D):Res R:=match b with
 | .dct tk ks vs=>if dS tk a then .ok (.f,.bl (!(getD ks vs a).isSome)) else .bad
 |_=>yO a b
theorem AJ(hu:X.A.units+65<cLine):EK X (compareOp .In) (rGA X.K MU):=by
 rintro pr s σ H x y v u Q I rx ry ⟨G,fp,es,vs,a,b,r,⟨rel,k⟩,va,vb,e⟩;unfold MU at e;split at e
 ·rename_i tk ks ws;split at e
  ·rename_i Gb;cases e;obtain⟨p,xs,o,ev,rd,dd,rs⟩:=vb;subst ev;cases ry;obtain⟨ov,g,h1,_⟩:=nU (K:=X.K) (G:=H) (fun _ _ z=>z) rd dd rs Gb va;exact DN (by lia) I g rx fun s' I'=>⟨.bl ov.isSome,H,I',rfl,by rw[<-h1];exact k _ H G fp .refl (rel.push (bw _))⟩
  ·cases e
 ·exact Cp hu pr s σ H x y v u Q I rx ry ⟨G,fp,es,vs,a,b,r,⟨rel,k⟩,va,vb,e⟩
theorem rU(hu:X.A.units+65<cLine):EK X (compareOp .NotIn) (rGA X.K uO):=by
 rintro pr s σ H x y v u Q I rx ry ⟨G,fp,es,vs,a,b,r,⟨rel,k⟩,va,vb,e⟩;unfold uO at e;split at e
 ·rename_i tk ks ws;split at e
  ·rename_i Gb;cases e;obtain⟨p,xs,o,ev,rd,dd,rs⟩:=vb;subst ev;cases ry;obtain⟨ov,g,h1,_⟩:=nU (K:=X.K) (G:=H) (fun _ _ z=>z) rd dd rs Gb va;exact xj (by lia) I g rx fun s' I'=>⟨.bl (!ov.isSome),H,I',rfl,by rw[<-h1];exact k _ H G fp .refl (rel.push (bw _))⟩
  ·cases e
 ·exact Ao hu pr s σ H x y v u Q I rx ry ⟨G,fp,es,vs,a,b,r,⟨rel,k⟩,va,vb,e⟩
end
def isLf:O->Bool
 | .l .f=>true
 | .pin _ (.l .f)=>true
 |_=>false
section
variable{K:W.Frag}{G G' H H':Hp}{es:PV.Env}{vs:L2.St}{fp:List Addr}
end
section
variable{X:Cx}
def DS(i:Nat):FX:=fun env=>match env[i]? with
 |some (some (ow,.lst ds))=>if isLf ow then(match ds.getLast? with
  |some d=>.ok ((.f,d),env.set i (some (ow,.lst ds.dropLast)))
  |none=>.bad) else .bad
 |_=>.bad
theorem Reps.dropLast{K:W.Frag}{G:Hp}:∀{ds:List D}{xs:List V},Reps K G ds xs->Reps K G ds.dropLast xs.dropLast
 |[],xs,r=>by rw[Reps]at r;subst r;exact .nil
 |[d],xs,r=>by
  rw[Reps]at r;obtain⟨y,ys,e,r1,r2⟩:=r;rw[Reps]at r2;subst e r2;exact .nil
 |d::d2::ds,xs,r=>by
  rw[Reps]at r;obtain⟨y,ys,e,r1,r2⟩:=r;subst e;have h:=Reps.dropLast r2;cases ys with
  |nil=>have:=r2.length;simp at this
  |cons z zs=>
   rw[RG (List.cons_ne_nil _ _),RG (List.cons_ne_nil _ _)];exact .cons r1 h
def rV(i:Nat)(f:FX):FS:=fun env=>(f env).bind fun p=>match p.2[i]? with
 |some (some (.pin q c,d0))=>.ok (.rt (.t [p.1.1,.pin q c],.tup [p.1.2,d0]))
 |_=>.bad
theorem xQ{i:Nat}{e:Expr}{f:FX}{pos:Pos}(he:QE X e f):QS (md:=.mut) X (.Return (some e) pos) (rV i f):=dy (vG he) fun Dd σ H Er=>by
 obtain⟨G,env,fp,rel,k⟩:=Er;unfold rV at k;match q:f env,k with
 | .ok (r,Ee),k=>
  have k:OutOk (md:=.mut) X.K G H fp Dd (match Ee[i]? with
   |some (some (.pin q c,d0))=>.ok (.rt (.t [r.1,.pin q c],.tup [r.2,d0]))
   |_=>.bad):=k
  split at k
  ·rename_i z c d0 hz;refine⟨G,env,fp,r,Ee,rel,q,fun v H1 G1 EB Es Eh=>?_⟩;obtain⟨y,ys,ey,v',a,b,e1,e2,r1,r2⟩:=Eh.rep;cases ey;cases e1;subst e2;obtain⟨v0,a0,b0,Lv,ro,_,pm⟩:=r2.take hz;have hv0:v0=.ref z:=by
    have:=ro;rw[RepO]at this;exact this.1
   subst hv0;have sub:∀w∈a++a0,w∈a++b:=fun w hw=>by
    rcases Pj.mp hw with hw|hw
    ·exact O3 _ hw
    ·exact OV _ (pm.mem_iff.mpr (O3 _ hw))
   have nd:=Pg.mp Eh.nd;have nd2:=Pg.mp (pm.nodup_iff.mp nd.2.1);refine k v H1 G1 (a++a0) (Es.trans (Step.cut sub)) ⟨r.1,r.2,z,c,d0,rfl,⟨⟨some v,[some (.ref z)],rfl,v,a,a0,rfl,rfl,r1,some (.ref z),[],rfl,.ref z,a0,[],rfl,(O8 _).symm,ro,rfl,rfl⟩,?_,fun p hp=>Eh.gn p (sub p hp),Eh.gh⟩⟩;rw[Pg];exact⟨nd.1,nd2.1,fun p hp w hw e=>nd.2.2 p hp w (pm.mem_iff.mpr (O3 _ hw)) e⟩
  ·exact k.elim
def kx(np nn:Nat)(c:O)(g:FS)(p:Addr):List D->Res R
 |d0::ds=>if ds.length+1=np then(g (some (.pin p c,d0)::(ds.map (fun d=>some (O.f,d))++List.replicate nn none))).bind fun o=>match o with
  | .rt r=>.ok r
  |_=>.bad
  else .bad
 |[]=>.bad
inductive spM(K:W.Frag)(c:O)(F:Addr->List D->Res R)(vs:List V)(H:Hp)(Q:VK)(zz:XK):Prop
 |mk:∀G p IJ d0 ds r Kb,Same G H->vs=.ref p::IJ->RepO K G H c d0 (.ref p) Kb->Kb.Nodup->(∀z∈Kb,G z=none)->Reps K G ds IJ->F p (d0::ds)=.ok r->(∀v H' G' Ej,Step G H Kb G' H' Ej->C3 .mut K G' H' r v Ej->Q v H')->spM K c F vs H Q zz
theorem AK{P:Program}{w:World}{K:W.Frag}{mg:Str->Option Value}{base:Heap}{x:Str}{st:Stmt}{N ps:List Str}{k:Nat}{c:O}{g:FS}(Df:Def K mg x st)(sc:FnScope N ps (defScope st))
  (hb:∀(kV doc pm:Value) (an:Option Addr) (EF ct:Value) (us:List Value),us.length=ps.length->bindArgs (PySem.W.fnOf x x (dH st) (bU st) (defScope st) .none kV doc pm an EF ct) ⟨us,[]⟩=pure (ps.zip us))
  (body:∀(f:Addr) (EF:Value) (A:Around) (outer:List PySem.Env) (s:Shared) (H:Hp) (E:XK),Room k (A.deeper (envOfC x (defScope st) s.heap.objs.size f EF))->Io (md:=.mut) (qj Iw P w K mg base N x (defScope st) f EF A outer s H E).nox (bU st) g):
  Ct P w K mg base x (k+1) (spM K c (kx ps.length (N.length-ps.length) c g)):=by
 obtain⟨f,fd,F,m⟩:=Df;refine⟨f,fd,ps,F.ok sc (fun vs H Q E h=>?_) (fun EF A outer s H vs Q E hr h=>?_),m,F.kp,F.binds hb⟩
 ·obtain⟨G,p,IJ,d0,ds,r,Kb,_,ev,_,_,_,rs,e,_⟩:=h;unfold kx at e;split at e
  ·rename_i Oq ds' heq;cases heq;split at e
   ·rename_i hl;rw[ev,O2,rs.length,hl]
   ·cases e
  ·cases e
 ·obtain⟨G,p,IJ,d0,ds,r,Kb,gh,ev,r0,nd,gn,rs,e,q⟩:=h;unfold kx at e;split at e
  ·rename_i Oq ds' heq;cases heq;split at e
   ·rename_i hl;refine⟨_,body f EF A outer s H E hr,G,some (.pin p c,d0)::(ds.map (fun d=>some (O.f,d))++List.replicate (N.length-ps.length) none),Kb,⟨?_,nd,gn,gh⟩,?_⟩
    ·have:=eZ (K:=K) (G:=G) (H:=H) (N.length-ps.length) rs;unfold L2.hJ;rw[ev,O2,rs.length,hl];exact⟨some (.ref p),_,rfl,.ref p,Kb,[],rfl,(O8 _).symm,by rw[RepO];exact⟨rfl,r0⟩,this⟩
    ·obtain⟨o,eo,e⟩:=ag e;rw[eo];cases o with
     |rt r'=>
      cases e;exact fun v H' G' Ej st rel=>q v H' G' Ej st rel
     |nx env'=>cases e
     |bk env'=>cases e
     |ct env'=>cases e
   ·cases e
  ·cases e
open Classical in
def nV(F:Addr->List D->Res R)(c:O)(d0:D)(ds:List D):Res (R×D):=
 if h:∃x:R×D,∀p,F p (d0::ds)=.ok (.t [x.1.1,.pin p c],.tup [x.1.2,x.2]) then .ok (Classical.choose h) else .bad
theorem uP{F:Addr->List D->Res R}{c:O}{d0:D}{ds:List D}{r:R}{d':D}(h:∀p,F p (d0::ds)=.ok (.t [r.1,.pin p c],.tup [r.2,d'])):nV F c d0 ds=.ok (r,d'):=by
 have h':∃x:R×D,∀p,F p (d0::ds)=.ok (.t [x.1.1,.pin p c],.tup [x.1.2,x.2]):=⟨(r,d'),h⟩
 unfold nV;rw[dif_pos h'];have e:=(SJ h' 0).symm.trans (h 0);generalize Classical.choose h'=x at e;obtain⟨⟨o,d⟩,d2⟩:=x;cases e;rfl
theorem uQ{F:Addr->List D->Res R}{c:O}{d0:D}{ds:List D}{x:R×D}(h:nV F c d0 ds=.ok x)(p:Addr):F p (d0::ds)=.ok (.t [x.1.1,.pin p c],.tup [x.1.2,x.2]):=by
 unfold nV at h;split at h
 ·rename_i h';cases h;exact SJ h' p
 ·cases h
end
section
variable{X:Cx}{x:Str}{p pos:Pos}{e:Expr}{es:List Expr}{fs:Fn}
end
section
variable{K:W.Frag}{G G' H H':Hp}
end
section
variable{X:Cx}{md:Mode}
end
end PV
namespace NX
open PySem PySem.Spec PyProof.Rows L2
end NX
namespace PV
open PySem PySem.Spec PyProof.Rows L2 NX
section
variable{X:Cx}
def uR(fa fb:FX):FX:=fun env=>(fa env).bind fun p=>(fb p.2).bind fun q=>.ok ((.t [.f,q.1.1],.tup [p.1.2,q.1.2]),q.2)
theorem rW{a b:Expr}{fa fb:FX}{x1}{pos:Pos}(ha:QE X a fa)(hb:QE X b fb)(h1:starEach [a,b] X.env=(false,eval a X.env)::starEach [b] X.env:=by rfl)(h2:starEach [b] X.env=(false,eval b X.env)::starEach [] X.env:=by rfl):
  QE X (.Tuple [a,b] x1 pos) (uR fa fb):=
 aS (oF (cR ha (cR hb ji h2) h1)) fun σ H Q Er=>by
  obtain⟨G,env,fp,r,env',rel,e,k⟩:=Er;obtain⟨⟨r1,Ee⟩,e1,e⟩:=ag e;obtain⟨⟨⟨o2,d2⟩,Ep⟩,e2,e⟩:=ag e;cases e;refine⟨G,env,fp,r1,Ee,rel,e1,fun v H1 G1 EB Es Eh=>?_⟩;obtain⟨G2,b,rv,Ef,El⟩:=Eh.freeze;refine⟨G2,Ee,b,(o2,d2),Ep,Ef,e2,fun v2 H3 G3 Ge EJ EG=>⟨by rw[line_eq];exact(by decide:2<=16777216),fun p hp=>?_⟩⟩;obtain⟨EH,E7⟩:=EG.newF (u:=.tup [v,v2]) hp;refine k _ _ _ Ge (Es.trans (El.trans (EJ.trans E7))) ?_;obtain⟨y,ys,ey,v',a',b',Jy,ef,q1,q2⟩:=EH.rep;cases ey;cases Jy;subst ef;refine⟨⟨some (.ref p),σ,rfl,.ref p,a',b',rfl,rfl,?_,q2⟩,EH.nd,EH.gn,EH.gh⟩;show RepO X.K _ _ (.t [.f,o2]) (.tup [r1.2,d2]) (.ref p) a';rw[RepO];refine⟨p,[v,v2],rfl,aM,?_⟩;rw[RepT];refine⟨v,[v2],[],a',rfl,rfl,eS.mpr ⟨Rep.mono (EJ.gg.trans E7.gg) rv,rfl⟩,?_⟩;rw[RepT];refine⟨v2,[],a',[],rfl,by rw[O8],q1,?_⟩;rw[RepT];exact⟨rfl,rfl⟩
end
end PV
namespace NX
open PySem PySem.Spec PyProof.Rows L2
section
variable{prog:Program}{w:World}{A:Around}{E:Value->Shared->Prop}{s:Shared}
end
section
variable{prog:Program}{w:World}{A:Around}{E:Value->Shared->Prop}{s:Shared}
end
section
variable{X:Cx}{e:Expr}{ta:TA}{p p2 pos pos2:Pos}
end
end NX
namespace PV
open PySem PySem.Spec PyProof.Rows L2 NX
section
variable{X:Cx}{e:Expr}{fs:Fn}{p p2 pos pos2:Pos}
end
end PV
namespace NX
open PySem PySem.Spec PyProof.Rows L2
section
open PySem.AutoSeq1 (wpAny_loadPart')
end
end NX
namespace PV
open PySem PySem.Spec PyProof.Rows L2 NX
section
variable{X:Cx}
end
section
variable{md:Mode}{X:Cx}{scope:Scope}{N:List Str}{tg iter elt:Expr}{ifs:List Expr}{pos:Pos}{fi:FI}{a:FG}{c:FT}{f:FX}{j k0:Nat}
end
section
variable{X:Cx}{x:Str}{p pos:Pos}{e:Expr}{es:List Expr}{f0:FX}{fs:Fn}
end
def joinL(sep:List Nat):List (List Nat)->List Nat
 |[]=>[]
 |[x]=>x
 |x::y::r=>x++sep++joinL sep (y::r)
def rX(sep:List Nat):List D->Res R
 |[.lst ds]=>match eT ds with
  |some ys=>if(ys.map List.length).sum+ys.length*sep.length<=16777216 then .ok (.f,.str (joinL sep ys)) else .bad
  |none=>.bad
 |_=>.bad
theorem rY(sep:List Nat):∀ys:List (List Nat),Str.join (S sep) (ys.map S)=S (joinL sep ys)
 |[]=>rfl
 |[x]=>rfl
 |x::y::r=>by
  have ih:=rY sep (y::r);show S x++S sep++Str.join (S sep) ((y::r).map S)=S (x++sep++joinL sep (y::r));rw[ih];apply Str.ext';simp[Str.cps_append]
theorem AL(sep:List Nat):∀ys:List (List Nat),Txt.join (S sep) (ys.map S)=S (joinL sep ys)
 |ys=>by
  show Builtin.Str.glued (S sep) (ys.map S)=_;rw[StrLaws.glued_eq_join];exact rY sep ys
theorem mM(sep:List Nat):∀ys:List (List Nat),(joinL sep ys).length<=(ys.map List.length).sum+ys.length*sep.length
 |[]=>PD _
 |[x]=>by
  show x.length<=_;rw[Pb,Th];lia
 |x::y::r=>by
  have ih:=mM sep (y::r);show(x++sep++joinL sep (y::r)).length<=_;rw[Pw,Pw,Pb,Th,O2,Nat.add_mul];lia
theorem mO{K:W.Frag}{G:Hp}:∀{ds:List D}{ys:List (List Nat)}{xs:List V}{us:List Value},eT ds=some ys->Reps K G ds xs->Vals xs us->StrsAre us (ys.map S)
 |[],ys,xs,us,e,r,v=>by
  cases e;rw[Reps]at r;subst r;cases v;exact .nil
 | .str b::ds,ys,xs,us,e,r,v=>by
  rw[Reps]at r;obtain⟨y,zs,ex,r1,r2⟩:=r;subst ex;cases v with
  |cons h t=>
   rw[eT,Pp]at e;obtain⟨ws,hw,rfl⟩:=e;rw[Rep]at r1;obtain⟨r1,_⟩:=r1;subst r1;obtain⟨tk,rfl⟩:=h;exact .cons _ tk (mO hw r2 t)
 | .non::_,_,_,_,e,_,_ | .bl _::_,_,_,_,e,_,_ | .int _::_,_,_,_,e,_,_ | .tup _::_,_,_,_,e,_,_ | .lst _::_,_,_,_,e,_,_ | .dct _ _ _::_,_,_,_,e,_,_=>by cases e
section
variable{X:Cx}
theorem xR:Jq X "str.join" (rMtS X.K rX):=by
 rintro pr s σ H x xs v us Q I rx rv ⟨G,fp,es,vs,l,ds,r,⟨rel,k⟩,ex,hz,vd,e⟩;unfold rX at e;split at e
 ·rename_i ds;split at e
  ·rename_i ys Ng;split at e
   ·rename_i hb;cases e;subst ex;obtain⟨w',ew,p,zs,ep,sq,rs⟩:=nq vd;subst ew ep;obtain⟨t,rfl⟩:=rx;obtain⟨u,rfl,ru⟩:=gL rv;cases ru;obtain⟨Eg,r',pl,Jk⟩:=I.list sq;refine join_list pl.isList (ys:=ys.map S) (mO Ng rs r') ?_ fun t' kk=>?_
    ·rw[Pf,OT];have e1:((fun x:Str=>x.length)∘S)=List.length:=by funext z;exact jZ z
     rw[e1,jZ];exact hb
    ·rw[AL];refine⟨.str (S (joinL l ys)),H,I.tok _,⟨_,rfl⟩,k _ H G fp .refl (rel.push ?_)⟩;rw[Rep];have:=mM l ys;exact⟨rfl,by rw[line_eq];lia⟩
   ·cases e
  ·cases e
 ·cases e
end
end PV
namespace NX
open PySem PySem.Spec PyProof.Rows L2
section
variable{prog:Program}{w:World}{A:Around}{R:Result->Shared->Prop}{it:Addr}{fp wr:List Addr}{n:Nat}{Pv:Nat->Value->Prop}{Sx:Nat->Heap->Prop}{kw:List (Str×Value)}
end
section
variable{X:Cx}{e k:Expr}{te tk:TE}{p pos LI:Pos}
end
end NX
namespace PV
open PySem PySem.Spec PyProof.Rows L2 NX
section
variable{X:Cx}
end
section
variable{X:Cx}
noncomputable def Cy(g:List D->List D->Res R)(fa:FO)(fs:Fn):FX:=fun env=>(fa env).bind fun p=>(Ff p.2 p.1).bind fun a=>match a with
 | .lst _=>(fs p.2).bind fun q=>(Ff q.2 p.1).bind fun a2=>match a2 with
  | .lst l=>(ni q.2 q.1).bind fun ds=>(g l ds).bind fun r=>.ok (r,q.2)
  |_=>.bad
 |_=>.bad
inductive rMtL(K:W.Frag)(g:List D->List D->Res R)(x:V)(xs:List V)(H:Hp)(Q:VK):Prop
 |mk:∀G fp es vs l ds r,Goes K H G fp es vs r Q->Vw K G H (.lst l) x->J9 K G H ds xs->g l ds=.ok r->rMtL K g x xs H Q
theorem AM{g:List D->List D->Res R}{id:String}{name:Str}{o e:Expr}{es:List Expr}{fa:FO}{fs:Fn}{apos Eo:Pos}(slot:Slot "list" name id)(Ij:typeOf (.builtin id)=pure (.type "method_descriptor"))(hm:Jq X id (rMtL X.K g))(ho:QO X o fa)(ha:Im X (e::es) fs)
  (EL:attributeBase o name X.env (eval o X.env)=eval o X.env:=by rfl)
  (F7:((backTo Eo (starEach (e::es) X.env)).all (fun x=>!x.1)&&(backToKw Eo (keywordEach [] X.env)).all (fun x=>x.1.isSome)&&decide ((e::es).length+([]:List Keyword).length+(if([]:List Keyword).isEmpty then 0 else 1)<30))=true:=by rfl)
  (EO:(apos.endLine==Eo.line)=true:=by rfl) (hs:starEach (e::es) X.env=(false,eval e X.env)::starEach es X.env:=by rfl) (ET:(backTo Eo (starEach es X.env)).any (·.1)=false:=by rfl):
  QE X (.Call (.Attribute o name apos) (e::es) [] Eo) (Cy g fa fs):=by
 refine aS (t9 Qj slot Ij hm ho ha EL F7 EO hs ET) fun σ H Q Ez=>?_
 obtain⟨G,env,fp,r,env',rel,e,k⟩:=Ez;obtain⟨⟨oa,Ee⟩,e1,e⟩:=ag e;obtain⟨da,IK,e⟩:=ag e;dsimp only at e;split at e
 ·obtain⟨⟨os,Ep⟩,e2,e⟩:=ag e;obtain⟨d2,hd2,e⟩:=ag e;dsimp only at e;split at e
  ·obtain⟨ds,e3,e⟩:=ag e;obtain⟨r',e4,e⟩:=ag e;cases e;refine⟨G,env,fp,oa,Ee,rel,e1,fun v H1 G1 EB Es Eh Fo=>?_⟩;obtain⟨p,xs,ev,sq,_⟩:=Eh.vw Fo IK;subst ev;exact⟨.inl ⟨rfl,xs,sq⟩,G1,Ee,EB,os,_,Eh,e2,fun vs H2 G2 EW El Ef Hr=>⟨G2,EW,_,σ,_,ds,r,⟨Ef,fun v H' G' Ej st EC=>k v H' G' Ej (Es.trans (El.trans st)) EC⟩,Ef.vw (Fo.mono El.gg) hd2,Ef.vws Hr e3,e4⟩⟩
  ·cases e
 ·cases e
open PySem.SeqAt in
theorem xS{pr:List (Addr×Obj)}{σ:L2.St}{H:Hp}{s:Shared}(I:Inv X pr σ H s){a:D}{x:V}{v:Value}{A:Around}(h:plainD 40 a=true)(hu:A.units+64<cLine)(r:Rep X.K H a x)(rx:RelV x v):
  ∀(ds:List D) (xs:List V) (us:List Value),plainDs 40 ds=true->Reps X.K H ds xs->Vals xs us->∃e:Value->Bool,(∀(j:Nat) (d:D) (u:Value),ds[j]?=some d->us[j]?=some u->e u=Ek d a)/\∀u∈us,EqAt A s u v (e u):=by
 classical
 intro ds xs us hp rs vl;have key:∀(j:Nat) (d:D) (u:Value),ds[j]?=some d->us[j]?=some u->decide (∃(j:Nat) (d:D),ds[j]?=some d/\us[j]?=some u/\Ek d a=true)=Ek d a:=by
  intro j d u hd hj;obtain⟨w1,Hy,Hz⟩:=rs.get hd;obtain⟨u1,Gx,HA⟩:=vl.get Hy;rw[hj]at Gx;cases Gx;rw[Pk,O9];constructor
  ·rintro⟨j2,d2,k1,k2,k3⟩;obtain⟨w2,IP,IQ⟩:=rs.get k1;obtain⟨u2,Hh,IS⟩:=vl.get IP;rw[k2]at Hh;cases Hh;have:=HA.inj IS;subst this;rw[jA I _ _ _ 40 (plainDs_mem hp hd) Hz IQ];exact k3
  ·intro k3;exact⟨j,_,hd,hj,k3⟩
 refine⟨fun u=>decide (∃(j:Nat) (d:D),ds[j]?=some d/\us[j]?=some u/\Ek d a=true),key,fun u NC=>?_⟩;obtain⟨j,hj⟩:=Qz.mp NC;have l1:=vl.length;have l2:=rs.length;have hjl:=(List.getElem?_eq_some_iff.mp hj).1;have g1:ds[j]?=some (ds[j]'(by lia)):=List.getElem?_eq_getElem _;obtain⟨w1,Hy,Hz⟩:=rs.get g1;obtain⟨u1,Gx,HA⟩:=vl.get Hy;rw[hj]at Gx;cases Gx;have z:=xE I _ _ w1 x u v A 40 (plainDs_mem hp g1) h (by lia) Hz r HA rx;show EqAt A s u v (decide (∃(j:Nat) (d:D),ds[j]?=some d/\us[j]?=some u/\Ek d a=true));rw[key j _ u g1 hj];exact z
def nW(l:List D):List D->Res R
 |[a]=>if plainD 40 a&&plainDs 40 l&&l.any (fun d=>Ek d a) then .ok (.f,.int (l.findIdx (fun d=>Ek d a):Nat)) else .bad
 |_=>.bad
theorem nX(hu:X.A.units+65<cLine):Jq X "list.index" (rMtL X.K nW):=by
 rintro pr s σ H x xs v us Q I rx rv ⟨G,fp,es,vs,l,ds,r,⟨rel,k⟩,vx,vd,e⟩;unfold nW at e;split at e
 ·rename_i a;split at e
  ·rename_i hp;rw[O1,O1]at hp;cases e;obtain⟨p,ys,ev,sq,rs⟩:=vx;subst ev;cases rx;obtain⟨w',ew,va⟩:=nq vd;subst ew;obtain⟨u,rfl,ru⟩:=gL rv;obtain⟨Eg,vl,pl,hz⟩:=I.list sq;obtain⟨⟨cls,dd,data,sl⟩,ho,hc,n,hd⟩:=id pl.isList;simp only at hc hd;subst hc hd;obtain⟨ef,Ot,he2⟩:=xS (A:=X.A.in1) I hp.1.1 (by first|lia|(simp only[Around.in1_units];lia)) (va.rep rel.gh) ru l ys Eg hp.1.2 (Reps.mono rel.gh rs) vl;have E3:l.findIdx (fun d=>Ek d a)<l.length:=List.findIdx_lt_length.mpr (by rw[<-Qh];exact hp.2);have l1:=vl.length;have l2:=rs.length;have hlt2:l.findIdx (fun d=>Ek d a)<Eg.toArray.size:=by rw[OS];lia
   have hb:(l.findIdx (fun d=>Ek d a):Int)<2 ^ 63-1:=by
    rw[PL]at hz;lia
   refine PySem.call_meets Se ⟨_,ho,rfl⟩ PySem.F.entry_list_index (PySem.F.args_list_index_2 _ _) (PySem.SeqAt.list_indexAt p Eg.toArray n _ _ u ef (l.findIdx fun d=>Ek d a) hlt2 hb ?_ ?_) ⟨ho,fun y hy=>?_,⟨.int (l.findIdx (fun d=>Ek d a):Nat),H,I.tok _,⟨_,rfl⟩,k _ H G fp .refl (rel.push (bz _))⟩⟩
   ·rw[Ot _ _ _ (List.getElem?_eq_getElem E3) (by rw[SR];exact List.getElem?_eq_getElem _)];exact List.findIdx_getElem (w:=E3)
   ·intro m hm hlt3;rw[Ot m (l[m]'(by lia)) _ (List.getElem?_eq_getElem _) (by rw[SR];exact List.getElem?_eq_getElem _)];exact List.not_of_lt_findIdx hlt3
   ·exact he2 y (by simpa using hy)
  ·cases e
 ·cases e
end
section
variable{K:W.Frag}{G G' H H':Hp}{es:PV.Env}{vs:L2.St}{fp:List Addr}
end
section
variable{X:Cx}{x:Str}{p pos:Pos}{e:Expr}{es:List Expr}{f0:FX}{fs:Fn}
end
def SlR3(X:Cx)(r:V->Option Int->Option Int->Option Int->Hp->VK->Prop):Prop:=
 ∀(pr:List (Addr×Obj)) (s:Shared) (σ:L2.St) (H:Hp) (x:V) (v vl vu vt:Value) (lo hi st:Option Int) (sl:Addr) (Q:VK),Inv X pr σ H s->RelV x v->s.heap.IsSliceOf sl vl vu vt->IsPart vl lo->IsPart vu hi->IsPart vt st->r x lo hi st H Q->
  ∃T id,typeLookup (.type T) "__getitem__" = pure (some (.builtin id))/\s.TypeIs v T/\wpAny (model X.prog X.w) X.A (getItem v (.ref sl)) (EP X pr σ Q) X.xe s
def DT(r:V->Option Int->Option Int->Option Int->Hp->VK->Prop)(te:TE)(tl th ts:TO):TE:=fun σ H Q=>te σ H fun x H1=>tl σ H1 fun l H2=>th σ H2 fun u H3=>ts σ H3 fun t H4=>r x l u t H4 Q
theorem rZ{X:Cx}{e:Expr}{te:TE}{lo hi:Option Expr}{se:Expr}{tl th ts:TO}{pos p2:Pos}{r:V->Option Int->Option Int->Option Int->Hp->VK->Prop}(hr:SlR3 X r)(he:PE X e te)(hl:PO X lo tl)(hu:PO X hi th)(hs:PO X (some se) ts):PE X (.Subscript e (.Slice lo hi (some se) p2) pos) (DT r te tl th ts):=by
 intro pr s σ H Q I h;refine Subscript_ (Ey (he pr s σ H _ I h) fun v s1 Ez=>?_);obtain⟨x,H1,I1,r1,q1⟩:=Ez;refine wpAny_Slice (Ey (hl pr s1 σ H1 _ I1 q1) fun vl s2 ⟨l,H2,I2,pl,q2⟩=>Ey (hu pr s2 σ H2 _ I2 q2) fun vu s3 ⟨u,H3,I3,pu,q3⟩=>Ey (hs pr s3 σ H3 _ I3 q3) fun vt s4 Ez=>?_);obtain⟨t,H4,I4,pt,q4⟩:=Ez;have I5:Inv X pr σ H4 {s4 with heap:=s4.heap.push {cls:=.type "slice",data:=.fields #[vl,vu,vt]}}:=I4.kept (t':=s4.toks) fun b ob q=>Heap.get?_push_of_some _ q
 obtain⟨T,id,hT,ht,hg⟩:=hr pr {s4 with heap:=s4.heap.push {cls:=.type "slice",data:=.fields #[vl,vu,vt]}} σ H4 x v vl vu vt l u t s4.heap.objs.size Q I5 r1 (Heap.IsSliceOf.new ..) pl pu pt q4;show wpAny (model X.prog X.w) X.A (subscriptTail e (.Slice lo hi (some se) p2) v (.ref s4.heap.objs.size)) (EP X pr σ Q) X.xe {s4 with heap:=s4.heap.push {cls:=.type "slice",data:=.fields #[vl,vu,vt]}};exact tail_any (ops:=[v,.ref s4.heap.objs.size]) ht hT hg (by with_unfolding_all rfl)
def fg{α:Type}(xs:List α)(lo hi:Option Int)(c:Int):List α:=
 (sliceRange (sliceBounds lo hi (some c) xs.length).1 (sliceBounds lo hi (some c) xs.length).2.1 (sliceBounds lo hi (some c) xs.length).2.2).filterMap (fun i=>xs[i]?)
theorem mP{K:W.Frag}{G:Hp}{ds:List D}{xs:List V}(r:Reps K G ds xs):∀ix:List Nat,Reps K G (ix.filterMap fun i=>ds[i]?) (ix.filterMap fun i=>xs[i]?)
 |[]=>.nil
 |i::ix=>by
  have ih:=mP r ix;cases e:ds[i]? with
  |none=>
   have e2:xs[i]?=none:=by
    rw[List.getElem?_eq_none_iff]at e ⊢;rw[r.length];exact e
   rw[QM e,QM e2];exact ih
  |some d=>
   obtain⟨v,e2,rv⟩:=r.get e;rw[QN e,QN e2];exact .cons rv ih
theorem vals_pick{xs:List V}{us:List Value}(r:Vals xs us):∀ix:List Nat,Vals (ix.filterMap fun i=>xs[i]?) (ix.filterMap fun i=>us[i]?)
 |[]=>.nil
 |i::ix=>by
  have ih:=vals_pick r ix;cases e:xs[i]? with
  |none=>
   rw[QM e,QM (r.none_of e)];exact ih
  |some d=>
   obtain⟨v,e2,rv⟩:=r.get e;rw[QN e,QN e2];exact .cons rv ih
theorem pf(Eg:List Value)(lo hi:Option Int)(c:Int):slicePick Eg.toArray lo hi (some c)=(fg Eg lo hi c).toArray:=by
 unfold slicePick fg;simp only[OS,List.getElem?_toArray]
theorem xT(Eg:List Value)(lo hi:Option Int)(c:Int):(fg Eg lo hi c).length<=Eg.length:=by
 have:=slicePick_size_le Eg.toArray lo hi (some c);rw[pf]at this;simpa using this
def AN(k:D)(lo hi st:Option Int):Res R:=match k,st with
 | .lst ds,some c=>if c≠0 then .ok (.l .f,.lst (fg ds lo hi c)) else .bad
 |_,_=>.bad
def Cz(fa:FO)(lo hi st:FP):FX:=fun env=>(fa env).bind fun p=>(lo p.2).bind fun q=>(hi q.2).bind fun t=>(st t.2).bind fun u=>(Ff u.2 p.1).bind fun d=>(AN d q.1 t.1 u.1).bind fun r=>.ok (r,u.2)
section
variable{X:Cx}{pos:Pos}{fa:FO}
inductive rSl3(K:W.Frag)(x:V)(lo:Option Int)(hi:Option Int)(st:Option Int)(H:Hp)(Q:VK):Prop
 |mk:∀G fp es vs d r,Goes K H G fp es vs r Q->Vw K G H d x->AN d lo hi st=.ok r->rSl3 K x lo hi st H Q
theorem AO:SlR3 X (rSl3 X.K):=by
 rintro pr s σ H x v vl vu vt lo hi st sl Q I rx hs pl pu pt ⟨G,fp,es,vs,d,r,⟨rel,k⟩,vd,e⟩;unfold AN at e;split at e
 ·rename_i ds c;split at e
  ·rename_i hc;cases e;obtain⟨p,xs,ev,sq,rs⟩:=vd;subst ev;cases rx;obtain⟨Eg,r,ht,hz⟩:=I.list sq;have hlen:=r.length;refine⟨"list",_,slot_list_getitem.lookup,ht.isList.typeIs,?_⟩;refine RZ ht.isList hs pl pu pt (fun h=>hc (Pn h)) ?_ (by rw[OS];lia);rw[pf];have r2:Vals (fg xs lo hi c) (fg Eg lo hi c):=by
    unfold fg;rw[hlen];exact vals_pick r _
   have rs2:Reps X.K G (fg ds lo hi c) (fg xs lo hi c):=by
    unfold fg;rw[rs.length];exact mP rs _
   have Jk:(fg xs lo hi c).length<=sizeLine:=by
    rw[r2.length];have:=xT Eg lo hi c;lia
   have hq:=I.hok.fresh (OW s.heap.objs.size);obtain⟨Ef,El⟩:=rel.newL hq rs2;refine⟨.ref s.heap.objs.size,_,I.laid (t':=s.toks) (o:=.lst (fg xs lo hi c)) (fun b ob q=>Heap.get?_push_of_some _ q) (OW _) ?_,rfl,k _ _ G _ El Ef⟩;exact⟨Jk,_,0,r2,Heap.get?_push_size _ rfl⟩
  ·cases e
 ·cases e
theorem AQ{e:Expr}{lo hi:Option Expr}{se:Expr}{p2:Pos}{fl fh fs:FP}(he:QO X e fa)(hl:QP X lo fl)(hh:QP X hi fh)(hs:QP X (some se) fs):QE X (.Subscript e (.Slice lo hi (some se) p2) pos) (Cz fa fl fh fs):=
 aS (rZ AO he hl hh hs) fun σ H Q Er=>by
  obtain⟨G,env,fp,r,env',rel,e,k⟩:=Er;obtain⟨⟨o,Ee⟩,e1,e⟩:=ag e;obtain⟨⟨i,Ep⟩,e2,e⟩:=ag e;obtain⟨⟨j,Fp⟩,e3,e⟩:=ag e;obtain⟨⟨t,Mk⟩,e4,e⟩:=ag e;obtain⟨d,e5,e⟩:=ag e;obtain⟨r',e6,e⟩:=ag e;cases e;exact⟨G,env,fp,o,Ee,rel,e1,fun v H1 G1 EB Es Eh Fo=>⟨G1,Ee,EB,i,Ep,Eh,e2,fun H2 G2 EW El Ef=>⟨G2,Ep,EW,j,Fp,Ef,e3,fun H3 G3 Ge EJ EG=>⟨G3,Fp,Ge,t,Mk,EG,e4,fun H4 G4 L5 E7 EH=>
   ⟨G4,L5,Mk,σ,d,r,⟨EH,fun v H' G' Ej st EC=>k v H' G' Ej (Es.trans (El.trans (EJ.trans (E7.trans st)))) EC⟩,EH.vw (((Fo.mono El.gg).mono EJ.gg).mono E7.gg) e5,e6⟩⟩⟩⟩⟩
end
section
variable{X:Cx}
def xU(fa fb fc:FX):FX:=fun env=>(fa env).bind fun p=>(fb p.2).bind fun q=>(fc q.2).bind fun t=>.ok ((.t [.f,q.1.1,t.1.1],.tup [p.1.2,q.1.2,t.1.2]),t.2)
theorem xV{a b c:Expr}{fa fb fc:FX}{x1}{pos:Pos}(ha:QE X a fa)(hb:QE X b fb)(hc:QE X c fc)(h1:starEach [a,b,c] X.env=(false,eval a X.env)::starEach [b,c] X.env:=by rfl)(h2:starEach [b,c] X.env=(false,eval b X.env)::starEach [c] X.env:=by rfl)(h3:starEach [c] X.env=(false,eval c X.env)::starEach [] X.env:=by rfl):
  QE X (.Tuple [a,b,c] x1 pos) (xU fa fb fc):=
 aS (oF (cR ha (cR hb (cR hc ji h3) h2) h1)) fun σ H Q Er=>by
  obtain⟨G,env,fp,r,env',rel,e,k⟩:=Er;obtain⟨⟨r1,Ee⟩,e1,e⟩:=ag e;obtain⟨⟨⟨o2,d2⟩,Ep⟩,e2,e⟩:=ag e;obtain⟨⟨⟨o3,d3⟩,Fp⟩,e3,e⟩:=ag e;cases e;refine⟨G,env,fp,r1,Ee,rel,e1,fun v H1 G1 EB Es Eh=>?_⟩;obtain⟨G2,b,rv,Ef,El⟩:=Eh.freeze;refine⟨G2,Ee,b,(o2,d2),Ep,Ef,e2,fun v2 H3 G3 Ge EJ EG=>?_⟩;obtain⟨a3,b3,ef3,ro3,Ml,bk3⟩:=EG.frame;refine⟨G3,Ep,b3,(o3,d3),Fp,Ml,e3,fun v3 H4 G4 L5 E7 EH=>⟨by rw[line_eq];exact(by decide:3<=16777216),fun p hp=>?_⟩⟩;obtain⟨HD,IA⟩:=bk3 G4 H4 _ _ L5 E7 EH;rw[<-ef3]at IA;obtain⟨E8,Gd⟩:=HD.newF (u:=.tup [v,v2,v3]) hp;refine k _ _ _ _ (Es.trans (El.trans (EJ.trans (IA.trans Gd)))) ?_;obtain⟨y,ys,ey,v',a',b',Jy,ef,q1,q2⟩:=E8.rep;cases ey;cases Jy;obtain⟨y,ys,ey,v'',Mm,b'',Jy,ef',q3,q4⟩:=q2;cases ey;cases Jy;subst ef';refine⟨⟨some (.ref p),σ,rfl,.ref p,a'++Mm,b'',rfl,by rw[ef,Po],?_,q4⟩,E8.nd,E8.gn,E8.gh⟩;show RepO X.K _ _ (.t [.f,o2,o3]) (.tup [r1.2,d2,d3]) (.ref p) (a'++Mm);rw[RepO];refine⟨p,[v,v2,v3],rfl,aM,?_⟩;rw[RepT];refine⟨v,[v2,v3],[],a'++Mm,rfl,rfl,eS.mpr ⟨Rep.mono (EJ.gg.trans (IA.gg.trans Gd.gg)) rv,rfl⟩,?_⟩;rw[RepT];refine⟨v2,[v3],a',Mm,rfl,rfl,q1,?_⟩;rw[RepT];refine⟨v3,[],Mm,[],rfl,by rw[O8],q3,?_⟩;rw[RepT];exact⟨rfl,rfl⟩
end
section
variable{X:Cx}{scope:Scope}{N:List Str}{tg iter elt:Expr}{ifs:List Expr}{pos:Pos}{fi:FI}{a:FG}{c:FT}{f:FX}
end
end PV
namespace L2
open PySem PySem.Spec PyProof.Rows NX
section
variable{X:Cx}{tg:Expr}
end
end L2
namespace PV
open PySem PySem.Spec PyProof.Rows L2 NX
section
variable{X:Cx}{tg:Expr}
def r6(fk fv:FX):FX:=fun env=>(fk env).bind fun p=>(fv p.2).bind fun q=>if dS true p.1.2 then .ok ((.d,.dct true [p.1.2] [q.1.2]),q.2) else .bad
theorem uS{k v:Expr}{fk fv:FX}{pos:Pos}(hu:X.A.units+1<cLine)(hk:QE X k fk)(hv:QE X v fv):QE X (.Dict [some k] [v] pos) (r6 fk fv):=
 aS (qX hu hk hv) fun σ H Q hq p hp=>by
  obtain⟨G,env,fp,r,env',rel,e,kk⟩:=hq;obtain⟨⟨r1,Ee⟩,e1,e⟩:=ag e;obtain⟨⟨r2,Ep⟩,e2,e⟩:=ag e;dsimp only at e;split at e
  ·rename_i Gb;cases e;refine⟨G,env,fp,r1,Ee,rel.aside hp,e1,fun x H1 G1 EB Es Eh=>?_⟩;obtain⟨G2,b,rx,Ef,El⟩:=Eh.freeze;refine⟨G2,Ee,b,r2,_,Ef,e2,fun y H3 G3 Ge EJ EG=>?_⟩;obtain⟨G4,b4,ry,EH,E7⟩:=EG.freeze;have NK:Rep X.K G4 r1.2 x:=Rep.mono (EJ.gg.trans E7.gg) rx;unfold dS at Gb;rw[OZ rfl,P2]at Gb;obtain⟨kd,Kn⟩:=Gb;obtain⟨b',ex,gb,dx⟩:=bR Kn NK;have fk:∀k∈kd,uz k:=by
    generalize r1.2=d at Kn NK;cases d with
    |tup ds=>
     obtain⟨_,xs,_,_,rs⟩:=aY NK;exact nR Kn rs
    |_=>cases Kn
   obtain⟨st,np,gp,LU⟩:=Step.aside (u2:=.dT [(kd,y)]) rel hp rfl (Es.trans (El.trans (EJ.trans E7)));exact⟨LU,kd,b',ex,EH.gh _ _ gb,kk _ _ G4 _ st (EH.own np gp ⟨[(kd,y)],rfl,by rw[dx];rfl,rfl,fun kv Hf=>by rw[Pr.mp Hf];exact fk⟩ (.one ry))⟩
  ·cases e
end
abbrev FB:=PV.Env->Bool
def yP(g:FS)(x:FB):FB:=fun env=>match g env with
 | .ok (.nx e)=>x e
 |_=>false
def MV(c:FT)(x:FB):FB:=fun env=>match c env with
 | .ok (true,e)=>x e
 |_=>false
def r9(fs:Fn):FB:=fun env=>match fs env with
 | .ok (os,_)=>decide (os.length<=3)
 |_=>false
inductive tX(K:W.Frag)(x:FB)(Ww:Hp->Prop)(σ:L2.St)(H:Hp):Prop
 |mk:∀G env fp,Rel K G H env σ fp->x env=true->(∀H' G' Ej,Step G H fp G' H' Ej->Rel K G' H' [] [] []->Ww H')->tX K x Ww σ H
def QX(X:Cx)(st:List Stmt)(x:FB)(Ww:Hp->Prop):Prop:=PX X st (tX X.K x Ww)
section
variable{X:Cx}{st:Stmt}{KD:List Stmt}{g:FS}{x:FB}{Ww:Hp->Prop}{c:FT}{pos np Eo:Pos}{e:Expr}{es:List Expr}{fs:Fn}{C:Addr}{y:Str}
theorem sa(a:QS (md:=.plain) X.nox st g)(b:QX X KD x Ww):QX X (st::KD) (yP g x) Ww:=qY (xt (z8 a) b) fun σ H Er=>by
 obtain⟨G,env,fp,rel,e,k⟩:=Er;unfold yP at e;match q:g env,e with
 | .ok (.nx Ee),e=>
  refine⟨G,env,fp,rel,?_⟩;rw[q];exact fun σ1 H1 G1 EB Es Eh=>⟨G1,Ee,EB,Eh,e,fun H' G' Ej st r=>k H' G' Ej (Es.trans st) r⟩
theorem CA{a b:List Stmt}{ct:Expr}(hc:QT X.nox ct c)(ha:QX X a x Ww):QX X (.If ct a b pos::KD) (MV c x) Ww:=qY (Ce (PT.nox hc) ha) fun σ H Er=>by
 obtain⟨G,env,fp,rel,e,k⟩:=Er;unfold MV at e;match q:c env,e with
 | .ok (true,Ee),e=>exact⟨G,env,fp,true,Ee,rel,q,fun H1 G1 EB Es Eh=>⟨rfl,G1,Ee,EB,Eh,e,fun H' G' Ej st r=>k H' G' Ej (Es.trans st) r⟩⟩
theorem pg{K:W.Frag}{G:Hp}{σ:L2.St}:∀{os:List Opd}{vs:List V},mh K G σ os vs->vs.length=os.length
 |[],_,r=>by have r:_=[]:=r;rw[r];rfl
 |_::_,_,⟨y,ys,e,_,q⟩=>by rw[e,O2,O2,pg q]
theorem uT(O:Kw X.mg X.base y C)(acc:Acc X C Ww)(hc:X.calm=true)(hg:Gl X y)(ha:Im X.nox (e::es) fs)(Fm:(y==("__debug__" : Str))=false:=by decide)
  (he:starEach (e::es) X.env=(false,eval e X.env)::starEach es X.env:=by rfl) (Fd:(backTo Eo (starEach es X.env)).any (·.1)=false:=by rfl):
  QX X (.Raise (some (.Call (.Name y np) (e::es) [] Eo)) none pos::KD) (r9 fs) Ww:=qY (ux O acc hc hg (z9 ha) Fm he Fd) fun σ H Er=>by
 obtain⟨G,env,fp,rel,e,k⟩:=Er;unfold r9 at e;match q:fs env,e with
 | .ok (os,Ee),e=>
  refine⟨G,env,fp,os,Ee,rel,q,fun vs H1 G1 EB Es Eh Fo=>⟨?_,k H1 G1 EB Es Eh.nilF⟩⟩;rw[pg Fo];have e:decide (os.length<=3)=true:=e;have:=Qn e;rw[line_eq];lia
end
inductive spX(K:W.Frag)(C:Addr)(F:List D->Bool)(vs:List V)(H:Hp)(Q:VK)(E:XK):Prop
 |mk:∀G ds,Same G H->Reps K G ds vs->F ds=true->(∀H' G' Ej,Step G H [] G' H' Ej->Rel K G' H' [] [] []->E (.ref C) none H')->spX K C F vs H Q E
def sd(np nn:Nat)(x:FB):List D->Bool:=fun ds=>decide (ds.length=np)&&x (ds.map (fun d=>some (O.f,d))++List.replicate nn none)
theorem AR{P:Program}{w:World}{K:W.Frag}{mg:Str->Option Value}{base:Heap}{x:Str}{st:Stmt}{N ps:List Str}{k:Nat}{gx:FB}{C:Addr}(Df:Def K mg x st)(sc:FnScope N ps (defScope st))
  (hb:∀(kV doc pm:Value) (an:Option Addr) (EF ct:Value) (us:List Value),us.length=ps.length->bindArgs (PySem.W.fnOf x x (dH st) (bU st) (defScope st) .none kV doc pm an EF ct) ⟨us,[]⟩=pure (ps.zip us))
  (body:∀(f:Addr) (EF:Value) (A:Around) (outer:List PySem.Env) (s:Shared) (H:Hp) (E:XK),Room k (A.deeper (envOfC x (defScope st) s.heap.objs.size f EF))->QX (qj (Lr P w base C) P w K mg base N x (defScope st) f EF A outer s H E) (bU st) gx (fun H'=>E (.ref C) none H')):
  CtX P w K mg base x (k+1) C (spX K C (sd ps.length (N.length-ps.length) gx)):=by
 obtain⟨f,fd,F,m⟩:=Df;refine⟨f,fd,ps,xu F sc (fun vs H Q E h=>?_) (fun EF A outer s H vs Q E hr h=>?_),m,F.kp,F.binds hb⟩
 ·obtain⟨G,ds,_,rs,e,_⟩:=h;unfold sd at e;have:=Qn ((O1 _ _).mp e).1;rw[rs.length,this]
 ·obtain⟨G,ds,gh,rs,e,q⟩:=h;unfold sd at e;have hl:=Qn ((O1 _ _).mp e).1;have e:=((O1 _ _).mp e).2;refine⟨_,body f EF A outer s H E hr,G,ds.map (fun d=>some (O.f,d))++List.replicate (N.length-ps.length) none,[],⟨?_,QC,(fun _ h=>nomatch h),gh⟩,e,q⟩;have:=eZ (K:=K) (G:=G) (H:=H) (N.length-ps.length) rs;unfold L2.hJ;rw[rs.length,hl];exact this
abbrev Jz:=PV.Env->Option PV.Env
inductive tQX(K:W.Frag)(x:Jz)(σ:L2.St)(H:Hp)(Ww:Hp->Prop):Prop
 |mk:∀G env fp env',Rel K G H env σ fp->x env=some env'->(∀H' G' Ej,Step G H fp G' H' Ej->Rel K G' H' env' σ Ej->Ww H')->tQX K x σ H Ww
def yQ(F:List D->Bool)(fs:Fn):Jz:=fun env=>match fs env with
 | .ok (os,e)=>match jv e os with
  | .ok ds=>if F ds then some e else none
  |_=>none
 |_=>none
def Ou(X:Cx)(e:Expr)(C:Addr)(x:Jz):Prop:=Nw X e C (tQX X.K x)
def Ov(X:Cx)(st:List Stmt)(C:Addr)(x:Jz):Prop:=Nx X st C (tQX X.K x)
def xW(x:Jz)(g h:FS):FS:=fun env=>match x env with
 |some e=>h e
 |none=>g env
section
variable{md:Mode}{X:Cx}{x:Str}{p pos:Pos}{e a b:Expr}{es:List Expr}{C:Addr}{F:List D->Bool}{fs:Fn}{k:Nat}{xe:Jz}{dg:List Stmt}
theorem xX(c:CtX X.prog X.w X.K X.mg X.base x k C (spX X.K C F))(hr:Room k X.A)(hg:Gl X x)(ha:Im X.nox (e::es) fs)(Fm:(x==("__debug__" : Str))=false:=by decide)
  (he:starEach (e::es) X.env=(false,eval e X.env)::starEach es X.env:=by rfl) (Fd:(backTo pos (starEach es X.env)).any (·.1)=false:=by rfl):Ou X (.Call (.Name x p) (e::es) [] pos) C (yQ F fs):=
 fun pr s σ H Ww I ⟨G,env,fp,env',rel,e,kk⟩=>uy c hr hg ha Fm he Fd pr s σ H Ww I (by
  unfold yQ at e;match q:fs env,e with
  | .ok (os,e1),e=>
   dsimp only at e;match q2:jv e1 os,e with
   | .ok ds,e=>
    dsimp only at e;split at e
    ·rename_i hF;cases e;refine⟨G,env,fp,os,_,rel,q,fun vs H1 G1 EB Es Eh Fo=>?_⟩;obtain⟨G2,L3,L4,Gp,_,FV⟩:=Eh.lend;refine⟨G2,ds,L4,jw L3 Gp Fo q2,hF,fun H' G' Ej st EC=>?_⟩;obtain⟨k1,_⟩:=FV H' G' [] (.f,.non) .non (st.trans (Step.cut fun _ h=>nomatch h)) (EC.push gA);obtain⟨G3,Ge,EJ,EG⟩:=k1 rfl;obtain⟨fq,EH,E7⟩:=EG.drop;exact kk H' G3 fq (Es.trans (EJ.trans E7)) EH
    ·cases e)
theorem xY{y:Str}{pos':Pos}(h:Ou X e C xe)(hs:swapsWith e (some (.Name y pos')) pos.line X.env=pure false:=by rfl):Ov X (.Assign [.Name y pos'] e pos::dg) C xe:=xv h hs
theorem AS{body Hg:List Stmt}{b0:Stmt}{np Kx:Pos}{g h:FS}(O:Kw X.mg X.base x C)(hg:Gl X x)(hn:Io (md:=md) X.nox body g)(hx:Ov X body C xe)(hh:∀a,Io (md:=md) (handX X a) (b0::Hg) h)
  (hs:X.stack=X.env::X.outer:=by rfl) (hf:X.env.frame=some X.env.locals:=by rfl) (Fm:(x==("__debug__" : Str))=false:=by decide):
  QS (md:=md) X (.Try body [.ExceptHandler (some (.Name x np)) none (b0::Hg) Kx] [] [] pos) (xW xe g h):=dy (Aa (t:=tQS (md:=md) X.K g) (th:=tQS (md:=md) X.K h) (tx:=tQX X.K xe) O hg hn hx (fun a=>hh a) hs hf Fm) fun D σ H Er=>by
 obtain⟨G,env,fp,rel,kk⟩:=Er;unfold xW at kk;cases q:xe env with
 |none=>
  rw[q]at kk;exact .inl ⟨G,env,fp,rel,kk⟩
 |some e=>
  rw[q]at kk;exact .inr ⟨G,env,fp,e,rel,q,fun H' G' Ej st EC=>⟨G',e,Ej,EC,OutOk.after st kk⟩⟩
end
section
variable{X:Cx}{x:Str}{p pos:Pos}{e:Expr}{es:List Expr}{fs:Fn}
end
theorem Rel.frameT{K:W.Frag}{G H G' H':Hp}{es:PV.Env}{vs:L2.St}{r:R}{v:V}{a b a':List Addr}(q:Rel K G H es vs b)(dj:∀p∈a,p∉b)(st:Step G H a G' H' a')(k:Rel K G' H' [some r] [some v] a'):Rel K G' H' (some r::es) (some v::vs) (a'++b)/\Step G H (a++b) G' H' (a'++b):=by
 have nb:∀p∈b,p∉a:=fun p hp ha=>dj p ha hp
 have same:∀p∈b,H' p=H p:=fun p hp=>by
  obtain⟨u,hu⟩:=q.rep.live p hp;rw[hu];exact st.keep p u hu (nb p hp)
 obtain⟨y,ys,e,v',c,d,e1,e2,r1,r2⟩:=k.rep;cases e;cases e1;obtain⟨_,hd⟩:=r2;subst hd;rw[O8]at e2;subst e2;refine⟨⟨⟨some v,vs,rfl,v,a',b,rfl,rfl,r1,q.rep.step st.gg same⟩,?_,fun p hp=>?_,k.gh⟩,st.wide (fun p hp=>O3 _ hp) fun p hp=>?_⟩
 ·rw[Pg];refine⟨k.nd,q.nd,fun p hp z hz e=>?_⟩;subst e;obtain⟨u,hu⟩:=q.rep.live p hz;rcases st.fpn p hp with w|w
  ·exact nb p hz w
  ·rw[w]at hu;cases hu
 ·rcases Pj.mp hp with hp|hp
  ·exact k.gn p hp
  ·cases e:G' p with
   |none=>rfl
   |some u=>
    exfalso;obtain⟨u',hu⟩:=q.rep.live p hp;rcases st.gnew p u e with z|z|z|⟨t,z⟩
    ·rw[q.gn p hp]at z;cases z
    ·exact nb p hp z
    ·rw[z]at hu;cases hu
    ·obtain⟨u2,h2,hm⟩:=q.rep.mut p hp;rw[z]at h2;cases h2;cases u with
     |tup _=>cases hm
     |frz _ _=>cases hm
     |_=>cases t
 ·rcases Pj.mp hp with hp|hp
  ·exact .inl hp
  ·exact .inr (OV _ hp)
section
variable{X:Cx}{x:Str}{p pos:Pos}{e:Expr}{es:List Expr}{f0:FX}{fs:Fn}
end
end PV
namespace NX
open PySem PySem.Spec PyProof.Rows L2
end NX
namespace PV
open PySem PySem.Spec PyProof.Rows L2 NX
section
variable{K:W.Frag}{G H:Hp}{es:PV.Env}{vs:L2.St}{fp:List Addr}
end
section
variable{md:Mode}{X:Cx}
end
section
variable{X:Cx}
end
end PV
namespace NX
open PySem PySem.Spec PyProof.Rows L2
section
variable{X:Cx}
end
end NX
namespace PV
open PySem PySem.Spec PyProof.Rows L2 NX
section
variable{X:Cx}
end
inductive BExp where
 |con (b:Bool)|var (j:Nat)|not (x:BExp)|and (x y:BExp)
section
variable{X:Cx}{a:Addr}{o:Obj}{i:Nat}{e b:Expr}{dg:List Expr}{x y:BExp}{pos p q:Pos}{n:Str}
variable{C:Addr}{vs:Array Value}
end
section
variable{md:Mode}{X:Cx}{x:Str}{pos:Pos}{C:Addr}{xe:Jz}
end
end PV
namespace PV
open PySem PySem.Spec L2 NX
section
variable{X:Cx}
end
end PV
namespace PV
open PySem PySem.Spec PyProof.Rows L2 NX
section
variable{K:W.Frag}{G H:Hp}
theorem AllO.length{P:D->V->List Addr->Prop}:∀{ds:List D}{xs:List V}{fp:List Addr},AllO P ds xs fp->xs.length=ds.length
 |[],xs,fp,r=>by
  rw[r.1];rfl
 |d'::ds,xs,fp,r=>by
  obtain⟨y,ys,a1,b1,e1,e2,p,r⟩:=r;subst e1;rw[O2,O2,r.length]
theorem xZ{p:Addr}{u:HO}(gh:Same G H)(gp:G p=none):Same G (upd H p u):=fun z o ez=>by
 have:z≠p:=fun w=>by
  subst w;rw[gp]at ez;cases ez
 rw[ay this];exact gh z o ez
theorem uU{p:Addr}{u:HO}{fp:List Addr}(hp:p∈fp):Step G H fp G (upd H p u) fp:=by
 refine⟨.refl _,fun z o ez nz=>?_,fun z hz=>.inl hz,fun z o ez=>.inl ez,fun z o ez=>?_⟩
 ·have:z≠p:=fun w=>nz (w▸hp)
  rw[ay this];exact ez
 ·by_cases w:z=p
  ·subst w;exact⟨_,aM⟩
  ·exact⟨o,by rw[ay w];exact ez⟩
end
section
variable{md:Mode}{X:Cx}{scope:Scope}{N:List Str}{tg iter elt:Expr}{ifs:List Expr}{pos:Pos}{fi:FI}{a:FG}{c:FT}{f:FX}
end
section
variable{X:Cx}{x:Str}{p pos LH:Pos}{e1 e2 e3:Expr}{fo:FO}{fb:FX}
end
section
variable{X:Cx}{x:Str}{p pos p1 p2 q1 q2:Pos}{o o':Expr}{j1 j2:_}
end
section
variable{K:W.Frag}{G H:Hp}
end
section
variable{X:Cx}{a b:Expr}{fa fb:FX}{pos:Pos}
end
abbrev tL:O:=.t [.f,.l .f]
section
variable{K:W.Frag}{G H:Hp}
theorem ij{a:D}{l:List D}{v:V}{fp:List Addr}:RepO K G H tL (.tup [a,.lst l]) v fp<->∃t y q zs,v=.ref t/\G t=some (.tup [y,.ref q])/\Rep K G a y/\H q=some (.lst zs)/\fp=[q]/\Reps K G l zs:=by
 unfold tL;rw[RepO];constructor
 ·rintro⟨t,xs,et,gt,rt⟩;rw[RepT]at rt;obtain⟨y1,t1,a1,b1,NL,NM,q1,rt⟩:=rt;rw[RepT]at rt;obtain⟨y2,t2,a2,b2,NO,NP,q2,rt⟩:=rt;rw[RepT]at rt;obtain⟨NQ,eb⟩:=rt;obtain⟨rep1,ea⟩:=eS.mp q1;obtain⟨q,zs,el,hl,eal,rz⟩:=eh.mp q2;subst ea NQ eb NO NL el eal NP NM;exact⟨t,y1,q,zs,et,gt,rep1,hl,rfl,rz⟩
 ·rintro⟨t,y,q,zs,et,gt,ra,hq,ef,rz⟩;refine⟨t,[y,.ref q],et,gt,?_⟩;subst ef;rw[RepT];refine⟨y,[.ref q],[],[q],rfl,rfl,eS.mpr ⟨ra,rfl⟩,?_⟩;rw[RepT];refine⟨.ref q,[],[q],[],rfl,rfl,eh.mpr ⟨q,zs,rfl,hq,rfl,rz⟩,?_⟩;rw[RepT];exact⟨rfl,rfl⟩
end
section
variable{X:Cx}
end
abbrev tM:O:=.t [.t [.f,.l .f],.l .f]
theorem uV{md:Mode}{K:W.Frag}{G H:Hp}{fp:List Addr}{Dd:Ends}{α:Type}{x:Res α}{g:α->Res Out}(k:OutOk (md:=md) K G H fp Dd (x.bind g)):∃a,x=.ok a/\OutOk (md:=md) K G H fp Dd (g a):=by
 cases x with
 |ok a=>exact⟨a,rfl,k⟩
 |exc c=>exact k.elim
 |bad=>exact k.elim
section
variable{X:Cx}
def mQ(f:FX):FX:=fun env=>(f (env.map frz)).bind fun p=>.ok (p.1,if aZ p.1.1 p.1.2 then env else env.map frz)
def uW(f:FT):FT:=fun env=>(f (env.map frz)).bind fun p=>.ok (p.1,env)
theorem lp{e:Expr}{f:FX}(h:QE X e f):QE X e (mQ f):=aS h fun σ H Q Er=>by
 obtain⟨G,env,fp,r,env',rel,e,k⟩:=Er;obtain⟨⟨r1,Ee⟩,e1,e⟩:=ag e;obtain⟨G1,g1,NR,Gp,hE,FV⟩:=rel.lend;refine⟨G1,env.map frz,[],r1,Ee,⟨hE,QC,(fun _ h=>nomatch h),NR⟩,e1,fun v H' G' Ej st EC=>?_⟩;obtain⟨a,IV,Mf⟩:=EC.only;obtain⟨k1,k2⟩:=FV H' G' a r1 v (st.trans Mf) IV;have e:Res.ok (r1,if aZ r1.1 r1.2 then env else env.map frz)=.ok (r,env'):=e;by_cases hc:aZ r1.1 r1.2=true
 ·rw[OZ hc]at e;cases e;obtain⟨G6,KL,KJ,HC⟩:=k1 hc;exact k v H' G6 KL KJ HC
 ·rw[O5 hc]at e;cases e;obtain⟨G6,KL,KJ,HC⟩:=k2;exact k v H' G6 KL KJ HC
theorem sf{e:Expr}{f:FT}(h:QT X e f):QT X e (uW f):=km h fun σ H Q Er=>by
 obtain⟨G,env,fp,b,env',rel,e,k⟩:=Er;obtain⟨⟨b1,Ee⟩,e1,e⟩:=ag e;cases e;obtain⟨G1,g1,NR,Gp,hE,FV⟩:=rel.lend;refine⟨G1,env.map frz,[],b1,Ee,⟨hE,QC,(fun _ h=>nomatch h),NR⟩,e1,fun H' G' Ej st EC=>?_⟩;have rl:Rel X.K G' H' [some (.f,.bl b1)] [some (.bl b1)] []:=(EC.nilF).push (by rw[Rep]);obtain⟨k1,_⟩:=FV H' G' [] (.f,.bl b1) (.bl b1) (st.trans (Step.cut fun _ h=>nomatch h)) rl;obtain⟨G6,KL,KJ,HC⟩:=k1 rfl;obtain⟨bb,Jx,NG⟩:=HC.drop;exact k H' G6 bb (KJ.trans NG) Jx
end
section
variable{K:W.Frag}{G H:Hp}
theorem nZ{o1 o2:O}{d1 d2:D}{v:V}{c:List Addr}:RepO K G H (.t [o1,o2]) (.tup [d1,d2]) v c<->∃t y1 y2 a1 a2,v=.ref t/\G t=some (.tup [y1,y2])/\RepO K G H o1 d1 y1 a1/\RepO K G H o2 d2 y2 a2/\c=a1++a2:=by
 rw[RepO];constructor
 ·rintro⟨t,xs,et,gt,rt⟩;rw[RepT]at rt;obtain⟨y1,t1,a1,b1,NL,NM,q1,rt⟩:=rt;rw[RepT]at rt;obtain⟨y2,t2,a2,b2,NO,NP,q2,rt⟩:=rt;rw[RepT]at rt;obtain⟨NQ,eb⟩:=rt;subst NQ eb NO NL NP NM;exact⟨t,y1,y2,a1,a2,et,gt,q1,q2,by rw[O8]⟩
 ·rintro⟨t,y1,y2,a1,a2,et,gt,q1,q2,ec⟩;refine⟨t,[y1,y2],et,gt,?_⟩;subst ec;rw[RepT];refine⟨y1,[y2],a1,a2,rfl,rfl,q1,?_⟩;rw[RepT];refine⟨y2,[],a2,[],rfl,by rw[O8],q2,?_⟩;rw[RepT];exact⟨rfl,rfl⟩
theorem Rel.pair{o1 o2:O}{d1 d2:D}{v1 v2:V}{es:PV.Env}{vs:L2.St}{t:Addr}{fp:List Addr}(q:Rel K G H (some (o1,d1)::some (o2,d2)::es) (some v1::some v2::vs) fp)(ht:H t=none):
  Rel K (upd G t (.tup [v1,v2])) (upd H t (.tup [v1,v2])) (some (.t [o1,o2],.tup [d1,d2])::es) (some (.ref t)::vs) fp/\Step G H fp (upd G t (.tup [v1,v2])) (upd H t (.tup [v1,v2])) fp:=by
 obtain⟨EH,E7⟩:=q.newF (u:=.tup [v1,v2]) ht;refine⟨?_,E7⟩;obtain⟨y,ys,ey,v',a,b,Jy,ef,q1,q2⟩:=EH.rep;cases ey;cases Jy;obtain⟨y,ys,ey,v',a2,b2,Jy,Lw,q3,q4⟩:=q2;cases ey;cases Jy;subst Lw;refine⟨⟨some (.ref t),vs,rfl,.ref t,a++a2,b2,rfl,by rw[ef,Po],?_,q4⟩,EH.nd,EH.gn,EH.gh⟩;exact nZ.mpr ⟨t,v1,v2,a,a2,rfl,aM,q1,q3,rfl⟩
theorem Rel.chgV{i:Nat}{o:O}{d:D}{env:PV.Env}{vs:L2.St}{fp:List Addr}(q:Rel K G H env vs fp)(e:env[i]?=some (some (o,d))):
  ∃v a,vs[i]?=some (some v)/\RepO K G H o d v a/\a.Nodup/\∀u x o' d',u∈a->RepO K G (upd H u x) o' d' v a->∃fq,Rel K G (upd H u x) (env.set i (some (o',d'))) vs fq/\Step G H fp G (upd H u x) fq:=by
 obtain⟨v,fq,ev,g,st,GL⟩:=q.out e;obtain⟨y,ys,e0,v',c,b,e1,e2,r1,r2⟩:=g.rep;cases e0;cases e1;subst e2;obtain⟨n1,n2,n3⟩:=Pg.mp g.nd;refine⟨v,c,ev,r1,n1,fun u x o' d' hu r'=>?_⟩;have g2:Rel K G (upd H u x) (some (o',d')::env.set i none) (some v::vs) (c++b):=by
  refine⟨⟨some v,vs,rfl,v,c,b,rfl,rfl,r',r2.step (.refl _) fun z hz=>ay fun e=>?_⟩,g.nd,g.gn,xZ g.gh (g.gn u (O3 _ hu))⟩;subst e;exact n3 z hu z hz rfl
 have LZ:Step G H (c++b) G (upd H u x) (c++b):=uU (O3 _ hu);obtain⟨fz,g3,EJ⟩:=g2.back (i:=i) (by rw[QJ];exact(List.getElem?_eq_some_iff.mp e).1) ev;rw[RT]at g3;exact⟨fz,g3,st.trans (LZ.trans EJ)⟩
end
section
variable{X:Cx}{a b:Expr}{fa fb:FX}{pos:Pos}
def ky(fa fb:FX):FX:=fun env=>(fa env).bind fun p=>(fb p.2).bind fun q=>.ok ((.t [p.1.1,q.1.1],.tup [p.1.2,q.1.2]),q.2)
theorem ja{x1}(ha:QE X a fa)(hb:QE X b fb)(h1:starEach [a,b] X.env=(false,eval a X.env)::starEach [b] X.env:=by rfl)(h2:starEach [b] X.env=(false,eval b X.env)::starEach [] X.env:=by rfl):QE X (.Tuple [a,b] x1 pos) (ky fa fb):=
 aS (oF (cR ha (cR hb ji h2) h1)) fun σ H Q Er=>by
  obtain⟨G,env,fp,r,env',rel,e,k⟩:=Er;obtain⟨⟨⟨o1,d1⟩,Ee⟩,e1,e⟩:=ag e;obtain⟨⟨⟨o2,d2⟩,Ep⟩,e2,e⟩:=ag e;cases e;refine⟨G,env,fp,_,Ee,rel,e1,fun v H1 G1 EB Es Eh=>?_⟩;obtain⟨fa,fb,MT,ra,KI,bk⟩:=Eh.frame;refine⟨G1,Ee,fb,_,_,KI,e2,fun v2 H3 G3 Ge EJ EG=>⟨by rw[line_eq];exact(by decide:2<=16777216),fun t ht=>?_⟩⟩;obtain⟨HD,IA⟩:=bk G3 H3 _ _ Ge EJ EG;rw[<-MT]at IA;obtain⟨EH,E7⟩:=HD.pair ht;exact k _ _ _ _ (Es.trans (IA.trans E7)) EH
def lq(i:Nat):FX:=fun env=>match env[i]? with
 |some (some (.t [.f,.l .f],.tup [_,.lst l]))=>.ok ((.l .f,.lst l),env.set i none)
 |_=>.bad
theorem si{i:Nat}{o:Expr}{j Fe ipos}(ho:PE X o (ny i)):QE X (.Subscript o (.Constant (.int 1) j ipos) Fe) (lq i):=
 aS (nH jk ho jg (by exact fun _ _=>rfl)) fun σ H Q Er=>by
  obtain⟨G,env,fp,r,env',rel,e,k⟩:=Er;unfold lq at e;split at e
  ·rename_i d l Ih;cases e;obtain⟨v,fq,ev,g,st,GL⟩:=rel.out Ih;obtain⟨y,ys,e0,v',c,b,e1,e2,r1,r2⟩:=g.rep;cases e0;cases e1;obtain⟨t,y,q,zs,et,gt,ra,hq,ef,rz⟩:=ij.mp r1;subst et;exact⟨.ref t,ev,t,[y,.ref q],1,.ref q,rfl,rfl,SqT.of (rel.gh _ _ gt),rfl,k _ H G fq st ⟨⟨some (.ref q),σ,rfl,.ref q,c,b,rfl,e2,eh.mpr ⟨q,zs,rfl,hq,ef,rz⟩,r2⟩,g.nd,g.gn,g.gh⟩⟩
  ·cases e
def yR(i:Nat):FX:=fun env=>match env[i]? with
 |some (some (.t [.f,_],.tup [d,_]))=>.ok ((.f,d),env)
 |_=>.bad
theorem wg{i:Nat}{o:Expr}{j Fe ipos}(ho:PE X o (ny i)):QE X (.Subscript o (.Constant (.int 0) j ipos) Fe) (yR i):=
 aS (nH jk ho jg (by exact fun _ _=>rfl)) fun σ H Q Er=>by
  obtain⟨G,env,fp,r,env',rel,e,k⟩:=Er;unfold yR at e;split at e
  ·rename_i o2 d d2 Ih;cases e;obtain⟨v,fq,ev,g,st,GL⟩:=rel.out Ih;obtain⟨y,ys,e0,v',c,b,e1,e2,r1,r2⟩:=g.rep;cases e0;cases e1;obtain⟨t,y1,y2,a1,a2,et,gt,q1,q2,ec⟩:=nZ.mp r1;subst et;exact⟨.ref t,ev,t,[y1,y2],0,y1,rfl,rfl,SqT.of (rel.gh _ _ gt),rfl,k _ H G fp .refl (rel.push (eS.mp q1).1)⟩
  ·cases e
def uX(i j:Nat)(f:FX):FS:=fun env=>(f env).bind fun p=>match p.1 with
 |(.t [o1,o2],.tup [d1,d2])=>if i<p.2.length/\j<p.2.length then .ok (.nx ((p.2.set i (some (o1,d1))).set j (some (o2,d2)))) else .bad
 |_=>.bad
theorem x3{md:Mode}{i j:Nat}{x y:Str}{e:Expr}{f:FX}{px py pt:Pos}{kt}(hc:X.calm=true)(hN:X.N.Nodup)(hi:X.N[i]?=some x)(hj:X.N[j]?=some y)(hx:Loc X.env.scope x)(hy:Loc X.env.scope y)(he:QE X e f)
  (hs:swapsWithSole [.Tuple [.Name x px,.Name y py] kt pt] e pos.line X.env=pure false:=by rfl) (hw:swappedStores [.Tuple [.Name x px,.Name y py] kt pt] e X.env=pure none:=by rfl)
  (h1:(assignEach [.Tuple [.Name x px,.Name y py] kt pt] X.env).map (·.2)=[assign (.Tuple [.Name x px,.Name y py] kt pt) X.env]:=by rfl)
  (hs1:(assignEach [.Name x px,.Name y py] X.env).map (·.2)=assign (.Name x px) X.env::(assignEach [.Name y py] X.env).map (·.2):=by rfl) (NF:(assignEach [.Name y py] X.env).map (·.2)=assign (.Name y py) X.env::(assignEach [] X.env).map (·.2):=by rfl)
  (hn:(assignEach [.Name x px,.Name y py] X.env).length=2:=by rfl) (ID:(assignEach [.Name x px,.Name y py] X.env).findIdx? (·.1)=none:=by rfl)
  (hfx:X.fn x=true\/X.env.scope.names.lookup x=some .local:=by first|exact .inl rfl|exact .inr rfl) (hfy:X.fn y=true\/X.env.scope.names.lookup y=some .local:=by first|exact .inl rfl|exact .inr rfl):
  QS (md:=md) X (.Assign [.Tuple [.Name x px,.Name y py] kt pt] e pos) (uX i j f):=
 dy (vI he (vH hc (kH (nE (i:=i) hN hi hx hfx) (kH (nE (i:=j) hN hj hy hfy) qo NF) hs1) hn ID) hs hw h1) fun Dd σ H Er=>by
  obtain⟨G,env,fp,rel,k⟩:=Er;unfold uX at k;obtain⟨⟨r,Ee⟩,q,k⟩:=uV k;dsimp only at k;split at k
  ·rename_i o1 o2 d1 d2;split at k
   ·rename_i hl;refine⟨G,env,fp,_,Ee,rel,q,fun v H1 G1 EB Es Eh=>?_⟩;obtain⟨yy,ys,e0,v',c,b,e1,e2,r1,r2⟩:=Eh.rep;cases e0;cases e1;obtain⟨t,y1,y2,a1,a2,et,gt,q1,q2,ec⟩:=nZ.mp r1;subst et;have Ef:Rel X.K G1 H1 (some (o1,d1)::some (o2,d2)::Ee) (some y1::some y2::σ) EB:=
     ⟨⟨some y1,_,rfl,y1,a1,a2++b,rfl,by rw[e2,ec,Po],q1,some y2,_,rfl,y2,a2,b,rfl,rfl,q2,r2⟩,Eh.nd,Eh.gn,Eh.gh⟩
    obtain⟨f1,EG,EJ⟩:=Ef.store (i:=i+1) (by rw[O2];lia);rw[Ti,Ti]at EG;obtain⟨f2,EH,E7⟩:=EG.store (i:=j) (by rw[QJ];exact hl.2);exact⟨t,[y1,y2],rfl,SqT.of (Eh.gh _ _ gt),rfl,y1,[y2],rfl,y2,[],rfl,rfl,k _ H1 G1 f2 (Es.trans (EJ.trans E7)) EH⟩
   ·exact k.elim
  ·exact k.elim
def uY(i:Nat):FX:=fun env=>match env[i]? with
 |some (some (.t [.t [.f,.l .f],.l .f],.tup [.tup [d,.lst _],m]))=>.ok ((.f,.non),env.set i (some (.t [.t [.f,.l .f],.l .f],.tup [.tup [d,.lst []],m])))
 |_=>.bad
theorem x4{i:Nat}{o:Expr}{j k s1 i1 s2 i2 apos Eo}(ho:PE X o (ny i))
  (EL:attributeBase (.Subscript (.Subscript o (.Constant (.int 0) j i1) s1) (.Constant (.int 1) k i2) s2) "clear" X.env (eval (.Subscript (.Subscript o (.Constant (.int 0) j i1) s1) (.Constant (.int 1) k i2) s2) X.env)=eval (.Subscript (.Subscript o (.Constant (.int 0) j i1) s1) (.Constant (.int 1) k i2) s2) X.env:=by rfl)
  (EO:(apos.endLine==Eo.line)=true:=by rfl):
  QE X (.Call (.Attribute (.Subscript (.Subscript o (.Constant (.int 0) j i1) s1) (.Constant (.int 1) k i2) s2) "clear" apos) [] [] Eo) (uY i):=by
 refine aS (vN Qj Sf Sg oI (nH jk (nH jk ho jg (by exact fun _ _=>rfl)) jg (by exact fun _ _=>rfl)) EL EO) fun σ H Q Ez=>?_
 obtain⟨G,env,fp,r,env',rel,e,k⟩:=Ez;unfold uY at e;split at e
 ·rename_i d l m hi;cases e;obtain⟨v,c,ev,r1,nd,cg⟩:=rel.chgV hi;obtain⟨t,y1,y2,a1,a2,et,gt,q1,q2,ec⟩:=nZ.mp r1;obtain⟨t',z,q,zs,et',Ow,rd,hq,ef,rz⟩:=ij.mp q1;subst et et' ef ec;have NS:q∉a2:=(Qc.mp (show(q::a2).Nodup from nd)).1;obtain⟨fq,Ef,El⟩:=cg q (.lst []) tM (.tup [.tup [d,.lst []],m]) (by simp) (nZ.mpr ⟨t,.ref t',y2,[q],a2,rfl,gt,ij.mpr ⟨t',z,q,[],rfl,Ow,rd,aM,rfl,.nil⟩,RepO.step (.refl _) (fun w hw=>ay fun e=>NS (e▸hw)) q2,rfl⟩);exact⟨.ref t,ev,t,[.ref t',y2],0,.ref t',rfl,rfl,SqT.of (rel.gh _ _ gt),rfl,t',[z,.ref q],1,.ref q,rfl,rfl,SqT.of (rel.gh _ _ Ow),rfl,.inl ⟨rfl,zs,SqL.of hq⟩,q,zs,rfl,rfl,hq,k _ _ G fq El (Ef.push gA)⟩
 ·cases e
def uZ(i:Nat):FX:=fun env=>match env[i]? with
 |some (some (.t [c,.l .f],.tup [d,.lst _]))=>.ok ((.f,.non),env.set i (some (.t [c,.l .f],.tup [d,.lst []])))
 |_=>.bad
theorem x5{i:Nat}{o:Expr}{j Fe ipos apos Eo}(ho:PE X o (ny i))(EL:attributeBase (.Subscript o (.Constant (.int 1) j ipos) Fe) "clear" X.env (eval (.Subscript o (.Constant (.int 1) j ipos) Fe) X.env)=eval (.Subscript o (.Constant (.int 1) j ipos) Fe) X.env:=by rfl)(EO:(apos.endLine==Eo.line)=true:=by rfl):
  QE X (.Call (.Attribute (.Subscript o (.Constant (.int 1) j ipos) Fe) "clear" apos) [] [] Eo) (uZ i):=by
 refine aS (vN Qj Sf Sg oI (nH jk ho jg (by exact fun _ _=>rfl)) EL EO) fun σ H Q Ez=>?_
 obtain⟨G,env,fp,r,env',rel,e,k⟩:=Ez;unfold uZ at e;split at e
 ·rename_i c0 d l hi;cases e;obtain⟨v,c,ev,r1,nd,cg⟩:=rel.chgV hi;obtain⟨t,y1,y2,a1,a2,et,gt,q1,q2,ec⟩:=nZ.mp r1;obtain⟨q,zs,el,hq,ea,rz⟩:=eh.mp q2;subst et el ea ec;have hq1:q∉a1:=fun h=>(Pg.mp nd).2.2 q h q (by simp) rfl
  obtain⟨fq,Ef,El⟩:=cg q (.lst []) (.t [c0,.l .f]) (.tup [d,.lst []]) (by simp) (nZ.mpr ⟨t,y1,.ref q,a1,[q],rfl,gt,RepO.step (.refl _) (fun w hw=>ay fun e=>hq1 (e▸hw)) q1,eh.mpr ⟨q,[],rfl,aM,rfl,.nil⟩,rfl⟩);exact⟨.ref t,ev,t,[y1,.ref q],1,.ref q,rfl,rfl,SqT.of (rel.gh _ _ gt),rfl,.inl ⟨rfl,zs,SqL.of hq⟩,q,zs,rfl,rfl,hq,k _ _ G fq El (Ef.push gA)⟩
 ·cases e
noncomputable def sj(i:Nat)(f:FX):FX:=fun env=>match env[i]? with
 |some (some (.pin _ (.t [.f,.l .f]),.tup [_,.lst _]))=>(f env).bind fun q=>(match q.2[i]? with
  |some (some (.pin p (.t [.f,.l .f]),.tup [d,.lst ds]))=>if ds.length<sizeLine then .ok ((.f,.non),q.2.set i (some (.pin p (.t [.f,.l .f]),.tup [d,.lst (ds++[q.1.2])]))) else .bad
  |_=>.bad)
 |_=>.bad
theorem x6{i:Nat}{o e:Expr}{f:FX}{j Fe ipos apos Eo}(ho:PE X o (ny i))(he:QE X e f)
  (EL:attributeBase (.Subscript o (.Constant (.int 1) j ipos) Fe) "append" X.env (eval (.Subscript o (.Constant (.int 1) j ipos) Fe) X.env)=eval (.Subscript o (.Constant (.int 1) j ipos) Fe) X.env:=by rfl)
  (F7:((backTo Eo (starEach [e] X.env)).all (fun x=>!x.1)&&(backToKw Eo (keywordEach [] X.env)).all (fun x=>x.1.isSome)&&decide ([e].length+([]:List Keyword).length+(if([]:List Keyword).isEmpty then 0 else 1)<30))=true:=by rfl)
  (EO:(apos.endLine==Eo.line)=true:=by rfl) (hs:starEach [e] X.env=(false,eval e X.env)::starEach [] X.env:=by rfl) (ET:(backTo Eo (starEach [] X.env)).any (·.1)=false:=by rfl):
  QE X (.Call (.Attribute (.Subscript o (.Constant (.int 1) j ipos) Fe) "append" apos) [e] [] Eo) (sj i f):=by
 refine aS (t9 Qj R7 R8 jl (nH jk ho jg (by exact fun _ _=>rfl)) (ax he aQ hs) EL F7 EO hs ET) fun σ H Q Ez=>?_
 obtain⟨G,env,fp,r,env',rel,e,k⟩:=Ez;unfold sj at e;split at e
 ·rename_i p0 d0 l0 hi;obtain⟨⟨r1,Ee⟩,e1,e⟩:=ag e;dsimp only at e;split at e
  ·rename_i p d ds Ih;split at e
   ·rename_i hl;cases e;obtain⟨v,a,b,ev,r0,_,_⟩:=rel.rep.take hi;rw[RepO]at r0;obtain⟨NI,r0⟩:=r0;obtain⟨t,y,q,zs,et,gt,rd,hq,ef,rz⟩:=ij.mp r0;subst et;refine⟨.ref t,ev,t,[y,.ref q],1,.ref q,rfl,rfl,SqT.of (rel.gh _ _ gt),rfl,.inl ⟨rfl,zs,SqL.of hq⟩,G,env,fp,[r1.2],Ee,rel,by show(f env).bind _=_;rw[e1];rfl,fun vs H1 G1 EB Es Eh rs=>?_⟩;rw[Reps]at rs;obtain⟨x,ys,NB,ry,rn⟩:=rs;rw[Reps]at rn;subst rn;obtain⟨v2,c,MR,r2,nd,cg⟩:=Eh.chgV Ih;rw[ev]at MR;cases MR;rw[RepO]at r2;obtain⟨evq,r2⟩:=r2;obtain⟨t2,y2,q2,NT,et2,Ox,rd2,NS,Lw,Oy⟩:=ij.mp r2;cases et2;have:=Es.gg _ _ gt;rw[Ox]at this;cases this;subst Lw;obtain⟨fq,Ef,El⟩:=cg q (.lst (NT++[x])) (.pin p tL) (.tup [d,.lst (ds++[r1.2])]) (by simp) (by
     rw[RepO];exact⟨evq,ij.mpr ⟨t,y,q,NT++[x],rfl,Ox,rd2,aM,rfl,Oy.app (.one ry)⟩⟩)
    exact⟨q,NT,x,rfl,NB,NS,by rw[Oy.length];exact hl,k _ _ G1 fq (Es.trans El) (Ef.push gA)⟩
   ·cases e
  ·cases e
 ·cases e
def sk(F:Addr->List D->Res R)(i:Nat):FX:=fun env=>match env[i]? with
 |some (some (.t [.f,.l .f],d0))=>(nV F (.t [.f,.l .f]) d0 []).bind fun z=>.ok (z.1,env.set i none)
 |_=>.bad
theorem so{x:Str}{p:Pos}{o:Expr}{F:Addr->List D->Res R}{k i:Nat}(C:Ct X.prog X.w X.K X.mg X.base x k (spM X.K (.t [.f,.l .f]) F))(hr:Room k X.A)(hg:Gl X x)(ho:PE X o (ny i))(Fm:(x==("__debug__" : Str))=false:=by decide)
  (he:starEach [o] X.env=(false,eval o X.env)::starEach [] X.env:=by rfl) (Fd:(backTo pos (starEach [] X.env)).any (·.1)=false:=by rfl):QE X (.Call (.Name x p) [o] [] pos) (sk F i):=
 aS (zL C hr hg (cR ho ji he) Fm he Fd) fun σ H Q Er=>by
  obtain⟨G,env,fp,r,env',rel,e,k⟩:=Er;unfold sk at e;split at e
  ·rename_i d0 hi;obtain⟨z,hz,e⟩:=ag e;cases e;obtain⟨v,fq,ev,g,st,GL⟩:=rel.out hi;obtain⟨y,ys,ey,v1,a1,b1,ey1,KO,q1,q2⟩:=g.rep;cases ey;cases ey1;have hv:∃t,v=.ref t:=by
    cases d0 with
    |tup ds=>
     rw[RepO]at q1;obtain⟨t,_,et,_⟩:=q1;exact⟨t,et⟩
    |_=>simp only[RepO]at q1
   obtain⟨t,rfl⟩:=hv;refine⟨.ref t,ev,?_⟩;show spM X.K _ F ([.ref t]++[]) H Q _;rw[O8];have nd:=Pg.mp (KO▸g.nd);have relR:Rel X.K G H (env.set i none) σ b1:=⟨q2,nd.2.1,fun w hw=>g.gn w (by rw[KO];exact OV _ hw),g.gh⟩
   refine⟨G,t,[],d0,[],_,a1,g.gh,rfl,q1,nd.1,fun w hw=>g.gn w (by rw[KO];exact O3 _ hw),.nil,uQ hz t,fun v H' G' Ej El rt=>?_⟩;obtain⟨o',d',p',c',Oq,er,rl⟩:=rt;cases er;obtain⟨fa,IV,Mf⟩:=rl.only;obtain⟨relF,Oz⟩:=Rel.frameT relR (fun w hw hb=>nd.2.2 w hw w hb rfl) (El.trans Mf) IV;rw[<-KO]at Oz;exact k v H' G' _ (st.trans Oz) relF
  ·cases e
end
end PV
namespace LW
open PySem L2 NX PV
abbrev nr(f:FX):FI:=FW (Af f) (FW (iQ f) (iR f))
def fm:FS:=(d7 (bA c7 (ai (aq (dw (nr (aA ED (au 0) (aq (aD (.int 1))))) [none] (az 0) fS (aA ED (au 0) (aq (aD (.int 0)))))) aB)))
def bt:List D->Res R:=fBody 1 0 fm
noncomputable def ph:FS:=(sSeq (bW 3 (AH mJ (aq (aA ED (au 0) (aq (aD (.int 0))))) (ai (au 2) aB)))
  (d7 (bA Al (ai (aq (dw (qa (ai (aq (aV 1)) (ai (aq (aA ED (au 0) (aq (aD (.int 1))))) aB))) [none,none,some 3] (kq 2 (aK (az 0) (aK (az 1) eC))) fS (aA Ma (au 0) (aq (aA ED (aq (aA ED (au 1) (aq (aD (.int 1))))) (au 2)))))) aB))))
def fT:List D->Res R:=fBody 3 1 ph
noncomputable def sr:FS:=(sSeq (FN (nj (E5 (eB fT (ai (au 0) (ai (au 1) (ai (au 2) aB))))))
  (d7 (aD .non))
  cU)
  (sSeq (bW 3 (AH mJ (aq (aA ED (au 0) (aq (aD (.int 0))))) (ai (au 2) aB)))
  (d7 (bA c7 (ai (aq (dw (qa (ai (aq (aV 1)) (ai (aq (aA ED (au 0) (aq (aD (.int 1))))) aB))) [none,none,some 3] (kq 2 (aK (az 0) (aK (az 1) eC))) fS (aA dU (aq (aA uG (au 0) (aq (aA ED (aq (aA ED (au 1) (aq (aD (.int 1))))) (au 2))))) (aq (aA ED (aq (aA ED (au 1) (aq (aD (.int 2))))) (au 2)))))) aB)))))
def ft:List D->Res R:=fBody 3 1 sr
noncomputable def df:FS:=(sSeq (bW 7 (eB ft (ai (au 0) (ai (au 5) (ai (au 6) aB)))))
  (FN (E5 (dv isnO (au 7) (aq (aD .non))))
  (sSeq (FN (E5 (dv uO (au 7) (au 2)))
  (sSeq (BI 2 (aV 7) (bA jY (ai (au 1) aB)))
  (eX (p6 1 (j6 (aH (aV 7) (aH (aA dU (aq (aA ED (aq (aA ED (au 1) (au 4))) (aq (aD (.int 1))))) (aq (j6 (aH (aV 6) cp)))) (aH (aV 4) cp)))))))
  cU)
  (eX (p6 3 (j6 (aH (aV 4) (aH (aV 6) (aH (aA KN (au 2) (au 7)) cp)))))))
  cU))
def fu:FS:=(oY (nr (aA ED (au 0) (aq (aD (.int 0))))) (az 6)
  df)
def gZ:FS:=(bW 4 (aA dU (au 4) (aq (aD (.int 1)))))
def eG:FS:=(sSeq (bW 5 (aA ED (aq (aA ED (au 1) (au 4))) (aq (aD (.int 0)))))
  (sSeq fu
  gZ))
def iG:FS:=(cZ (E5 (mn Iz L6 (au 4) (aq (bA jY (ai (au 1) aB))) (aq (aD (.int 12)))))
  eG 100000)
def g5:FS:=(d7 (uR (aV 1) (iP 3)))
noncomputable def kz:FS:=(sSeq (bW 1 (rB (aH (j6 (aH (eB bt (ai (au 0) aB)) (aH (j6 cp) (aH (aD .non) cp)))) cp)))
  (sSeq (bW 2 (r6 (aA ED (aq (aA ED (au 1) (aq (aD (.int 0))))) (aq (aD (.int 0)))) (aD (.int 0))))
  (sSeq (bW 3 (rB cp))
  (sSeq (bW 4 (aD (.int 0)))
  (sSeq iG
  g5)))))
def bJ:List D->Res R:=fBody 1 7 kz
noncomputable def pj:FS:=(sSeq (bW 1 (eB bJ (ai (au 0) aB)))
  (sSeq (bW 2 (dw (nr (yR 1)) [none,none,none] (kq 3 (aK (az 0) (aK (az 1) (aK (az 2) eC)))) fS (aV 0)))
  (sSeq (FN (E5 (aA KG (aq (bA jY (ai (au 2) aB))) (aq (aD (.int 12)))))
  vW
  cU)
  (d7 (ky (ky (aA ED (au 0) (aq (aD (.int 0)))) (lq 1)) (iP 2))))))
def cv:List D->Res R:=fBody 1 2 pj
noncomputable def b6:List D->Bool:=sd 1 2 (yP (bW 1 (eB bJ (ai (au 0) aB)))
  (yP (bW 2 (dw (nr (yR 1)) [none,none,none] (kq 3 (aK (az 0) (aK (az 1) (aK (az 2) eC)))) fS (aV 0)))
  (MV (E5 (aA KG (aq (bA jY (ai (au 2) aB))) (aq (aD (.int 12))))) (r9 (ai (aq (aD (.str [116,104,101,32,114,117,110,32,104,97,115,32,109,111,114,101,32,116,104,97,110,32,49,50,32,109,97,114,107,105,110,103,115]))) aB)))))
def gm:FS:=(sSeq (FN (E5 (aA Iz (au 1) (aq (bA jY (ai (au 0) aB)))))
  (d7 (aA ED (au 0) (au 1)))
  cU)
  (d7 (aD (.int 0))))
def aE:List D->Res R:=fBody 2 0 gm
noncomputable def iH:FS:=(sSeq (bW 2 (aA dU (aq (aA iy (au 0) (aq (aD (.int 2147483647))))) (aq (aA ll (aq (aD (.int 48271))) (aq (aA dU (au 1) (aq (aD (.int 1)))))))))
  (sSeq (bW 2 (aA iy (aq (aA dU (aq (aA ll (au 2) (au 2))) (aq (aA ll (aq (aD (.int 69621))) (au 1))))) (aq (aD (.int 2147483647)))))
  (d7 (aA iy (aq (aA dU (aq (aA dU (aq (aA ll (au 2) (au 2))) (aq (aA ll (aq (aD (.int 16807))) (au 1))))) (aq (aD (.int 1))))) (aq (aD (.int 2147483647)))))))
def aN:List D->Res R:=fBody 2 1 iH
noncomputable def cw:FS:=(sSeq (bW 7 (AE (au 2) uH (k8 (aV 3))))
  (sSeq (uN 7 (aV 4) (aA iy (aq (aA dU (aq (aA ED (au 7) (au 4))) (au 6))) (aq (aD (.int 26)))))
  (sSeq (FN (E5 (dv HS (aq (aA iy (aq (aA fY (au 0) (aq (aD (.int 64))))) (aq (aD (.int 4))))) (aq (aD (.int 1)))))
  (bW 7 (AE (au 2) uH (k8 (aA dU (au 6) (aq (aD (.int 1)))))))
  cU)
  (eX (p6 5 (Cq rX (aq (aD (.str []))) (ai (aq (dw (FW (j8 7) (FW (iQ (aV 7)) (iR (aV 7)))) [none,some 1] (az 0) fS (aA ED (au 1) (au 0)))) aB)))))))
def gq:FS:=(oY (ib (aq (aD (.int 5)))) (az 6)
  cw)
def fw:FS:=(sSeq (FN (E5 (dv MU (aq (aD (.str [109,111,118,101,115]))) (au 5)))
  (bW 5 (dw (FW (j8 5) (FW (iQ (aV 5)) (iR (aV 5)))) [none] (az 0) fS (aA dU (aq (aD (.str [115]))) (au 0))))
  cU)
  (d7 (bA e9 (ai (au 5) aB))))
noncomputable def iI:FS:=(sSeq (bW 1 (aD (.str [97,98,99,100,101,102,103,104,105,106,107,108,109,110,111,112,113,114,115,116,117,118,119,120,121,122])))
  (sSeq (bW 2 (dw (ib (aq (aD (.int 8)))) [none,some 0] (az 0) fS (aA iy (aq (eB aN (ai (au 1) (ai (au 0) aB)))) (aq (aD (.int 26))))))
  (sSeq (bW 3 (aA dU (aq (aD (.int 1))) (aq (aA iy (au 0) (aq (aD (.int 8)))))))
  (sSeq (bW 4 (aA iy (aq (aA fY (au 0) (aq (aD (.int 8))))) (au 3)))
  (sSeq (bW 5 (rB cp))
  (sSeq gq
  fw))))))
def ck:List D->Res R:=fBody 1 7 iI
noncomputable def b5:FS:=(sSeq (FN (E5 (aA Iz (au 5) (aq (aA ED (aq (aA ED (au 6) (aq (aD (.int 1))))) (au 3)))))
  (d7 (aD .non))
  cU)
  (eX (p6 4 (aA dU (aq (aA uG (au 5) (aq (aA ED (aq (aA ED (au 6) (aq (aD (.int 1))))) (au 3))))) (aq (aA ED (aq (aA ED (au 6) (aq (aD (.int 2))))) (au 3)))))))
def eI:FS:=(oY (qa (ai (aq (aV 1)) (ai (aq (aA ED (au 0) (aq (aD (.int 1))))) aB))) (kq 2 (aK (az 5) (aK (az 6) eC)))
  b5)
def gr:FS:=(d7 (bA c7 (ai (au 4) aB)))
def jJ:FS:=(sSeq (bW 3 (AH mJ (aq (aA ED (au 0) (aq (aD (.int 0))))) (ai (au 2) aB)))
  (sSeq (bW 4 (rB cp))
  (sSeq eI
  gr)))
def b8:List D->Res R:=fBody 3 4 jJ
noncomputable def bC:FS:=(sSeq (bW 6 (eB b8 (ai (au 0) (ai (aq (aA ED (au 2) (au 4))) (ai (au 5) aB)))))
  (FN (E5 (dv isnO (au 6) (aq (aD .non))))
  (sSeq (FN (E5 (dv uO (au 6) (au 2)))
  (sSeq (FN (E5 (dv HS (aq (bA jY (ai (au 2) aB))) (au 1)))
  (d7 (aD .non))
  cU)
  (eX (p6 2 (aV 6))))
  cU)
  (eX (p6 3 (j6 (aH (aV 4) (aH (aV 5) (aH (Cy nW (au 2) (ai (au 6) aB)) cp)))))))
  cU))
def fA:FS:=(oY (nr (aA ED (au 0) (aq (aD (.int 0))))) (az 5)
  bC)
def g6:FS:=(bW 4 (aA dU (au 4) (aq (aD (.int 1)))))
def bS:FS:=(sSeq fA
  g6)
def cK:FS:=(cZ (E5 (aA Iz (au 4) (aq (bA jY (ai (au 2) aB)))))
  bS 100000)
def eJ:FS:=(d7 (ky (bA e9 (ai (au 3) aB)) (iP 2)))
noncomputable def kA:FS:=(sSeq (bW 2 (rB (aH (bA c7 (ai (aq (dw (nr (aA ED (au 0) (aq (aD (.int 1))))) [none,none,none] (kq 3 (aK (az 0) (aK (az 1) (aK (az 2) eC)))) fS (aV 0))) aB)) cp)))
  (sSeq (bW 3 (rB cp))
  (sSeq (bW 4 (aD (.int 0)))
  (sSeq cK
  eJ))))
def a9:List D->Res R:=fBody 2 5 kA
def dM:FS:=(bW 3 (eB aN (ai (aq (aA dU (au 4) (au 3))) (ai (au 2) aB))))
def g7:FS:=(oY (nr (Cz (au 0) (k8 (aA dU (au 1) (au 2))) (k8 (aA dU (au 1) (aq (aD (.int 84))))) (k8 (aD (.int 6))))) (az 4)
  dM)
def gu:FS:=(d7 (iP 3))
def jK:FS:=(sSeq (bW 3 (aA dU (aq (aD (.int 7))) (au 2)))
  (sSeq g7
  gu))
def cG:List D->Res R:=fBody 3 2 jK
noncomputable def dk:FS:=(sSeq (bW 5 (eB aN (ai (au 0) (ai (au 4) aB))))
  (sSeq (bW 6 (aA uG (aq (aA iy (au 5) (aq (aD (.int 5))))) (aq (aD (.int 2)))))
  (sSeq (bW 7 (aA fY (aq (aA iy (aq (aA fY (au 5) (aq (aD (.int 8))))) (aq (aD (.int 4))))) (aq (aD (.int 3)))))
  (sSeq (eX (p6 2 (aA dU (aq (bA maxD (ai (aq (aD (.int 0))) (ai (aq (aA uG (aq (aD (.int 0))) (au 6))) aB)))) (au 7))))
  (eX (p6 3 (aA dU (aq (bA maxD (ai (aq (aD (.int 0))) (ai (au 6) aB)))) (au 7))))))))
def gv:FS:=(oY (ib (au 1)) (az 4)
  dk)
def fB:FS:=(d7 (xU (aA iy (aq (aA fY (au 0) (aq (aD (.int 16))))) (aq (aD (.int 4)))) (iP 2) (iP 3)))
def iJ:FS:=(sSeq (bW 2 (rB cp))
  (sSeq (bW 3 (rB cp))
  (sSeq gv
  fB)))
def cm:List D->Res R:=fBody 2 6 iJ
noncomputable def g8:FS:=(sSeq (bW 2 (aA dU (aq (aD (.int 1))) (aq (aA iy (au 1) (aq (aA yN (aq (aD (.int 10))) (aq (aD (.int 50)))))))))
  (sSeq (BJ (aV 0) (kq 3 (aK (az 3) (aK (az 4) (aK (az 5) eC)))))
  (sSeq (bW 4 (bA c7 (ai (aq (dw (FW (j8 4) (FW (iQ (aV 4)) (iR (aV 4)))) [none,some 2] (az 0) fS (aA ll (au 1) (au 0)))) aB)))
  (d7 (j6 (aH (aA dU (aq (aA ll (au 2) (au 3))) (aq (aA iy (aq (aA fY (au 1) (aq (aD (.int 7))))) (au 2)))) (aH (aV 4) (aH (bA c7 (ai (aq (dw (FW (j8 5) (FW (iQ (aV 5)) (iR (aV 5)))) [none,some 2] (az 0) fS (aA ll (au 1) (au 0)))) aB)) cp))))))))
def bD:List D->Res R:=fBody 2 4 g8
noncomputable def b7:FS:=(sSeq (bW 5 (eB cG (ai (au 0) (ai (au 1) (ai (au 4) aB)))))
  (sSeq (bW 6 (eB cm (ai (au 5) (ai (au 2) aB))))
  (sSeq (eX (p6 3 (eB bD (ai (au 6) (ai (aq (eB aE (ai (au 0) (ai (aq (aA dU (au 1) (au 4))) aB)))) aB)))))
  (FN (E5 (aA KG (aq (aA iy (aq (aA fY (au 5) (aq (aD (.int 64))))) (aq (aD (.int 3))))) (aq (aD (.int 0)))))
  (sSeq (bW 7 (j6 (aH (aA iy (aq (aA fY (au 5) (aq (aD (.int 256))))) (aq (aD (.int 4)))) (aH (aA ED (aq (aV 6)) (aq (aD (.int 2)))) (aH (aA ED (aq (aV 6)) (aq (aD (.int 1)))) cp)))))
  (eX (p6 3 (eB bD (ai (au 7) (ai (aq (eB aE (ai (au 0) (ai (aq (aA dU (aq (aA dU (au 1) (aq (aD (.int 6))))) (au 4))) aB)))) aB))))))
  cU))))
def fC:FS:=(oY (ib (aq (aA dU (aq (aD (.int 1))) (aq (aA iy (aq (aA fY (aq (eB aE (ai (au 0) (ai (aq (aD (.int 1))) aB)))) (aq (aD (.int 4))))) (aq (aD (.int 4)))))))) (az 4)
  b7)
def eU:FS:=(d7 (iP 3))
def g9:FS:=(sSeq (bW 3 (rB cp))
  (sSeq fC
  eU))
def bE:List D->Res R:=fBody 3 5 g9
noncomputable def iK:FS:=(sSeq (bW 1 (eB ck (ai (aq (eB aE (ai (au 0) (ai (aq (aD (.int 0))) aB)))) aB)))
  (sSeq (bW 2 (eB aE (ai (au 0) (ai (aq (aD (.int 1))) aB))))
  (sSeq (bW 3 (aA dU (aq (aD (.int 1))) (aq (aA iy (au 2) (aq (aD (.int 3)))))))
  (sSeq (bW 4 (aA iy (aq (aA fY (au 2) (aq (aD (.int 32))))) (aq (aA uG (aq (aD (.int 6))) (au 3)))))
  (d7 (bA c7 (ai (aq (AE (au 1) (k8 (aV 4)) (k8 (aA dU (au 4) (au 3))))) aB)))))))
def cn:List D->Res R:=fBody 1 4 iK
def iL:FS:=(d7 (Ad (Iy "int" (au 0)) (Cf (Iy "bool" (au 0)))))
def m__law_whole:List D->Res R:=fBody 1 0 iL
def cx:FS:=(FN (IL (nj (E5 (Iy "tuple" (au 3)))) (IL (nj (E5 (eB m__law_whole (ai (aq (aA ED (au 3) (aq (aD (.int 0))))) aB)))) (nj (E5 (eB m__law_whole (ai (aq (aA ED (au 3) (aq (aD (.int 2))))) aB))))))
  (d7 (aD (.bl false)))
  cU)
def dW:FS:=(oY (nr (aA ED (au 0) (aq (aD (.int 1))))) (az 3)
  cx)
def dE:FS:=(d7 (aD (.bl true)))
def cy:FS:=(FN (nj (E5 (Iy "str" (au 2))))
  (d7 (aD (.bl false)))
  cU)
def dX:FS:=(oY (nr (aA ED (au 0) (aq (aD (.int 0))))) (az 2)
  cy)
def dF:FS:=(sSeq dW
  dE)
noncomputable def fD:FS:=(sSeq (FN (IL (nj (E5 (Iy "tuple" (au 0)))) (IL (E5 (dv HU (aq (bA jY (ai (au 0) aB))) (aq (aD (.int 2))))) (nj (E5 (Iy "tuple" (aq (aA ED (au 0) (aq (aD (.int 0))))))))))
  (d7 (aD (.bl false)))
  cU)
  (sSeq (FN (IL (nj (E5 (Iy "list" (aq (aA ED (au 0) (aq (aD (.int 1)))))))) (E5 (dv HU (au 0) (au 1))))
  (d7 (aD (.bl false)))
  cU)
  (sSeq dX
  dF)))
def bg:List D->Res R:=fBody 2 2 fD
def bM:FS:=(FN (nj (E5 (eB m__law_whole (ai (au 3) aB))))
  (d7 (aD (.bl false)))
  cU)
def cM:FS:=(oY (nr (aV 2)) (az 3)
  bM)
def bN:FS:=(sSeq (FN (nj (E5 (Iy "tuple" (au 2))))
  (d7 (aD (.bl false)))
  cU)
  cM)
def cN:FS:=(oY (nr (aV 0)) (az 2)
  bN)
def cD:FS:=(d7 (aD (.bl true)))
def dm:FS:=(sSeq (FN (IL (nj (E5 (Iy "list" (au 0)))) (E5 (dv HU (au 0) (au 1))))
  (d7 (aD (.bl false)))
  cU)
  (sSeq cN
  cD))
def aR:List D->Res R:=fBody 2 2 dm
def jL:FS:=(sSeq (bW 1 (aD .non))
  (sSeq (bW 2 (aD (.bl false)))
  (sSeq (xW (yQ b6 (ai (au 0) aB))
  (bW 1 (eB cv (ai (au 0) aB)))
  (bW 2 (aD (.bl true))))
  (d7 (ky (iP 1) (iP 2))))))
def b9:List D->Res R:=fBody 1 2 jL
noncomputable def fE:FS:=(sSeq (bW 1 (mQ (bA c7 (ai (aq (dw (nr (aA ED (au 0) (aq (aD (.int 0))))) [none] (az 0) fS (aD (.int 1)))) aB))))
  (sSeq (eX (sj 0 (mQ (j6 (aH (aD (.int 1)) (aH (aV 1) (aH (bA c7 (ai (aq (dw (nr (aA ED (au 0) (aq (aD (.int 0))))) [none] (az 0) fS (aD (.int 0)))) aB)) cp)))))))
  (sSeq (bW 2 (eB a9 (ai (au 0) (ai (aq (aD (.int 12))) aB))))
  (rV 0 (mQ (dv HS (aq (eB cv (ai (au 0) aB))) (aq (j6 (aH (j6 (aH (aA ED (au 0) (aq (aD (.int 0)))) (aH (aA ED (au 2) (aq (aD (.int 0)))) cp))) (aH (aA ED (au 2) (aq (aD (.int 1)))) cp))))))))))
def bh:Addr->List D->Res R:=kx 1 2 (.t [.f,.l .f]) fE
noncomputable def AU:FS:=(sSeq (bW 1 (eB cn (ai (au 0) aB)))
  (sSeq (bW 2 (j6 (aH (aV 1) (aH (eB bE (ai (au 0) (ai (aq (aD (.int 2))) (ai (aq (bA jY (ai (au 1) aB))) aB)))) cp))))
  (sSeq (bW 3 (uR (aV 1) (bA uJ (ai (aq (aA ED (au 2) (aq (aD (.int 1))))) aB))))
  (sSeq (uX 4 5 (eB b9 (ai (au 3) aB)))
  (sSeq (bW 6 (eB a9 (ai (au 2) (ai (aq (aD (.int 12))) aB))))
  (sSeq (FN (IL (E5 (dv HU (au 3) (au 2))) (E5 (dv HU (au 5) (aq (dv Ka (au 6) (aq (aD .non)))))))
  (d7 (aD (.bl false)))
  cU)
  (sSeq (FN (E5 (dv Ka (au 6) (aq (aD .non))))
  (d7 (Ad (dv HS (aq (eB b9 (ai (au 3) aB))) (aq (j6 (aH (aD .non) (aH (aD (.bl true)) cp))))) (sk bh 3)))
  cU)
  (sSeq (FN (uW (IL (nj (E5 (Iy "tuple" (au 4)))) (IL (E5 (dv HU (aq (bA jY (ai (au 4) aB))) (aq (aD (.int 2))))) (nj (E5 (eB bg (ai (aq (aA ED (au 4) (aq (aD (.int 0))))) (ai (aq (j6 (aH (aV 1) (aH (aA ED (au 6) (aq (aD (.int 0)))) cp)))) aB))))))))
  (d7 (aD (.bl false)))
  cU)
  (sSeq (FN (uW (nj (E5 (eB aR (ai (aq (aA ED (au 4) (aq (aD (.int 1))))) (ai (aq (aA ED (au 6) (aq (aD (.int 1))))) aB))))))
  (d7 (aD (.bl false)))
  cU)
  (sSeq (eX (uY 4))
  (sSeq (eX (uZ 4))
  (d7 (Ad (mQ (dv HS (aq (eB cv (ai (au 2) aB))) (aq (j6 (aH (j6 (aH (aV 1) (aH (aA ED (au 6) (aq (aD (.int 0)))) cp))) (aH (aA ED (au 6) (aq (aD (.int 1)))) cp)))))) (sk bh 3))))))))))))))
def m_law:List D->Res R:=fBody 1 6 AU
end LW
namespace LW
open PySem PySem.Spec PyProof.Rows L2 NX PV
theorem u3{α:Type}{Q:List α->Prop}(h:∀a,Q [a]):∀us,us.length=1->Q us
 |[a],_=>h a
theorem x9{α:Type}{Q:List α->Prop}(h:∀a b,Q [a,b]):∀us,us.length=2->Q us
 |[a,b],_=>h a b
theorem AV{α:Type}{Q:List α->Prop}(h:∀a b c,Q [a,b,c]):∀us,us.length=3->Q us
 |[a,b,c],_=>h a b c
theorem dY{X:Cx}{tg e:Expr}{f:FX}(h:QE X e f):QI X tg e (FW (Af f) (FW (iQ f) (iR f))):=rL (xx h) (rL (mr h) (mw h))
def top(i:Nat):Stmt:=PySem.Challenge.pw_netfinder_k22_runs_walked.main.body.getD i (.Pass ⟨0,0,0,0⟩)
theorem DU:Str.ofString "the run has more than 12 markings" = S [116,104,101,32,114,117,110,32,104,97,115,32,109,111,114,101,32,116,104,97,110,32,49,50,32,109,97,114,107,105,110,103,115]:=by decide +kernel
theorem DV:Str.ofString "moves" = S [109,111,118,101,115]:=by decide +kernel
theorem DW:Str.ofString "s" = S [115]:=by decide +kernel
theorem DX:Str.ofString "" = S []:=by decide +kernel
theorem DY:Str.ofString "abcdefghijklmnopqrstuvwxyz" = S [97,98,99,100,101,102,103,104,105,106,107,108,109,110,111,112,113,114,115,116,117,118,119,120,121,122]:=by decide +kernel
section
variable{P:Program}{w:World}{K:W.Frag}{mg:Str->Option Value}{base:Heap}
abbrev dn:Stmt:=top 5
theorem iU:FnScope ["net"] ["net"] (defScope dn):=fs
theorem iV(Df:Def K mg "first_marking" dn)(Em:mg "tuple" = none):Ct P w K mg base "first_marking" 1 (spF K bt):=
 eD Df iU (fun _ _ _ _ _ _=>u3 fun _=>rfl) fun f EF A outer s H E hr=>
  (aw (aW (bY c9 (by rfl) Em bO (af (aa (de [none] ["place"] rfl (cJ (dY (aT (ae (pv 0)) (aa aj)))) (fun _ _ _ _ _=>(aI (i:=0) (show List.Nodup (["place"]:List Str) from by decide +kernel) rfl (lo rfl))) (fun _ _ _ _ _=>cF) (fun _ _ _ _ _=>(aT (ae (pv 0)) (aa aj))))) ao))))
abbrev lr:Stmt:=top 6
theorem mR:FnScope ["net","marking","move","at"] ["net","marking","move"] (defScope lr):=fs
theorem su(Df:Def K mg "can_go" lr)(HV:mg "all" = none)(Gf:mg "zip" = none):Ct P w K mg base "can_go" 1 (spF K fT):=
 eD Df mR (fun _ _ _ _ _ _=>AV fun _ _ _=>rfl) fun f EF A outer s H E hr=>
  (ah (aF (i:=3) mR.nd rfl (lo rfl) (rT QL Rb gG (aa (aT (ae (pv 0)) (aa aj))) (af (ae (pv 2)) ao)))
  (aw (aW (bB (Am rfl) (by rfl) HV AB (af (aa (de [none,none,some 3] ["beads","place","at"] rfl (cJ (nS (by rfl) Gf (af (aa (aG (pv 1))) (af (aa (aT (ae (pv 0)) (aa aj))) ao)))) (fun _ _ _ _ _=>(have h:=(show List.Nodup (["beads","place","at"]:List Str) from by decide +kernel);(jy rfl (bj (aI (i:=0) h rfl (lo rfl)) (bj (aI (i:=1) h rfl (lo rfl)) gC))))) (fun _ _ _ _ _=>cF) (fun _ _ _ _ _=>(Ac (Au hr.units0) (ae (pv 0)) (aa (aT (aa (aT (ae (pv 1)) (aa aj))) (ae (pv 2)))) (bT _))))) ao)))))
abbrev og:Stmt:=top 7
theorem pk:FnScope ["net","marking","move","at"] ["net","marking","move"] (defScope og):=fs
theorem u9(Df:Def K mg "moved" og)(IW:Ct P w K mg base "can_go" 1 (spF K fT))(Em:mg "tuple" = none)(Gf:mg "zip" = none):Ct P w K mg base "moved" 2 (spF K ft):=
 eD Df pk (fun _ _ _ _ _ _=>AV fun _ _ _=>rfl) fun f EF A outer s H E hr=>
  (ah (dh (dB (dA (a8 IW hr.m (by rfl) (af (ae (pv 0)) (af (ae (pv 1)) (af (ae (pv 2)) ao))))))
  (aw (aW gj))
  bf)
  (ah (aF (i:=3) pk.nd rfl (lo rfl) (rT QL Rb gG (aa (aT (ae (pv 0)) (aa aj))) (af (ae (pv 2)) ao)))
  (aw (aW (bY c9 (by rfl) Em bO (af (aa (de [none,none,some 3] ["beads","place","at"] rfl (cJ (nS (by rfl) Gf (af (aa (aG (pv 1))) (af (aa (aT (ae (pv 0)) (aa aj))) ao)))) (fun _ _ _ _ _=>(have h:=(show List.Nodup (["beads","place","at"]:List Str) from by decide +kernel);(jy rfl (bj (aI (i:=0) h rfl (lo rfl)) (bj (aI (i:=1) h rfl (lo rfl)) gC))))) (fun _ _ _ _ _=>cF) (fun _ _ _ _ _=>(aJ aO (aa (aJ mx (ae (pv 0)) (aa (aT (aa (aT (ae (pv 1)) (aa aj))) (ae (pv 2)))))) (aa (aT (aa (aT (ae (pv 1)) (aa aj))) (ae (pv 2)))))))) ao))))))
abbrev ik:Stmt:=top 9
theorem bF:FnScope ["net","met","numbers","arcs","looked_at","marking","move","coming"] ["net"] (defScope ik):=fs
theorem oh(Df:Def K mg "explored" ik)(Gq:Ct P w K mg base "first_marking" 1 (spF K bt))(JA:Ct P w K mg base "moved" 2 (spF K ft))(En:Gi mg "MOST_STATES" (12))(ER:mg "len" = none):Ct P w K mg base "explored" 3 (spF K bJ):=
 eD Df bF (fun _ _ _ _ _ _=>u3 fun _=>rfl) fun f EF A outer s H E hr=>
  (ah (aF (i:=1) bF.nd rfl (lo rfl) (gS (ax (c6 (ax (a8 Gq hr.m (by rfl) (af (ae (pv 0)) ao)) (ax (c6 aQ) (ax gj aQ)))) aQ)))
  (ah (aF (i:=2) bF.nd rfl (lo rfl) (uS (hu_of hr) (aT (aa (aT (ae (pv 1)) (aa aj))) (aa aj)) aj))
  (ah (aF (i:=3) bF.nd rfl (lo rfl) (gS aQ))
  (ah (aF (i:=4) bF.nd rfl (lo rfl) aj)
  (ah (oX 100000 Pz (uC (o9 hr.units0) Ck (ae (pv 4)) (aa (bB dJ (by rfl) ER bt_len (af (ae (pv 1)) ao))) (aa (xw En (by rfl))))
  (ah (aF (i:=5) bF.nd rfl (lo rfl) (aT (aa (aT (ae (pv 1)) (ae (pv 4)))) (aa aj)))
  (ah (eY Pz rfl (dY (aT (ae (pv 0)) (aa aj))) (aI (i:=6) bF.nd rfl (lo rfl))
  (ah (aF (i:=7) bF.nd rfl (lo rfl) (a8 JA hr.m (by rfl) (af (ae (pv 0)) (af (ae (pv 5)) (af (ae (pv 6)) ao)))))
  (aw (dh (cu vZ (ae (pv 7)) (aa gj) (bT _))
  (ah (dh (cu (rU hr.u65) (ae (pv 7)) (ae (pv 2)) (by with_unfolding_all rfl))
  (ah (Av (hu_of hr) (pv 2) (aG (pv 7)) (bB dJ (by rfl) ER bt_len (af (ae (pv 1)) ao)))
  (aw (cE (bZ (pv 1) (c6 (ax (aG (pv 7)) (ax (aJ aO (aa (aT (aa (aT (ae (pv 1)) (ae (pv 4)))) (aa aj))) (aa (c6 (ax (aG (pv 6)) aQ)))) (ax (aG (pv 4)) aQ))))))))
  bf)
  (aw (cE (bZ (pv 3) (c6 (ax (aG (pv 4)) (ax (aG (pv 6)) (ax (Cw (hu_of hr) (ae (pv 2)) (ae (pv 7))) aQ))))))))
  bf))))
  (aw (aF (i:=4) bF.nd rfl (lo rfl) (aJ aO (ae (pv 4)) (aa aj)))))))
  (aw (aW (rW (aG (pv 1)) (ej (pv 3))))))))))
abbrev jb:Stmt:=top 10
theorem dZ:FnScope ["net","found","markings"] ["net"] (defScope jb):=fs
theorem sv(Df:Def K mg "run_of" jb)(FJ:Ct P w K mg base "explored" 3 (spF K bJ))(En:Gi mg "MOST_STATES" (12))(ER:mg "len" = none):Ct P w K mg base "run_of" 4 (spF K cv):=
 eD Df dZ (fun _ _ _ _ _ _=>u3 fun _=>rfl) fun f EF A outer s H E hr=>
  (ah (aF (i:=1) dZ.nd rfl (lo rfl) (a8 FJ hr.m (by rfl) (af (ae (pv 0)) ao)))
  (ah (i9 (i:=2) [none,none,none] ["marking","way","ahead"] dZ.nd rfl (lo rfl) rfl (cJ (dY (wg (pv 1)))) (fun _ _ _ _ _=>(have h:=(show List.Nodup (["marking","way","ahead"]:List Str) from by decide +kernel);(jy rfl (bj (aI (i:=0) h rfl (lo rfl)) (bj (aI (i:=1) h rfl (lo rfl)) (bj (aI (i:=2) h rfl (lo rfl)) gC)))))) (fun _ _ _ _ _=>cF) (fun _ _ _ _ _=>(aG (pv 0))))
  (ah (dh (kn xA (aa (bB dJ (by rfl) ER bt_len (af (ae (pv 2)) ao))) (aa (xw En (by rfl))) (bT _))
  (aw uD)
  bf)
  (aw (aW (ja (ja (aT (ae (pv 0)) (aa aj)) (si (pv 1))) (ej (pv 2))))))))
theorem qb(Df:Def K mg "run_of" jb){Et:Addr}(FJ:Ct P w K mg base "explored" 3 (spF K bJ))(EI:Kw mg base "TooGreat" Et)(En:Gi mg "MOST_STATES" (12))(ER:mg "len" = none):CtX P w K mg base "run_of" 4 Et (spX K Et b6):=
 AR Df dZ (fun _ _ _ _ _ _=>u3 fun _=>rfl) fun f EF A outer s H E hr=>
  (sa (aF (i:=1) dZ.nd rfl (lo rfl) (a8 FJ hr.m (by rfl) (af (ae (pv 0)) ao)))
  (sa (i9 (i:=2) [none,none,none] ["marking","way","ahead"] dZ.nd rfl (lo rfl) rfl (cJ (dY (wg (pv 1)))) (fun _ _ _ _ _=>(have h:=(show List.Nodup (["marking","way","ahead"]:List Str) from by decide +kernel);(jy rfl (bj (aI (i:=0) h rfl (lo rfl)) (bj (aI (i:=1) h rfl (lo rfl)) (bj (aI (i:=2) h rfl (lo rfl)) gC)))))) (fun _ _ _ _ _=>cF) (fun _ _ _ _ _=>(aG (pv 0))))
  (CA (kn xA (aa (bB dJ (by rfl) ER bt_len (af (ae (pv 2)) ao))) (aa (xw En (by rfl))) (bT _)) (uT EI z6 rfl (by rfl) (af (aa (mm DU (by decide))) ao)))))
abbrev dN:Stmt:=top 12
theorem jM:FnScope ["_law_script","_law_k"] ["_law_script","_law_k"] (defScope dN):=fs
theorem jN(Df:Def K mg "_law_cell_at" dN)(ER:mg "len" = none):Ct P w K mg base "_law_cell_at" 1 (spF K aE):=
 eD Df jM (fun _ _ _ _ _ _=>x9 fun _ _=>rfl) fun f EF A outer s H E hr=>
  (ah (dh (kn (o9 hr.units0) (ae (pv 1)) (aa (bB dJ (by rfl) ER bt_len (af (ae (pv 0)) ao))) (bT _))
  (aw (aW (aT (ae (pv 0)) (ae (pv 1)))))
  bf)
  (aw (aW aj)))
abbrev fF:Stmt:=top 13
theorem eK:FnScope ["_law_cell","_law_k","_law_number"] ["_law_cell","_law_k"] (defScope fF):=fs
theorem lu(Df:Def K mg "_law_mixed" fF):Ct P w K mg base "_law_mixed" 1 (spF K aN):=
 eD Df eK (fun _ _ _ _ _ _=>x9 fun _ _=>rfl) fun f EF A outer s H E hr=>
  (ah (aF (i:=2) eK.nd rfl (lo rfl) (aJ aO (aa (aJ cC (ae (pv 0)) (aa aj))) (aa (aJ fe (aa aj) (aa (aJ aO (ae (pv 1)) (aa aj)))))))
  (ah (aF (i:=2) eK.nd rfl (lo rfl) (aJ cC (aa (aJ aO (aa (aJ fe (ae (pv 2)) (ae (pv 2)))) (aa (aJ fe (aa aj) (ae (pv 1)))))) (aa aj)))
  (aw (aW (aJ cC (aa (aJ aO (aa (aJ aO (aa (aJ fe (ae (pv 2)) (ae (pv 2)))) (aa (aJ fe (aa aj) (ae (pv 1)))))) (aa aj))) (aa aj))))))
abbrev fG:Stmt:=top 14
theorem aU:FnScope ["_law_cell","_law_letters","_law_base","_law_width","_law_spot","_law_names_here","_law_k","_law_moved_on"] ["_law_cell"] (defScope fG):=fs
theorem lx(Df:Def K mg "_law_names" fG)(ES:Ct P w K mg base "_law_mixed" 1 (spF K aN))(EY:mg "range" = none)(E9:mg "sorted" = none):Ct P w K mg base "_law_names" 2 (spF K ck):=
 eD Df aU (fun _ _ _ _ _ _=>u3 fun _=>rfl) fun f EF A outer s H E hr=>
  (ah (aF (i:=1) aU.nd rfl (lo rfl) (mm DY (by decide)))
  (ah (i9 (i:=2) [none,some 0] ["_law_j","_law_cell"] aU.nd rfl (lo rfl) rfl (cJ (gR (by rfl) EY (aa aj))) (fun _ _ _ _ _=>(aI (i:=0) (show List.Nodup (["_law_j","_law_cell"]:List Str) from by decide +kernel) rfl (lo rfl))) (fun _ _ _ _ _=>cF) (fun _ _ _ _ _=>(aJ cC (aa (a8 ES hr.m (by rfl) (af (ae (pv 1)) (af (ae (pv 0)) ao)))) (aa aj))))
  (ah (aF (i:=3) aU.nd rfl (lo rfl) (aJ aO (aa aj) (aa (aJ cC (ae (pv 0)) (aa aj)))))
  (ah (aF (i:=4) aU.nd rfl (lo rfl) (aJ cC (aa (aJ dI (ae (pv 0)) (aa aj))) (ae (pv 3))))
  (ah (aF (i:=5) aU.nd rfl (lo rfl) (gS aQ))
  (ah (eY Pz rfl (gR (by rfl) EY (aa aj)) (aI (i:=6) aU.nd rfl (lo rfl))
  (ah (aF (i:=7) aU.nd rfl (lo rfl) (rR (ae (pv 2)) rD (gD (aG (pv 3)))))
  (ah (xP (pv 7) (aG (pv 4)) (aJ cC (aa (aJ aO (aa (aT (ae (pv 7)) (ae (pv 4)))) (ae (pv 6)))) (aa aj)))
  (ah (dh (cu (rK hr.units) (aa (aJ cC (aa (aJ dI (ae (pv 0)) (aa aj))) (aa aj))) (aa aj) (bT _))
  (aw (aF (i:=7) aU.nd rfl (lo rfl) (rR (ae (pv 2)) rD (gD (aJ aO (ae (pv 6)) (aa aj))))))
  bf)
  (aw (cE (bZ (pv 5) (Ax PySem.F.slot_str_join PySem.F.type_str_join xR (aa (mm DX (by decide))) (af (aa (de [none,some 1] ["_law_j","_law_letters"] rfl (iF (lj (pv 7)) (iF (cJ (mr (aG (pv 7)))) (cJ (mw (aG (pv 7)))))) (fun _ _ _ _ _=>(aI (i:=0) (show List.Nodup (["_law_j","_law_letters"]:List Str) from by decide +kernel) rfl (lo rfl))) (fun _ _ _ _ _=>cF) (fun _ _ _ _ _=>(aT (ae (pv 1)) (ae (pv 0)))))) ao)))))))))
  (ah (dh (cu (AJ hr.u65) (aa (mm DV (by decide))) (ae (pv 5)) (by with_unfolding_all rfl))
  (aw (i9 (i:=5) [none] ["_law_name"] aU.nd rfl (lo rfl) rfl (iF (lj (pv 5)) (iF (cJ (mr (aG (pv 5)))) (cJ (mw (aG (pv 5)))))) (fun _ _ _ _ _=>(aI (i:=0) (show List.Nodup (["_law_name"]:List Str) from by decide +kernel) rfl (lo rfl))) (fun _ _ _ _ _=>cF) (fun _ _ _ _ _=>(aJ aO (aa (mm DW (by decide))) (ae (pv 0))))))
  bf)
  (aw (aW (bB (mF rfl) (by rfl) E9 mH (af (ae (pv 5)) ao)))))))))))
abbrev gH:Stmt:=top 15
theorem cO:FnScope ["_law_net","_law_marking","_law_move","_law_k","_law_after","_law_beads","_law_place_here"] ["_law_net","_law_marking","_law_move"] (defScope gH):=fs
theorem mS(Df:Def K mg "_law_step" gH)(Em:mg "tuple" = none)(Gf:mg "zip" = none):Ct P w K mg base "_law_step" 1 (spF K b8):=
 eD Df cO (fun _ _ _ _ _ _=>AV fun _ _ _=>rfl) fun f EF A outer s H E hr=>
  (ah (aF (i:=3) cO.nd rfl (lo rfl) (rT QL Rb gG (aa (aT (ae (pv 0)) (aa aj))) (af (ae (pv 2)) ao)))
  (ah (aF (i:=4) cO.nd rfl (lo rfl) (gS aQ))
  (ah (eY Pz rfl (nS (by rfl) Gf (af (aa (aG (pv 1))) (af (aa (aT (ae (pv 0)) (aa aj))) ao))) (jy rfl (bj (aI (i:=5) cO.nd rfl (lo rfl)) (bj (aI (i:=6) cO.nd rfl (lo rfl)) gC)))
  (ah (dh (kn (o9 hr.units0) (ae (pv 5)) (aa (aT (aa (aT (ae (pv 6)) (aa aj))) (ae (pv 3)))) (bT _))
  (aw (aW gj))
  bf)
  (aw (cE (bZ (pv 4) (aJ aO (aa (aJ mx (ae (pv 5)) (aa (aT (aa (aT (ae (pv 6)) (aa aj))) (ae (pv 3)))))) (aa (aT (aa (aT (ae (pv 6)) (aa aj))) (ae (pv 3))))))))))
  (aw (aW (bY c9 (by rfl) Em bO (af (ae (pv 4)) ao)))))))
abbrev il:Stmt:=top 16
theorem cb:FnScope ["_law_net","_law_most","_law_markings","_law_arcs","_law_done","_law_move","_law_after"] ["_law_net","_law_most"] (defScope il):=fs
theorem oi(Df:Def K mg "_law_run" il)(Hi:Ct P w K mg base "_law_step" 1 (spF K b8))(ER:mg "len" = none)(E9:mg "sorted" = none)(Em:mg "tuple" = none):Ct P w K mg base "_law_run" 2 (spF K a9):=
 eD Df cb (fun _ _ _ _ _ _=>x9 fun _ _=>rfl) fun f EF A outer s H E hr=>
  (ah (aF (i:=2) cb.nd rfl (lo rfl) (gS (ax (bY c9 (by rfl) Em bO (af (aa (de [none,none,none] ["_law_beads","_law_takes","_law_gives"] rfl (cJ (dY (aT (ae (pv 0)) (aa aj)))) (fun _ _ _ _ _=>(have h:=(show List.Nodup (["_law_beads","_law_takes","_law_gives"]:List Str) from by decide +kernel);(jy rfl (bj (aI (i:=0) h rfl (lo rfl)) (bj (aI (i:=1) h rfl (lo rfl)) (bj (aI (i:=2) h rfl (lo rfl)) gC)))))) (fun _ _ _ _ _=>cF) (fun _ _ _ _ _=>(aG (pv 0))))) ao)) aQ)))
  (ah (aF (i:=3) cb.nd rfl (lo rfl) (gS aQ))
  (ah (aF (i:=4) cb.nd rfl (lo rfl) aj)
  (ah (oX 100000 Pz (kn (o9 hr.units0) (ae (pv 4)) (aa (bB dJ (by rfl) ER bt_len (af (ae (pv 2)) ao))) (bT _))
  (ah (eY Pz rfl (dY (aT (ae (pv 0)) (aa aj))) (aI (i:=5) cb.nd rfl (lo rfl))
  (ah (aF (i:=6) cb.nd rfl (lo rfl) (a8 Hi hr.m (by rfl) (af (ae (pv 0)) (af (aa (aT (ae (pv 2)) (ae (pv 4)))) (af (ae (pv 5)) ao)))))
  (aw (dh (cu vZ (ae (pv 6)) (aa gj) (bT _))
  (ah (dh (cu (rU hr.u65) (ae (pv 6)) (ae (pv 2)) (by with_unfolding_all rfl))
  (ah (dh (cu (rK hr.units) (aa (bB dJ (by rfl) ER bt_len (af (ae (pv 2)) ao))) (ae (pv 1)) (bT _))
  (aw (aW gj))
  bf)
  (aw (cE (bZ (pv 2) (aG (pv 6))))))
  bf)
  (aw (cE (bZ (pv 3) (c6 (ax (aG (pv 4)) (ax (aG (pv 5)) (ax (AM Se PySem.F.type_list_index (nX hr.u65) (ae (pv 2)) (af (ae (pv 6)) ao)) aQ))))))))
  bf))))
  (aw (aF (i:=4) cb.nd rfl (lo rfl) (aJ aO (ae (pv 4)) (aa aj))))))
  (aw (aW (ja (bB (mF rfl) (by rfl) E9 mH (af (ae (pv 3)) ao)) (ej (pv 2)))))))))
abbrev gI:Stmt:=top 17
theorem dG:FnScope ["_law_script","_law_first","_law_k","_law_number","_law_cell"] ["_law_script","_law_first","_law_k"] (defScope gI):=fs
theorem mT(Df:Def K mg "_law_fold" gI)(ES:Ct P w K mg base "_law_mixed" 1 (spF K aN)):Ct P w K mg base "_law_fold" 2 (spF K cG):=
 eD Df dG (fun _ _ _ _ _ _=>AV fun _ _ _=>rfl) fun f EF A outer s H E hr=>
  (ah (aF (i:=3) dG.nd rfl (lo rfl) (aJ aO (aa aj) (ae (pv 2))))
  (ah (eY Pz rfl (dY (AQ (ae (pv 0)) (gD (aJ aO (ae (pv 1)) (ae (pv 2)))) (gD (aJ aO (ae (pv 1)) (aa aj))) (gD aj))) (aI (i:=4) dG.nd rfl (lo rfl))
  (aw (aF (i:=3) dG.nd rfl (lo rfl) (a8 ES hr.m (by rfl) (af (aa (aJ aO (ae (pv 4)) (ae (pv 3)))) (af (ae (pv 2)) ao))))))
  (aw (aW (ej (pv 3))))))
abbrev fH:Stmt:=top 18
theorem bG:FnScope ["_law_number","_law_count","_law_takes","_law_gives","_law_j","_law_mixed_here","_law_step_here","_law_loop"] ["_law_number","_law_count"] (defScope fH):=fs
theorem ly(Df:Def K mg "_law_place" fH)(ES:Ct P w K mg base "_law_mixed" 1 (spF K aN))(Hj:mg "max" = none)(EY:mg "range" = none):Ct P w K mg base "_law_place" 2 (spF K cm):=
 eD Df bG (fun _ _ _ _ _ _=>x9 fun _ _=>rfl) fun f EF A outer s H E hr=>
  (ah (aF (i:=2) bG.nd rfl (lo rfl) (gS aQ))
  (ah (aF (i:=3) bG.nd rfl (lo rfl) (gS aQ))
  (ah (eY Pz rfl (gR (by rfl) EY (ae (pv 1))) (aI (i:=4) bG.nd rfl (lo rfl))
  (ah (aF (i:=5) bG.nd rfl (lo rfl) (a8 ES hr.m (by rfl) (af (ae (pv 0)) (af (ae (pv 4)) ao))))
  (ah (aF (i:=6) bG.nd rfl (lo rfl) (aJ mx (aa (aJ cC (ae (pv 5)) (aa aj))) (aa aj)))
  (ah (aF (i:=7) bG.nd rfl (lo rfl) (aJ dI (aa (aJ cC (aa (aJ dI (ae (pv 5)) (aa aj))) (aa aj))) (aa aj)))
  (ah (cE (bZ (pv 2) (aJ aO (aa (bB (v7 rfl) (by rfl) Hj wc (af (aa aj) (af (aa (aJ mx (aa aj) (ae (pv 6)))) ao)))) (ae (pv 7)))))
  (aw (cE (bZ (pv 3) (aJ aO (aa (bB (v7 rfl) (by rfl) Hj wc (af (aa aj) (af (ae (pv 6)) ao)))) (ae (pv 7)))))))))))
  (aw (aW (xV (aJ cC (aa (aJ dI (ae (pv 0)) (aa aj))) (aa aj)) (ej (pv 2)) (ej (pv 3))))))))
abbrev eL:Stmt:=top 19
theorem bK:FnScope ["_law_place_here","_law_cell","_law_factor","_law_beads","_law_takes","_law_gives"] ["_law_place_here","_law_cell"] (defScope eL):=fs
theorem j9(Df:Def K mg "_law_scaled" eL)(Em:mg "tuple" = none):Ct P w K mg base "_law_scaled" 1 (spF K bD):=
 eD Df bK (fun _ _ _ _ _ _=>x9 fun _ _=>rfl) fun f EF A outer s H E hr=>
  (ah (aF (i:=2) bK.nd rfl (lo rfl) (aJ aO (aa aj) (aa (aJ cC (ae (pv 1)) (aa (aJ Ai (aa aj) (aa aj)))))))
  (ah (Az (aG (pv 0)) (jy rfl (bj (aI (i:=3) bK.nd rfl (lo rfl)) (bj (aI (i:=4) bK.nd rfl (lo rfl)) (bj (aI (i:=5) bK.nd rfl (lo rfl)) gC)))))
  (ah (aF (i:=4) bK.nd rfl (lo rfl) (bY c9 (by rfl) Em bO (af (aa (de [none,some 2] ["_law_take","_law_factor"] rfl (iF (lj (pv 4)) (iF (cJ (mr (aG (pv 4)))) (cJ (mw (aG (pv 4)))))) (fun _ _ _ _ _=>(aI (i:=0) (show List.Nodup (["_law_take","_law_factor"]:List Str) from by decide +kernel) rfl (lo rfl))) (fun _ _ _ _ _=>cF) (fun _ _ _ _ _=>(aJ fe (ae (pv 1)) (ae (pv 0)))))) ao)))
  (aw (aW (c6 (ax (aJ aO (aa (aJ fe (ae (pv 2)) (ae (pv 3)))) (aa (aJ cC (aa (aJ dI (ae (pv 1)) (aa aj))) (ae (pv 2))))) (ax (aG (pv 4)) (ax (bY c9 (by rfl) Em bO (af (aa (de [none,some 2] ["_law_give","_law_factor"] rfl (iF (lj (pv 5)) (iF (cJ (mr (aG (pv 5)))) (cJ (mw (aG (pv 5)))))) (fun _ _ _ _ _=>(aI (i:=0) (show List.Nodup (["_law_give","_law_factor"]:List Str) from by decide +kernel) rfl (lo rfl))) (fun _ _ _ _ _=>cF) (fun _ _ _ _ _=>(aJ fe (ae (pv 1)) (ae (pv 0)))))) ao)) aQ)))))))))
abbrev eQ:Stmt:=top 20
theorem bL:FnScope ["_law_script","_law_first","_law_count","_law_places_here","_law_k","_law_number","_law_place_here","_law_mate"] ["_law_script","_law_first","_law_count"] (defScope eQ):=fs
theorem ka(Df:Def K mg "_law_places" eQ)(EE:Ct P w K mg base "_law_cell_at" 1 (spF K aE))(Hk:Ct P w K mg base "_law_fold" 2 (spF K cG))(GW:Ct P w K mg base "_law_place" 2 (spF K cm))(FC:Ct P w K mg base "_law_scaled" 1 (spF K bD))(EY:mg "range" = none):Ct P w K mg base "_law_places" 3 (spF K bE):=
 eD Df bL (fun _ _ _ _ _ _=>AV fun _ _ _=>rfl) fun f EF A outer s H E hr=>
  (ah (aF (i:=3) bL.nd rfl (lo rfl) (gS aQ))
  (ah (eY Pz rfl (gR (by rfl) EY (aa (aJ aO (aa aj) (aa (aJ cC (aa (aJ dI (aa (a8 EE hr.m (by rfl) (af (ae (pv 0)) (af (aa aj) ao)))) (aa aj))) (aa aj)))))) (aI (i:=4) bL.nd rfl (lo rfl))
  (ah (aF (i:=5) bL.nd rfl (lo rfl) (a8 Hk hr.m (by rfl) (af (ae (pv 0)) (af (ae (pv 1)) (af (ae (pv 4)) ao)))))
  (ah (aF (i:=6) bL.nd rfl (lo rfl) (a8 GW hr.m (by rfl) (af (ae (pv 5)) (af (ae (pv 2)) ao))))
  (ah (cE (bZ (pv 3) (a8 FC hr.m (by rfl) (af (ae (pv 6)) (af (aa (a8 EE hr.m (by rfl) (af (ae (pv 0)) (af (aa (aJ aO (ae (pv 1)) (ae (pv 4)))) ao)))) ao)))))
  (aw (dh (kn xA (aa (aJ cC (aa (aJ dI (ae (pv 5)) (aa aj))) (aa aj))) (aa aj) (bT _))
  (ah (aF (i:=7) bL.nd rfl (lo rfl) (c6 (ax (aJ cC (aa (aJ dI (ae (pv 5)) (aa aj))) (aa aj)) (ax (aT (aa (aG (pv 6))) (aa aj)) (ax (aT (aa (aG (pv 6))) (aa aj)) aQ)))))
  (aw (cE (bZ (pv 3) (a8 FC hr.m (by rfl) (af (ae (pv 7)) (af (aa (a8 EE hr.m (by rfl) (af (ae (pv 0)) (af (aa (aJ aO (aa (aJ aO (ae (pv 1)) (aa aj))) (ae (pv 4)))) ao)))) ao)))))))
  bf))))))
  (aw (aW (ej (pv 3))))))
abbrev fI:Stmt:=top 21
theorem cz:FnScope ["_law_script","_law_names_here","_law_cell","_law_count","_law_start"] ["_law_script"] (defScope fI):=fs
theorem lA(Df:Def K mg "_law_moves" fI)(EE:Ct P w K mg base "_law_cell_at" 1 (spF K aE))(GX:Ct P w K mg base "_law_names" 2 (spF K ck))(Em:mg "tuple" = none):Ct P w K mg base "_law_moves" 3 (spF K cn):=
 eD Df cz (fun _ _ _ _ _ _=>u3 fun _=>rfl) fun f EF A outer s H E hr=>
  (ah (aF (i:=1) cz.nd rfl (lo rfl) (a8 GX hr.m (by rfl) (af (aa (a8 EE hr.m (by rfl) (af (ae (pv 0)) (af (aa aj) ao)))) ao)))
  (ah (aF (i:=2) cz.nd rfl (lo rfl) (a8 EE hr.m (by rfl) (af (ae (pv 0)) (af (aa aj) ao))))
  (ah (aF (i:=3) cz.nd rfl (lo rfl) (aJ aO (aa aj) (aa (aJ cC (ae (pv 2)) (aa aj)))))
  (ah (aF (i:=4) cz.nd rfl (lo rfl) (aJ cC (aa (aJ dI (ae (pv 2)) (aa aj))) (aa (aJ mx (aa aj) (ae (pv 3))))))
  (aw (aW (bY c9 (by rfl) Em bO (af (aa (rR (ae (pv 1)) (gD (aG (pv 4))) (gD (aJ aO (ae (pv 4)) (ae (pv 3)))))) ao))))))))
abbrev fJ:Stmt:=top 22
theorem lB:FnScope ["_law_found"] ["_law_found"] (defScope fJ):=fs
theorem lC(Df:Def K mg "_law_whole" fJ)(GY:mg "bool" = none)(HW:mg "int" = none)(Ei:mg "isinstance" = none):Ct P w K mg base "_law_whole" 1 (spF K m__law_whole):=
 eD Df lB (fun _ _ _ _ _ _=>u3 fun _=>rfl) fun f EF A outer s H E hr=>
  (aw (aW (rm (j7 (T:="int") (by decide) (ae (pv 0)) (by rfl) Ei (by rfl) HW zN) (rj (Ae (j7 (T:="bool") (by decide) (ae (pv 0)) (by rfl) Ei (by rfl) GY w4))))))
abbrev dq:Stmt:=top 23
theorem cW:FnScope ["_law_found","_law_chart","_law_name","_law_arc"] ["_law_found","_law_chart"] (defScope dq):=fs
theorem iW(Df:Def K mg "_law_is_chart" dq)(EZ:Ct P w K mg base "_law_whole" 1 (spF K m__law_whole))(Ei:mg "isinstance" = none)(ER:mg "len" = none)(Fq:mg "list" = none)(HX:mg "str" = none)(Em:mg "tuple" = none):Ct P w K mg base "_law_is_chart" 2 (spF K bg):=
 eD Df cW (fun _ _ _ _ _ _=>x9 fun _ _=>rfl) fun f EF A outer s H E hr=>
  (ah (dh (QW.qt (kY (dB (dA (j7 (T:="tuple") (by decide) (ae (pv 0)) (by rfl) Ei (by rfl) Em bO))) (kY (cu (p7 hr.units) (aa (bB dJ (by rfl) ER bt_len (af (ae (pv 0)) ao))) (aa aj) (bT _)) (ko (dB (dA (j7 (T:="tuple") (by decide) (aa (aT (ae (pv 0)) (aa aj))) (by rfl) Ei (by rfl) Em bO)))))))
  (aw (aW gy))
  bf)
  (ah (dh (QW.qt (kY (dB (dA (j7 (T:="list") (by decide) (aa (aT (ae (pv 0)) (aa aj))) (by rfl) Ei (by rfl) Fq nI))) (ko (cu (p7 hr.units) (ae (pv 0)) (ae (pv 1)) (bT _)))))
  (aw (aW gy))
  bf)
  (ah (eY Pz rfl (dY (aT (ae (pv 0)) (aa aj))) (aI (i:=2) cW.nd rfl (lo rfl))
  (aw (dh (dB (dA (j7 (T:="str") (by decide) (ae (pv 2)) (by rfl) Ei (by rfl) HX zM)))
  (aw (aW gy))
  bf)))
  (ah (eY Pz rfl (dY (aT (ae (pv 0)) (aa aj))) (aI (i:=3) cW.nd rfl (lo rfl))
  (aw (dh (QW.qt (kY (dB (dA (j7 (T:="tuple") (by decide) (ae (pv 3)) (by rfl) Ei (by rfl) Em bO))) (kY (dB (dA (a8 EZ hr.m (by rfl) (af (aa (aT (ae (pv 3)) (aa aj))) ao)))) (ko (dB (dA (a8 EZ hr.m (by rfl) (af (aa (aT (ae (pv 3)) (aa aj))) ao))))))))
  (aw (aW gy))
  bf)))
  (aw (aW gy))))))
abbrev cj:Stmt:=top 24
theorem bV:FnScope ["_law_found","_law_due","_law_marking","_law_beads"] ["_law_found","_law_due"] (defScope cj):=fs
theorem fZ(Df:Def K mg "_law_are_markings" cj)(EZ:Ct P w K mg base "_law_whole" 1 (spF K m__law_whole))(Ei:mg "isinstance" = none)(Fq:mg "list" = none)(Em:mg "tuple" = none):Ct P w K mg base "_law_are_markings" 2 (spF K aR):=
 eD Df bV (fun _ _ _ _ _ _=>x9 fun _ _=>rfl) fun f EF A outer s H E hr=>
  (ah (dh (QW.qt (kY (dB (dA (j7 (T:="list") (by decide) (ae (pv 0)) (by rfl) Ei (by rfl) Fq nI))) (ko (cu (p7 hr.units) (ae (pv 0)) (ae (pv 1)) (bT _)))))
  (aw (aW gy))
  bf)
  (ah (eY Pz rfl (dY (aG (pv 0))) (aI (i:=2) bV.nd rfl (lo rfl))
  (ah (dh (dB (dA (j7 (T:="tuple") (by decide) (ae (pv 2)) (by rfl) Ei (by rfl) Em bO)))
  (aw (aW gy))
  bf)
  (aw (eY Pz rfl (dY (aG (pv 2))) (aI (i:=3) bV.nd rfl (lo rfl))
  (aw (dh (dB (dA (a8 EZ hr.m (by rfl) (af (ae (pv 3)) ao))))
  (aw (aW gy))
  bf))))))
  (aw (aW gy))))
abbrev gJ:Stmt:=top 25
theorem cP:FnScope ["_law_net","_law_found","_law_refused"] ["_law_net"] (defScope gJ):=fs
theorem mU(Df:Def K mg "_law_told" gJ){Et:Addr}(Iq:CtX P w K mg base "run_of" 4 Et (spX K Et b6))(Fs:Ct P w K mg base "run_of" 4 (spF K cv))(EI:Kw mg base "TooGreat" Et):Ct P w K mg base "_law_told" 5 (spF K b9):=
 eD Df cP (fun _ _ _ _ _ _=>u3 fun _=>rfl) fun f EF A outer s H E hr=>
  (ah (aF (i:=1) cP.nd rfl (lo rfl) gj)
  (ah (aF (i:=2) cP.nd rfl (lo rfl) gy)
  (ah (AS EI (by rfl) (aw (aF (i:=1) cP.nd rfl (lo rfl) (a8 Fs hr.m (by rfl) (af (ae (pv 0)) ao)))) (xY (xX Iq hr.m (by rfl) (af (ae (pv 0)) ao))) (fun _=>(aw (aF (i:=2) cP.nd rfl (lo rfl) gy))))
  (aw (aW (ja (ej (pv 1)) (ej (pv 2))))))))
abbrev dr:Stmt:=top 26
theorem cX:FnScope ["_law_handed","_law_ones","_law_due"] ["_law_handed"] (defScope dr):=fs
theorem iX(Df:Def K mg "_law_one_more" dr)(FK:Ct P w K mg base "_law_run" 2 (spF K a9))(Fs:Ct P w K mg base "run_of" 4 (spF K cv))(Em:mg "tuple" = none):Ct P w K mg base "_law_one_more" 5 (spM K (.t [.f,.l .f]) bh):=
 AK Df cX (fun _ _ _ _ _ _=>u3 fun _=>rfl) fun f EF A outer s H E hr=>
  (ah (aF (i:=1) cX.nd rfl (lo rfl) (lp (bY c9 (by rfl) Em bO (af (aa (de [none] ["_law_move"] rfl (cJ (dY (aT (ae (pv 0)) (aa aj)))) (fun _ _ _ _ _=>(aI (i:=0) (show List.Nodup (["_law_move"]:List Str) from by decide +kernel) rfl (lo rfl))) (fun _ _ _ _ _=>cF) (fun _ _ _ _ _=>aj))) ao))))
  (ah (cE (x6 (pv 0) (lp (c6 (ax aj (ax (aG (pv 1)) (ax (bY c9 (by rfl) Em bO (af (aa (de [none] ["_law_move"] rfl (cJ (dY (aT (ae (pv 0)) (aa aj)))) (fun _ _ _ _ _=>(aI (i:=0) (show List.Nodup (["_law_move"]:List Str) from by decide +kernel) rfl (lo rfl))) (fun _ _ _ _ _=>cF) (fun _ _ _ _ _=>aj))) ao)) aQ)))))))
  (ah (aF (i:=2) cX.nd rfl (lo rfl) (a8 FK hr.m (by rfl) (af (ae (pv 0)) (af (aa aj) ao))))
  (aw (xQ (i:=0) (lp (kX (rK hr.units) (aa (a8 Fs hr.m (by rfl) (af (ae (pv 0)) ao))) (aa (c6 (ax (c6 (ax (aT (ae (pv 0)) (aa aj)) (ax (aT (ae (pv 2)) (aa aj)) aQ))) (ax (aT (ae (pv 2)) (aa aj)) aQ)))) (bT _))))))))
abbrev lD:Stmt:=top 27
theorem kB:FnScope ["_law_script","_law_moves_here","_law_net","_law_handed","_law_found","_law_refused","_law_due"] ["_law_script"] (defScope lD):=fs
theorem AW{f:Addr}{fd:FuncData}(F:Fun K "law" "law" lD f fd)(Fy:Ct P w K mg base "_law_are_markings" 2 (spF K aR))(Gr:Ct P w K mg base "_law_is_chart" 2 (spF K bg))(GZ:Ct P w K mg base "_law_moves" 3 (spF K cn))(Fh:Ct P w K mg base "_law_one_more" 5 (spM K (.t [.f,.l .f]) bh))(GN:Ct P w K mg base "_law_places" 3 (spF K bE))(FK:Ct P w K mg base "_law_run" 2 (spF K a9))(Gg:Ct P w K mg base "_law_told" 5 (spF K b9))(Fs:Ct P w K mg base "run_of" 4 (spF K cv))(Ei:mg "isinstance" = none)(ER:mg "len" = none)(Fq:mg "list" = none)(Em:mg "tuple" = none):FnOk P w K mg base Iw 6 f fd ["_law_script"] (spF K m_law):=
 fnok_of F kB fun EF A outer s H E hr=>
  (ah (aF (i:=1) kB.nd rfl (lo rfl) (a8 GZ hr.m (by rfl) (af (ae (pv 0)) ao)))
  (ah (aF (i:=2) kB.nd rfl (lo rfl) (c6 (ax (aG (pv 1)) (ax (a8 GN hr.m (by rfl) (af (ae (pv 0)) (af (aa aj) (af (aa (bB dJ (by rfl) ER bt_len (af (ae (pv 1)) ao))) ao)))) aQ))))
  (ah (aF (i:=3) kB.nd rfl (lo rfl) (rW (aG (pv 1)) (bY xC (by rfl) Fq nI (af (aa (aT (ae (pv 2)) (aa aj))) ao))))
  (ah (x3 (i:=4) (j:=5) rfl kB.nd rfl rfl (lo rfl) (lo rfl) (a8 Gg hr.m (by rfl) (af (ae (pv 3)) ao)))
  (ah (aF (i:=6) kB.nd rfl (lo rfl) (a8 FK hr.m (by rfl) (af (ae (pv 2)) (af (aa aj) ao))))
  (ah (dh (QW.qt (kY (cu (p7 hr.units) (ae (pv 3)) (ae (pv 2)) (bT _)) (ko (cu (p7 hr.units) (ae (pv 5)) (aa (kX Ap (ae (pv 6)) (aa gj) (bT _))) (bT _)))))
  (aw (aW gy))
  bf)
  (ah (dh (cu Ap (ae (pv 6)) (aa gj) (bT _))
  (aw (aW (rm (kX (rK hr.units) (aa (a8 Gg hr.m (by rfl) (af (ae (pv 3)) ao))) (aa (c6 (ax gj (ax gy aQ)))) (bT _)) (rj (so Fh hr.m (by rfl) (pv 3))))))
  bf)
  (ah (dh (sf (QW.qt (kY (dB (dA (j7 (T:="tuple") (by decide) (ae (pv 4)) (by rfl) Ei (by rfl) Em bO))) (kY (cu (p7 hr.units) (aa (bB dJ (by rfl) ER bt_len (af (ae (pv 4)) ao))) (aa aj) (bT _)) (ko (dB (dA (a8 Gr hr.m (by rfl) (af (aa (aT (ae (pv 4)) (aa aj))) (af (aa (c6 (ax (aG (pv 1)) (ax (aT (ae (pv 6)) (aa aj)) aQ)))) ao))))))))))
  (aw (aW gy))
  bf)
  (ah (dh (sf (dB (dA (a8 Fy hr.m (by rfl) (af (aa (aT (ae (pv 4)) (aa aj))) (af (aa (aT (ae (pv 6)) (aa aj))) ao))))))
  (aw (aW gy))
  bf)
  (ah (cE (x4 (pv 4)))
  (ah (cE (x5 (pv 4)))
  (aw (aW (rm (lp (kX (rK hr.units) (aa (a8 Fs hr.m (by rfl) (af (ae (pv 2)) ao))) (aa (c6 (ax (c6 (ax (aG (pv 1)) (ax (aT (ae (pv 6)) (aa aj)) aQ))) (ax (aT (ae (pv 6)) (aa aj)) aQ)))) (bT _))) (rj (so Fh hr.m (by rfl) (pv 3)))))))))))))))))
end
end LW
namespace PV
open PySem L2 NX
class Cont (α β:Type) where
 run:α->Res β
def Res.bnd{α β:Type}[f:Cont α β](x:Res α):Res β:=x.bind f.run
theorem Fv{α β:Type}(a:α)(f:α->Res β):Res.bnd (Res.ok a) (f:=⟨f⟩)=f a:=id rfl
section
variable(env:PV.Env)(i n:Nat)(d:D)(f g:FX)(c c':FT)(fo Lx Mn:FO)(fs:Fn)(fd:FDs)(s t:FS)(op Jg:D->D->Res R)(F:List D->Res R)(a:FG)(as:Jw)(fi fj:FI)(fp Ej:FP)(T:String)
theorem KP:aD d env=.ok ((.f,d),env):=id rfl
theorem HY:aV i env=match env[i]? with|some (some r)=>.ok ((.f,r.2),env.set i (some (fz r.1,r.2)))|_=>.bad:=id rfl
theorem Mo:fz .f=.f:=id rfl
theorem Mp(c:O):fz (.l c)=.f:=id rfl
theorem Mq(cs:List O):fz (.t cs)=.f:=id rfl
theorem IX(p:Addr):vV (.pin p .d)=true:=id rfl
theorem JB:iP i env=match env[i]? with|some (some r)=>.ok (r,env.set i none)|_=>.bad:=id rfl
theorem KQ:aq f env=Res.bnd (f env) (f:=⟨fun p=>.ok (.val p.1.2,p.2)⟩):=id rfl
theorem KR:au i env=match env[i]? with|some (some _)=>.ok (.var i,env)|_=>.bad:=id rfl
theorem JC:aB env=.ok ([],env):=id rfl
theorem IY:ai fo fs env=Res.bnd (fo env) (f:=⟨fun p=>Res.bnd (fs p.2) (f:=⟨fun q=>.ok (p.1::q.1,q.2)⟩)⟩):=id rfl
theorem JD:cp env=.ok ([],env):=id rfl
theorem IZ:aH f fd env=Res.bnd (f env) (f:=⟨fun p=>Res.bnd (fd p.2) (f:=⟨fun q=>.ok (p.1.2::q.1,q.2)⟩)⟩):=id rfl
theorem KS:Ff env (.val d)=.ok d:=id rfl
theorem KU:Ff env (.var i)=match env[i]? with|some (some r)=>if vV r.1 then .ok r.2 else .bad|_=>.bad:=id rfl
theorem JE:p3 env (.val d)=.ok d:=id rfl
theorem JF:p3 env (.var i)=match env[i]? with|some (some r)=>.ok r.2|_=>.bad:=id rfl
theorem JG:ni env []=.ok []:=id rfl
theorem JH(o:Opd)(os:List Opd):ni env (o::os)=Res.bnd (Ff env o) (f:=⟨fun d=>Res.bnd (ni env os) (f:=⟨fun ds=>.ok (d::ds)⟩)⟩):=id rfl
theorem I0:jv env []=.ok []:=id rfl
theorem Ja(o:Opd)(os:List Opd):jv env (o::os)=Res.bnd (p3 env o) (f:=⟨fun d=>Res.bnd (jv env os) (f:=⟨fun ds=>.ok (d::ds)⟩)⟩):=id rfl
theorem JI:vV .f=true:=id rfl
theorem JJ:vV (.l .f)=true:=id rfl
theorem JK:vV .d=true:=id rfl
theorem KW:aA op fo Lx env=Res.bnd (fo env) (f:=⟨fun p=>Res.bnd (Lx p.2) (f:=⟨fun q=>Res.bnd (Ff q.2 p.1) (f:=⟨fun a=>Res.bnd (Ff q.2 q.1) (f:=⟨fun b=>Res.bnd (op a b) (f:=⟨fun r=>.ok (r,q.2)⟩)⟩)⟩)⟩)⟩):=id rfl
theorem JL:dv op fo Lx env=Res.bnd (fo env) (f:=⟨fun p=>Res.bnd (Lx p.2) (f:=⟨fun q=>Res.bnd (p3 q.2 p.1) (f:=⟨fun a=>Res.bnd (p3 q.2 q.1) (f:=⟨fun b=>Res.bnd (op a b) (f:=⟨fun r=>.ok (r,q.2)⟩)⟩)⟩)⟩)⟩):=id rfl
theorem Mr:E5 f env=Res.bnd (f env) (f:=⟨fun p=>match p.1.2 with | .bl k=>.ok (k,p.2)|_=>.bad⟩):=id rfl
theorem Ms:IL c c' env=Res.bnd (c env) (f:=⟨fun p=>if p.1 then .ok (true,p.2) else c' p.2⟩):=id rfl
theorem KY:nj c env=Res.bnd (c env) (f:=⟨fun p=>.ok (!p.1,p.2)⟩):=id rfl
theorem KZ:Ad f g env=Res.bnd (f env) (f:=⟨fun p=>match p.1.2 with | .bl true=>g p.2 | .bl false=>.ok ((.f,.bl false),p.2)|_=>.bad⟩):=id rfl
theorem K0:Cf f env=Res.bnd (f env) (f:=⟨fun p=>match p.1.2 with | .bl k=>.ok ((.f,.bl (!k)),p.2)|_=>.bad⟩):=id rfl
theorem Jb:mn op Jg fo Lx Mn env=Res.bnd (fo env) (f:=⟨fun p=>Res.bnd (Lx p.2) (f:=⟨fun q=>Res.bnd (Ff q.2 p.1) (f:=⟨fun a=>Res.bnd (Ff q.2 q.1) (f:=⟨fun b=>Res.bnd (op a b) (f:=⟨fun r=>match r with
 |(.f,.bl true)=>Res.bnd (Mn q.2) (f:=⟨fun t=>Res.bnd (Ff t.2 q.1) (f:=⟨fun b=>Res.bnd (Ff t.2 t.1) (f:=⟨fun c=>Res.bnd (Jg b c) (f:=⟨fun r=>.ok (r,t.2)⟩)⟩)⟩)⟩)
 |(.f,.bl false)=>.ok ((.f,.bl false),q.2)
 |_=>.bad⟩)⟩)⟩)⟩)⟩):=id rfl
theorem JM:bA F fs env=Res.bnd (fs env) (f:=⟨fun p=>Res.bnd (ni p.2 p.1) (f:=⟨fun ds=>Res.bnd (F ds) (f:=⟨fun r=>.ok (r,p.2)⟩)⟩)⟩):=id rfl
theorem K1:eB F fs env=Res.bnd (fs env) (f:=⟨fun p=>Res.bnd (jv p.2 p.1) (f:=⟨fun ds=>Res.bnd (F ds) (f:=⟨fun r=>.ok (r,if aZ r.1 r.2 then p.2 else p.2.map frz)⟩)⟩)⟩):=id rfl
theorem K2:j6 fd env=Res.bnd (fd env) (f:=⟨fun p=>if p.1.length<=1000 then .ok ((.f,.tup p.1),p.2) else .bad⟩):=id rfl
theorem K3:rB fd env=Res.bnd (fd env) (f:=⟨fun p=>if p.1.length<=1000 then .ok ((.l .f,.lst p.1),p.2) else .bad⟩):=id rfl
theorem JN:uH env=.ok (none,env):=id rfl
theorem JO:k8 f env=Res.bnd (f env) (f:=⟨fun p=>match p.1.2 with | .int i=>.ok (some i,p.2)|_=>.bad⟩):=id rfl
theorem K4:p6 i f env=if rE env i then(Res.bnd (f env) (f:=⟨fun(p:R×PV.Env)=>match p.2[i]? with
 |some (some (.l .f,.lst ds))=>if ds.length<sizeLine then .ok ((.f,.non),p.2.set i (some (.l .f,.lst (ds++[p.1.2])))) else .bad
 |_=>.bad⟩)) else .bad:=id rfl
theorem JP:rE env i=match env[i]? with|some (some (_,.lst _))=>true|_=>false:=id rfl
theorem Mt:Iy T fo env=Res.bnd (fo env) (f:=⟨fun p=>Res.bnd (p3 p.2 p.1) (f:=⟨fun d=>.ok ((.f,.bl (mD T d)),p.2)⟩)⟩):=id rfl
theorem K5(gg:List Nat->List D->Res R):Cq gg fo fs env=Res.bnd (fo env) (f:=⟨fun p=>match Ff p.2 p.1 with
 | .ok (.str l)=>Res.bnd (fs p.2) (f:=⟨fun q=>Res.bnd (ni q.2 q.1) (f:=⟨fun ds=>Res.bnd (gg l ds) (f:=⟨fun r=>.ok (r,q.2)⟩)⟩)⟩)
 |_=>.bad⟩):=id rfl
theorem JQ(ix:List (Option Nat)):dw fi ix a c f env=Res.bnd (fi env) (f:=⟨fun p=>Res.bnd (c8 a c f p.1 (di ix p.2)) (f:=⟨fun ds=>if ds.length<=sizeLine then .ok ((.l .f,.lst ds),if flatDs ds then p.2 else p.2.map frz) else .bad⟩)⟩):=id rfl
theorem HE:di [] env=[]:=id rfl
theorem HF(ix:List (Option Nat)):di (none::ix) env=none::di ix env:=id rfl
theorem HG(ix:List (Option Nat)):di (some i::ix) env=(match env[i]? with|some (some r)=>some (O.f,r.2)|_=>none)::di ix env:=id rfl
theorem AX:fS env=.ok (true,env):=id rfl
theorem ve(ds:List D):c8 a c f (d::ds) env=Res.bnd (a d env) (f:=⟨fun e=>Res.bnd (c e) (f:=⟨fun p=>if p.1 then(Res.bnd (f p.2) (f:=⟨fun q=>Res.bnd (c8 a c f ds q.2) (f:=⟨fun rs=>.ok (q.1.2::rs)⟩)⟩)) else c8 a c f ds p.2⟩)⟩):=id rfl
theorem AY:Af f env=Res.bnd (f env) (f:=⟨fun p=>match p.1.2 with | .lst ds=>.ok (ds,p.2)|_=>.bad⟩):=id rfl
theorem sx:iQ f env=Res.bnd (f env) (f:=⟨fun p=>match p.1.2 with | .tup ds=>.ok (ds,p.2)|_=>.bad⟩):=id rfl
theorem sy:iR f env=Res.bnd (f env) (f:=⟨fun p=>match p.1.2 with | .str l=>.ok (l.map fun c=>.str [c],p.2)|_=>.bad⟩):=id rfl
theorem oj:FW fi fj env=match fi env with | .ok a=>.ok a|_=>fj env:=by
 unfold FW;cases fi env <;> rfl
theorem K6:FW (Af f) (FW (iQ f) (iR f)) env=Res.bnd (f env) (f:=⟨fun p=>match p.1.2 with
 | .lst ds=>.ok (ds,p.2)
 | .tup ds=>.ok (ds,p.2)
 | .str l=>.ok (l.map fun c=>.str [c],p.2)
 |_=>.bad⟩):=by
 rw[oj,oj,AY,sx,sy];cases f env with
 |ok p=>
  obtain⟨⟨o,d⟩,e⟩:=p;cases d <;> rfl
 |exc c=>rfl
 |bad=>rfl
theorem JR:FW (j8 i) (FW (iQ (aV i)) (iR (aV i))) env=match env[i]? with
 |some (some (_,.lst ds))=>.ok (ds,env)
 |some (some (o,.tup ds))=>.ok (ds,env.set i (some (fz o,.tup ds)))
 |some (some (o,.str l))=>.ok (l.map fun c=>.str [c],env.set i (some (fz o,.str l)))
 |_=>.bad:=by
 rw[oj,oj,sx,sy,HY];unfold j8;cases env[i]? with
 |none=>rfl
 |some r=>
  cases r with
  |none=>rfl
  |some r=>
   obtain⟨o,d⟩:=r;cases d <;> rfl
theorem Ir:ib fo env=Res.bnd (fo env) (f:=⟨fun p=>Res.bnd (Ff p.2 p.1) (f:=⟨fun d=>match d with
 | .int j=>if -4611686018427387904<=j/\j<4611686018427387904 then .ok ((List.range j.toNat).map fun(k:Nat)=>D.int (k:Int),p.2) else .bad
 |_=>.bad⟩)⟩):=id rfl
theorem lE(k1 k2:Bool):p5 k1 k2 fs env=Res.bnd (fs env) (f:=⟨fun p=>match p.1 with
 |[.val d1,.val d2]=>Res.bnd (ic k1 d1) (f:=⟨fun a=>Res.bnd (ic k2 d2) (f:=⟨fun b=>.ok ((a.zip b).map fun z=>D.tup [z.1,z.2],p.2)⟩)⟩)
 |_=>.bad⟩):=id rfl
theorem Fw:az i d env=if i<env.length then .ok (env.set i (some (.f,d))) else .bad:=id rfl
theorem JS:eC [] env=.ok env:=id rfl
theorem Fb(ds:List D):aK a as (d::ds) env=Res.bnd (a d env) (f:=⟨fun e=>as ds e⟩):=id rfl
theorem HI(ds:List D):kq n as (.tup ds) env=if ds.length=n then as ds env else .bad:=id rfl
theorem G0:sSeq s t env=Res.bnd (s env) (f:=⟨fun o=>match o with | .nx e=>t e|o=>.ok o⟩):=id rfl
theorem JT:cU env=.ok (.nx env):=id rfl
theorem K7:bW i f env=Res.bnd (f env) (f:=⟨fun p=>if i<p.2.length then .ok (.nx (p.2.set i (some p.1))) else .bad⟩):=id rfl
theorem HZ:eX f env=Res.bnd (f env) (f:=⟨fun p=>.ok (.nx p.2)⟩):=id rfl
theorem K8:d7 f env=Res.bnd (f env) (f:=⟨fun p=>.ok (.rt p.1)⟩):=id rfl
theorem Kc:FN c s t env=Res.bnd (c env) (f:=⟨fun p=>if p.1 then s p.2 else t p.2⟩):=id rfl
theorem Jc:oY fi a s env=Res.bnd (fi env) (f:=⟨fun p=>jX a s p.1 p.2⟩):=id rfl
theorem jO(ds:List D):jX a s (d::ds) env=Res.bnd (a d env) (f:=⟨fun e=>Res.bnd (s e) (f:=⟨fun o=>match o with
 | .nx e=>jX a s ds e
 | .ct e=>jX a s ds e
 | .bk e=>.ok (.nx e)
 | .rt r=>.ok (.rt r)⟩)⟩):=id rfl
theorem fU:cZ c s (n+1) env=Res.bnd (c env) (f:=⟨fun p=>if p.1 then(Res.bnd (s p.2) (f:=⟨fun o=>match o with
  | .nx e=>cZ c s n e
  | .ct e=>cZ c s n e
  | .bk e=>.ok (.nx e)
  | .rt r=>.ok (.rt r)⟩)) else .ok (.nx p.2)⟩):=id rfl
theorem K9:BI i f g env=Res.bnd (g env) (f:=⟨fun(p:R×PV.Env)=>Res.bnd (f p.2) (f:=⟨fun(q:R×PV.Env)=>match p.2[i]?,q.2[i]? with
 |some (some _),some (some (.d,.dct tk ks vs))=>if dS tk q.1.2&&decide (ks.length<sizeLine) then .ok (.nx (q.2.set i (some (.d,.dct tk (p9 ks vs q.1.2 p.1.2).1 (p9 ks vs q.1.2 p.1.2).2)))) else .bad
 |_,_=>.bad⟩)⟩):=id rfl
theorem La:BJ f a env=Res.bnd (f env) (f:=⟨fun p=>Res.bnd (a p.1.2 p.2) (f:=⟨fun e=>.ok (.nx e)⟩)⟩):=id rfl
theorem bu(ds:List D)(nn:Nat)(h:ds.length=n):fBody n nn s ds=Res.bnd (s (ds.map (fun d=>some (O.f,d))++List.replicate nn none)) (f:=⟨fun o=>match o with
 | .rt r=>.ok r
 | .nx _=>.ok (.f,.non)
 |_=>.bad⟩):=by
 unfold fBody;rw[OZ h];all_goals cases s (ds.map (fun d=>some (O.f,d))++List.replicate nn none) with
 |ok o=>cases o <;> rfl
 |exc c=>rfl
 |bad=>rfl
end
theorem line_le{n:Nat}(h:n<=16777216):n<=sizeLine:=by rw[line_eq];exact h
section
variable(a b:Int)(x y:List Nat)(p q:Bool)(ds es:List D)
theorem CB:HS (.int a) (.int b)=.ok (.f,.bl (a==b)):=by simp only[HS,plainD,Ek,P0,Rh]
theorem CC:HU (.int a) (.int b)=.ok (.f,.bl (!(a==b))):=by simp only[HU,plainD,Ek,P0,Rh]
theorem CD:HU (.bl p) (.bl q)=.ok (.f,.bl (!(p==q))):=by simp only[HU,plainD,Ek,P0,Rh]
theorem AZ:uG (.int a) (.int b)=.ok (.f,.int (a-b)):=id rfl
theorem ya:fY (.int a) (.int b)=if 0<b/\b<1073741824 then .ok (.f,.int (a / b)) else .bad:=id rfl
theorem A3:iy (.int a) (.int b)=if 0<b then .ok (.f,.int (a%b)) else .bad:=id rfl
theorem A4:yN (.int a) (.int b)=if 0<=b/\b<=1000000/\a.natAbs<2 ^ 64 then .ok (.f,.int (a ^ b.toNat)) else .bad:=id rfl
theorem CF:Iz (.int a) (.int b)=.ok (.f,.bl (decide (a<b))):=id rfl
theorem CG:L6 (.int a) (.int b)=.ok (.f,.bl (decide (a<=b))):=id rfl
theorem CI:KG (.int a) (.int b)=.ok (.f,.bl (decide (b<a))):=id rfl
theorem CJ:Ma (.int a) (.int b)=.ok (.f,.bl (decide (b<=a))):=id rfl
theorem A5:jY [.lst ds]=.ok (.f,.int ds.length):=id rfl
theorem A6:jY [.tup ds]=.ok (.f,.int ds.length):=id rfl
theorem yb:uJ [.lst ds]=.ok (.l .f,.lst ds):=id rfl
theorem vf:c7 [.lst ds]=.ok (.f,.tup ds):=id rfl
theorem CK:ED (.lst ds) (.int a)=match F4 ds a with|some d=>.ok (.f,d)|none=>.bad:=id rfl
theorem CL:ED (.tup ds) (.int a)=match F4 ds a with|some d=>.ok (.f,d)|none=>.bad:=id rfl
theorem CM:ED (.str x) (.int a)=match F4 x a with|some c=>.ok (.f,.str [c])|none=>.bad:=id rfl
theorem A7:maxD [.int a,.int b]=.ok (.f,.int (if a<b then b else a)):=id rfl
theorem wj(bs:List Bool):Al [.lst (bs.map D.bl)]=.ok (.f,.bl (bs.all id)):=by
 unfold Al;show(match my (bs.map D.bl) with|some bs=>_|none=>_)=_;rw[rF]
theorem Jl{α:Type}(d:α)(l:List α):F4 (d::l) 0=some d:=by
 have:=hV (xs:=d::l) (j:=0) (v:=d) rfl;simpa using this
theorem JU{α:Type}(c d:α)(l:List α):F4 (c::d::l) 1=some d:=by
 have:=hV (xs:=c::d::l) (j:=1) (v:=d) rfl;simpa using this
end
theorem Eu(l:List Int):flatDs (l.map D.int)=true:=by
 rw[bI,Qd,Pm];intro b _;rfl
theorem pq(l:List Bool):flatDs (l.map D.bl)=true:=by
 rw[bI,Qd,Pm];intro b _;rfl
theorem flat_strs(l:List (List Nat)):flatDs (l.map D.str)=true:=by
 rw[bI,Qd,Pm];intro b _;rfl
theorem cA(d:D):aZ .f d=cT d:=by rw[aZ]
theorem pw(ds:List D):aZ (.l .f) (.lst ds)=flatDs ds:=by rw[aZ,k4]
theorem jc(i:Int):cT (.int i)=true:=by rw[cT];all_goals simp
theorem gK(i:Bool):cT (.bl i)=true:=by rw[cT];all_goals simp
theorem cH(ds:List D):cT (.tup ds)=flatDs ds:=by rw[cT]
theorem fV(n:Nat)(l:List Int):plainDs n (l.map D.int)=true:=by
 induction l with
 |nil=>rfl
 |cons a l ih=>rw[Pb,plainDs,ih,plainD];all_goals simp
theorem fW(n:Nat)(l:List (List Nat)):plainDs n (l.map D.str)=true:=by
 induction l with
 |nil=>rfl
 |cons a l ih=>rw[Pb,plainDs,ih,plainD];all_goals simp
theorem eqDs_ints:∀a b:List Int,iz (a.map D.int) (b.map D.int)=(a==b)
 |[],[]=>by simp[iz]
 |[],_::_=>by simp[iz]
 |_::_,[]=>by simp[iz]
 |a::r,b::t=>by
  rw[Pb,Pb,iz,Ek,eqDs_ints r t,Pk];simp
theorem vg(a:Int)(l:List Int):tu (.int a) (l.map D.int)=decide (a∈l):=by
 unfold tu;rw[Ra,Pk,Qh,O9];constructor
 ·rintro⟨x,hx,e⟩;have e:Ek (.int x) (.int a)=true:=e;rw[Ek,PN]at e;rw[<-e];exact hx
 ·intro h;refine⟨a,h,?_⟩;show Ek (.int a) (.int a)=true;rw[Ek,PY]
theorem vh(a:List Nat)(l:List (List Nat)):tu (.str a) (l.map D.str)=decide (a∈l):=by
 unfold tu;rw[Ra,Pk,Qh,O9];constructor
 ·rintro⟨x,hx,e⟩;have e:Ek (.str x) (.str a)=true:=e;rw[Ek,PN]at e;rw[<-e];exact hx
 ·intro h;refine⟨a,h,?_⟩;show Ek (.str a) (.str a)=true;rw[Ek,PY]
theorem C5(a:Int)(l:List Int):IT (.int a) (.lst (l.map D.int))=.ok (.f,.bl (decide (a∈l))):=by
 unfold IT;dsimp only;rw[fV,vg,plainD];all_goals simp
theorem cB{α:Type}{a:FG}{f:FX}{e:α->D}{r:α->D}(I:PV.Env->Prop)(l:List α)
  (h:∀x∈l,∀env,I env->∃Ee,a (e x) env=.ok Ee/\∃o Fp,f Ee=.ok ((o,r x),Fp)/\I Fp):∀env,I env->c8 a fS f (l.map e) env=.ok (l.map r):=by
 induction l with
 |nil=>intro env _;rfl
 |cons x l ih=>
  intro env hI;obtain⟨Ee,h1,o,Fp,h4,h5⟩:=h x OX env hI;have ih:=ih fun y hy=>h y (O7 _ hy)
  rw[Pb,ve,h1,Fv,AX,Fv,OZ rfl,h4,Fv,ih Fp h5];rfl
theorem yc{a:FG}{g:FS}(P:Nat->PV.Env->Prop)(ds:List D)(h:∀i d env,ds[i]?=some d->P i env->∃Ee,a d env=.ok Ee/\∃Ep,(g Ee=.ok (.nx Ep)\/g Ee=.ok (.ct Ep))/\P (i+1) Ep):
  ∀env,P 0 env->∃env',jX a g ds env=.ok (.nx env')/\P ds.length env':=by
 have key:∀(l:List D) (k:Nat) (env:PV.Env),(∀i d,l[i]?=some d->ds[k+i]?=some d)->P k env->∃env',jX a g l env=.ok (.nx env')/\P (k+l.length) env':=by
  intro l;induction l with
  |nil=>exact fun k env _ hp=>⟨env,rfl,hp⟩
  |cons d l ih=>
   intro k env hd hp;obtain⟨Ee,h1,Ep,h2,h3⟩:=h k d env (hd 0 d rfl) hp;obtain⟨env',h4,h5⟩:=ih (k+1) Ep (fun i d e=>by have:=hd (i+1) d (by simpa using e);rw[show k+1+i=k+(i+1) by lia];exact this) h3;refine⟨env',?_,by rw[O2,show k+(l.length+1)=k+1+l.length by lia];exact h5⟩;rw[jO,h1,Fv];rcases h2 with h2|h2
   ·rw[h2,Fv];exact h4
   ·rw[h2,Fv];exact h4
 intro env hp;obtain⟨env',h1,h2⟩:=key ds 0 env (fun i d e=>by rw[TL];exact e) hp;exact⟨env',h1,by rw[TL]at h2;exact h2⟩
section
variable(env:PV.Env)(fo:FO)(fp Ej:FP)(a b:Int)(ds:List D)(x:List Nat)
theorem Lb:AE fo fp Ej env=Res.bnd (fo env) (f:=⟨fun p=>Res.bnd (fp p.2) (f:=⟨fun q=>Res.bnd (Ej q.2) (f:=⟨fun t=>Res.bnd (Ff t.2 p.1) (f:=⟨fun d=>Res.bnd (Mh d q.1 t.1) (f:=⟨fun r=>.ok (r,t.2)⟩)⟩)⟩)⟩)⟩):=id rfl
theorem A8(lo hi:Option Int):Mh (.lst ds) lo hi=.ok (.l .f,.lst (iS ds lo hi)):=id rfl
theorem A9(lo hi:Option Int)(h:HT.sIx ds.length 0 lo=0/\HT.sIx ds.length ds.length hi=ds.length):iS ds lo hi=ds:=by
 unfold iS;rw[h.1,h.2,SU,Nat.sub_zero,QZ (OW _)]
theorem sH:xJ (.int a) (.int b)=if c5 a||c5 b then .ok (.f,.int (a*b)) else if a.natAbs<2 ^ 1000/\b.natAbs<2 ^ 1000 then .ok (.f,.int (a*b)) else .bad:=id rfl
end
section
variable(env:PV.Env)(fo:FO)(fs:Fn)(f g:FX)(a b c:Int)(ds es:List D)(x y:List Nat)
theorem Lc(gg:List D->List D->Res R):AH gg fo fs env=Res.bnd (fo env) (f:=⟨fun p=>Res.bnd (Ff p.2 p.1) (f:=⟨fun d=>match d with
 | .tup _=>Res.bnd (fs p.2) (f:=⟨fun q=>Res.bnd (Ff q.2 p.1) (f:=⟨fun d2=>match d2 with
  | .tup l=>Res.bnd (ni q.2 q.1) (f:=⟨fun ds=>Res.bnd (gg l ds) (f:=⟨fun r=>.ok (r,q.2)⟩)⟩)
  |_=>.bad⟩)⟩)
 |_=>.bad⟩)⟩):=id rfl
theorem C6(d:D):(∃l,ic true d=.ok l/\ic false d=.bad/\nO d=some l)\/(∃l,ic true d=.bad/\ic false d=.ok l/\nO d=some l)\/(ic true d=.bad/\ic false d=.bad/\nO d=none):=by
 cases d with
 |lst l=>exact .inl ⟨l,rfl,rfl,rfl⟩
 |tup l=>exact .inr (.inl ⟨l,rfl,rfl,rfl⟩)
 |_=>exact .inr (.inr ⟨rfl,rfl,rfl⟩)
def vk(k1 k2:Bool)(e:PV.Env)(d1 d2:D):Res (List D×PV.Env):=(ic k1 d1).bind fun a=>(ic k2 d2).bind fun b=>.ok ((a.zip b).map fun z=>D.tup [z.1,z.2],e)
def CN(e:PV.Env)(d1 d2:D):Res (List D×PV.Env):=match nO d1,nO d2 with|some a,some b=>.ok ((a.zip b).map fun z=>D.tup [z.1,z.2],e)|_,_=>.bad
def Kd(a b:Res (List D×PV.Env)):Res (List D×PV.Env):=match a with | .ok a=>.ok a|_=>b
def tw(g:D->D->Res (List D×PV.Env))(os:List Opd):Res (List D×PV.Env):=match os with|[.val d1,.val d2]=>g d1 d2|_=>.bad
theorem om(g h:D->D->Res (List D×PV.Env))(os:List Opd):Kd (tw g os) (tw h os)=tw (fun a b=>Kd (g a b) (h a b)) os:=by
 unfold tw;split <;> rfl
theorem yd(e:PV.Env)(a b:D):Kd (vk true true e a b) (Kd (vk true false e a b) (Kd (vk false true e a b) (vk false false e a b)))=CN e a b:=by
 unfold vk CN;rcases C6 a with⟨l,h1,h2,h3⟩|⟨l,h1,h2,h3⟩|⟨h1,h2,h3⟩ <;> rcases C6 b with⟨m,i1,i2,i3⟩|⟨m,i1,i2,i3⟩|⟨i1,i2,i3⟩ <;> rw[h1,h2,h3,i1,i2,i3] <;> rfl
theorem JV:qa fs env=Res.bnd (fs env) (f:=⟨fun p=>match p.1 with
 |[.val d1,.val d2]=>(match nO d1,nO d2 with|some a,some b=>.ok ((a.zip b).map fun z=>D.tup [z.1,z.2],p.2)|_,_=>.bad)
 |_=>.bad⟩):=by
 unfold qa;rw[oj,oj,oj,lE,lE,lE,lE];cases fs env with
 |ok p=>
  show Kd (tw (vk true true p.2) p.1) (Kd (tw (vk true false p.2) p.1) (Kd (tw (vk false true p.2) p.1) (tw (vk false false p.2) p.1)))=tw (CN p.2) p.1;rw[om,om,om];exact P4 (fun g=>tw g p.1) (funext fun a=>funext fun b=>yd p.2 a b)
 |_=>rfl
theorem JW:nO (.lst ds)=some ds:=id rfl
theorem JX:nO (.tup ds)=some ds:=id rfl
theorem JY(i:Nat):uN i f g env=Res.bnd (g env) (f:=⟨fun(p:R×PV.Env)=>Res.bnd (f p.2) (f:=⟨fun(q:R×PV.Env)=>match p.2[i]?,q.2[i]? with
 |some (some _),some (some (.l .f,.lst ds))=>(match q.1.2 with
  | .int k=>(match ixN ds.length k with
   |some j=>.ok (.nx (q.2.set i (some (.l .f,.lst (ds.set j p.1.2)))))
   |none=>.bad)
  |_=>.bad)
 |_,_=>.bad⟩)⟩):=id rfl
theorem ye:ll (.int a) (.int b)=xJ (.int a) (.int b):=id rfl
theorem Ba(d:D):MU d (.lst ds)=IT d (.lst ds):=id rfl
theorem yf(d:D):uO d (.lst ds)=yO d (.lst ds):=id rfl
theorem Bb:dS false (.str x)=true:=id rfl
theorem yg:dU (.int a) (.int b)=.ok (.f,.int (a+b)):=id rfl
theorem yh:dU (.str x) (.str y)=if x.length+y.length<=sizeLine then .ok (.f,.str (x++y)) else .bad:=id rfl
theorem yi:dU (.tup ds) (.tup es)=if ds.length+es.length<=sizeLine\/ds=[] then .ok (.f,.tup (ds++es)) else .bad:=by
 unfold dU;cases ds with
 |nil=>rw[OZ (.inr rfl)];rfl
 |cons d ds=>
  dsimp only;unfold addD;dsimp only;by_cases h:(d::ds).length+es.length<=sizeLine
  ·rw[OZ ⟨nofun,h⟩,OZ (.inl h)]
  ·rw[O5 (fun z=>h z.2),O5 (fun z=>z.elim h nofun)]
end
section
variable(env:PV.Env)(f g:FX)(ds ks:List D)(i:Nat)
theorem sI:uR f g env=Res.bnd (f env) (f:=⟨fun p=>Res.bnd (g p.2) (f:=⟨fun q=>.ok ((.t [.f,q.1.1],.tup [p.1.2,q.1.2]),q.2)⟩)⟩):=id rfl
end
section
variable(env:PV.Env)(f:FX)(fs:Fn)(ds:List D)(i:Nat)
theorem C7:DS i env=match env[i]? with
 |some (some (ow,.lst ds))=>if isLf ow then(match ds.getLast? with
  |some d=>.ok ((.f,d),env.set i (some (ow,.lst ds.dropLast)))
  |none=>.bad) else .bad
 |_=>.bad:=id rfl
theorem yj:rV i f env=Res.bnd (f env) (f:=⟨fun(p:R×PV.Env)=>match p.2[i]? with
 |some (some (.pin q c,d))=>.ok (.rt (.t [p.1.1,.pin q c],.tup [p.1.2,d]))
 |_=>.bad⟩):=by
 first
  |exact id rfl
  |(unfold rV;rfl)
theorem vm(np nn:Nat)(c:O)(g:FS)(p:Addr)(d0:D)(h:ds.length+1=np):kx np nn c g p (d0::ds)=Res.bnd (g (some (.pin p c,d0)::(ds.map (fun d=>some (O.f,d))++List.replicate nn none))) (f:=⟨fun o=>match o with
  | .rt r=>.ok r
  |_=>.bad⟩):=by
 unfold kx;dsimp only;rw[OZ h];rfl
end
noncomputable def pv:=(Zz @Fv (Zz @KP (Zz @HY (Zz @JB (Zz @KQ (Zz @KR (Zz @JC (Zz @IY (Zz @JD (Zz @IZ (Zz @KS (Zz @KU (Zz @JE (Zz @JF (Zz @JG (Zz @JH (Zz @I0 (Zz @Ja (Zz @JI (Zz @JJ (Zz @JK (Zz @KW (Zz @JL (Zz @Mr (Zz @Ms (Zz @KY (Zz @KZ (Zz @K0 (Zz @Jb (Zz @JM (Zz @K1 (Zz @K2 (Zz @K3 (Zz @Lb (Zz @JN (Zz @JO (Zz @K4 (Zz @JP (Zz @Mt (Zz @K5 (Zz @JQ (Zz @HE (Zz @HF (Zz @HG (Zz @K6 (Zz @JR (Zz @Ir (Zz @Fw (Zz @JS (Zz @Fb (Zz @HI (Zz @G0 (Zz @JT (Zz @K7 (Zz @HZ (Zz @K8 (Zz @Kc (Zz @Jc (Zz @K9 (Zz @La (Zz @List.getElem?_cons_zero.{0} (Zz @List.getElem?_cons_succ.{0} (Zz @List.set_cons_zero.{0} (Zz @List.set_cons_succ.{0} (Zz @List.length_cons.{0} (Zz @List.length_nil.{0} (Zz @List.map_cons.{0,0} (Zz @List.map_nil.{0,0} (Zz @List.replicate_succ.{0} (Zz @List.replicate_zero.{0} (Zz @List.cons_append.{0} (Zz @List.nil_append.{0} (Zz @Nat.zero_add (Zz @Lc (Zz @JV (Zz @JW (Zz @JX (Zz @JY (Zz @Mo (Zz @Mp (Zz @Mq @IX)))))))))))))))))))))))))))))))))))))))))))))))))))))))))))))))))))))))))))))))))
noncomputable def op:=(Zz @CB (Zz @CC (Zz @CD (Zz @AZ (Zz @CF (Zz @CG (Zz @CI (Zz @CJ (Zz @A5 (Zz @A6 (Zz @yb (Zz @vf (Zz @CK (Zz @CL (Zz @CM (Zz @A8 (Zz @A7 (Zz @Jl (Zz @JU (Zz @wj (Zz @cA (Zz @pw (Zz @jc (Zz @gK (Zz @Eu (Zz @pq (Zz @PV.flat_strs (Zz @cH (Zz @yg (Zz @ye (Zz @Ba (Zz @yf @Bb))))))))))))))))))))))))))))))))
theorem dV(n:Nat)(w:PV.Env):(∃d,Ff w (.var n)=.ok d)\/Ff w (.var n)=.bad:=by
 unfold Ff;dsimp only;split
 ·split
  ·exact .inl ⟨_,rfl⟩
  ·exact .inr rfl
 ·exact .inr rfl
section
variable(w:PV.Env)(op:D->D->Res R)(F:List D->Res R)(f g h:FX)(n n' n'':Nat)(x y:D)
end
section
variable(a b c d e g h i j k l m:Option R)(z:PV.Env)(r:R)(o:O)(x:D){ρ:Type}
end
end PV
namespace LW
open PySem L2 NX PV
theorem for_list{α:Type}{a:FG}{g:FS}{e:α->D}(l:List α)(P:Nat->PV.Env->Prop)
  (h:∀k x env,l[k]?=some x->P k env->∃Ee,a (e x) env=.ok Ee/\∃Ep,g Ee=.ok (.nx Ep)/\P (k+1) Ep):∀env,P 0 env->∃env',jX a g (l.map e) env=.ok (.nx env')/\P l.length env':=by
 intro env h0;have:=yc (a:=a) (g:=g) P (l.map e) (fun i d env hi hp=>by
  rw[List.getElem?_map,Pp]at hi;obtain⟨x,hx,rfl⟩:=hi;obtain⟨Ee,h1,Ep,h2,h3⟩:=h i x env hx hp;exact⟨Ee,h1,Ep,.inl h2,h3⟩) env h0
 rwa [OT]at this
theorem oq{a:FG}{g:FS}{e:Nat->D}(n:Nat)(P:Nat->PV.Env->Prop)
  (h:∀k env,k<n->P k env->∃Ee,a (e k) env=.ok Ee/\∃Ep,g Ee=.ok (.nx Ep)/\P (k+1) Ep):∀env,P 0 env->∃env',jX a g ((List.range n).map e) env=.ok (.nx env')/\P n env':=by
 intro env h0;have:=for_list (a:=a) (g:=g) (e:=e) (List.range n) P (fun k x env hk hp=>by
  obtain⟨h1,h2⟩:=List.getElem?_eq_some_iff.mp hk;rw[Pu]at h1;rw[Tg]at h2;subst h2;exact h k env h1 hp) env h0
 rwa [Pu]at this
abbrev Ew:=List (List Nat)
theorem bQ{α β:Type}{l:List α}(f:α->β):(l.map f).length=l.length:=OT f
theorem iY:(false=true)=False:=Qx
theorem tF{α:Type}{l:List α}{i:Nat}{a:α}(h:l[i]?=some a):∃h:i<l.length,l[i]=a:=List.getElem?_eq_some_iff.mp h
theorem wm{α:Type}{l:List α}{i:Nat}(h:i<l.length):l[i]?=some l[i]:=List.getElem?_eq_getElem h
theorem d8{α β:Type}{f:α->β}{a:α}{l:List α}:(a::l).map f=f a::l.map f:=Pb
theorem yS{α:Type}{a b:α}(h:a∈[b]):a=b:=Pr.mp h
theorem C8{α β:Type}{f:α->β}{l:List α}{b:β}(h:b∈l.map f):∃a,a∈l/\f a=b:=Qw.mp h
theorem yT{α:Type}{a:α}{s t:List α}(h:a∈s++t):a∈s\/a∈t:=Pj.mp h
theorem iZ{α:Type}{s t:List α}:(s++t).length=s.length+t.length:=Pw
theorem av{s t:FS}{env env':PV.Env}(h:s env=.ok (.nx env')):sSeq s t env=t env':=by rw[G0,h,Fv]
theorem cQ{ds:List D}(h:ds.length<=16777216):ds.length<=sizeLine:=line_le h
theorem kC{l:List Int}{k:Nat}(h:k<l.length):F4 (l.map D.int) (k:Int)=some (.int (l.getD k 0)):=hV (by rw[List.getElem?_map,List.getD_eq_getElem?_getD,wm h];rfl)
theorem at2{α:Type}(a b c:α):F4 [a,b,c] (2:Int)=some c:=rfl
theorem d4:∀l:Ew,eT (l.map D.str)=some l
 |[]=>rfl
 |a::l=>by
  rw[d8,eT,d4 l];rfl
theorem jP(x y:D)(t1 t2:Option R)(dg:PV.Env):kq 2 (aK (az 0) (aK (az 1) eC)) (.tup [x,y]) (t1::t2::dg)=.ok (some (.f,x)::some (.f,y)::dg):=by
 rw[HI,OZ (by simp),Fb,Fw,OZ (by simp),Fv,Fb,Fw,OZ (by simp),Fv];rfl
theorem mV{α:Type}(lt:α->α->Bool)(l:List α):(cI lt l).length=l.length:=(dR lt l).length_eq
theorem sJ(l:Ew)(h:l.length<64):e9 [.lst (l.map D.str)]=.ok (.l .f,.lst ((cI GS l).map D.str)):=by
 unfold e9;dsimp only;rw[OZ (by rw[bQ];exact h)];unfold jE;cases l with
 |nil=>rfl
 |cons a l=>
  have e:e8 ((a::l).map D.str)=none:=rfl;rw[e,d4]
def GO:List Nat:=[97,98,99,100,101,102,103,104,105,106,107,108,109,110,111,112,113,114,115,116,117,118,119,120,121,122]
theorem Bc(j:Nat)(h:j<26):GO[j]?=some (97+j):=by
 have:∀j:_root_.Fin 26,GO[j.1]?=some (97+j.1):=by decide
 exact this ⟨j,h⟩
theorem Bd(j:Int)(h0:0<=j)(h:j<26):F4 GO j=some (97+j.toNat):=by
 obtain⟨n,rfl⟩:=Qk h0;exact hV (Bc n (by lia))
theorem f7(x b:Int)(h:0<b):0<=x%b/\x%b<b:=⟨Int.emod_nonneg _ (by lia),Int.emod_lt_of_pos _ h⟩
theorem DZ(n:Nat)(h:n<=200):yN (.int 10) (.int (n:Int))=.ok (.f,.int (10 ^ n)):=by
 rw[A4,OZ (by lia),Ql]
theorem kF(x b:Int)(h:0<b):iy (.int x) (.int b)=.ok (.f,.int (x%b)):=by rw[A3,OZ h]
theorem i4(x b:Int)(h:0<b)(h2:b<1073741824):fY (.int x) (.int b)=.ok (.f,.int (x / b)):=by rw[ya,OZ ⟨h,h2⟩]
theorem D0(x y:List Nat)(h:x.length+y.length<=1000):dU (.str x) (.str y)=.ok (.f,.str (x++y)):=by rw[yh,OZ (line_le (by lia))]
theorem pA{α:Type}(l:List α)(k:Nat):iS l none (some (k:Int))=l.take k:=by
 unfold iS;rw[HT.tV,HT.nF,SU,Nat.sub_zero];by_cases h:k<=l.length
 ·rw[SK h]
 ·rw[Nat.min_eq_right (by lia),QZ (OW _),QZ (by lia)]
theorem jQ{α:Type}(f:Nat->α)(n:Nat)(h:∀i j,i<n->j<n->f i=f j->i=j):((List.range n).map f).Nodup:=by
 rw[Q3,Rr];refine List.pairwise_lt_range.imp_of_mem fun{a b} ha hb hl e=>?_
 have:=h a b (PQ.mp ha) (PQ.mp hb) e;lia
theorem yk{α:Type}(l:List α)(a b:Nat)(h:a<=b)(hb:b<=l.length):iS l (some (a:Int)) (some (b:Int))=(l.drop a).take (b-a):=by
 unfold iS;rw[HT.nF,HT.nF,SK hb,SK (PB h hb)]
theorem mW(x:Int)(h:-1000000<=x)(h2:x<=1000000):c5 x=true:=by
 unfold c5;rw[O9];lia
theorem jR(d:D)(h:plainD 40 d=true):HS d d=.ok (.f,.bl true):=by
 unfold HS;rw[h,gU d 40 h];rfl
theorem jS(d:D)(h:plainD 40 d=true):HU d d=.ok (.f,.bl false):=by
 unfold HU;rw[h,gU d 40 h];rfl
theorem vn(l:List Int):plainD 40 (.tup (l.map D.int))=true:=by
 rw[plainD,fV]
theorem D1{c:FT}{s t:FS}{env env':PV.Env}(h:c env=.ok (false,env')):FN c s t env=t env':=by rw[Kc,h,Fv];rfl
theorem ym(n k:Nat)(h:k<n):ixN n (k:Int)=some k:=by
 unfold ixN;rw[OZ (by lia),OZ (by lia)];rfl
theorem D2(b:Int):mD "bool" (.int b)=false:=rfl
theorem D3(b:Int):mD "int" (.int b)=true:=rfl
theorem isT(ds:List D):mD "tuple" (.tup ds)=true:=rfl
theorem mX{c:FT}{g:FS}(P:Nat->PV.Env->Prop)(fin:PV.Env->Prop)(h:∀k env,P k env->(∃Ee,c env=.ok (false,Ee)/\fin Ee)\/(∃Ee,c env=.ok (true,Ee)/\∃Ep k',g Ee=.ok (.nx Ep)/\k'<k/\P k' Ep)):
  ∀n k env,k<n->P k env->∃env',cZ c g n env=.ok (.nx env')/\fin env'
 | 0,k,env,hk,_=>absurd hk (Nat.not_lt_zero _)
 |n+1,k,env,hk,hp=>by
  rcases h k env hp with⟨Ee,h1,h2⟩|⟨Ee,h1,Ep,k',h2,h3,h4⟩
  ·exact⟨Ee,by rw[fU,h1,Fv];rfl,h2⟩
  ·obtain⟨env',e,hf⟩:=mX P fin h n k' Ep (by lia) h4;refine⟨env',?_,hf⟩;rw[fU,h1,Fv];dsimp only;rw[OZ rfl,h2,Fv];exact e
theorem yn{α β:Type}(f:α->β)(l:List α)(lo hi:Option Int):iS (l.map f) lo hi=(iS l lo hi).map f:=by
 unfold iS;rw[bQ,<-List.map_drop,<-Tj]
theorem f9{α:Type}{l:List α}(h:l.length<=100000):l.length<sizeLine:=O4 (Qf _) (line_le (by lia))
section
variable(env:PV.Env)(f:FX)(fs:Fn)(fo:FO)
theorem yo(r:R):frz (some r)=some (.f,r.2):=id rfl
theorem yp:frz none=none:=id rfl
theorem wo(gg:List D->List D->Res R):Cy gg fo fs env=Res.bnd (fo env) (f:=⟨fun p=>Res.bnd (Ff p.2 p.1) (f:=⟨fun d=>match d with
 | .lst _=>Res.bnd (fs p.2) (f:=⟨fun q=>Res.bnd (Ff q.2 p.1) (f:=⟨fun d2=>match d2 with
  | .lst l=>Res.bnd (ni q.2 q.1) (f:=⟨fun ds=>Res.bnd (gg l ds) (f:=⟨fun r=>.ok (r,q.2)⟩)⟩)
  |_=>.bad⟩)⟩)
 |_=>.bad⟩)⟩):=id rfl
end
theorem o_isnN:isnO .non .non=.ok (.f,.bl false):=id rfl
abbrev Fc:=Int×List Nat×Int
def eA(a:Fc):D:=.tup [.int a.1,.str a.2.1,.int a.2.2]
theorem yq(a:Fc):cT (eA a)=true:=rfl
theorem yr(as:List Fc):flatDs (as.map eA)=true:=by
 rw[bI,Qd,Pm];exact fun p _=>yq p
theorem D4(w:Ew)(m:List Nat)(h:w.length<=1000):dU (.tup (w.map D.str)) (.tup [.str m])=.ok (.f,.tup ((w++[m]).map D.str)):=by
 rw[yi,OZ (.inl (line_le (by rw[bQ,O2,QK];lia))),Pe];rfl
def ak(a:Fc):List Key:=[.inl a.1,.inr (S a.2.1),.inl a.2.2]
def lF(a b:Fc):Bool:=cS (ak a) (ak b)
theorem S_inj{a b:List Nat}(h:S a=S b):a=b:=by
 have:=P4 (fun s:Str=>s.cps.toList) h;simpa only[cq] using this
theorem CO(a:Fc):kT (ak a)=eA a:=by
 unfold kT ak eA;simp only[d8,Pq,kD,cq]
theorem sL{α β:Type}(f:α->β)(lt:β->β->Bool)(x:α):∀l:List α,ins lt (f x) (l.map f)=(ins (fun a b=>lt (f a) (f b)) x l).map f
 |[]=>rfl
 |y::ys=>by
  rw[d8,ins,ins];cases lt (f y) (f x) with
  |true=>rw[OZ rfl,OZ rfl,sL f lt x ys,d8]
  |false=>rw[O5 O0,O5 O0,d8,d8]
theorem mY{α β:Type}(f:α->β)(lt:β->β->Bool):∀l:List α,cI lt (l.map f)=(cI (fun a b=>lt (f a) (f b)) l).map f
 |[]=>rfl
 |x::l=>by
  show ins lt (f x) (cI lt (l.map f))=_;rw[mY f lt l,sL];rfl
theorem sM(as:List Fc):as.map eA=(as.map ak).map kT:=by
 rw[Pf];exact Qb fun a _=>(CO a).symm
theorem yt(as:List Fc)(h:as.length<64):e9 [.lst (as.map eA)]=.ok (.l .f,.lst ((cI lF as).map eA)):=by
 have key:jE (as.map eA)=some ((cI lF as).map eA):=by
  cases as with
  |nil=>rfl
  |cons a as=>
   have e1:iA ((a::as).map eA)=some ((a::as).map ak):=by rw[sM,ig]
   have e2:sameKinds (ak a) (as.map ak)=true:=by
    unfold sameKinds;rw[Qd,O1,Pm];exact⟨rfl,fun b _=>rfl⟩
   unfold jE;rw[e1,d8,d8];dsimp only[eA,e8,eT];rw[OZ e2,<-d8,mY ak cS,sM];rfl
 unfold e9;dsimp only;rw[OZ (by rw[bQ];exact h),key]
def cell(ns:List Int)(k:Nat):Int:=ns.getD k 0
theorem mZ(ns:List Int)(k:Nat):aE [.lst (ns.map D.int),.int (k:Int)]=.ok (.f,.int (cell ns k)):=by
 unfold aE gm cell;rw[bu (h:=by rfl)];simp only[pv,seval,op,bQ];by_cases h:k<ns.length
 ·have h1:(k:Int)<(ns.length:Int):=by lia
  simp only[h1,Rt,pv,seval,kC h]
 ·have h1:¬ (k:Int)<(ns.length:Int):=by lia
  simp only[h1,Rc,pv,seval,iY,List.getD_eq_getElem?_getD,List.getElem?_eq_none (Nat.le_of_not_lt h),Si]
theorem Be(x y:Int)(h:c5 x=true):xJ (.int x) (.int y)=.ok (.f,.int (x*y)):=by rw[sH,h,Bool.true_or,OZ rfl]
theorem C9(x y:Int)(h:c5 y=true):xJ (.int x) (.int y)=.ok (.f,.int (x*y)):=by rw[sH,h,Bool.or_true,OZ rfl]
theorem pB(x:Int)(h:0<=x)(h2:x<=4294967296):c5 x=true:=by
 unfold c5;rw[O9];lia
def vo(c k:Int):Int:=((((c%2147483647+48271*(k+1))*(c%2147483647+48271*(k+1))+69621*k)%2147483647)*(((c%2147483647+48271*(k+1))*(c%2147483647+48271*(k+1))+69621*k)%2147483647)+16807*k+1)%2147483647
theorem ot(c k:Int)(hk:0<=k)(MP:k<=1000):aN [.int c,.int k]=.ok (.f,.int (vo c k)):=by
 have b1:=f7 c 2147483647 (by decide);have b2:=f7 ((c%2147483647+48271*(k+1))*(c%2147483647+48271*(k+1))+69621*k) 2147483647 (by decide);unfold aN iH vo;rw[bu (h:=by rfl)];rw[av (env':=[some (.f,.int c),some (.f,.int k),some (.f,.int (c%2147483647+48271*(k+1)))]) (by simp only[pv,seval,op,kF _ 2147483647 (by decide),Be 48271 (k+1) (by decide)])];have hs:c5 (c%2147483647+48271*(k+1))=true:=pB _ (by lia) (by lia);generalize c%2147483647+48271*(k+1)=x at *;rw[av (env':=[some (.f,.int c),some (.f,.int k),some (.f,.int ((x*x+69621*k)%2147483647))]) (by simp only[pv,seval,op,kF _ 2147483647 (by decide),Be x x hs,Be 69621 k (by decide)])];generalize (x*x+69621*k)%2147483647=y at *;have hs:c5 y=true:=pB _ (by lia) (by lia);simp only[pv,seval,op,kF _ 2147483647 (by decide),Be y y hs,Be 16807 k (by decide)]
theorem pC:∀l:List Nat,joinL [] (l.map fun c=>[c])=l
 |[]=>rfl
 |[c]=>rfl
 |c::d::l=>by
  have ih:=pC (d::l);show[c]++[]++joinL [] ((d::l).map fun c=>[c])=_;rw[ih];rfl
theorem sN:∀l:List Nat,((l.map fun c=>[c]).map List.length).sum=l.length
 |[]=>rfl
 |c::l=>by
  rw[d8,d8,Th,sN l];show 1+l.length=l.length+1;lia
theorem yu(l:List Nat)(h:l.length<=1000):rX [] [.lst ((l.map fun c=>[c]).map D.str)]=.ok (.f,.str l):=by
 unfold rX;dsimp only;rw[d4];dsimp only;rw[OZ (by rw[sN,QK,Nat.mul_zero];lia),pC]
theorem wq(a:List Nat)(l:Ew):IT (.str a) (.lst (l.map D.str))=.ok (.f,.bl (decide (a∈l))):=by
 unfold IT;dsimp only;rw[fW,vh,plainD];all_goals simp
def IB(base:List Int)(wd sp:Nat)(tk:Bool)(k:Nat):List Int:=if tk then base.take (k+1) else(base.take wd).set sp ((base.getD sp 0+(k:Int))%26)
def GP(base:List Int)(wd sp:Nat)(tk:Bool)(k:Nat):List Nat:=(IB base wd sp tk k).map fun j=>97+j.toNat
theorem yv(l:List Int)(hb:∀j∈l,0<=j/\j<26):c8 (az 0) fS (aA ED (au 1) (au 0)) (l.map D.int) [none,some (.f,.str GO)]=.ok (((l.map fun j=>97+j.toNat).map fun c=>[c]).map D.str):=by
 rw[cB (r:=fun j:Int=>D.str [97+j.toNat]) (fun env=>∃t,env=[t,some (.f,.str GO)]) l ?_ _ ⟨none,rfl⟩]
 ·rw[Pf,Pf];rfl
 ·rintro j hj env ⟨t,rfl⟩;obtain⟨h0,h1⟩:=hb j hj;refine⟨[some (.f,.int j),some (.f,.str GO)],rfl,.f,[some (.f,.int j),some (.f,.str GO)],?_,_,rfl⟩;simp only[pv,seval,op,Bd j h0 h1]
theorem CP(base:List Int)(hb:∀j∈base,0<=j/\j<26)(wd sp:Nat)(tk:Bool)(k:Nat):∀j∈IB base wd sp tk k,0<=j/\j<26:=by
 intro j hj;unfold IB at hj;split at hj
 ·exact hb j (SS hj)
 ·rcases List.mem_or_eq_of_mem_set hj with h|h
  ·exact hb j (SS h)
  ·rw[h];exact f7 _ _ (by decide)
theorem sO(base:List Int)(hl:base.length=8)(wd sp:Nat)(tk:Bool)(k:Nat):(IB base wd sp tk k).length<=8:=by
 unfold IB;split
 ·rw[Py];lia
 ·rw[QJ,Py];lia
theorem Bf(E6:Int)(base:List Int)(hl:base.length=8)(hb:∀j∈base,0<=j/\j<26)(wd sp:Nat)(hw:wd<=8)(hs:sp<wd)(tk:Bool)(MW:(E6 / 64%4==1)=tk)(l:Ew)(NU:l.length<=10)(k:Nat)(t7:Option R):
  ∃u7,cw [some (.f,.int E6),some (.f,.str GO),some (.l .f,.lst (base.map D.int)),some (.f,.int (wd:Int)),some (.f,.int (sp:Int)),some (.l .f,.lst (l.map D.str)),some (.f,.int (k:Int)),t7]=.ok (.nx [some (.f,.int E6),some (.f,.str GO),some (.l .f,.lst (base.map D.int)),some (.f,.int (wd:Int)),some (.f,.int (sp:Int)),some (.l .f,.lst ((l++[GP base wd sp tk k]).map D.str)),some (.f,.int (k:Int)),u7]):=by
 have Ld:iS (base.map D.int) none (some (wd:Int))=(base.take wd).map D.int:=by rw[pA,Tj]
 have Jm:F4 ((base.take wd).map D.int) (sp:Int)=some (.int (base.getD sp 0)):=by
  rw[kC (by rw[Py];lia)];congr 2
  rw[List.getD_eq_getElem?_getD,List.getD_eq_getElem?_getD,List.getElem?_take_of_lt hs]
 have FF:ixN (base.take wd).length (sp:Int)=some sp:=ym _ _ (by rw[Py];lia);have hnl:=sO base hl wd sp tk k;have JZ:=yv (IB base wd sp tk k) (CP base hb wd sp tk k);have hj:=yu (GP base wd sp tk k) (by unfold GP;rw[bQ];lia);have hz:(l.map D.str).length<sizeLine:=f9 (by rw[bQ];lia);have hzl:(((GP base wd sp tk k).map fun c=>[c]).map D.str).length<=sizeLine:=cQ (by unfold GP;rw[bQ,bQ,bQ];lia);have Le:=PV.flat_strs ((GP base wd sp tk k).map fun c=>[c]);have JZ:c8 (az 0) fS (aA ED (au 1) (au 0)) ((IB base wd sp tk k).map D.int) [none,some (.f,.str GO)]=.ok (((GP base wd sp tk k).map fun c=>[c]).map D.str):=JZ;unfold cw;rw[av (env':=[some (.f,.int E6),some (.f,.str GO),some (.l .f,.lst (base.map D.int)),some (.f,.int (wd:Int)),some (.f,.int (sp:Int)),some (.l .f,.lst (l.map D.str)),some (.f,.int (k:Int)),some (.l .f,.lst ((base.take wd).map D.int))]) (by simp only[pv,seval,op,Ld])];rw[av (env':=[some (.f,.int E6),some (.f,.str GO),some (.l .f,.lst (base.map D.int)),some (.f,.int (wd:Int)),some (.f,.int (sp:Int)),some (.l .f,.lst (l.map D.str)),some (.f,.int (k:Int)),some (.l .f,.lst (((base.take wd).set sp ((base.getD sp 0+(k:Int))%26)).map D.int))]) (by
  rw[List.map_set];simp only[pv,seval,op,Jm,kF _ 26 (by decide),bQ,FF])]
 rw[av (env':=[some (.f,.int E6),some (.f,.str GO),some (.l .f,.lst (base.map D.int)),some (.f,.int (wd:Int)),some (.f,.int (sp:Int)),some (.l .f,.lst (l.map D.str)),some (.f,.int (k:Int)),some (.l .f,.lst ((IB base wd sp tk k).map D.int))]) (by
  unfold IB;cases tk with
  |true=>
   have Mu:iS (base.map D.int) none (some ((k:Int)+1))=(base.take (k+1)).map D.int:=by rw[show(k:Int)+1=((k+1:Nat):Int) by lia,pA,Tj]
   simp only[pv,seval,op,i4 _ 64 (by decide) (by decide),kF _ 4 (by decide),MW,Mu]
  |false=>simp only[pv,seval,op,i4 _ 64 (by decide) (by decide),kF _ 4 (by decide),MW,iY])]
 refine⟨some (.l .f,.lst ((IB base wd sp tk k).map D.int)),?_⟩;generalize IB base wd sp tk k=W at *;generalize GP base wd sp tk k=V at *;rw[Pe,d8,Pq];generalize (aA ED (au 1) (au 0))=GG at JZ ⊢;simp only[pv,seval,op,JZ,hzl,Le,hj,hz]
theorem yw(base:List Int)(hl:base.length=8)(hb:∀j∈base,0<=j/\j<26)(wd sp:Nat)(hw:wd<=8)(hs:sp<wd)(tk:Bool)(k k':Nat)(hk:k<=5)(hk':k'<=5)(e:GP base wd sp tk k=GP base wd sp tk k'):k=k':=by
 unfold GP IB at e;cases tk with
 |true=>
  have:=P4 List.length e;simp only[Rh,bQ,Py]at this;lia
 |false=>
  have e2:=P4 (fun l=>l[sp]?) e;have E3:sp<(base.take wd).length:=by rw[Py];lia
  simp only[iY,RQ,List.getElem?_map,List.getElem?_set_self E3,Option.map_some,Option.some.injEq]at e2;have b1:=f7 (base.getD sp 0+(k:Int)) 26 (by decide);have b2:=f7 (base.getD sp 0+(k':Int)) 26 (by decide);generalize base.getD sp 0=z at *;lia
theorem yx(E6:Int):∃l:Ew,l.length=5/\l.Nodup/\l.Pairwise (fun a b=>GS b a=false)/\ck [.int E6]=.ok (.l .f,.lst (l.map D.str)):=by
 unfold ck iI;rw[bu (h:=by rfl)];rw[av (env':=[some (.f,.int E6),some (.f,.str GO),none,none,none,none,none,none]) (by simp only[pv,seval,op];rfl)];have hc:c8 (az 0) fS (aA iy (aq (eB aN (ai (au 1) (ai (au 0) aB)))) (aq (aD (.int 26)))) ((List.range 8).map fun(k:Nat)=>D.int (k:Int)) [none,some (.f,.int E6)]=.ok (((List.range 8).map fun(k:Nat)=>vo E6 (k:Int)%26).map D.int):=by
  rw[cB (r:=fun k:Nat=>D.int (vo E6 (k:Int)%26)) (fun env=>∃t,env=[t,some (.f,.int E6)]) (List.range 8) ?_ _ ⟨none,rfl⟩]
  ·rw[Pf];rfl
  ·rintro k hk env ⟨t,rfl⟩;have hk:=PQ.mp hk;refine⟨[some (.f,.int (k:Int)),some (.f,.int E6)],rfl,.f,[some (.f,.int (k:Int)),some (.f,.int E6)],?_,_,rfl⟩;simp only[pv,seval,op,ot E6 (k:Int) (by lia) (by lia),kF _ 26 (by decide)]
 have MX:((List.range 8).map fun(k:Nat)=>vo E6 (k:Int)%26).length=8:=rfl;have LN:∀j∈((List.range 8).map fun(k:Nat)=>vo E6 (k:Int)%26),0<=j/\j<26:=by
  intro j hj;obtain⟨k,_,rfl⟩:=C8 hj;exact f7 _ _ (by decide)
 generalize ((List.range 8).map fun(k:Nat)=>vo E6 (k:Int)%26)=base at hc MX LN;have hlen:(base.map D.int).length<=sizeLine:=cQ (by rw[bQ];lia);have hff:=Eu base;rw[av (env':=[some (.f,.int E6),some (.f,.str GO),some (.l .f,.lst (base.map D.int)),none,none,none,none,none]) (by
  generalize (aA iy (aq (eB aN (ai (au 1) (ai (au 0) aB)))) (aq (aD (.int 26))))=GG at hc ⊢;simp only[pv,seval,op];rw[OZ (by decide)];simp only[pv,seval,op,show(8:Int).toNat=8 from rfl,hc,hlen,hff])]
 have m8:=f7 E6 8 (by decide);obtain⟨wd,ew⟩:=Qk (show 0<=1+E6%8 by lia);have msp:=f7 (E6 / 8) (wd:Int) (by lia);obtain⟨sp,es⟩:=Qk msp.1;rw[av (env':=[some (.f,.int E6),some (.f,.str GO),some (.l .f,.lst (base.map D.int)),some (.f,.int (wd:Int)),none,none,none,none]) (by simp only[pv,seval,op,kF _ 8 (by decide),ew])];rw[av (env':=[some (.f,.int E6),some (.f,.str GO),some (.l .f,.lst (base.map D.int)),some (.f,.int (wd:Int)),some (.f,.int (sp:Int)),none,none,none]) (by simp only[pv,seval,op,i4 _ 8 (by decide) (by decide),kF _ (wd:Int) (by lia),es])];rw[av (env':=[some (.f,.int E6),some (.f,.str GO),some (.l .f,.lst (base.map D.int)),some (.f,.int (wd:Int)),some (.f,.int (sp:Int)),some (.l .f,.lst []),none,none]) (by simp only[pv,seval,op])];obtain⟨tk,MW⟩:∃tk,(E6 / 64%4==1)=tk:=⟨_,rfl⟩
 obtain⟨env',ef,t6,t7,rfl⟩:=oq (a:=az 6) (g:=cw) (e:=fun k=>D.int (k:Int)) 5 (fun i env=>∃(t6 t7:Option R),env=[some (.f,.int E6),some (.f,.str GO),some (.l .f,.lst (base.map D.int)),some (.f,.int (wd:Int)),some (.f,.int (sp:Int)),some (.l .f,.lst (((List.range i).map (GP base wd sp tk)).map D.str)),t6,t7]) (by
  rintro k env hk ⟨t6,t7,rfl⟩;obtain⟨u7,e⟩:=Bf E6 base MX LN wd sp (by lia) (by lia) tk MW ((List.range k).map (GP base wd sp tk)) (by rw[bQ,Pu];lia) k t7;rw[show((List.range k).map (GP base wd sp tk))++[GP base wd sp tk k]=(List.range (k+1)).map (GP base wd sp tk) by rw[Sz,Pe];rfl]at e;exact⟨_,rfl,_,e,_,_,rfl⟩) _ ⟨none,none,rfl⟩
 rw[List.range_zero,Pq,Pq]at ef;rw[av (env':=_) (by
  unfold gq;simp only[pv,seval,op];rw[OZ (by decide)];simp only[pv,seval,op,show(5:Int).toNat=5 from rfl];exact ef)]
 unfold fw;have Jd:((List.range 5).map (GP base wd sp tk)).length=5:=by rw[bQ,Pu]
 have KA:((List.range 5).map (GP base wd sp tk)).Nodup:=jQ _ 5 fun i j hi hj e=>yw base MX LN wd sp (by lia) (by lia) tk i j (by lia) (by lia) e
 have OA:∀n∈((List.range 5).map (GP base wd sp tk)),n.length<=8:=by
  intro n hn;obtain⟨k,_,rfl⟩:=C8 hn;unfold GP;rw[bQ];exact sO base MX wd sp tk k
 generalize ((List.range 5).map (GP base wd sp tk))=l at Jd KA OA;by_cases hm:[109,111,118,101,115]∈l
 ·have GV:c8 (az 0) fS (aA dU (aq (aD (.str [115]))) (au 0)) (l.map D.str) [none]=.ok ((l.map fun n=>115::n).map D.str):=by
   rw[cB (r:=fun n:List Nat=>D.str (115::n)) (fun env=>∃t,env=[t]) l ?_ _ ⟨none,rfl⟩]
   ·rw[Pf];rfl
   ·rintro n hn env ⟨t,rfl⟩;have:=OA n hn;refine⟨[some (.f,.str n)],rfl,.f,[some (.f,.str n)],?_,_,rfl⟩;simp only[pv,seval,op,D0 [115] n (by rw[Pd];lia)]
  have NV:((l.map fun n=>115::n).map D.str).length<=sizeLine:=cQ (by rw[bQ,bQ];lia);have hnd2:(l.map fun n=>115::n).Nodup:=by
   rw[Q3,Rr];exact(Q3.mp KA).imp fun{a b} h e=>h (QU e).2
  have Le:=PV.flat_strs (l.map fun n=>115::n);rw[av (env':=[some (.f,.int E6),some (.f,.str GO),some (.l .f,.lst (base.map D.int)),some (.f,.int (wd:Int)),some (.f,.int (sp:Int)),some (.l .f,.lst ((l.map fun n=>115::n).map D.str)),t6,t7]) (by
   generalize (aA dU (aq (aD (.str [115]))) (au 0))=GG at GV ⊢;simp only[pv,seval,op,wq,hm,Rt,GV,NV,Le])]
  refine⟨cI GS (l.map fun n=>115::n),by rw[mV,bQ];exact Jd,(dR GS _).nodup_iff.mpr hnd2,dD nQ _,?_⟩;simp only[pv,seval,op,sJ (l.map fun n=>115::n) (by rw[bQ];lia)]
 ·rw[av (env':=[some (.f,.int E6),some (.f,.str GO),some (.l .f,.lst (base.map D.int)),some (.f,.int (wd:Int)),some (.f,.int (sp:Int)),some (.l .f,.lst (l.map D.str)),t6,t7]) (by simp only[pv,seval,op,wq,hm,Rc,iY])];refine⟨cI GS l,by rw[mV];exact Jd,(dR GS _).nodup_iff.mpr KA,dD nQ _,?_⟩;simp only[pv,seval,op,sJ l (by lia)]
theorem Bg(env:PV.Env)(fo:FO)(fp Ej fq:FP):Cz fo fp Ej fq env=Res.bnd (fo env) (f:=⟨fun p=>Res.bnd (fp p.2) (f:=⟨fun q=>Res.bnd (Ej q.2) (f:=⟨fun t=>Res.bnd (fq t.2) (f:=⟨fun u=>Res.bnd (Ff u.2 p.1) (f:=⟨fun d=>Res.bnd (AN d q.1 t.1 u.1) (f:=⟨fun r=>.ok (r,u.2)⟩)⟩)⟩)⟩)⟩)⟩):=id rfl
theorem yz(env:PV.Env)(fa fb fc:FX):xU fa fb fc env=Res.bnd (fa env) (f:=⟨fun p=>Res.bnd (fb p.2) (f:=⟨fun q=>Res.bnd (fc q.2) (f:=⟨fun t=>.ok ((.t [.f,q.1.1,t.1.1],.tup [p.1.2,q.1.2,t.1.2]),t.2)⟩)⟩)⟩):=id rfl
theorem vp{α β:Type}(f:α->β)(l:List α)(lo hi:Option Int)(c:Int):fg (l.map f) lo hi c=(fg l lo hi c).map f:=by
 unfold fg;rw[bQ,List.map_filterMap];congr 1
 funext i
 rw[List.getElem?_map]
theorem CQ(ds:List D)(lo hi:Option Int):AN (.lst ds) lo hi (some 6)=.ok (.l .f,.lst (fg ds lo hi 6)):=id rfl
theorem Bh(ns:List Int)(first k:Int)(hk:0<=k/\k<=1000):∃v:Int,cG [.lst (ns.map D.int),.int first,.int k]=.ok (.f,.int v):=by
 unfold cG jK;rw[bu (h:=by rfl)];rw[av (env':=[some (.f,.lst (ns.map D.int)),some (.f,.int first),some (.f,.int k),some (.f,.int (7+k)),none]) (by simp only[pv,seval,op])];obtain⟨env',ef,v,t4,rfl⟩:=for_list (a:=az 4) (g:=dM) (e:=D.int) (fg ns (some (first+k)) (some (first+84)) 6) (fun j env=>∃(v:Int) (t4:Option R),env=[some (.f,.lst (ns.map D.int)),some (.f,.int first),some (.f,.int k),some (.f,.int v),t4]) (by
  rintro j c env hj ⟨v,t4,rfl⟩;refine⟨_,rfl,_,?_,vo (c+v) k,some (.f,.int c),rfl⟩;unfold dM;simp only[pv,seval,op,ot (c+v) k hk.1 hk.2]) _ ⟨7+k,none,rfl⟩
 rw[av (env':=_) (by
  unfold g7;simp only[pv,seval,op,Bg,CQ,vp];exact ef)]
 unfold gu;exact⟨v,by simp only[pv,seval,op]⟩
def Tk(l:List Int)(cnt:Nat):Prop:=l.length=cnt/\∀x∈l,0<=x/\x<=10
theorem Tk.app{l:List Int}{cnt:Nat}(h:Tk l cnt){x:Int}(hx:0<=x/\x<=10):Tk (l++[x]) (cnt+1):=by
 refine⟨by rw[iZ,h.1];rfl,fun y hy=>?_⟩;rcases yT hy with hy|hy
 ·exact h.2 y hy
 ·rw[yS hy];exact hx
theorem yA(number:Int)(cnt:Nat)(hc:cnt<=10):∃(b:Int) (ts gs:List Int),(0<=b/\b<=10)/\Tk ts cnt/\Tk gs cnt/\cm [.int number,.int (cnt:Int)]=.ok (.t [.f,.l .f,.l .f],.tup [.int b,.lst (ts.map D.int),.lst (gs.map D.int)]):=by
 unfold cm iJ;rw[bu (h:=by rfl)];rw[av (env':=[some (.f,.int number),some (.f,.int (cnt:Int)),some (.l .f,.lst []),none,none,none,none,none]) (by simp only[pv,seval,op])];rw[av (env':=[some (.f,.int number),some (.f,.int (cnt:Int)),some (.l .f,.lst []),some (.l .f,.lst []),none,none,none,none]) (by simp only[pv,seval,op])];obtain⟨env',ef,ts,gs,t4,t5,t6,t7,h1,h2,rfl⟩:=oq (a:=az 4) (g:=dk) (e:=fun k=>D.int (k:Int)) cnt (fun i env=>∃(ts gs:List Int) (t4 t5 t6 t7:Option R),Tk ts i/\Tk gs i/\env=[some (.f,.int number),some (.f,.int (cnt:Int)),some (.l .f,.lst (ts.map D.int)),some (.l .f,.lst (gs.map D.int)),t4,t5,t6,t7]) (by
  rintro j env hj ⟨ts,gs,t4,t5,t6,t7,h1,h2,rfl⟩;have z1:(ts.map D.int).length<sizeLine:=f9 (by rw[bQ,h1.1];lia);have z2:(gs.map D.int).length<sizeLine:=f9 (by rw[bQ,h2.1];lia);have OB:=ot number (j:Int) (by lia) (by lia);generalize vo number (j:Int)=x at OB;have b1:=f7 x 5 (by decide);have b2:=f7 (x / 8) 4 (by decide);refine⟨[some (.f,.int number),some (.f,.int (cnt:Int)),some (.l .f,.lst (ts.map D.int)),some (.l .f,.lst (gs.map D.int)),some (.f,.int (j:Int)),t5,t6,t7],rfl,_,?_,ts++[(if 0<0-(x%5-2) then 0-(x%5-2) else 0)+x / 8%4 / 3],gs++[(if 0<x%5-2 then x%5-2 else 0)+x / 8%4 / 3],some (.f,.int (j:Int)),some (.f,.int x),some (.f,.int (x%5-2)),some (.f,.int (x / 8%4 / 3)),h1.app ?_,h2.app ?_,rfl⟩
  ·unfold dk;rw[av (env':=[some (.f,.int number),some (.f,.int (cnt:Int)),some (.l .f,.lst (ts.map D.int)),some (.l .f,.lst (gs.map D.int)),some (.f,.int (j:Int)),some (.f,.int x),t6,t7]) (by simp only[pv,seval,op,OB])];rw[av (env':=[some (.f,.int number),some (.f,.int (cnt:Int)),some (.l .f,.lst (ts.map D.int)),some (.l .f,.lst (gs.map D.int)),some (.f,.int (j:Int)),some (.f,.int x),some (.f,.int (x%5-2)),t7]) (by simp only[pv,seval,op,kF _ 5 (by decide)])];generalize x%5-2=y;rw[av (env':=[some (.f,.int number),some (.f,.int (cnt:Int)),some (.l .f,.lst (ts.map D.int)),some (.l .f,.lst (gs.map D.int)),some (.f,.int (j:Int)),some (.f,.int x),some (.f,.int y),some (.f,.int (x / 8%4 / 3))]) (by simp only[pv,seval,op,kF _ 4 (by decide),i4 _ 8 (by decide) (by decide),i4 _ 3 (by decide) (by decide)])];generalize x / 8%4 / 3=z;rw[Pe,Pe,d8,d8,Pq];rw[av (env':=[some (.f,.int number),some (.f,.int (cnt:Int)),some (.l .f,.lst (ts.map D.int++[.int ((if 0<0-y then 0-y else 0)+z)])),some (.l .f,.lst (gs.map D.int)),some (.f,.int (j:Int)),some (.f,.int x),some (.f,.int y),some (.f,.int z)]) (by simp only[pv,seval,op,z1])];simp only[pv,seval,op,z2]
  ·split <;> lia
  ·split <;> lia) _ ⟨[],[],none,none,none,none,⟨rfl,(fun _ h=>nomatch h)⟩,⟨rfl,(fun _ h=>nomatch h)⟩,rfl⟩
 rw[Pq]at ef;rw[av (env':=_) (by
  unfold gv;simp only[pv,seval,op];rw[OZ (by lia)];simp only[pv,seval,op,Ql];exact ef)]
 unfold fB;have b:=f7 (number / 16) 4 (by decide);exact⟨number / 16%4,ts,gs,by lia,h1,h2,by simp only[pv,seval,op,yz,i4 _ 16 (by decide) (by decide),kF _ 4 (by decide)]⟩
abbrev Pl:=Int×List Int×List Int
def eP(p:Pl):D:=.tup [.int p.1,.tup (p.2.1.map D.int),.tup (p.2.2.map D.int)]
def Gh(p:Pl)(cnt:Nat):Prop:=p.2.1.length=cnt/\p.2.2.length=cnt
theorem Bi(f:Int)(l:List Int)(h:∀x∈l,0<=x/\x<=10):c8 (az 0) fS (aA ll (au 1) (au 0)) (l.map D.int) [none,some (.f,.int f)]=.ok ((l.map fun x=>f*x).map D.int):=by
 rw[cB (r:=fun x:Int=>D.int (f*x)) (fun env=>∃t,env=[t,some (.f,.int f)]) l ?_ _ ⟨none,rfl⟩]
 ·rw[Pf];rfl
 ·rintro x hx env ⟨t,rfl⟩;have:=h x hx;refine⟨[some (.f,.int x),some (.f,.int f)],rfl,.f,[some (.f,.int x),some (.f,.int f)],?_,_,rfl⟩;simp only[pv,seval,op,C9 f x (mW x (by lia) (by lia))]
theorem pD(b:Int)(hb:0<=b/\b<=10)(ts gs:List Int)(cnt:Nat)(hc:cnt<=10)(h1:Tk ts cnt)(h2:Tk gs cnt)(E6:Int):∃p:Pl,Gh p cnt/\bD [.tup [.int b,.lst (ts.map D.int),.lst (gs.map D.int)],.int E6]=.ok (.f,eP p):=by
 have p50:yN (.int 10) (.int 50)=.ok (.f,.int (10 ^ 50)):=DZ 50 (by decide);have m50:=f7 E6 (10 ^ 50) (by decide);unfold bD g8;rw[bu (h:=by rfl)];rw[av (env':=[some (.f,.tup [.int b,.lst (ts.map D.int),.lst (gs.map D.int)]),some (.f,.int E6),some (.f,.int (1+E6%10 ^ 50)),none,none,none]) (by simp only[pv,↓reduceIte,Nat.reduceAdd,Nat.reduceLT,Nat.reduceLeDiff,Nat.reduceEqDiff,op,p50,kF _ (10 ^ 50) (by decide)])];have hf:0<1+E6%10 ^ 50:=by
  generalize E6%10 ^ 50=q at m50;lia
 generalize 1+E6%10 ^ 50=f at hf;rw[av (env':=[some (.f,.tup [.int b,.lst (ts.map D.int),.lst (gs.map D.int)]),some (.f,.int E6),some (.f,.int f),some (.f,.int b),some (.f,.lst (ts.map D.int)),some (.f,.lst (gs.map D.int))]) (by simp only[pv,↓reduceIte,Nat.reduceAdd,Nat.reduceLT,Nat.reduceLeDiff,Nat.reduceEqDiff,op])];have c1:=Bi f ts h1.2;have c2:=Bi f gs h2.2;have l1:((ts.map fun x=>f*x).map D.int).length<=sizeLine:=cQ (by rw[bQ,bQ,h1.1];lia);have l2:((gs.map fun x=>f*x).map D.int).length<=sizeLine:=cQ (by rw[bQ,bQ,h2.1];lia);have f1:=Eu (ts.map fun x=>f*x);have f2:=Eu (gs.map fun x=>f*x);refine⟨(f*b+E6 / 7%f,ts.map fun x=>f*x,gs.map fun x=>f*x),⟨by rw[bQ];exact h1.1,by rw[bQ];exact h2.1⟩,?_⟩;unfold eP;dsimp only;generalize (ts.map fun x=>f*x).map D.int=T1 at *;generalize (gs.map fun x=>f*x).map D.int=T2 at *;have OC:=C9 f b (mW b (by lia) (by lia));have Mv:=kF (E6 / 7) f hf;have hdiv:=i4 E6 7 (by decide) (by decide);generalize f*b=fb at OC ⊢;generalize (E6 / 7)%f=cf at Mv ⊢;rw[av (env':=[some (.f,.tup [.int b,.lst (ts.map D.int),.lst (gs.map D.int)]),some (.f,.int E6),some (.f,.int f),some (.f,.int b),some (.f,.tup T1),some (.f,.lst (gs.map D.int))]) (by
  generalize (aA ll (au 1) (au 0))=GG at c1 ⊢;simp only[pv,↓reduceIte,Nat.reduceAdd,Nat.reduceLT,Nat.reduceLeDiff,Nat.reduceEqDiff,op,c1,l1,f1])]
 have OD:∀GG,GG=(aA ll (au 1) (au 0))->c8 (az 0) fS GG (gs.map D.int) [none,some (.f,.int f)]=.ok T2:=fun GG h=>by rw[h];exact c2
 rw[show(d7 (j6 (aH (aA dU (aq (aA ll (au 2) (au 3))) (aq (aA iy (aq (aA fY (au 1) (aq (aD (.int 7))))) (au 2)))) (aH (aV 4) (aH (bA c7 (ai (aq (dw (FW (j8 5) (FW (iQ (aV 5)) (iR (aV 5)))) [none,some 2] (az 0) fS (aA ll (au 1) (au 0)))) aB)) cp)))))=(fun GG=>d7 (j6 (aH (aA dU (aq (aA ll (au 2) (au 3))) (aq (aA iy (aq (aA fY (au 1) (aq (aD (.int 7))))) (au 2)))) (aH (aV 4) (aH (bA c7 (ai (aq (dw (FW (j8 5) (FW (iQ (aV 5)) (iR (aV 5)))) [none,some 2] (az 0) fS GG)) aB)) cp))))) (aA ll (au 1) (au 0)) from rfl];generalize eGG:(aA ll (au 1) (au 0))=GG;have c2:=OD GG eGG.symm;clear eGG OD;simp only[pv,↓reduceIte,Nat.reduceAdd,Nat.reduceLT,Nat.reduceLeDiff,Nat.reduceEqDiff,op,OC,Mv,hdiv,c2,l2,f2]
theorem vq(ns:List Int)(first:Nat)(cnt:Nat)(hc:cnt<=10)(ps:List Pl)(OE:∀p∈ps,Gh p cnt)(hl:ps.length<=100)(k:Nat)(hk:k<=100)(t5 t6 t7:Option R):
  ∃(Ly:List Pl) (u5 u6 u7:Option R),(∀p∈Ly,Gh p cnt)/\ps.length+1<=Ly.length/\Ly.length<=ps.length+2/\b7 [some (.f,.lst (ns.map D.int)),some (.f,.int (first:Int)),some (.f,.int (cnt:Int)),some (.l .f,.lst (ps.map eP)),some (.f,.int (k:Int)),t5,t6,t7]=.ok (.nx [some (.f,.lst (ns.map D.int)),some (.f,.int (first:Int)),some (.f,.int (cnt:Int)),some (.l .f,.lst (Ly.map eP)),some (.f,.int (k:Int)),u5,u6,u7]):=by
 obtain⟨v,ev⟩:=Bh ns (first:Int) (k:Int) (by lia);obtain⟨b,ts,gs,hb,h1,h2,ep⟩:=yA v cnt hc;have c1:=mZ ns (first+k);rw[show((first+k:Nat):Int)=(first:Int)+(k:Int) by lia]at c1;have c2:=mZ ns (first+6+k);rw[show((first+6+k:Nat):Int)=(first:Int)+6+(k:Int) by lia]at c2;obtain⟨p1,OF,e1⟩:=pD b hb ts gs cnt hc h1 h2 (cell ns (first+k));have m4:=f7 (v / 256) 4 (by decide);obtain⟨p2,LU,e2⟩:=pD (v / 256%4) (by lia) gs ts cnt hc h2 h1 (cell ns (first+6+k));have IG:aZ (.t [.f,.l .f,.l .f]) (.tup [.int b,.lst (ts.map D.int),.lst (gs.map D.int)])=true:=by
  have f1:=Eu ts;have f2:=Eu gs;simp only[aZ,iw,cT];rw[<-bI,<-bI,f1,f2];rfl
 have OG:∀p:Pl,cT (eP p)=true:=fun p=>by
  unfold eP;rw[cH];simp only[flatDs,cH,Eu,jc];rfl
 have hz1:(ps.map eP).length<sizeLine:=f9 (by rw[bQ];lia);have Jk:(ps.map eP++[eP p1]).length<sizeLine:=f9 (by rw[iZ,bQ,Pd];lia);unfold b7;rw[av (env':=[some (.f,.lst (ns.map D.int)),some (.f,.int (first:Int)),some (.f,.int (cnt:Int)),some (.l .f,.lst (ps.map eP)),some (.f,.int (k:Int)),some (.f,.int v),t6,t7]) (by simp only[pv,seval,op,ev])];rw[av (env':=[some (.f,.lst (ns.map D.int)),some (.f,.int (first:Int)),some (.f,.int (cnt:Int)),some (.l .f,.lst (ps.map eP)),some (.f,.int (k:Int)),some (.f,.int v),some (.t [.f,.l .f,.l .f],.tup [.int b,.lst (ts.map D.int),.lst (gs.map D.int)]),t7]) (by simp only[pv,seval,op,ep,IG])];rw[av (env':=[some (.f,.lst (ns.map D.int)),some (.f,.int (first:Int)),some (.f,.int (cnt:Int)),some (.l .f,.lst (ps.map eP++[eP p1])),some (.f,.int (k:Int)),some (.f,.int v),some (.t [.f,.l .f,.l .f],.tup [.int b,.lst (ts.map D.int),.lst (gs.map D.int)]),t7]) (by simp only[pv,seval,op,c1,e1,OG,hz1])];by_cases h3:0<v / 64%3
 ·refine⟨ps++[p1,p2],some (.f,.int v),some (.f,.tup [.int b,.lst (ts.map D.int),.lst (gs.map D.int)]),some (.f,.tup [.int (v / 256%4),.lst (gs.map D.int),.lst (ts.map D.int)]),fun p hp=>?_,by rw[iZ];simp,by rw[iZ];simp,?_⟩
  ·rcases yT hp with hp|hp
   ·exact OE p hp
   ·rcases O6.mp hp with rfl|hp
    ·exact OF
    ·rw[yS hp];exact LU
  ·rw[Pe,d8,d8,Pq,show ps.map eP++[eP p1,eP p2]=(ps.map eP++[eP p1])++[eP p2] by rw[Po];rfl];simp only[pv,seval,op,i4 _ 64 (by decide) (by decide),i4 _ 256 (by decide) (by decide),kF _ 3 (by decide),kF _ 4 (by decide),gt_iff_lt,h3,Rt,at2,c2,e2,OG,Jk]
 ·refine⟨ps++[p1],some (.f,.int v),some (.t [.f,.l .f,.l .f],.tup [.int b,.lst (ts.map D.int),.lst (gs.map D.int)]),t7,fun p hp=>?_,by rw[iZ];simp,by rw[iZ];simp,?_⟩
  ·rcases yT hp with hp|hp
   ·exact OE p hp
   ·rw[yS hp];exact OF
  ·rw[Pe,d8,Pq];simp only[pv,seval,op,i4 _ 64 (by decide) (by decide),kF _ 3 (by decide),gt_iff_lt,h3,Rc,iY]
theorem vy(ns:List Int)(first:Nat)(cnt:Nat)(hc:cnt<=10):∃ps:List Pl,(∀p∈ps,Gh p cnt)/\ps≠[]/\ps.length<=8/\bE [.lst (ns.map D.int),.int (first:Int),.int (cnt:Int)]=.ok (.l .f,.lst (ps.map eP)):=by
 have c1:aE [.lst (ns.map D.int),.int 1]=.ok (.f,.int (cell ns 1)):=mZ ns 1;have m4:=f7 (cell ns 1 / 4) 4 (by decide);unfold bE g9;rw[bu (h:=by rfl)];rw[av (env':=[some (.f,.lst (ns.map D.int)),some (.f,.int (first:Int)),some (.f,.int (cnt:Int)),some (.l .f,.lst []),none,none,none,none]) (by simp only[pv,seval,op])];obtain⟨env',ef,ps,t4,t5,t6,t7,h1,h2,h3,rfl⟩:=oq (a:=az 4) (g:=b7) (e:=fun k=>D.int (k:Int)) (1+cell ns 1 / 4%4).toNat (fun i env=>∃(ps:List Pl) (t4 t5 t6 t7:Option R),(∀p∈ps,Gh p cnt)/\i<=ps.length/\ps.length<=2*i/\env=[some (.f,.lst (ns.map D.int)),some (.f,.int (first:Int)),some (.f,.int (cnt:Int)),some (.l .f,.lst (ps.map eP)),t4,t5,t6,t7]) (by
  rintro k env hk ⟨ps,t4,t5,t6,t7,h1,h2,h3,rfl⟩;obtain⟨Ly,u5,u6,u7,h1',Nm,h3',e⟩:=vq ns first cnt hc ps h1 (by lia) k (by lia) t5 t6 t7
  exact⟨_,rfl,_,e,Ly,_,_,_,_,h1',by lia,by lia,rfl⟩) _ ⟨[],none,none,none,none,(fun _ h=>nomatch h),OW _,OW _,rfl⟩
 rw[Pq]at ef;rw[av (env':=_) (by
  unfold fC;simp only[pv,seval,op,c1,i4 _ 4 (by decide) (by decide),kF _ 4 (by decide)];rw[OZ (by lia)];simp only[pv,seval,op];exact ef)]
 unfold eU;refine⟨ps,h1,?_,by lia,by simp only[pv,seval,op]⟩;intro h;rw[h,QK]at h2;lia
theorem Bj{α:Type}{l:List α}(h:l.Nodup)(lo hi:Option Int):(iS l lo hi).Nodup:=by
 unfold iS;exact(h.sublist (List.drop_sublist _ _)).sublist (RY _ _)
theorem Bk{α:Type}{l:List α}{r:α->α->Prop}(h:l.Pairwise r)(lo hi:Option Int):(iS l lo hi).Pairwise r:=by
 unfold iS;exact(h.sublist (List.drop_sublist _ _)).sublist (RY _ _)
theorem yB(ns:List Int):∃nY:Ew,nY≠[]/\nY.length<=3/\nY.Nodup/\nY.Pairwise (fun a b=>GS b a=false)/\cn [.lst (ns.map D.int)]=.ok (.f,.tup (nY.map D.str)):=by
 have c0:aE [.lst (ns.map D.int),.int 0]=.ok (.f,.int (cell ns 0)):=mZ ns 0;have c1:aE [.lst (ns.map D.int),.int 1]=.ok (.f,.int (cell ns 1)):=mZ ns 1;obtain⟨l,hl,KA,hpw,en⟩:=yx (cell ns 0);have m3:=f7 (cell ns 1) 3 (by decide);unfold cn iK;rw[bu (h:=by rfl)];rw[av (env':=[some (.f,.lst (ns.map D.int)),some (.l .f,.lst (l.map D.str)),none,none,none]) (by simp only[pv,seval,op,c0,en])];rw[av (env':=[some (.f,.lst (ns.map D.int)),some (.l .f,.lst (l.map D.str)),some (.f,.int (cell ns 1)),none,none]) (by simp only[pv,seval,op,c1])];rw[av (env':=[some (.f,.lst (ns.map D.int)),some (.l .f,.lst (l.map D.str)),some (.f,.int (cell ns 1)),some (.f,.int (1+cell ns 1%3)),none]) (by simp only[pv,seval,op,kF _ 3 (by decide)])];obtain⟨cnt,ec⟩:=Qk (show 0<=1+cell ns 1%3 by lia);rw[ec];have ms:=f7 (cell ns 1 / 32) (6-(cnt:Int)) (by lia);obtain⟨st,es⟩:=Qk ms.1;rw[av (env':=[some (.f,.lst (ns.map D.int)),some (.l .f,.lst (l.map D.str)),some (.f,.int (cell ns 1)),some (.f,.int (cnt:Int)),some (.f,.int (st:Int))]) (by simp only[pv,seval,op,i4 _ 32 (by decide) (by decide),kF _ (6-(cnt:Int)) (by lia),es])];have Ld:=yk l st (st+cnt) (by lia) (by lia);have hlen:(iS l (some (st:Int)) (some ((st+cnt:Nat):Int))).length=cnt:=by
  rw[Ld,Py,Rw];lia
 rw[show((st+cnt:Nat):Int)=(st:Int)+(cnt:Int) by lia]at hlen;refine⟨iS l (some (st:Int)) (some ((st:Int)+(cnt:Int))),?_,by lia,Bj KA _ _,Bk hpw _ _,?_⟩
 ·intro h;rw[h,QK]at hlen;lia
 ·simp only[pv,seval,op,yn]
def cY(k:Nat):List (Int×Pl)->Option (List Int)
 |[]=>some []
 |z::zs=>if z.1<z.2.2.1.getD k 0 then none else(cY k zs).map fun r=>(z.1-z.2.2.1.getD k 0+z.2.2.2.getD k 0)::r
theorem jT(k:Nat):∀{zs:List (Int×Pl)}{r:List Int},cY k zs=some r->r.length=zs.length
 |[],r,h=>by cases h;rfl
 |z::zs,r,h=>by
  rw[cY]at h;split at h
  ·cases h
  ·rw[Pp]at h;obtain⟨r',h1,rfl⟩:=h;rw[O2,O2,jT k h1]
theorem lG(k:Nat):∀{zs:List (Int×Pl)}{r:List Int}{j:Nat}{z:Int×Pl},cY k zs=some r->zs[j]?=some z->¬ z.1<z.2.2.1.getD k 0/\r[j]?=some (z.1-z.2.2.1.getD k 0+z.2.2.2.getD k 0)
 |[],r,j,z,h,e=>by cases e
 |y::zs,r,j,z,h,e=>by
  rw[cY]at h;split at h
  ·cases h
  ·rename_i hn;rw[Pp]at h;obtain⟨r',h1,rfl⟩:=h;cases j with
   |zero=>
    rw[List.getElem?_cons_zero]at e;cases e;exact⟨hn,rfl⟩
   |succ j=>
    rw[List.getElem?_cons_succ]at e ⊢;exact lG k h1 e
theorem Bl(A0 A1 A2:Option R)(k cnt:Nat)(hk:k<cnt)(acc:List Int)(hl:acc.length<=1000)(z:Int×Pl)(hz:Gh z.2 cnt):b5 [A0,A1,A2,some (.f,.int (k:Int)),some (.l .f,.lst (acc.map D.int)),some (.f,.int z.1),some (.f,eP z.2)]=if z.1<z.2.2.1.getD k 0 then .ok (.rt (.f,.non)) else .ok (.nx [A0,A1,A2,some (.f,.int (k:Int)),some (.l .f,.lst ((acc++[z.1-z.2.2.1.getD k 0+z.2.2.2.getD k 0]).map D.int)),some (.f,.int z.1),some (.f,eP z.2)]):=by
 have h1:F4 (z.2.2.1.map D.int) (k:Int)=some (.int (z.2.2.1.getD k 0)):=kC (by rw[hz.1];exact hk);have h2:F4 (z.2.2.2.map D.int) (k:Int)=some (.int (z.2.2.2.getD k 0)):=kC (by rw[hz.2];exact hk);have NV:(acc.map D.int).length<sizeLine:=f9 (by rw[bQ];lia);unfold b5 eP;by_cases h:z.1<z.2.2.1.getD k 0
 ·rw[OZ h];simp only[pv,seval,op,h1,h,Rt]
 ·rw[O5 h,Pe,d8,Pq];simp only[pv,seval,op,h1,h2,at2,h,Rc,iY,NV]
theorem m5(A0 A1 A2:Option R)(k cnt:Nat)(hk:k<cnt):∀(zs:List (Int×Pl)) (acc:List Int) (t5 t6:Option R),acc.length+zs.length<=1000->(∀z∈zs,Gh z.2 cnt)->
  (cY k zs=none/\jX (kq 2 (aK (az 5) (aK (az 6) eC))) b5 (zs.map fun z:Int×Pl=>D.tup [D.int z.1,eP z.2]) [A0,A1,A2,some (.f,.int (k:Int)),some (.l .f,.lst (acc.map D.int)),t5,t6]=.ok (.rt (.f,.non)))\/
  ∃r u5 u6,cY k zs=some r/\jX (kq 2 (aK (az 5) (aK (az 6) eC))) b5 (zs.map fun z:Int×Pl=>D.tup [D.int z.1,eP z.2]) [A0,A1,A2,some (.f,.int (k:Int)),some (.l .f,.lst (acc.map D.int)),t5,t6]=.ok (.nx [A0,A1,A2,some (.f,.int (k:Int)),some (.l .f,.lst ((acc++r).map D.int)),u5,u6])
 |[],acc,t5,t6,_,_=>.inr ⟨[],t5,t6,rfl,by rw[O8];rfl⟩
 |z::zs,acc,t5,t6,hl,hp=>by
  have h1:=Bl A0 A1 A2 k cnt hk acc (by rw[O2]at hl;lia) z (hp z OX);have ha:kq 2 (aK (az 5) (aK (az 6) eC)) (D.tup [D.int z.1,eP z.2]) [A0,A1,A2,some (.f,.int (k:Int)),some (.l .f,.lst (acc.map D.int)),t5,t6]=.ok [A0,A1,A2,some (.f,.int (k:Int)),some (.l .f,.lst (acc.map D.int)),some (.f,.int z.1),some (.f,eP z.2)]:=by simp only[pv,seval]
  rw[d8,jO,ha,Fv,h1,cY];by_cases h:z.1<z.2.2.1.getD k 0
  ·left;rw[OZ h,OZ h];exact⟨rfl,by rw[Fv]⟩
  ·rw[O5 h,O5 h,Fv];rcases m5 A0 A1 A2 k cnt hk zs (acc++[z.1-z.2.2.1.getD k 0+z.2.2.2.getD k 0]) (some (.f,.int z.1)) (some (.f,eP z.2)) (by rw[O2]at hl;rw[iZ,Pd];lia) (fun y hy=>hp y (O7 _ hy)) with⟨e1,e2⟩|⟨r,u5,u6,e1,e2⟩
   ·left;exact⟨by rw[e1];rfl,e2⟩
   ·right;refine⟨_,u5,u6,by rw[e1];rfl,?_⟩;rw[Po]at e2;exact e2
def eN(nY:Ew)(ps:List Pl):D:=.tup [.tup (nY.map D.str),.lst (ps.map eP)]
def eM(m:List Int):D:=.tup (m.map D.int)
theorem ou {nY : Ew} {m : List Nat} (h : m ∈ nY) : mJ (nY.map D.str) [.str m] = .ok (.f, .int ((nY.idxOf m : Nat) : Int)) := by
  first
    | (unfold mJ
       dsimp only
       rw [d4]
       dsimp only
       rw [OZ h])
    | (unfold mJ
       simp only [d4, h, Rh])
theorem jd{α β:Type}(f:α->D)(g:β->D)(xs:List α)(ys:List β):((xs.map f).zip (ys.map g)).map (fun z=>D.tup [z.1,z.2])=(xs.zip ys).map fun z=>D.tup [f z.1,g z.2]:=by
 rw[List.zip_map,Pf];rfl
theorem Bm(nY:Ew)(ps:List Pl)(hl:ps.length<=100)(hp:∀p∈ps,Gh p nY.length)(m:List Int)(mv:List Nat)(hm:mv∈nY):
  (cY (nY.idxOf mv) (m.zip ps)=none/\b8 [eN nY ps,eM m,.str mv]=.ok (.f,.non))\/∃r,cY (nY.idxOf mv) (m.zip ps)=some r/\b8 [eN nY ps,eM m,.str mv]=.ok (.f,eM r):=by
 have FF:=ou hm;have hk:=Qs hm;generalize nY.idxOf mv=k at FF hk;unfold b8 jJ eN eM;rw[bu (h:=by rfl)];rw[av (env':=[some (.f,.tup [.tup (nY.map D.str),.lst (ps.map eP)]),some (.f,.tup (m.map D.int)),some (.f,.str mv),some (.f,.int (k:Int)),none,none,none]) (by simp only[pv,seval,op,FF])];rw[av (env':=[some (.f,.tup [.tup (nY.map D.str),.lst (ps.map eP)]),some (.f,.tup (m.map D.int)),some (.f,.str mv),some (.f,.int (k:Int)),some (.l .f,.lst []),none,none]) (by simp only[pv,seval,op])];rcases m5 (some (.f,.tup [.tup (nY.map D.str),.lst (ps.map eP)])) (some (.f,.tup (m.map D.int))) (some (.f,.str mv)) k nY.length hk (m.zip ps) [] none none (by rw[QK,Q2];lia) (fun z hz=>hp _ (QH (show(z.1,z.2)∈m.zip ps from hz)).2) with⟨e1,e2⟩|⟨r,u5,u6,e1,e2⟩
 ·left;refine⟨e1,?_⟩;rw[Pq]at e2;unfold eI;simp only[pv,seval,op,jd,e2]
 ·right;refine⟨r,e1,?_⟩;rw[Pq,SI]at e2;unfold eI gr;simp only[pv,seval,op,jd,e2]
theorem eqDs_ints:∀a b:List Int,iz (a.map D.int) (b.map D.int)=decide (a=b)
 |[],[]=>rfl
 |[],_::_=>rfl
 |_::_,[]=>rfl
 |x::a,y::b=>by
  rw[d8,d8,iz,eqDs_ints a b,Ek,Pk];simp
theorem m6(a b:List Int):Ek (eM a) (eM b)=decide (a=b):=by
 unfold eM;rw[Ek,eqDs_ints]
theorem lH(a:List Int):plainD 40 (eM a)=true:=vn a
theorem lI(l:List (List Int)):plainDs 40 (l.map eM)=true:=by
 induction l with
 |nil=>rfl
 |cons a l ih=>
  rw[d8,plainDs,ih,Rk];exact lH a
theorem jU{α:Type}[DecidableEq α](a:α):∀l:List α,a∉l->((l++[a]).findIdx fun x=>decide (x=a))=l.length
 |[],_=>by simp
 |x::l,h=>by
  rw[O6,not_or]at h;rw[Sk,Ru,jU a l h.2,Pa (fun e=>h.1 e.symm)];rfl
theorem CS{α:Type}[DecidableEq α]{e:α->D}(he:∀a b,Ek (e a) (e b)=decide (a=b))(hp:∀l:List α,plainDs 40 (l.map e)=true)(hq:∀a,plainD 40 (e a)=true)(l:List α)(a:α)(h:a∉l):nW (l.map e++[e a]) [e a]=.ok (.f,.int (l.length:Int)):=by
 have e0:l.map e++[e a]=(l++[a]).map e:=by rw[Pe];rfl
 have e1:((l++[a]).map e).any (fun d=>Ek d (e a))=true:=by
  rw[Ra,Qh];exact⟨a,OV _ (Pr.mpr rfl),by show Ek (e a) (e a)=true;rw[he,Ph rfl]⟩
 have e2:((l++[a]).map e).findIdx (fun d=>Ek d (e a))=l.length:=by
  rw[List.findIdx_map];rw[<-jU a l h];congr 1
  funext x
  exact he x a
 unfold nW;dsimp only;rw[e0,hq,hp,e1,e2];rfl
theorem D5{α:Type}[DecidableEq α]{e:α->D}(he:∀a b,Ek (e a) (e b)=decide (a=b))(hp:∀l:List α,plainDs 40 (l.map e)=true)(hq:∀a,plainD 40 (e a)=true)(l:List α)(a:α):yO (e a) (.lst (l.map e))=.ok (.f,.bl (!decide (a∈l))):=by
 have e1:tu (e a) (l.map e)=decide (a∈l):=by
  unfold tu;rw[Ra,Pk,Qh,O9];constructor
  ·rintro⟨x,hx,e1⟩;have e1:Ek (e x) (e a)=true:=e1;rw[he,O9]at e1;rw[<-e1];exact hx
  ·intro h;refine⟨a,h,?_⟩;show Ek (e a) (e a)=true;rw[he,O9]
 unfold yO IT;dsimp only;rw[hq,hp,P0,OZ rfl,e1];rfl
theorem kG(t:List Int):cT (eM t)=true:=by
 unfold eM;rw[cH,Eu]
def IC(k:Nat)(p:Pl):Int:=p.2.1.getD k 0
def MY(k:Nat)(p:Pl):Int:=p.2.2.getD k 0
def Bn(k:Nat)(zs:List (Int×Pl)):Bool:=zs.all fun z=>decide (IC k z.2<=z.1)
theorem pE(k:Nat):∀zs:List (Int×Pl),cY k zs=if Bn k zs then some (zs.map fun z=>z.1-IC k z.2+MY k z.2) else none
 |[]=>rfl
 |z::zs=>by
  rw[cY,pE k zs];unfold Bn;rw[RF];by_cases h:z.1<z.2.2.1.getD k 0
  ·have h2:decide (IC k z.2<=z.1)=false:=Pa (by unfold IC;lia);rw[OZ h,h2,Bool.false_and,O5 O0]
  ·have h2:decide (IC k z.2<=z.1)=true:=Ph (by unfold IC;lia);rw[O5 h,h2,Bool.true_and];cases(zs.all fun z=>decide (IC k z.2<=z.1)) with
   |true=>rw[OZ rfl,OZ rfl];rfl
   |false=>rw[O5 O0,O5 O0];rfl
theorem yC(nY:Ew)(ps:List Pl)(hl:ps.length<=100):bt [eN nY ps]=.ok (.f,eM (ps.map (·.1))):=by
 have hc:c8 (az 0) fS (aA ED (au 0) (aq (aD (.int 0)))) (ps.map eP) [none]=.ok ((ps.map (·.1)).map D.int):=by
  rw[Pf];refine cB (fun env=>∃t,env=[t]) _ ?_ _ ⟨_,rfl⟩;rintro p _ env ⟨t,rfl⟩;refine⟨[some (.f,eP p)],by simp only[pv,seval],?_⟩;unfold eP;simp only[pv,seval,op,Jl];exact⟨_,_,rfl,_,rfl⟩
 have Lf:((ps.map (·.1)).map D.int).length<=sizeLine:=line_le (by rw[bQ,bQ];lia);unfold bt fm eN;rw[bu (h:=by rfl)];simp only[pv,seval,op,JU,hc,Lf,Eu];rfl
theorem Bo{p:Pl}{k cnt:Nat}(h:Gh p cnt)(hk:k<cnt):F4 (p.2.1.map D.int) (k:Int)=some (.int (IC k p)):=kC (by rw[h.1];exact hk)
theorem CT{p:Pl}{k cnt:Nat}(h:Gh p cnt)(hk:k<cnt):F4 (p.2.2.map D.int) (k:Int)=some (.int (MY k p)):=kC (by rw[h.2];exact hk)
theorem vz(nY:Ew)(ps:List Pl)(hl:ps.length<=100)(hp:∀p∈ps,Gh p nY.length)(m:List Int)(mv:List Nat)(hm:mv∈nY):fT [eN nY ps,eM m,.str mv]=.ok (.f,.bl (Bn (nY.idxOf mv) (m.zip ps))):=by
 have FF:=ou hm;have hk:=Qs hm;generalize nY.idxOf mv=k at FF hk;have hc:c8 (kq 2 (aK (az 0) (aK (az 1) eC))) fS (aA Ma (au 0) (aq (aA ED (aq (aA ED (au 1) (aq (aD (.int 1))))) (au 2)))) ((m.zip ps).map fun z=>D.tup [.int z.1,eP z.2]) [none,none,some (.f,.int (k:Int))]=.ok (((m.zip ps).map fun z=>decide (IC k z.2<=z.1)).map D.bl):=by
  rw[Pf];refine cB (fun env=>∃t u,env=[t,u,some (.f,.int (k:Int))]) _ ?_ _ ⟨_,_,rfl⟩;rintro⟨x,p⟩ hz env ⟨t,u,rfl⟩;have e1:=Bo (hp p (QH hz).2) hk;refine⟨_,jP _ _ _ _ _,?_⟩;unfold eP;simp only[pv,seval,op,JU,e1];exact⟨_,_,rfl,_,_,rfl⟩
 have Lf:(((m.zip ps).map fun z=>decide (IC k z.2<=z.1)).map D.bl).length<=sizeLine:=line_le (by rw[bQ,bQ,Q2];lia);unfold fT ph eN eM;rw[bu (h:=by rfl)];rw[av (env':=[some (.f,.tup [.tup (nY.map D.str),.lst (ps.map eP)]),some (.f,.tup (m.map D.int)),some (.f,.str mv),some (.f,.int (k:Int))]) (by simp only[pv,seval,op,Jl,FF])];simp only[pv,seval,op,JU,jd,hc,Lf,pq,wj];unfold Bn;rw[Qd];rfl
def eO:Option (List Int)->D
 |none=>.non
 |some r=>eM r
theorem yD(o:Option (List Int)):cT (eO o)=true:=by
 cases o with
 |none=>rfl
 |some r=>exact kG r
theorem yE(nY:Ew)(ps:List Pl)(hl:ps.length<=100)(hp:∀p∈ps,Gh p nY.length)(m:List Int)(mv:List Nat)(hm:mv∈nY):ft [eN nY ps,eM m,.str mv]=.ok (.f,eO (cY (nY.idxOf mv) (m.zip ps))):=by
 have hg:=vz nY ps hl hp m mv hm;have FF:=ou hm;have hk:=Qs hm;rw[pE];generalize nY.idxOf mv=k at FF hk hg;have hc:c8 (kq 2 (aK (az 0) (aK (az 1) eC))) fS (aA dU (aq (aA uG (au 0) (aq (aA ED (aq (aA ED (au 1) (aq (aD (.int 1))))) (au 2))))) (aq (aA ED (aq (aA ED (au 1) (aq (aD (.int 2))))) (au 2)))) ((m.zip ps).map fun z=>D.tup [.int z.1,eP z.2]) [none,none,some (.f,.int (k:Int))]=.ok (((m.zip ps).map fun z=>z.1-IC k z.2+MY k z.2).map D.int):=by
  rw[Pf];refine cB (fun env=>∃t u,env=[t,u,some (.f,.int (k:Int))]) _ ?_ _ ⟨_,_,rfl⟩;rintro⟨x,p⟩ hz env ⟨t,u,rfl⟩;have e1:=Bo (hp p (QH hz).2) hk;have e2:=CT (hp p (QH hz).2) hk;refine⟨_,jP _ _ _ _ _,?_⟩;unfold eP;simp only[pv,seval,op,JU,at2,e1,e2];exact⟨_,_,rfl,_,_,rfl⟩
 have Lf:(((m.zip ps).map fun z=>z.1-IC k z.2+MY k z.2).map D.int).length<=sizeLine:=line_le (by rw[bQ,bQ,Q2];lia);unfold ft sr;rw[bu (h:=by rfl)];cases hz:Bn k (m.zip ps) with
 |false=>
  rw[hz]at hg;simp only[pv,seval,hg,cA,gK,RX,iY];rfl
 |true=>
  rw[hz]at hg;unfold eN eM at hg ⊢;rw[av (env':=[some (.f,.tup [.tup (nY.map D.str),.lst (ps.map eP)]),some (.f,.tup (m.map D.int)),some (.f,.str mv),none]) (by simp only[pv,seval,hg,cA,gK,P1,iY])];rw[av (env':=[some (.f,.tup [.tup (nY.map D.str),.lst (ps.map eP)]),some (.f,.tup (m.map D.int)),some (.f,.str mv),some (.f,.int (k:Int))]) (by simp only[pv,seval,op,Jl,FF])];simp only[pv,seval,op,JU,jd,hc,Lf,Eu];rfl
theorem je(env:PV.Env)(f g:FX):ky f g env=Res.bnd (f env) (f:=⟨fun p=>Res.bnd (g p.2) (f:=⟨fun q=>.ok ((.t [p.1.1,q.1.1],.tup [p.1.2,q.1.2]),q.2)⟩)⟩):=id rfl
abbrev Rn:=List (List Int)×List Fc
def pos(S:List (List Int))(t:List Int):Nat:=S.findIdx fun x=>decide (x=t)
noncomputable def eV(nY:Ew)(ps:List Pl)(d:Nat)(mv:List Nat)(r:Rn):Option Rn:=match cY (nY.idxOf mv) ((r.1.getD d []).zip ps) with
 |none=>some r
 |some t=>if t∈r.1 then some (r.1,r.2++[((d:Int),mv,(pos r.1 t:Int))]) else if r.1.length=12 then none else some (r.1++[t],r.2++[((d:Int),mv,(r.1.length:Int))])
def lN(nY:Ew)(ps:List Pl)(d:Nat):Ew->Rn->Option Rn
 |[],r=>some r
 |mv::l,r=>(eV nY ps d mv r).bind (lN nY ps d l)
def ox(nY:Ew)(ps:List Pl):Nat->Nat->Rn->Option Rn
 | 0,_,r=>some r
 |f+1,d,r=>if d<r.1.length then(lN nY ps d nY r).bind (ox nY ps f (d+1)) else some r
theorem D6{α:Type}[DecidableEq α]{e:α->D}(he:∀a b,Ek (e a) (e b)=decide (a=b))(hp:∀l:List α,plainDs 40 (l.map e)=true)(hq:∀a,plainD 40 (e a)=true)(l:List α)(a:α)(h:a∈l):nW (l.map e) [e a]=.ok (.f,.int ((l.findIdx fun x=>decide (x=a):Nat):Int)):=by
 have e1:(l.map e).any (fun d=>Ek d (e a))=true:=by
  rw[Ra,Qh];exact⟨a,h,by show Ek (e a) (e a)=true;rw[he,Ph rfl]⟩
 have e2:(l.map e).findIdx (fun d=>Ek d (e a))=l.findIdx fun x=>decide (x=a):=by
  rw[List.findIdx_map];congr 1
  funext x
  exact he x a
 unfold nW;dsimp only;rw[hq,hp,e1,e2];rfl
theorem Bp{q:Nat}(hq:12<=q)(nY:Ew)(ps:List Pl)(hl:ps.length<=100)(hp:∀p∈ps,Gh p nY.length)(S:List (List Int))(A:List Fc)(hA:A.length<=1000)(hS:S.length<=12)(d:Nat)(hd:d<S.length)(mv:List Nat)(hn:mv∈nY)(t6:Option R):
  match eV nY ps d mv (S,A) with
  |some (S',A')=>∃u6,bC [some (.f,eN nY ps),some (.f,.int ((q:Nat):Int)),some (.l .f,.lst (S.map eM)),some (.l .f,.lst (A.map eA)),some (.f,.int ((d:Nat):Int)),some (.f,.str mv),t6]=.ok (.nx [some (.f,eN nY ps),some (.f,.int ((q:Nat):Int)),some (.l .f,.lst (S'.map eM)),some (.l .f,.lst (A'.map eA)),some (.f,.int ((d:Nat):Int)),some (.f,.str mv),u6])
  |none=>q=12->bC [some (.f,eN nY ps),some (.f,.int ((q:Nat):Int)),some (.l .f,.lst (S.map eM)),some (.l .f,.lst (A.map eA)),some (.f,.int ((d:Nat):Int)),some (.f,.str mv),t6]=.ok (.rt (.f,.non)):=by
 have OH:S[d]?=some S[d]:=wm hd;have hgd:S.getD d []=S[d]:=by rw[List.getD_eq_getElem?_getD,OH];rfl
 have Jm:F4 (S.map eM) (d:Int)=some (eM S[d]):=hV (by rw[List.getElem?_map,OH];rfl);have hzA:(A.map eA).length<sizeLine:=f9 (by rw[bQ];lia);have hzS:(S.map eM).length<sizeLine:=f9 (by rw[bQ];lia);have hcn:cT .non=true:=rfl;unfold eV;dsimp only;rw[hgd];unfold bC;rcases Bm nY ps hl hp S[d] mv hn with⟨hf,e⟩|⟨t,hf,e⟩
 ·rw[hf];dsimp only;refine⟨some (.f,.non),?_⟩;rw[av (env':=[some (.f,eN nY ps),some (.f,.int ((q:Nat):Int)),some (.l .f,.lst (S.map eM)),some (.l .f,.lst (A.map eA)),some (.f,.int ((d:Nat):Int)),some (.f,.str mv),some (.f,.non)]) (by simp only[pv,seval,op,Jm,e,hcn])];simp only[pv,seval,op,o_isnN,iY]
 ·rw[hf];dsimp only;have hft:=kG t;have Lg:=D5 m6 lI lH S t;have Jn:isnO (eM t) .non=.ok (.f,.bl true):=id rfl;rw[av (env':=[some (.f,eN nY ps),some (.f,.int ((q:Nat):Int)),some (.l .f,.lst (S.map eM)),some (.l .f,.lst (A.map eA)),some (.f,.int ((d:Nat):Int)),some (.f,.str mv),some (.f,eM t)]) (by simp only[pv,seval,op,Jm,e,hft])];by_cases hm:t∈S
  ·rw[OZ hm];have FF:=D6 m6 lI lH S t hm;dsimp only;refine⟨some (.f,eM t),?_⟩;unfold pos;rw[Pe];simp only[pv,seval,op,Jn,Lg,hm,Rt,P1,iY,wo,FF,hzA];rfl
  ·rw[O5 hm];by_cases h9:S.length=12
   ·rw[OZ h9];dsimp only;intro h8;have he:((S.length:Int)==((q:Nat):Int))=true:=by rw[h9,h8];rfl
    simp only[pv,seval,op,Jn,Lg,hm,Rc,RX,bQ,he]
   ·rw[O5 h9];dsimp only;have he:((S.length:Int)==((q:Nat):Int))=false:=by
     rw[Qo];lia
    have FF:=CS m6 lI lH S t hm;refine⟨some (.f,eM t),?_⟩;rw[Pe,Pe,d8,Pq];have hzS':S.length<sizeLine:=f9 (by lia);have hzA':A.length<sizeLine:=f9 (by lia);simp only[pv,seval,op,Jn,Lg,hm,Rc,RX,iY,bQ,he,wo,FF,hzA',hzS'];rfl
theorem wt{nY:Ew}{ps:List Pl}{d:Nat}{mv:List Nat}{r r':Rn}(h:eV nY ps d mv r=some r')(h8:r.1.length<=12):r.1.length<=r'.1.length/\r'.1.length<=12/\r'.2.length<=r.2.length+1:=by
 unfold eV at h;split at h
 ·cases h;lia
 ·split at h
  ·cases h;refine⟨OW _,h8,?_⟩;rw[iZ];exact OW _
  ·split at h
   ·cases h
   ·cases h;dsimp only;rw[iZ,iZ,Pd,Pd];lia
theorem Bq{nY:Ew}{ps:List Pl}{d:Nat}:∀(l:Ew) {r r':Rn},lN nY ps d l r=some r'->r.1.length<=12->r.1.length<=r'.1.length/\r'.1.length<=12/\r'.2.length<=r.2.length+l.length
 |[],r,r',h,h8=>by
  cases h;exact⟨OW _,h8,OW _⟩
 |mv::l,r,r',h,h8=>by
  unfold lN at h;obtain⟨r1,h1,h2⟩:=Px.mp h;have b1:=wt h1 h8;have b2:=Bq l h2 b1.2.1;rw[O2];lia
theorem wu{q:Nat}(hq:12<=q)(nY:Ew)(ps:List Pl)(hl:ps.length<=100)(hp:∀p∈ps,Gh p nY.length)(d:Nat):∀(l:Ew),(∀mv∈l,mv∈nY)->∀(r:Rn),r.2.length+l.length<=1000->r.1.length<=12->d<r.1.length->∀t5 t6:Option R,
  match lN nY ps d l r with
  |some r'=>∃u5 u6,jX (az 5) bC (l.map D.str) [some (.f,eN nY ps),some (.f,.int ((q:Nat):Int)),some (.l .f,.lst (r.1.map eM)),some (.l .f,.lst (r.2.map eA)),some (.f,.int ((d:Nat):Int)),t5,t6]=.ok (.nx [some (.f,eN nY ps),some (.f,.int ((q:Nat):Int)),some (.l .f,.lst (r'.1.map eM)),some (.l .f,.lst (r'.2.map eA)),some (.f,.int ((d:Nat):Int)),u5,u6])
  |none=>q=12->jX (az 5) bC (l.map D.str) [some (.f,eN nY ps),some (.f,.int ((q:Nat):Int)),some (.l .f,.lst (r.1.map eM)),some (.l .f,.lst (r.2.map eA)),some (.f,.int ((d:Nat):Int)),t5,t6]=.ok (.rt (.f,.non))
 |[],_,r,_,_,_,t5,t6=>⟨t5,t6,rfl⟩
 |mv::l,hm,r,hA,h8,hd,t5,t6=>by
  have h1:=Bp hq nY ps hl hp r.1 r.2 (by lia) h8 d hd mv (hm mv OX) t6;have ha:az 5 (.str mv) [some (.f,eN nY ps),some (.f,.int ((q:Nat):Int)),some (.l .f,.lst (r.1.map eM)),some (.l .f,.lst (r.2.map eA)),some (.f,.int ((d:Nat):Int)),t5,t6]=.ok [some (.f,eN nY ps),some (.f,.int ((q:Nat):Int)),some (.l .f,.lst (r.1.map eM)),some (.l .f,.lst (r.2.map eA)),some (.f,.int ((d:Nat):Int)),some (.f,.str mv),t6]:=rfl;unfold lN;cases hs:eV nY ps d mv r with
  |none=>
   have Ko:eV nY ps d mv (r.1,r.2)=none:=hs;rw[Ko]at h1;dsimp only[Option.bind]at h1 ⊢;intro Lh;rw[d8,jO,ha,Fv,h1 Lh,Fv]
  |some r1=>
   have Ko:eV nY ps d mv (r.1,r.2)=some r1:=hs;have b:=wt hs h8;rw[Ko]at h1;obtain⟨u6,h1⟩:=h1;rw[O2]at hA;have ih:=wu hq nY ps hl hp d l (fun x hx=>hm x (O7 _ hx)) r1 (by lia) b.2.1 (by lia) (some (.f,.str mv)) u6;dsimp only[Option.bind];cases hr:lN nY ps d l r1 with
   |none=>
    rw[hr]at ih;dsimp only at ih ⊢;intro Lh;rw[d8,jO,ha,Fv,h1,Fv];exact ih Lh
   |some r2=>
    rw[hr]at ih;dsimp only at ih ⊢;obtain⟨v5,v6,ih⟩:=ih;refine⟨v5,v6,?_⟩;rw[d8,jO,ha,Fv,h1,Fv];exact ih
theorem Br{q:Nat}(hq:12<=q)(nY:Ew)(hn:nY.length<=3)(ps:List Pl)(hl:ps.length<=100)(hp:∀p∈ps,Gh p nY.length):∀(f F d:Nat) (r:Rn),r.1.length<=12->d<=r.1.length->r.2.length<=3*d->13<=f+d->f<=F->∀t5 t6:Option R,
  match ox nY ps f d r with
  |some r'=>r'.2.length<=36/\∃u4 u5 u6,cZ (E5 (aA Iz (au 4) (aq (bA jY (ai (au 2) aB))))) bS F [some (.f,eN nY ps),some (.f,.int ((q:Nat):Int)),some (.l .f,.lst (r.1.map eM)),some (.l .f,.lst (r.2.map eA)),some (.f,.int ((d:Nat):Int)),t5,t6]=.ok (.nx [some (.f,eN nY ps),some (.f,.int ((q:Nat):Int)),some (.l .f,.lst (r'.1.map eM)),some (.l .f,.lst (r'.2.map eA)),u4,u5,u6])
  |none=>q=12->cZ (E5 (aA Iz (au 4) (aq (bA jY (ai (au 2) aB))))) bS F [some (.f,eN nY ps),some (.f,.int ((q:Nat):Int)),some (.l .f,.lst (r.1.map eM)),some (.l .f,.lst (r.2.map eA)),some (.f,.int ((d:Nat):Int)),t5,t6]=.ok (.rt (.f,.non))
 | 0,F,d,r,h8,hd,hA,hf,hF,t5,t6=>by lia
 |f+1,0,d,r,h8,hd,hA,hf,hF,t5,t6=>by lia
 |f+1,F+1,d,r,h8,hd,hA,hf,hF,t5,t6=>by
  unfold ox;by_cases E3:d<r.1.length
  ·rw[OZ E3];have h1:=wu hq nY ps hl hp d nY (fun _ h=>h) r (by lia) h8 E3 t5 t6;have hc:(E5 (aA Iz (au 4) (aq (bA jY (ai (au 2) aB))))) [some (.f,eN nY ps),some (.f,.int ((q:Nat):Int)),some (.l .f,.lst (r.1.map eM)),some (.l .f,.lst (r.2.map eA)),some (.f,.int ((d:Nat):Int)),t5,t6]=.ok (true,[some (.f,eN nY ps),some (.f,.int ((q:Nat):Int)),some (.l .f,.lst (r.1.map eM)),some (.l .f,.lst (r.2.map eA)),some (.f,.int ((d:Nat):Int)),t5,t6]):=by
    have:(d:Int)<(r.1.length:Int):=by lia
    simp only[pv,seval,op,bQ,this,Rt]
   have go:∀qq:Res Out,jX (az 5) bC (nY.map D.str) [some (.f,eN nY ps),some (.f,.int ((q:Nat):Int)),some (.l .f,.lst (r.1.map eM)),some (.l .f,.lst (r.2.map eA)),some (.f,.int ((d:Nat):Int)),t5,t6]=qq->fA [some (.f,eN nY ps),some (.f,.int ((q:Nat):Int)),some (.l .f,.lst (r.1.map eM)),some (.l .f,.lst (r.2.map eA)),some (.f,.int ((d:Nat):Int)),t5,t6]=qq:=fun qq h=>by
    unfold fA;unfold eN at h ⊢;simp only[pv,seval,op];exact h
   cases hr:lN nY ps d nY r with
   |none=>
    rw[hr]at h1;dsimp only[Option.bind]at h1 ⊢;intro Lh;rw[fU,hc,Fv];dsimp only;rw[OZ rfl];unfold bS;rw[G0,go _ (h1 Lh),Fv];rfl
   |some r1=>
    rw[hr]at h1;dsimp only[Option.bind]at h1 ⊢;obtain⟨u5,u6,h1⟩:=h1;have b:=Bq nY hr h8;have e2:bS [some (.f,eN nY ps),some (.f,.int ((q:Nat):Int)),some (.l .f,.lst (r.1.map eM)),some (.l .f,.lst (r.2.map eA)),some (.f,.int ((d:Nat):Int)),t5,t6]=.ok (.nx [some (.f,eN nY ps),some (.f,.int ((q:Nat):Int)),some (.l .f,.lst (r1.1.map eM)),some (.l .f,.lst (r1.2.map eA)),some (.f,.int ((d+1:Nat):Int)),u5,u6]):=by
     unfold bS;rw[av (go _ h1)];unfold g6;simp only[pv,seval,op,Int.natCast_add,Int.cast_ofNat_Int]
    have ih:=Br hq nY hn ps hl hp f F (d+1) r1 b.2.1 (by lia) (by lia) (by lia) (by lia) u5 u6;cases hqr:ox nY ps f (d+1) r1 with
    |none=>
     rw[hqr]at ih;dsimp only at ih ⊢;intro Lh;rw[fU,hc,Fv];dsimp only;rw[OZ rfl,e2,Fv];exact ih Lh
    |some r2=>
     rw[hqr]at ih;dsimp only at ih ⊢;obtain⟨hb,v4,v5,v6,ih⟩:=ih;refine⟨hb,v4,v5,v6,?_⟩;rw[fU,hc,Fv];dsimp only;rw[OZ rfl,e2,Fv];exact ih
  ·rw[O5 E3];dsimp only;refine⟨by lia,some (.f,.int ((d:Nat):Int)),t5,t6,?_⟩;have hc:(E5 (aA Iz (au 4) (aq (bA jY (ai (au 2) aB))))) [some (.f,eN nY ps),some (.f,.int ((q:Nat):Int)),some (.l .f,.lst (r.1.map eM)),some (.l .f,.lst (r.2.map eA)),some (.f,.int ((d:Nat):Int)),t5,t6]=.ok (false,[some (.f,eN nY ps),some (.f,.int ((q:Nat):Int)),some (.l .f,.lst (r.1.map eM)),some (.l .f,.lst (r.2.map eA)),some (.f,.int ((d:Nat):Int)),t5,t6]):=by
    have:¬ (d:Int)<(r.1.length:Int):=by lia
    simp only[pv,seval,op,bQ,this,Rc]
   rw[fU,hc,Fv];rfl
abbrev dt(nY:Ew)(ps:List Pl):Option Rn:=ox nY ps 13 0 ([ps.map (·.1)],[])
theorem Bs{q:Nat}(hq:12<=q)(nY:Ew)(hn:nY.length<=3)(ps:List Pl)(hl:ps.length<=100)(hp:∀p∈ps,Gh p nY.length):
  match dt nY ps with
   |some r=>a9 [eN nY ps,.int ((q:Nat):Int)]=.ok (.t [.l .f,.l .f],.tup [.lst ((cI lF r.2).map eA),.lst (r.1.map eM)])
   |none=>q=12->a9 [eN nY ps,.int ((q:Nat):Int)]=.ok (.f,.non):=by
 have hh:∀(r:R),sSeq cK eJ [some (.f,eN nY ps),some (.f,.int ((q:Nat):Int)),some (.l .f,.lst [eM (ps.map (·.1))]),some (.l .f,.lst []),some (.f,.int 0),none,none]=.ok (.rt r)->a9 [eN nY ps,.int ((q:Nat):Int)]=.ok r:=fun r hr=>by
  unfold a9 kA;rw[bu (h:=by rfl)];have hc:c8 (kq 3 (aK (az 0) (aK (az 1) (aK (az 2) eC)))) fS (aV 0) (ps.map eP) [none,none,none]=.ok ((ps.map (·.1)).map D.int):=by
   rw[cB (r:=fun p:Pl=>D.int p.1) (fun env=>∃t u w,env=[t,u,w]) ps ?_ _ ⟨none,none,none,rfl⟩]
   ·rw[Pf];rfl
   ·rintro p _ env ⟨t,u,w,rfl⟩;exact⟨[some (.f,.int p.1),some (.f,.tup (p.2.1.map D.int)),some (.f,.tup (p.2.2.map D.int))],by unfold eP;simp only[pv,seval],.f,_,rfl,_,_,_,rfl⟩
  have hlen:((ps.map (·.1)).map D.int).length<=sizeLine:=cQ (by rw[bQ,bQ];lia);have Le:=Eu (ps.map (·.1));rw[av (env':=[some (.f,eN nY ps),some (.f,.int ((q:Nat):Int)),some (.l .f,.lst [eM (ps.map (·.1))]),none,none,none,none]) (by
   unfold eN eM;simp only[pv,seval,op,hc,hlen,Le])]
  rw[av (env':=[some (.f,eN nY ps),some (.f,.int ((q:Nat):Int)),some (.l .f,.lst [eM (ps.map (·.1))]),some (.l .f,.lst []),none,none,none]) (by simp only[pv,seval,op])];rw[av (env':=[some (.f,eN nY ps),some (.f,.int ((q:Nat):Int)),some (.l .f,.lst [eM (ps.map (·.1))]),some (.l .f,.lst []),some (.f,.int 0),none,none]) (by simp only[pv,seval,op])];rw[hr];rfl
 have w:=Br hq nY hn ps hl hp 13 100000 0 ([ps.map (·.1)],[]) (by show 1<=12;decide) (PD _) (OW _) (by decide) (by decide) none none;unfold dt;cases hr:ox nY ps 13 0 ([ps.map (·.1)],[]) with
 |some r=>
  rw[hr]at w;obtain⟨hA,u4,u5,u6,w⟩:=w;refine hh _ ?_;rw[av (env':=_) (by
   unfold cK;exact w)]
  unfold eJ;simp only[pv,seval,op,je,yt r.2 (by lia)]
 |none=>
  rw[hr]at w;intro h8;have w2:cK [some (.f,eN nY ps),some (.f,.int ((q:Nat):Int)),some (.l .f,.lst [eM (ps.map (·.1))]),some (.l .f,.lst []),some (.f,.int 0),none,none]=.ok (.rt (.f,.non)):=by
   unfold cK;exact w h8
  refine hh _ ?_;rw[G0,w2];rfl
theorem sP(nY:Ew)(hn:nY.length<=3)(ps:List Pl)(hl:ps.length<=100)(hp:∀p∈ps,Gh p nY.length):
  a9 [eN nY ps,.int 12]=match dt nY ps with
   |some r=>.ok (.t [.l .f,.l .f],.tup [.lst ((cI lF r.2).map eA),.lst (r.1.map eM)])
   |none=>.ok (.f,.non):=by
 have h:=Bs (q:=12) (OW _) nY hn ps hl hp;cases hr:dt nY ps with
 |some r=>
  rw[hr]at h;exact h
 |none=>
  rw[hr]at h;exact h rfl
abbrev Me:=List Int×Ew×Option Nat
def gc(nY:Ew)(ps:List Pl)(d:Nat)(mk:List Int)(wy:Ew)(L:List Me)(mv:List Nat):List Me:=match cY (nY.idxOf mv) (mk.zip ps) with
 |none=>L
 |some r=>if r∈L.map (·.1) then L else L++[(r,wy++[mv],some d)]
def iq(nY:Ew)(ps:List Pl)(d:Nat)(L:List Me):List Me:=match L[d]? with
 |none=>L
 |some e=>nY.foldl (gc nY ps d e.1 e.2.1) L
def H0(nY:Ew)(ps:List Pl):Nat->Nat->List Me->List Me
 | 0,_,L=>L
 |f+1,d,L=>if d<L.length/\L.length<=12 then H0 nY ps f (d+1) (iq nY ps d L) else L
structure Ex(nY:Ew)(ps:List Pl)(L:List Me):Prop where
 nd:(L.map (·.1)).Nodup
 z:L[0]?=some (ps.map (·.1),[],none)
 ln:∀e∈L,e.1.length=ps.length
 up:∀i e,L[i]?=some e->0<i->∃a ea mv,e.2.2=some a/\a<i/\L[a]?=some ea/\e.2.1=ea.2.1++[mv]/\cY (nY.idxOf mv) (ea.1.zip ps)=some e.1
theorem Ex.zero(nY:Ew)(ps:List Pl):Ex nY ps [(ps.map (·.1),[],none)]:=by
 refine⟨by simp,rfl,fun e he=>?_,fun i e he hi=>?_⟩
 ·rw[yS he];exact bQ _
 ·obtain⟨n,rfl⟩:∃n,i=n+1:=⟨i-1,by lia⟩
  rw[List.getElem?_cons_succ]at he;cases he
theorem Ex.add{nY:Ew}{ps:List Pl}{L:List Me}(x:Ex nY ps L){d:Nat}{e0:Me}(hd:L[d]?=some e0)(mv:List Nat):Ex nY ps (gc nY ps d e0.1 e0.2.1 L mv)/\∃l,gc nY ps d e0.1 e0.2.1 L mv=L++l/\l.length<=1:=by
 unfold gc;cases hf:cY (nY.idxOf mv) (e0.1.zip ps) with
 |none=>exact⟨x,[],(O8 _).symm,by simp⟩
 |some r=>
  dsimp only;by_cases h:r∈L.map (·.1)
  ·rw[OZ h];exact⟨x,[],(O8 _).symm,by simp⟩
  ·rw[O5 h];have Lz:=(tF hd).1;refine⟨⟨?_,?_,fun e he=>?_,fun i e he hi=>?_⟩,_,rfl,OW _⟩
   ·rw[Pe];refine Pg.mpr ⟨x.nd,by simp,fun a ha b hb=>?_⟩;rw[yS hb];rintro rfl;exact h ha
   ·rw[List.getElem?_append_left (by lia)];exact x.z
   ·rcases yT he with he|he
    ·exact x.ln e he
    ·rw[yS he];have:=jT _ hf;rw[this,Q2,x.ln e0 (PM hd)];lia
   ·by_cases LA:i<L.length
    ·rw[List.getElem?_append_left LA]at he;obtain⟨a,ea,m,h1,h2,h3,h4⟩:=x.up i e he hi;exact⟨a,ea,m,h1,h2,by rw[List.getElem?_append_left (by lia)];exact h3,h4⟩
    ·rw[List.getElem?_append_right (by lia)]at he;have hi3:i-L.length=0:=by
      have:=(tF he).1;rw[Pd]at this;lia
     rw[hi3]at he;cases he;exact⟨d,e0,mv,rfl,by lia,by rw[List.getElem?_append_left Lz];exact hd,rfl,hf⟩
theorem Ex.fold{nY:Ew}{ps:List Pl}{d:Nat}{e0:Me}:∀(l:Ew) {L:List Me},Ex nY ps L->L[d]?=some e0->Ex nY ps (l.foldl (gc nY ps d e0.1 e0.2.1) L)/\∃m,l.foldl (gc nY ps d e0.1 e0.2.1) L=L++m/\m.length<=l.length
 |[],L,x,_=>⟨x,[],(O8 _).symm,OW _⟩
 |mv::l,L,x,hd=>by
  obtain⟨x1,l1,e1,h1⟩:=x.add hd mv;have Lz:=(tF hd).1;obtain⟨x2,l2,e2,h2⟩:=Ex.fold l x1 (d:=d) (e0:=e0) (by rw[e1,List.getElem?_append_left Lz];exact hd);refine⟨x2,l1++l2,?_,by rw[iZ,O2];lia⟩;rw[PR,e2,e1,Po]
theorem Ex.wl{nY:Ew}{ps:List Pl}{L:List Me}(x:Ex nY ps L):∀(i:Nat) (e:Me),L[i]?=some e->e.2.1.length<=i:=by
 intro i;induction i using Nat.strongRecOn with
 |ind i ih=>
  intro e he;by_cases h0:i=0
  ·subst h0;rw[x.z]at he;cases he;exact OW _
  ·obtain⟨a,ea,mv,_,h2,h3,h4,_⟩:=x.up i e he (by lia);have:=ih a h2 ea h3;rw[h4,iZ,Pd];lia
def eAh:Option Nat->D
 |none=>.non
 |some n=>.int (n:Int)
def OI(w:Ew):D:=.tup (w.map D.str)
def FR(e:Me):D:=.tup [eM e.1,OI e.2.1,eAh e.2.2]
theorem Bt:∀r:List Int,cV (r.map D.int)=some (r.map Sum.inl)
 |[]=>rfl
 |x::r=>by
  rw[d8,cV,Bt r];rfl
theorem yU(r:List Int):dS true (eM r)=true:=by
 unfold dS eM;rw[OZ rfl];show(cV (r.map D.int)).isSome=true;rw[Bt];rfl
theorem OJ(r:List Int):∀(ms:List (List Int)) (vs:List D),vs.length=ms.length->(PV.getD (ms.map eM) vs (eM r)).isSome=decide (r∈ms)
 |[],vs,_=>by
  unfold PV.getD;rw[Pq,R6];rfl
 |m::ms,[],h=>by cases h
 |m::ms,v::vs,h=>by
  have ih:=OJ r ms vs (by simpa using h);unfold PV.getD at ih ⊢;rw[d8,P6];by_cases e:r=m
  ·rw[List.find?_cons_of_pos (by show Ek (eM r) (eM m)=true;rw[m6];exact Ph e)];rw[Ph (by rw[e];exact OX)];rfl
  ·rw[List.find?_cons_of_neg (by show ¬ Ek (eM r) (eM m)=true;rw[m6,O9];exact e),ih,Pk,O9,O9,O6];exact⟨.inr,fun z=>z.resolve_left e⟩
theorem D7(r:List Int)(ms:List (List Int))(vs:List D)(d:D)(h:r∉ms):p9 (ms.map eM) vs (eM r) d=((ms++[r]).map eM,vs++[d]):=by
 have e:(ms.map eM).any (Ek (eM r))=false:=by
  rw[Ra,List.any_eq_false];intro m hm;show ¬ Ek (eM r) (eM m)=true;rw[m6,O9];rintro rfl;exact h hm
 unfold p9;rw[e,O5 O0,Pe];rfl
theorem wx(o:Option (List Int)):isnO (eO o) .non=.ok (.f,.bl o.isSome):=by cases o <;> rfl
theorem Bu{L:List Me}{d:Nat}{e:Me}(h:L[d]?=some e):F4 (L.map FR) (d:Int)=some (FR e):=hV (by rw[List.getElem?_map,h];rfl)
def rv(n:Nat):List D:=(List.range n).map fun(k:Nat)=>D.int (k:Int)
theorem yF(n:Nat):rv (n+1)=rv n++[.int (n:Int)]:=by
 unfold rv;rw[Sz,Pe];rfl
theorem Bv(n:Nat):(rv n).length=n:=by
 unfold rv;rw[bQ,Pu]
theorem OK(r:List Int):∀(ms:List (List Int)) (o:Nat),r∈ms->PV.getD (ms.map eM) ((List.range' o ms.length).map fun(k:Nat)=>D.int (k:Int)) (eM r)=some (.int ((o+pos ms r:Nat):Int))
 |m::ms,o,h=>by
  unfold PV.getD pos;rw[O2,Sl,d8,d8,P6,Ru];by_cases e:m=r
  ·subst e;rw[List.find?_cons_of_pos (by show Ek (eM m) (eM m)=true;rw[m6,Ph rfl]),Ph rfl];rfl
  ·have h2:r∈ms:=(O6.mp h).resolve_left fun z=>e z.symm
   have ih:=OK r ms (o+1) h2;unfold PV.getD pos at ih;rw[List.find?_cons_of_neg (by show ¬ Ek (eM r) (eM m)=true;rw[m6,O9];exact fun z=>e z.symm),ih,Pa e];show some (D.int ((o+1+_:Nat):Int))=some (D.int ((o+(_+1):Nat):Int));rw[show ∀a:Nat,o+1+a=o+(a+1) from fun a=>by lia]
theorem OL(r:List Int)(ms:List (List Int))(n:Nat)(hn:n=ms.length)(h:r∈ms):PV.getD (ms.map eM) (rv n) (eM r)=some (.int (pos ms r:Int)):=by
 have:=OK r ms 0 h;rw[TL,<-List.range_eq_range',<-hn]at this;exact this
theorem oy(r:List Int):∀ms:List (List Int),r∉ms->pos ms r=ms.length/\pos (ms++[r]) r=ms.length
 |[],_=>⟨rfl,by unfold pos;simp⟩
 |m::ms,h=>by
  rw[O6,not_or]at h;obtain⟨h1,h2⟩:=oy r ms h.2;have e:decide (m=r)=false:=Pa fun z=>h.1 z.symm
  unfold pos at h1 h2 ⊢;rw[Sk,Ru,Ru,e,h1,h2];exact⟨rfl,rfl⟩
def sQ(nY:Ew)(ps:List Pl)(d:Nat)(mk:List Int)(L:List Me)(mv:List Nat):List Fc:=match cY (nY.idxOf mv) (mk.zip ps) with
 |none=>[]
 |some r=>[((d:Int),mv,(pos (L.map (·.1)) r:Int))]
theorem D8(nY:Ew)(ps:List Pl)(hl:ps.length<=100)(hp:∀p∈ps,Gh p nY.length)(L:List Me)(hL:L.length<=1000)(x:Ex nY ps L)(d:Nat)(e0:Me)(hd:L[d]?=some e0)(ar:List Fc)(ha:ar.length<=10000)(mv:List Nat)(hm:mv∈nY)(t7:Option R):
  ∃(Li:Option R),
   df [some (.f,eN nY ps),some (.l .f,.lst (L.map FR)),some (.d,.dct true ((L.map (·.1)).map eM) (rv L.length)),some (.l .f,.lst (ar.map eA)),some (.f,.int (d:Int)),some (.f,eM e0.1),some (.f,.str mv),t7] =
   .ok (.nx [some (.f,eN nY ps),some (.l .f,.lst ((gc nY ps d e0.1 e0.2.1 L mv).map FR)),some (.d,.dct true (((gc nY ps d e0.1 e0.2.1 L mv).map (·.1)).map eM) (rv (gc nY ps d e0.1 e0.2.1 L mv).length)),some (.l .f,.lst ((ar++sQ nY ps d e0.1 L mv).map eA)),some (.f,.int (d:Int)),some (.f,eM e0.1),some (.f,.str mv),Li]):=by
 have Ke:=yE nY ps hl hp e0.1 mv hm;have MI:=x.wl d e0 hd;have Lz:=(tF hd).1;have Jm:=Bu hd;have hlm:(L.map FR).length<sizeLine:=f9 (by rw[bQ];lia);have hla:(ar.map eA).length<sizeLine:=f9 (by rw[bQ];lia);have NU:(L.map (·.1)).length=L.length:=bQ _;have hlk:((L.map (·.1)).map eM).length<sizeLine:=f9 (by rw[bQ,bQ];lia);unfold df gc sQ;cases hf:cY (nY.idxOf mv) (e0.1.zip ps) with
 |none=>
  rw[hf]at Ke;have hi:=wx none;refine⟨some (.f,eO none),?_⟩;rw[O8];rw[av (env':=[some (.f,eN nY ps),some (.l .f,.lst (L.map FR)),some (.d,.dct true ((L.map (·.1)).map eM) (rv L.length)),some (.l .f,.lst (ar.map eA)),some (.f,.int (d:Int)),some (.f,eM e0.1),some (.f,.str mv),some (.f,eO none)]) (by simp only[pv,seval,Ke,cA,yD])];simp only[pv,seval,hi,Option.isSome_none,iY]
 |some r=>
  rw[hf]at Ke;have hi:isnO (eM r) .non=.ok (.f,.bl true):=wx (some r);have Ke:ft [eN nY ps,eM e0.1,.str mv]=.ok (.f,eM r):=Ke;have hg:=OJ r (L.map (·.1)) (rv L.length) (by rw[bQ,Bv]);dsimp only;rw[show ∀t:FS,sSeq (bW 7 (eB ft (ai (au 0) (ai (au 5) (ai (au 6) aB))))) t [some (.f,eN nY ps),some (.l .f,.lst (L.map FR)),some (.d,.dct true ((L.map (·.1)).map eM) (rv L.length)),some (.l .f,.lst (ar.map eA)),some (.f,.int (d:Int)),some (.f,eM e0.1),some (.f,.str mv),t7]=t [some (.f,eN nY ps),some (.l .f,.lst (L.map FR)),some (.d,.dct true ((L.map (·.1)).map eM) (rv L.length)),some (.l .f,.lst (ar.map eA)),some (.f,.int (d:Int)),some (.f,eM e0.1),some (.f,.str mv),some (.f,eM r)] from fun t=>av (by simp only[pv,seval,Ke,cA,kG])];by_cases h:r∈L.map (·.1)
  ·rw[OZ h];rw[Ph h]at hg;have Lu:=OL r (L.map (·.1)) L.length NU.symm h;have hn:uO (eM r) (.dct true ((L.map (·.1)).map eM) (rv L.length))=.ok (.f,.bl false):=by
    unfold uO;dsimp only;rw[yU,OZ rfl,hg];rfl
   have NW:KN (.dct true ((L.map (·.1)).map eM) (rv L.length)) (eM r)=.ok (.f,.int (pos (L.map (·.1)) r:Int)):=by
    unfold KN;dsimp only;rw[yU,OZ rfl,Lu]
   refine⟨some (.f,eM r),?_⟩;rw[Pe];simp only[pv,seval,hi,hn,NW,hla,iY];rfl
  ·rw[O5 h];rw[Pa h]at hg;have hn:uO (eM r) (.dct true ((L.map (·.1)).map eM) (rv L.length))=.ok (.f,.bl true):=by
    unfold uO;dsimp only;rw[yU,OZ rfl,hg];rfl
   have OM:=D7 r (L.map (·.1)) (rv L.length) (.int (L.length:Int)) h;rw[<-yF]at OM;obtain⟨pn1,pn2⟩:=oy r (L.map (·.1)) h;have Lu:=OL r (L.map (·.1)++[r]) (L.length+1) (by rw[iZ,NU];rfl) (OV _ OX);rw[pn2]at Lu;have NW:KN (.dct true ((L.map (·.1)++[r]).map eM) (rv (L.length+1))) (eM r)=.ok (.f,.int ((L.map (·.1)).length:Int)):=by
    unfold KN;dsimp only;rw[yU,OZ rfl,Lu]
   have hw:=D4 e0.2.1 mv (by lia);refine⟨some (.f,eM r),?_⟩;rw[pn1,Pe,Pe (f:=fun e:Me=>e.1),@List.length_append _ L _,Pe (f:=eA)];show _=Res.ok (Out.nx [_,_,some (O.d,D.dct true _ (rv (L.length+1))),_,_,_,_,_]);unfold FR OI at Jm ⊢;have hlL:L.length<sizeLine:=f9 (by lia);have hla2:ar.length<sizeLine:=f9 (by lia);simp only[pv,seval,op,hi,hn,yU,hlL,Rt,P0,bQ,OM,Jm,JU,hw,NW,hla2];rfl
def d5(nY:Ew)(ps:List Pl)(d:Nat)(mk:List Int)(wy:Ew)(s:List Me×List Fc)(mv:List Nat):List Me×List Fc:=(gc nY ps d mk wy s.1 mv,s.2++sQ nY ps d mk s.1 mv)
theorem jV(nY:Ew)(ps:List Pl)(d:Nat)(mk:List Int)(wy:Ew):∀(l:Ew) (s:List Me×List Fc),(l.foldl (d5 nY ps d mk wy) s).1=l.foldl (gc nY ps d mk wy) s.1
 |[],_=>rfl
 |m::l,s=>by rw[PR,PR,jV nY ps d mk wy l];rfl
theorem jW(nY:Ew)(ps:List Pl)(d:Nat)(mk:List Int)(wy:Ew):∀(l:Ew) (s:List Me×List Fc),(l.foldl (d5 nY ps d mk wy) s).2.length<=s.2.length+l.length
 |[],_=>OW _
 |m::l,s=>by
  have:=jW nY ps d mk wy l (d5 nY ps d mk wy s m);have h2:(d5 nY ps d mk wy s m).2.length<=s.2.length+1:=by
   unfold d5 sQ;dsimp only;rw[iZ];split <;> simp
  rw[PR,O2];lia
def eW(nY:Ew)(ps:List Pl)(d:Nat)(s:List Me×List Fc):List Me×List Fc:=match s.1[d]? with
 |none=>s
 |some e=>nY.foldl (d5 nY ps d e.1 e.2.1) s
theorem m7(nY:Ew)(ps:List Pl)(d:Nat)(s:List Me×List Fc):(eW nY ps d s).1=iq nY ps d s.1:=by
 unfold eW iq;cases s.1[d]? with
 |none=>rfl
 |some e=>exact jV nY ps d e.1 e.2.1 nY s
theorem Bw(nY:Ew)(hn:nY.length<=10)(ps:List Pl)(hl:ps.length<=100)(hp:∀p∈ps,Gh p nY.length)(s0:List Me×List Fc)(hL:s0.1.length<=100)(x:Ex nY ps s0.1)(d:Nat)(e0:Me)(hd:s0.1[d]?=some e0)(ha:s0.2.length<=1000)(t6 t7:Option R):
  ∃(Mw Li:Option R),fu [some (.f,eN nY ps),some (.l .f,.lst (s0.1.map FR)),some (.d,.dct true ((s0.1.map (·.1)).map eM) (rv s0.1.length)),some (.l .f,.lst (s0.2.map eA)),some (.f,.int (d:Int)),some (.f,eM e0.1),t6,t7] =
   .ok (.nx [some (.f,eN nY ps),some (.l .f,.lst ((eW nY ps d s0).1.map FR)),some (.d,.dct true (((eW nY ps d s0).1.map (·.1)).map eM) (rv (eW nY ps d s0).1.length)),some (.l .f,.lst ((eW nY ps d s0).2.map eA)),some (.f,.int (d:Int)),some (.f,eM e0.1),Mw,Li]):=by
 have Lz:=(tF hd).1;obtain⟨env',hf,s,Mw,Li,hs,rfl⟩:=for_list (a:=az 6) (g:=df) (e:=D.str) nY (fun j env=>∃(s:List Me×List Fc) (t6 t7:Option R),s=(nY.take j).foldl (d5 nY ps d e0.1 e0.2.1) s0/\env=[some (.f,eN nY ps),some (.l .f,.lst (s.1.map FR)),some (.d,.dct true ((s.1.map (·.1)).map eM) (rv s.1.length)),some (.l .f,.lst (s.2.map eA)),some (.f,.int (d:Int)),some (.f,eM e0.1),t6,t7]) (by
  rintro j mv env hj ⟨s,t6,t7,hs,rfl⟩;obtain⟨NY,NZ⟩:=tF hj;obtain⟨x1,m,em,lm⟩:=Ex.fold (d:=d) (e0:=e0) (nY.take j) x hd;have hm:mv∈nY:=PM hj;have f1:=jV nY ps d e0.1 e0.2.1 (nY.take j) s0;have f2:=jW nY ps d e0.1 e0.2.1 (nY.take j) s0;rw[<-hs]at f1 f2;rw[<-f1]at x1 em;rw[Py]at lm f2;have hd1:s.1[d]?=some e0:=by
   rw[em,List.getElem?_append_left Lz];exact hd
  obtain⟨t72,r3⟩:=D8 nY ps hl hp s.1 (by rw[em,iZ];lia) x1 d e0 hd1 s.2 (by lia) mv hm t7;refine⟨[some (.f,eN nY ps),some (.l .f,.lst (s.1.map FR)),some (.d,.dct true ((s.1.map (·.1)).map eM) (rv s.1.length)),some (.l .f,.lst (s.2.map eA)),some (.f,.int (d:Int)),some (.f,eM e0.1),some (.f,.str mv),t7],by simp only[pv,seval],_,r3,d5 nY ps d e0.1 e0.2.1 s mv,_,t72,?_,rfl⟩;rw[List.take_succ_eq_append_getElem NY,List.foldl_append,NZ,<-hs];rfl) [some (.f,eN nY ps),some (.l .f,.lst (s0.1.map FR)),some (.d,.dct true ((s0.1.map (·.1)).map eM) (rv s0.1.length)),some (.l .f,.lst (s0.2.map eA)),some (.f,.int (d:Int)),some (.f,eM e0.1),t6,t7] ⟨s0,t6,t7,rfl,rfl⟩
 have es:eW nY ps d s0=s:=by
  unfold eW;rw[hd,hs,List.take_length]
 rw[es];refine⟨Mw,Li,?_⟩;unfold fu;rw[Jc,<-hf];unfold eN;simp only[pv,seval,op,Jl]
theorem vA(env:PV.Env)(f g:FX):r6 f g env=Res.bnd (f env) (f:=⟨fun p=>Res.bnd (g p.2) (f:=⟨fun q=>if dS true p.1.2 then .ok ((.d,.dct true [p.1.2] [q.1.2]),q.2) else .bad⟩)⟩):=id rfl
def L0(ps:List Pl):List Me:=[(ps.map (·.1),[],none)]
theorem pF(nY:Ew)(ps:List Pl){L:List Me}(x:Ex nY ps L)(d:Nat)(hd:d<L.length):Ex nY ps (iq nY ps d L)/\(iq nY ps d L).length<=L.length+nY.length:=by
 have e:L[d]?=some L[d]:=wm hd;unfold iq;rw[e];obtain⟨x1,m,em,lm⟩:=Ex.fold (d:=d) (e0:=L[d]) nY x e;refine⟨x1,?_⟩;dsimp only;rw[em,iZ];lia
def G9(nY:Ew)(ps:List Pl):Nat->Nat->List Me×List Fc->List Me×List Fc
 | 0,_,s=>s
 |f+1,d,s=>if d<s.1.length/\s.1.length<=12 then G9 nY ps f (d+1) (eW nY ps d s) else s
theorem oz(nY:Ew)(ps:List Pl):∀(f d:Nat) (s:List Me×List Fc),(G9 nY ps f d s).1=H0 nY ps f d s.1
 | 0,_,_=>rfl
 |f+1,d,s=>by
  rw[G9,H0];split
  ·rw[oz nY ps f,m7]
  ·rfl
def M0(ps:List Pl):List Me×List Fc:=(L0 ps,[])
theorem qc(nY:Ew)(ps:List Pl)(d:Nat)(s:List Me×List Fc):(eW nY ps d s).2.length<=s.2.length+nY.length:=by
 unfold eW;split
 ·lia
 ·exact jW nY ps d _ _ nY s
theorem oA(nY:Ew)(hn:nY.length<=10)(ps:List Pl)(hl:ps.length<=100)(hp:∀p∈ps,Gh p nY.length):bJ [eN nY ps]=.ok (.t [.f,.l .f],.tup [.lst ((G9 nY ps 13 0 (M0 ps)).1.map FR),.lst ((G9 nY ps 13 0 (M0 ps)).2.map eA)]):=by
 have hfm:=yC nY ps hl;have fM:=kG (ps.map (·.1));generalize hG:G9 nY ps 13 0 (M0 ps)=G;obtain⟨env',hw,d,t5,t6,t7,rfl⟩:=mX (c:=E5 (mn Iz L6 (au 4) (aq (bA jY (ai (au 1) aB))) (aq (aD (.int 12))))) (g:=eG) (fun k env=>∃(s:List Me×List Fc) (d:Nat) (t5 t6 t7:Option R),d+k=13/\Ex nY ps s.1/\s.1.length<=30/\s.2.length<=10*d/\G9 nY ps k d s=G/\
   env=[some (.f,eN nY ps),some (.l .f,.lst (s.1.map FR)),some (.d,.dct true ((s.1.map (·.1)).map eM) (rv s.1.length)),some (.l .f,.lst (s.2.map eA)),some (.f,.int (d:Int)),t5,t6,t7])
  (fun env=>∃(d:Nat) (t5 t6 t7:Option R),env=[some (.f,eN nY ps),some (.l .f,.lst (G.1.map FR)),some (.d,.dct true ((G.1.map (·.1)).map eM) (rv G.1.length)),some (.l .f,.lst (G.2.map eA)),some (.f,.int (d:Int)),t5,t6,t7]) (by
   rintro k env ⟨s,d,t5,t6,t7,hk,x,hL,ha,hg,rfl⟩;by_cases h:d<s.1.length/\s.1.length<=12
   ·obtain⟨k',rfl⟩:∃k',k=k'+1:=⟨k-1,by lia⟩
    rw[G9,OZ h]at hg;have hd:s.1[d]?=some s.1[d]:=wm h.1;obtain⟨x1,l1⟩:=pF nY ps x d h.1;have la:=qc nY ps d s;rw[<-m7]at x1 l1;have c1:decide ((d:Int)<(s.1.length:Int))=true:=Ph (by lia);have c2:decide ((s.1.length:Int)<=12)=true:=Ph (by lia);generalize s.1[d]=e0 at hd;have Jm:=Bu hd;obtain⟨Mw,Li,r3⟩:=Bw nY hn ps hl hp s (by lia) x d e0 hd (by lia) t6 t7;refine .inr ⟨[some (.f,eN nY ps),some (.l .f,.lst (s.1.map FR)),some (.d,.dct true ((s.1.map (·.1)).map eM) (rv s.1.length)),some (.l .f,.lst (s.2.map eA)),some (.f,.int (d:Int)),t5,t6,t7],?_,[some (.f,eN nY ps),some (.l .f,.lst ((eW nY ps d s).1.map FR)),some (.d,.dct true (((eW nY ps d s).1.map (·.1)).map eM) (rv (eW nY ps d s).1.length)),some (.l .f,.lst ((eW nY ps d s).2.map eA)),some (.f,.int ((d+1:Nat):Int)),some (.f,eM e0.1),Mw,Li],k',?_,Qf _,eW nY ps d s,d+1,_,_,_,by lia,x1,by lia,by lia,hg,rfl⟩
    ·simp only[pv,seval,op,bQ,c1,c2]
    ·unfold eG;rw[av (env':=[some (.f,eN nY ps),some (.l .f,.lst (s.1.map FR)),some (.d,.dct true ((s.1.map (·.1)).map eM) (rv s.1.length)),some (.l .f,.lst (s.2.map eA)),some (.f,.int (d:Int)),some (.f,eM e0.1),t6,t7]) (by
      unfold FR at Jm ⊢;simp only[pv,seval,op,Jm,Jl])]
     rw[av r3];unfold gZ;simp only[pv,seval,op];rfl
   ·left;have hgL:s=G:=by
     cases k with
     |zero=>exact hg
     |succ k=>rw[G9,O5 h]at hg;exact hg
    subst hgL;refine⟨_,?_,d,t5,t6,t7,rfl⟩;by_cases h1:d<s.1.length
    ·have c1:decide ((d:Int)<(s.1.length:Int))=true:=Ph (by lia);have c2:decide ((s.1.length:Int)<=12)=false:=Pa (by lia);simp only[pv,seval,op,bQ,c1,c2]
    ·have c1:decide ((d:Int)<(s.1.length:Int))=false:=Pa (by lia);simp only[pv,seval,op,bQ,c1]) 100000 13 [some (.f,eN nY ps),some (.l .f,.lst ((L0 ps).map FR)),some (.d,.dct true (((L0 ps).map (·.1)).map eM) [.int 0]),some (.l .f,.lst []),some (.f,.int ((0:Nat):Int)),none,none,none] (by decide) ⟨M0 ps,0,none,none,none,rfl,Ex.zero nY ps,(by decide:1<=30),PD _,hG,rfl⟩
 unfold bJ kz;rw[bu (h:=by rfl)];rw[av (env':=[some (.f,eN nY ps),some (.l .f,.lst ((L0 ps).map FR)),none,none,none,none,none,none]) (by
  simp only[pv,seval,hfm,cA,fM];rfl)]
 rw[av (env':=[some (.f,eN nY ps),some (.l .f,.lst ((L0 ps).map FR)),some (.d,.dct true (((L0 ps).map (·.1)).map eM) [.int 0]),none,none,none,none,none]) (by
  unfold L0 FR;simp only[pv,seval,op,vA,Jl,yU])]
 rw[av (env':=[some (.f,eN nY ps),some (.l .f,.lst ((L0 ps).map FR)),some (.d,.dct true (((L0 ps).map (·.1)).map eM) [.int 0]),some (.l .f,.lst []),none,none,none,none]) (by simp only[pv,seval])];rw[av (env':=[some (.f,eN nY ps),some (.l .f,.lst ((L0 ps).map FR)),some (.d,.dct true (((L0 ps).map (·.1)).map eM) [.int 0]),some (.l .f,.lst []),some (.f,.int ((0:Nat):Int)),none,none,none]) (by simp only[pv,seval]<;>rfl)];unfold iG g5;rw[av hw];simp only[pv,seval,sI]
theorem Bx(env:PV.Env)(i:Nat):yR i env=match env[i]? with
 |some (some (.t [.f,_],.tup [d,_]))=>.ok ((.f,d),env)
 |_=>.bad:=id rfl
theorem sR(env:PV.Env)(i:Nat):lq i env=match env[i]? with
 |some (some (.t [.f,.l .f],.tup [_,.lst l]))=>.ok ((.l .f,.lst l),env.set i none)
 |_=>.bad:=id rfl
theorem sS(nY:Ew)(hn:nY.length<=10)(ps:List Pl):∀(f d:Nat) {L:List Me},Ex nY ps L->L.length<=22->(H0 nY ps f d L).length<=22
 | 0,_,_,_,h=>h
 |f+1,d,L,x,h=>by
  rw[H0];split
  ·rename_i z;obtain⟨x1,l1⟩:=pF nY ps x d z.1;exact sS nY hn ps f (d+1) x1 (by lia)
  ·exact h
theorem lJ(x y z:D)(t1 t2 t3:Option R)(dg:PV.Env):kq 3 (aK (az 0) (aK (az 1) (aK (az 2) eC))) (.tup [x,y,z]) (t1::t2::t3::dg)=.ok (some (.f,x)::some (.f,y)::some (.f,z)::dg):=by
 rw[HI,OZ (by simp),Fb,Fw,OZ (by simp),Fv,Fb,Fw,OZ (by simp),Fv,Fb,Fw,OZ (by simp),Fv];rfl
theorem wz{g:FS}{x:FB}{env e:PV.Env}(h:g env=.ok (.nx e)):yP g x env=x e:=by
 unfold yP;rw[h]
theorem CU(nY:Ew)(hn:nY.length<=10)(ps:List Pl)(hl:ps.length<=100)(hp:∀p∈ps,Gh p nY.length):(12<(H0 nY ps 13 0 (L0 ps)).length/\b6 [eN nY ps]=true)\/((H0 nY ps 13 0 (L0 ps)).length<=12/\b6 [eN nY ps]=false/\cv [eN nY ps]=.ok (.t [.t [.f,.l .f],.l .f],.tup [.tup [.tup (nY.map D.str),.lst ((G9 nY ps 13 0 (M0 ps)).2.map eA)],.lst (((H0 nY ps 13 0 (L0 ps)).map (·.1)).map eM)])):=by
 have he:=oA nY hn ps hl hp;rw[oz]at he;generalize (G9 nY ps 13 0 (M0 ps)).2.map eA=ar at he;change bJ [eN nY ps]=.ok (.t [.f,.l .f],.tup [.lst ((H0 nY ps 13 0 (L0 ps)).map FR),.lst ar]) at he;have hL:(H0 nY ps 13 0 (L0 ps)).length<=100:=PB (sS nY hn ps 13 0 (Ex.zero nY ps) (by decide:1<=22)) (by decide);generalize H0 nY ps 13 0 (L0 ps)=L at he hL;have hc:c8 (kq 3 (aK (az 0) (aK (az 1) (aK (az 2) eC)))) fS (aV 0) (L.map FR) [none,none,none]=.ok ((L.map (·.1)).map eM):=by
  rw[Pf];refine cB (fun env=>∃t u v,env=[t,u,v]) _ ?_ _ ⟨_,_,_,rfl⟩;rintro p _ env ⟨t,u,v,rfl⟩;refine⟨_,lJ _ _ _ _ _ _ _,?_⟩;simp only[pv,seval];exact⟨_,_,rfl,_,_,_,rfl⟩
 have Lf:((L.map (·.1)).map eM).length<=sizeLine:=line_le (by rw[bQ,bQ];lia);have Le:flatDs ((L.map (·.1)).map eM)=true:=by
  rw[bI,Qd,Pm];intro e _;exact kG e
 have s1:∃E:D,E=.tup [.lst (L.map FR),.lst ar]:=⟨_,rfl⟩
 obtain⟨E,hE⟩:=s1;have a1:bW 1 (eB bJ (ai (au 0) aB)) [some (.f,eN nY ps),none,none]=.ok (.nx [some (.f,eN nY ps),some (.t [.f,.l .f],E),none]):=by
  rw[hE];simp only[pv,seval,he,yo,yp,ite_self,d8,Pq]
 have a2:bW 2 (dw (nr (yR 1)) [none,none,none] (kq 3 (aK (az 0) (aK (az 1) (aK (az 2) eC)))) fS (aV 0)) [some (.f,eN nY ps),some (.t [.f,.l .f],E),none]=.ok (.nx [some (.f,eN nY ps),some (.t [.f,.l .f],E),some (.l .f,.lst ((L.map (·.1)).map eM))]):=by
  rw[hE];simp only[pv,seval,op,Bx,hc,Lf,Le]
 have hz:∀b,decide ((L.length:Int)>12)=b->E5 (aA KG (aq (bA jY (ai (au 2) aB))) (aq (aD (.int 12)))) [some (.f,eN nY ps),some (.t [.f,.l .f],E),some (.l .f,.lst ((L.map (·.1)).map eM))]=.ok (b,[some (.f,eN nY ps),some (.t [.f,.l .f],E),some (.l .f,.lst ((L.map (·.1)).map eM))]):=by
  intro b hb;have hb:decide (12<(L.length:Int))=b:=hb;simp only[pv,seval,op,bQ,hb]
 have hx:∀b,decide ((L.length:Int)>12)=b->b6 [eN nY ps]=b:=by
  intro b hb;unfold b6 sd;rw[show(List.map (fun d=>some (O.f,d)) [eN nY ps]++List.replicate 2 none:PV.Env)=[some (.f,eN nY ps),none,none] from rfl,wz a1,wz a2];unfold MV;rw[hz b hb];cases b <;> rfl
 by_cases h:12<L.length
 ·exact .inl ⟨h,hx true (Ph (by lia))⟩
 ·refine .inr ⟨by lia,hx false (Pa (by lia)),?_⟩;have z:=hz false (Pa (by lia));unfold cv pj;rw[bu (h:=by rfl),show(List.map (fun d=>some (O.f,d)) [eN nY ps]++List.replicate 2 none:PV.Env)=[some (.f,eN nY ps),none,none] from rfl,av a1,av a2];rw[av (env':=[some (.f,eN nY ps),some (.t [.f,.l .f],E),some (.l .f,.lst ((L.map (·.1)).map eM))]) (by rw[D1 z];rfl)];rw[hE];unfold eN;simp only[pv,seval,op,je,sR,Jl,JU]
theorem By{α:Type}{lt:α->α->Bool}(x:α):∀{l:List α},(∀y∈l,lt y x=false)->ins lt x l=x::l
 |[],_=>rfl
 |y::l,h=>by rw[ins,h y OX,O5 O0]
theorem pG{α:Type}{lt:α->α->Bool}:∀{l:List α},l.Pairwise (fun a b=>lt b a=false)->cI lt l=l
 |[],_=>rfl
 |x::l,h=>by
  rw[QA]at h;show ins lt x (cI lt l)=x::l;rw[pG h.2,By x h.1]
theorem Bz(d c:Int)(mv m:List Nat)(x y:Int)(h:c<d\/(c=d/\mv≠m/\GS mv m=false)):lF (d,mv,x) (c,m,y)=false:=by
 unfold lF ak;dsimp only;rw[gQ];rcases h with h|⟨rfl,HQ,hl⟩
 ·rw[O5 (by intro e;injection e with e;lia)];show decide (d<c)=false;exact Pa (by lia)
 ·rw[OZ rfl,gQ,O5 (fun e=>HQ (S_inj (Sum.inr.inj e)))];have h3:¬ mv<m:=by
   unfold GS at hl;exact RS hl
  first
   |exact Pa h3
   |simpa[l9,S] using h3
def Hs(s:List Me×List Fc):Rn:=(s.1.map (·.1),s.2)
theorem vB{nY:Ew}{ps:List Pl}{s:List Me×List Fc}{d:Nat}{e0:Me}(hd:s.1[d]?=some e0)(ON:s.1.length<=12)(mv:List Nat):
  match eV nY ps d mv (Hs s) with
  |some r=>Hs (d5 nY ps d e0.1 e0.2.1 s mv)=r/\(d5 nY ps d e0.1 e0.2.1 s mv).1.length<=12
  |none=>12<(d5 nY ps d e0.1 e0.2.1 s mv).1.length:=by
 have hg:(Hs s).1.getD d []=e0.1:=by
  unfold Hs;rw[List.getD_eq_getElem?_getD,List.getElem?_map,hd];rfl
 have hlen:(Hs s).1.length=s.1.length:=bQ _;unfold eV;rw[hg];unfold d5 gc sQ;cases hf:cY (nY.idxOf mv) (e0.1.zip ps) with
 |none=>
  dsimp only;rw[O8];exact⟨rfl,ON⟩
 |some t=>
  dsimp only;by_cases hm:t∈s.1.map (·.1)
  ·have N0:t∈(Hs s).1:=hm;rw[OZ N0,OZ hm];exact⟨rfl,ON⟩
  ·have N0:¬ t∈(Hs s).1:=hm;rw[O5 N0,O5 hm,hlen];by_cases h:s.1.length=12
   ·rw[OZ h];dsimp only;rw[iZ,Pd];lia
   ·rw[O5 h];dsimp only;refine⟨?_,by rw[iZ,Pd];lia⟩;unfold Hs;dsimp only;rw[Pe,(oy t _ hm).1,bQ];rfl
theorem m9(nY:Ew)(ps:List Pl)(d:Nat)(mk:List Int)(wy:Ew)(L:List Me)(mv:List Nat):∃l,gc nY ps d mk wy L mv=L++l:=by
 unfold gc;split
 ·exact⟨[],(O8 _).symm⟩
 ·split
  ·exact⟨[],(O8 _).symm⟩
  ·exact⟨_,rfl⟩
theorem pH(nY:Ew)(ps:List Pl)(d:Nat)(mk:List Int)(wy:Ew):∀(l:Ew) (s:List Me×List Fc),∃m,(l.foldl (d5 nY ps d mk wy) s).1=s.1++m
 |[],s=>⟨[],(O8 _).symm⟩
 |mv::l,s=>by
  obtain⟨a,ha⟩:=m9 nY ps d mk wy s.1 mv;obtain⟨m,hm⟩:=pH nY ps d mk wy l (d5 nY ps d mk wy s mv);have ha:(d5 nY ps d mk wy s mv).1=s.1++a:=ha;exact⟨a++m,by rw[PR,hm,ha,Po]⟩
theorem sT{nY:Ew}{ps:List Pl}{d:Nat}{e0:Me}:∀(l:Ew) (s:List Me×List Fc),s.1[d]?=some e0->s.1.length<=12->
  match lN nY ps d l (Hs s) with
  |some r=>Hs (l.foldl (d5 nY ps d e0.1 e0.2.1) s)=r/\(l.foldl (d5 nY ps d e0.1 e0.2.1) s).1.length<=12
  |none=>12<(l.foldl (d5 nY ps d e0.1 e0.2.1) s).1.length
 |[],s,_,h=>⟨rfl,h⟩
 |mv::l,s,hd,h=>by
  have h1:=vB (nY:=nY) (ps:=ps) hd h mv;unfold lN;rw[PR];cases hs:eV nY ps d mv (Hs s) with
  |none=>
   rw[hs]at h1;dsimp only[Option.bind]at h1 ⊢;obtain⟨m,hm⟩:=pH nY ps d e0.1 e0.2.1 l (d5 nY ps d e0.1 e0.2.1 s mv);rw[hm,iZ];lia
  |some r1=>
   rw[hs]at h1;obtain⟨h2,h3⟩:=h1;dsimp only[Option.bind];rw[<-h2];refine sT l _ ?_ h3;obtain⟨m,hm⟩:=m9 nY ps d e0.1 e0.2.1 s.1 mv;show(gc nY ps d e0.1 e0.2.1 s.1 mv)[d]?=some e0;rw[hm,List.getElem?_append_left (tF hd).1];exact hd
theorem vC(nY:Ew)(ps:List Pl)(f d:Nat)(s:List Me×List Fc)(h:12<s.1.length):G9 nY ps f d s=s:=by
 cases f with
 |zero=>rfl
 |succ f=>rw[G9,O5 (by lia)]
theorem sU{nY:Ew}{ps:List Pl}:∀(f d:Nat) (s:List Me×List Fc),s.1.length<=12->
  match ox nY ps f d (Hs s) with
  |some r=>Hs (G9 nY ps f d s)=r/\(G9 nY ps f d s).1.length<=12
  |none=>12<(G9 nY ps f d s).1.length
 | 0,d,s,h=>⟨rfl,h⟩
 |f+1,d,s,h=>by
  have hlen:(Hs s).1.length=s.1.length:=bQ _;rw[ox,G9,hlen];by_cases E3:d<s.1.length
  ·rw[OZ E3,OZ ⟨E3,h⟩];have hd:s.1[d]?=some s.1[d]:=wm E3;have h1:=sT (nY:=nY) (ps:=ps) nY s hd h;have es:eW nY ps d s=nY.foldl (d5 nY ps d s.1[d].1 s.1[d].2.1) s:=by
    unfold eW;rw[hd]
   rw[es];cases hs:lN nY ps d nY (Hs s) with
   |none=>
    rw[hs]at h1;dsimp only[Option.bind]at h1 ⊢;rw[vC nY ps f (d+1) _ h1];exact h1
   |some r1=>
    rw[hs]at h1;obtain⟨h2,h3⟩:=h1;dsimp only[Option.bind];rw[<-h2];exact sU f (d+1) _ h3
  ·rw[O5 E3,O5 (fun z=>E3 z.1)];exact⟨rfl,h⟩
theorem yG(nY:Ew)(ps:List Pl):
  match dt nY ps with
  |some r=>(H0 nY ps 13 0 (L0 ps)).map (·.1)=r.1/\(G9 nY ps 13 0 (M0 ps)).2=r.2/\(H0 nY ps 13 0 (L0 ps)).length<=12
  |none=>12<(H0 nY ps 13 0 (L0 ps)).length:=by
 have h:=sU (nY:=nY) (ps:=ps) 13 0 (M0 ps) (by show 1<=12;decide);have hz:Hs (M0 ps)=([ps.map (·.1)],[]):=rfl;have e:=oz nY ps 13 0 (M0 ps);rw[hz]at h;unfold dt;cases hr:ox nY ps 13 0 ([ps.map (·.1)],[]) with
 |none=>
  rw[hr,e]at h;exact h
 |some r=>
  rw[hr]at h;obtain⟨h1,h2⟩:=h;rw[e]at h2;refine⟨?_,?_,h2⟩
  ·rw[<-h1];show _=(G9 nY ps 13 0 (M0 ps)).1.map (·.1);rw[e];rfl
  ·rw[<-h1];rfl
def Srt(nY:Ew)(A:List Fc)(d j:Nat):Prop:=A.Pairwise (fun a b=>lF b a=false)/\∀a∈A,a.1<(d:Int)\/(a.1=(d:Int)/\∃i:Nat,i<j/\nY[i]?=some a.2.1)
theorem Srt.more{nY:Ew}{A:List Fc}{d j j':Nat}(s:Srt nY A d j)(h:j<=j'):Srt nY A d j':=⟨s.1,fun a ha=>(s.2 a ha).imp id fun⟨e,i,hi,hm⟩=>⟨e,i,by lia,hm⟩⟩
theorem Srt.app{nY:Ew}(nd:nY.Nodup)(hs:nY.Pairwise (fun a b=>GS b a=false)){A:List Fc}{d j:Nat}(s:Srt nY A d j){mv:List Nat}(hj:nY[j]?=some mv)(x:Int):Srt nY (A++[((d:Int),mv,x)]) d (j+1):=by
 refine⟨?_,fun a ha=>?_⟩
 ·rw[List.pairwise_append];refine⟨s.1,List.pairwise_singleton _ _,fun a ha b hb=>?_⟩;rw[Pr]at hb;subst hb;obtain⟨c,m,y⟩:=a;refine Bz _ _ _ _ _ _ ?_;rcases s.2 _ ha with h|⟨e,i,hi,hm⟩
  ·exact .inl h
  ·right;obtain⟨NY,NZ⟩:=tF hj;obtain⟨OO,LA⟩:=tF hm;dsimp only at LA;refine⟨e,fun z=>?_,?_⟩
   ·have:=(List.getElem?_inj OO nd (j:=j)).mp (by rw[hm,hj,z]);lia
   ·have:=RV.mp hs i j OO NY hi;rw[LA,NZ]at this;exact this
 ·rcases yT ha with ha|ha
  ·exact(s.more (Qe j)).2 a ha
  ·rw[Pr]at ha;subst ha;exact .inr ⟨rfl,j,Qf _,hj⟩
theorem sV{nY:Ew}(nd:nY.Nodup)(hs:nY.Pairwise (fun a b=>GS b a=false)){ps:List Pl}{d:Nat}:∀(l pre:Ew) (r r':Rn),nY=pre++l->lN nY ps d l r=some r'->Srt nY r.2 d pre.length->Srt nY r'.2 d (pre.length+l.length)
 |[],pre,r,r',_,h,s=>by
  cases h;exact s
 |mv::l,pre,r,r',e,h,s=>by
  unfold lN at h;obtain⟨r1,h1,h2⟩:=Px.mp h;have hj:nY[pre.length]?=some mv:=by
   rw[e,List.getElem?_append_right (OW _),TM];rfl
  have s1:Srt nY r1.2 d (pre++[mv]).length:=by
   rw[iZ,Pd];unfold eV at h1;split at h1
   ·cases h1;exact s.more (Qe _)
   ·split at h1
    ·cases h1;exact s.app nd hs hj _
    ·split at h1
     ·cases h1
     ·cases h1;exact s.app nd hs hj _
  have:=sV nd hs l (pre++[mv]) r1 r' (by rw[e,Po];rfl) h2 s1;rw[iZ,Pd]at this;rw[O2];exact this.more (by lia)
theorem sW{nY:Ew}(nd:nY.Nodup)(hs:nY.Pairwise (fun a b=>GS b a=false)){ps:List Pl}:∀(f d:Nat) (r r':Rn),ox nY ps f d r=some r'->Srt nY r.2 d 0->r'.2.Pairwise (fun a b=>lF b a=false)
 | 0,d,r,r',h,s=>by
  cases h;exact s.1
 |f+1,d,r,r',h,s=>by
  unfold ox at h;split at h
  ·obtain⟨r1,h1,h2⟩:=Px.mp h;have s1:=sV nd hs nY [] r r1 rfl h1 s;refine sW nd hs f (d+1) r1 r' h2 ⟨s1.1,fun a ha=>.inl ?_⟩;rcases s1.2 a ha with z|⟨z,_⟩ <;> lia
  ·cases h;exact s.1
theorem qe{nY:Ew}(nd:nY.Nodup)(hs:nY.Pairwise (fun a b=>GS b a=false)){ps:List Pl}{r:Rn}(h:dt nY ps=some r):cI lF r.2=r.2:=
 pG (sW nd hs 13 0 _ r h ⟨List.Pairwise.nil,fun a ha=>nomatch ha⟩)
section
variable{nY:Ew}{ps:List Pl}{ones zeros:List Int}
def wA(nY:Ew)(Q:List Pl)(s:List Int):Prop:=∀mv∈nY,cY (nY.idxOf mv) (s.zip Q)=none
def Good(nY:Ew)(Q:List Pl)(r:Rn):Prop:=r.1[0]?=some (Q.map (·.1))/\∀i s,0<i->r.1[i]?=some s->wA nY Q s
theorem pI(s:List Int)(p:Pl)(x:Int)(h:s.length=ps.length+1)(hx:s[ps.length]?=some x):(s.zip (ps++[p]))[ps.length]?=some (x,p):=by
 rw[List.getElem?_zip_eq_some];refine⟨hx,?_⟩;rw[List.getElem?_append_right (OW _),TM];rfl
theorem vD(ho:∀k,k<nY.length->ones.getD k 0=1)(hz:∀k,k<nY.length->zeros.getD k 0=0){mv:List Nat}(hm:mv∈nY){t:List Int}(h:cY (nY.idxOf mv) (((ps++[(1,ones,zeros)]).map (fun p:Pl=>p.1)).zip (ps++[(1,ones,zeros)]))=some t):wA nY (ps++[(1,ones,zeros)]) t:=by
 have hk:=R9.mpr hm;have hlen:=jT _ h;rw[Q2,bQ,Nat.min_self,iZ,Pd]at hlen;have h1:=lG _ h (pI ((ps++[(1,ones,zeros)]).map (fun p:Pl=>p.1)) (1,ones,zeros) 1 (by rw[bQ,iZ,Pd]) (by
  rw[List.getElem?_map,List.getElem?_append_right (OW _),TM];rfl))
 dsimp only at h1;rw[ho _ hk,hz _ hk]at h1;intro m ND;cases hf:cY (nY.idxOf m) (t.zip (ps++[(1,ones,zeros)])) with
 |none=>rfl
 |some u=>
  exfalso;have h2:=lG _ hf (pI t (1,ones,zeros) (1-1+0) hlen h1.2);dsimp only at h2;rw[ho _ (R9.mpr ND)]at h2;lia
theorem sX(ho:∀k,k<nY.length->ones.getD k 0=1)(hz:∀k,k<nY.length->zeros.getD k 0=0):∀(l:Ew),(∀mv∈l,mv∈nY)->∀r:Rn,Good nY (ps++[(1,ones,zeros)]) r->r.1.length+l.length<=12->∃r',lN nY (ps++[(1,ones,zeros)]) 0 l r=some r'/\Good nY (ps++[(1,ones,zeros)]) r'
 |[],_,r,g,_=>⟨r,rfl,g⟩
 |mv::l,hl,r,g,h=>by
  rw[O2]at h;have hg:r.1.getD 0 []=(ps++[(1,ones,zeros)]).map (fun p:Pl=>p.1):=by
   rw[List.getD_eq_getElem?_getD,g.1];rfl
  have go:∀r1,eV nY (ps++[(1,ones,zeros)]) 0 mv r=some r1->Good nY (ps++[(1,ones,zeros)]) r1->r1.1.length<=r.1.length+1->∃r',lN nY (ps++[(1,ones,zeros)]) 0 (mv::l) r=some r'/\Good nY (ps++[(1,ones,zeros)]) r':=fun r1 h1 g1 hr=>by
   obtain⟨r',h2,g2⟩:=sX ho hz l (fun x hx=>hl x (O7 _ hx)) r1 g1 (by lia);exact⟨r',by rw[lN,h1];exact h2,g2⟩
  cases hf:cY (nY.idxOf mv) (((ps++[(1,ones,zeros)]).map (fun p:Pl=>p.1)).zip (ps++[(1,ones,zeros)])) with
  |none=>
   refine go r ?_ g (Qe _);unfold eV;rw[hg,hf]
  |some t=>
   have st:=vD ho hz (hl mv OX) hf;by_cases hm:t∈r.1
   ·refine go (r.1,r.2++[(((0:Nat):Int),mv,(pos r.1 t:Int))]) ?_ g (Qe _);unfold eV;rw[hg,hf];dsimp only;rw[OZ hm]
   ·refine go (r.1++[t],r.2++[(((0:Nat):Int),mv,(r.1.length:Int))]) ?_ ⟨?_,fun i s hi hs=>?_⟩ (by dsimp only;rw[iZ,Pd];exact OW _)
    ·unfold eV;rw[hg,hf];dsimp only;rw[O5 hm,O5 (by lia)]
    ·dsimp only;rw[List.getElem?_append_left (tF g.1).1];exact g.1
    ·dsimp only at hs;by_cases LA:i<r.1.length
     ·rw[List.getElem?_append_left LA]at hs;exact g.2 i s hi hs
     ·rw[List.getElem?_append_right (by lia)]at hs;have:=PM hs;rw[Pr]at this;rw[this];exact st
theorem sY{Q:List Pl}{d:Nat}(hd:0<d){r:Rn}(g:Good nY Q r)(hl:d<r.1.length):∀l:Ew,(∀mv∈l,mv∈nY)->lN nY Q d l r=some r
 |[],_=>rfl
 |mv::l,h=>by
  have hs:r.1[d]?=some r.1[d]:=wm hl;have e:eV nY Q d mv r=some r:=by
   unfold eV;rw[List.getD_eq_getElem?_getD,hs];show(match cY (nY.idxOf mv) (r.1[d].zip Q) with|none=>_|some t=>_)=_;rw[g.2 d _ hd hs mv (h mv OX)]
  rw[lN,e];exact sY hd g hl l fun x hx=>h x (O7 _ hx)
theorem sZ{Q:List Pl}{r:Rn}(g:Good nY Q r):∀(f d:Nat),0<d->ox nY Q f d r=some r
 | 0,_,_=>rfl
 |f+1,d,hd=>by
  unfold ox;split
  ·rename_i hl;rw[sY hd g hl nY fun _ h=>h];exact sZ g f (d+1) (Nat.succ_pos _)
  ·rfl
theorem yH(hn:nY.length<=3)(ho:∀k,k<nY.length->ones.getD k 0=1)(hz:∀k,k<nY.length->zeros.getD k 0=0):∃r,dt nY (ps++[(1,ones,zeros)])=some r:=by
 obtain⟨r,h,g⟩:=sX (ps:=ps) ho hz nY (fun _ h=>h) ([(ps++[(1,ones,zeros)]).map (fun p:Pl=>p.1)],[]) ⟨rfl,fun i s hi hs=>by
  obtain⟨n,rfl⟩:∃n,i=n+1:=⟨i-1,by lia⟩
  rw[List.getElem?_cons_succ]at hs;cases hs⟩ (by show 1+nY.length<=12;lia)
 refine⟨r,?_⟩;show ox nY _ (12+1) 0 _=_;rw[ox,OZ (by show 0<1;decide),h];exact sZ g 12 1 (Nat.succ_pos _)
end
theorem p_whole(x:Int):m__law_whole [.int x]=.ok (.f,.bl true):=by
 unfold m__law_whole iL;rw[bu (h:=by rfl)];simp only[pv,seval,op,D3,D2,RX];try rfl
theorem pJ(n:Nat)(l:List Fc):plainDs (n+2) (l.map eA)=true:=by
 induction l with
 |nil=>rfl
 |cons a l ih=>
  rw[d8,plainDs,ih,Rk];unfold eA;rw[plainD];simp only[plainDs,plainD,P0]
theorem pK(n:Nat)(l:List (List Int)):plainDs (n+1) (l.map eM)=true:=by
 induction l with
 |nil=>rfl
 |cons a l ih=>
  rw[d8,plainDs,ih,Rk];unfold eM;rw[plainD];exact fV _ _
def Ia(nY:Ew)(A:List Fc):D:=.tup [.tup (nY.map D.str),.lst (A.map eA)]
theorem vE(nY:Ew)(A:List Fc):plainD 40 (Ia nY A)=true:=by
 unfold Ia;rw[plainD];simp only[plainDs,plainD,fW,pJ 36 A,P0]
theorem qf(nY:Ew)(A:List Fc):bg [Ia nY A,Ia nY A]=.ok (.f,.bl true):=by
 have HQ:=jS _ (vE nY A);have i0:ED (Ia nY A) (.int 0)=.ok (.f,.tup (nY.map D.str)):=rfl;have i1:ED (Ia nY A) (.int 1)=.ok (.f,.lst (A.map eA)):=rfl;have hl:jY [Ia nY A]=.ok (.f,.int 2):=rfl;have ht:mD "tuple" (Ia nY A)=true:=rfl;have ht2:mD "tuple" (.tup (nY.map D.str))=true:=rfl;have MZ:mD "list" (.lst (A.map eA))=true:=rfl;unfold bg fD;rw[bu (h:=by rfl)];generalize Ia nY A=CH at HQ i0 i1 hl ht ⊢;rw[av (env':=[some (.f,CH),some (.f,CH),none,none]) (by
  simp only[pv,seval,op,ht,hl,i0,ht2,P1,iY];try rfl)]
 rw[av (env':=[some (.f,CH),some (.f,CH),none,none]) (by
  simp only[pv,seval,op,i1,MZ,HQ,P1,iY])]
 obtain⟨Ee,KO,t1,rfl⟩:=for_list (a:=az 2) (g:=cy) (e:=D.str) nY (fun _ env=>∃t:Option R,env=[some (.f,CH),some (.f,CH),t,none]) (by
  rintro k m env _ ⟨t,rfl⟩;have ID:mD "str" (.str m)=true:=rfl;refine⟨_,rfl,[some (.f,CH),some (.f,CH),some (.f,.str m),none],?_,_,rfl⟩;unfold cy;show(FN _ _ _) [some (.f,CH),some (.f,CH),some (.f,.str m),none]=_;simp only[pv,seval,op,ID,P1,iY]) [some (.f,CH),some (.f,CH),none,none] ⟨_,rfl⟩
 rw[av (env':=[some (.f,CH),some (.f,CH),t1,none]) (by
  unfold dX;generalize nY.map D.str=NN at i0 KO;simp only[pv,seval,op,i0];exact KO)]
 unfold dF;obtain⟨env',ef,t,rfl⟩:=for_list (a:=az 3) (g:=cx) (e:=eA) A (fun _ env=>∃t:Option R,env=[some (.f,CH),some (.f,CH),t1,t]) (by
  rintro k a env _ ⟨t,rfl⟩;have j0:ED (eA a) (.int 0)=.ok (.f,.int a.1):=rfl;have j2:ED (eA a) (.int 2)=.ok (.f,.int a.2.2):=rfl;have jt:mD "tuple" (eA a)=true:=rfl;have w1:=p_whole a.1;have w2:=p_whole a.2.2;refine⟨_,rfl,[some (.f,CH),some (.f,CH),t1,some (.f,eA a)],?_,_,rfl⟩;unfold cx;generalize eA a=EA at j0 j2 jt ⊢;show(FN _ _ _) [some (.f,CH),some (.f,CH),t1,some (.f,EA)]=_;simp only[pv,seval,op,jt,j0,j2,w1,w2,P1,iY]) [some (.f,CH),some (.f,CH),t1,none] ⟨_,rfl⟩
 rw[av (env':=[some (.f,CH),some (.f,CH),t1,t]) (by
  unfold dW;generalize A.map eA=AA at i1 ef;simp only[pv,seval,op,i1];exact ef)]
 unfold dE;simp only[pv,seval,op]
theorem oB(M:List (List Int)):aR [.lst (M.map eM),.lst (M.map eM)]=.ok (.f,.bl true):=by
 have HQ:=jS (.lst (M.map eM)) (by rw[plainD];exact pK 38 M);have MZ:mD "list" (.lst (M.map eM))=true:=rfl;unfold aR dm;rw[bu (h:=by rfl)];obtain⟨env',ef,t,u,rfl⟩:=for_list (a:=az 2) (g:=bN) (e:=eM) M (fun _ env=>∃t u:Option R,env=[some (.f,.lst (M.map eM)),some (.f,.lst (M.map eM)),t,u]) (by
  rintro k m env _ ⟨t,u,rfl⟩;have jt:mD "tuple" (eM m)=true:=rfl;generalize D.lst (M.map eM)=MM;obtain⟨Ep,Lw,u',rfl⟩:=for_list (a:=az 3) (g:=bM) (e:=D.int) m (fun _ env=>∃u:Option R,env=[some (.f,MM),some (.f,MM),some (.f,eM m),u]) (by
   rintro k2 x env _ ⟨u,rfl⟩;have w1:=p_whole x;refine⟨_,rfl,[some (.f,MM),some (.f,MM),some (.f,eM m),some (.f,.int x)],?_,_,rfl⟩;unfold bM;generalize eM m=EM;show(FN _ _ _) [some (.f,MM),some (.f,MM),some (.f,EM),some (.f,.int x)]=_;simp only[pv,seval,op,w1,P1,iY]) [some (.f,MM),some (.f,MM),some (.f,eM m),u] ⟨_,rfl⟩
  refine⟨[some (.f,MM),some (.f,MM),some (.f,eM m),u],rfl,[some (.f,MM),some (.f,MM),some (.f,eM m),u'],?_,_,_,rfl⟩;unfold bN;rw[av (env':=[some (.f,MM),some (.f,MM),some (.f,eM m),u]) (by
   generalize eM m=EM at jt ⊢;simp only[pv,seval,op,jt,P1,iY])]
  unfold cM;unfold eM at Lw ⊢;simp only[pv,seval,op];exact Lw) [some (.f,.lst (M.map eM)),some (.f,.lst (M.map eM)),none,none] ⟨_,_,rfl⟩
 rw[av (env':=[some (.f,.lst (M.map eM)),some (.f,.lst (M.map eM)),none,none]) (by
  generalize D.lst (M.map eM)=MM at HQ MZ ⊢;simp only[pv,seval,op,MZ,HQ,P1,iY])]
 rw[av (env':=[some (.f,.lst (M.map eM)),some (.f,.lst (M.map eM)),t,u]) (by
  unfold cN;generalize M.map eM=MM at ef ⊢;simp only[pv,seval,op];exact ef)]
 unfold cD;simp only[pv,seval,op]
theorem BA{x:Jz}{g h:FS}{env e:PV.Env}(q:x env=some e):xW x g h env=h e:=by
 unfold xW;rw[q]
theorem BB{x:Jz}{g h:FS}{env:PV.Env}(q:x env=none):xW x g h env=g env:=by
 unfold xW;rw[q]
theorem BC{F:List D->Bool}{fs:Fn}{env e:PV.Env}{os:List Opd}{ds:List D}(h:fs env=.ok (os,e))(h2:jv e os=.ok ds):yQ F fs env=if F ds then some e else none:=by
 unfold yQ;rw[h];dsimp only;rw[h2]
theorem lK(env:PV.Env)(f:FX):mQ f env=Res.bnd (f (env.map frz)) (f:=⟨fun p=>.ok (p.1,if aZ p.1.1 p.1.2 then env else env.map frz)⟩):=id rfl
theorem tf(env:PV.Env)(f:FT):uW f env=Res.bnd (f (env.map frz)) (f:=⟨fun p=>.ok (p.1,env)⟩):=id rfl
theorem yI(env:PV.Env)(i:Nat)(f:FX):sj i f env=match env[i]? with
 |some (some (.pin _ (.t [.f,.l .f]),.tup [_,.lst _]))=>Res.bnd (f env) (f:=⟨fun(q:R×PV.Env)=>match q.2[i]? with
  |some (some (.pin p (.t [.f,.l .f]),.tup [d,.lst ds]))=>if ds.length<sizeLine then .ok ((.f,.non),q.2.set i (some (.pin p (.t [.f,.l .f]),.tup [d,.lst (ds++[q.1.2])]))) else .bad
  |_=>.bad⟩)
 |_=>.bad:=id rfl
theorem tj(env:PV.Env)(i j:Nat)(f:FX):uX i j f env=Res.bnd (f env) (f:=⟨fun(p:R×PV.Env)=>match p.1 with
 |(.t [o1,o2],.tup [d1,d2])=>if i<p.2.length/\j<p.2.length then .ok (.nx ((p.2.set i (some (o1,d1))).set j (some (o2,d2)))) else .bad
 |_=>.bad⟩):=id rfl
theorem yJ(env:PV.Env)(i:Nat):uZ i env=match env[i]? with
 |some (some (.t [c,.l .f],.tup [d,.lst _]))=>.ok ((.f,.non),env.set i (some (.t [c,.l .f],.tup [d,.lst []])))
 |_=>.bad:=id rfl
theorem tm(env:PV.Env)(F:Addr->List D->Res R)(i:Nat):sk F i env=match env[i]? with
 |some (some (.t [.f,.l .f],d0))=>Res.bnd (nV F (.t [.f,.l .f]) d0 []) (f:=⟨fun z=>.ok (z.1,env.set i none)⟩)
 |_=>.bad:=id rfl
def ng(nY:Ew)(r:Rn):D:=.tup [Ia nY r.2,.lst (r.1.map eM)]
def qg(r:Rn):D:=.tup [.lst (r.2.map eA),.lst (r.1.map eM)]
theorem Dc(l:List Fc):((l.map eA).all fun x=>cT x)=true:=by
 have h:=yr l;rw[bI]at h;exact h
theorem De(l:List (List Int)):((l.map eM).all fun x=>cT x)=true:=by
 rw[Qd,Pm];exact fun a _=>kG a
theorem BD(p:Pl):cT (eP p)=true:=by
 unfold eP;rw[cH];simp only[flatDs,cH,Eu,jc];rfl
theorem yK(ps:List Pl):flatDs (ps.map eP)=true:=by
 rw[bI,Qd,Pm];exact fun p _=>BD p
theorem pL(nY:Ew)(r:Rn):aZ (.t [.t [.f,.l .f],.l .f]) (ng nY r)=true:=by
 unfold ng Ia;simp only[aZ,iw,Dc,De,cH,PV.flat_strs,P0]
theorem wB(r:Rn):aZ (.t [.l .f,.l .f]) (qg r)=true:=by
 unfold qg;simp only[aZ,iw,Dc,De,P0]
theorem yL(nY:Ew)(r:Rn):aZ (.t [.t [.t [.f,.l .f],.l .f],.f]) (.tup [ng nY r,.bl false])=true:=by
 rw[aZ,iw,pL];rfl
theorem nh(nY:Ew)(r:Rn):plainD 40 (ng nY r)=true:=by
 unfold ng Ia;rw[plainD];simp only[plainDs,plainD,fW,pJ 35 r.2,pK 37 r.1,P0]
theorem vF(n:Nat)(l:List Pl):plainDs (n+2) (l.map eP)=true:=by
 induction l with
 |nil=>rfl
 |cons a l ih=>
  rw[d8,plainDs,ih,Rk];unfold eP;rw[plainD];simp only[plainDs,plainD,fV,P0]
theorem yM(nY:Ew)(ps:List Pl):plainD 40 (eN nY ps)=true:=by
 unfold eN;rw[plainD];simp only[plainDs,plainD,fW,vF 36 ps,P0]
section
variable{nY:Ew}(nd:nY.Nodup)(hs:nY.Pairwise (fun a b=>GS b a=false))(hn:nY.length<=3)
include nd hs hn
theorem lM(ps:List Pl)(hl:ps.length<=100)(hp:∀p∈ps,Gh p nY.length):
  match dt nY ps with
  |some r=>b6 [eN nY ps]=false/\cv [eN nY ps]=.ok (.t [.t [.f,.l .f],.l .f],ng nY r)
  |none=>b6 [eN nY ps]=true:=by
 have h:=yG nY ps;have hr:=CU nY (by lia) ps hl hp;cases e:dt nY ps with
 |none=>
  rw[e]at h;dsimp only at h ⊢;rcases hr with⟨_,hx⟩|⟨z,_⟩
  ·exact hx
  ·lia
 |some r=>
  rw[e]at h;obtain⟨h1,h2,h3⟩:=h;dsimp only;rcases hr with⟨z,_⟩|⟨_,hx,hm⟩
  ·lia
  ·rw[h1,h2]at hm;exact⟨hx,hm⟩
theorem tq(ps:List Pl)(hl:ps.length<=100)(hp:∀p∈ps,Gh p nY.length):
  a9 [eN nY ps,.int 12]=match dt nY ps with
   |some r=>.ok (.t [.l .f,.l .f],qg r)
   |none=>.ok (.f,.non):=by
 rw[sP nY hn ps hl hp];cases e:dt nY ps with
 |none=>rfl
 |some r=>
  dsimp only;rw[qe nd hs e];rfl
theorem BE(ps:List Pl)(hl:ps.length<=100)(hp:∀p∈ps,Gh p nY.length):
  b9 [eN nY ps]=match dt nY ps with
   |some r=>.ok (.t [.t [.t [.f,.l .f],.l .f],.f],.tup [ng nY r,.bl false])
   |none=>.ok (.t [.f,.f],.tup [.non,.bl true]):=by
 have hr:=lM nd hs hn ps hl hp;unfold b9 jL;rw[bu (h:=by rfl)];rw[av (env':=[some (.f,eN nY ps),some (.f,.non),none]) (by simp only[pv,seval])];rw[av (env':=[some (.f,eN nY ps),some (.f,.non),some (.f,.bl false)]) (by simp only[pv,seval])];have OP:yQ b6 (ai (au 0) aB) [some (.f,eN nY ps),some (.f,.non),some (.f,.bl false)]=if b6 [eN nY ps] then some [some (.f,eN nY ps),some (.f,.non),some (.f,.bl false)] else none:=BC (os:=[.var 0]) (by simp only[pv,seval]) (by simp only[pv,seval])
 cases e:dt nY ps with
 |none=>
  rw[e]at hr;have hr:b6 [eN nY ps]=true:=hr;rw[av (env':=[some (.f,eN nY ps),some (.f,.non),some (.f,.bl true)]) (by
   rw[BA (by rw[OP,hr];rfl)];simp only[pv,seval])]
  simp only[pv,seval,je]
 |some r=>
  rw[e]at hr;obtain⟨hx,hm⟩:=hr;have IG:=pL nY r;rw[av (env':=[some (.f,eN nY ps),some (.t [.t [.f,.l .f],.l .f],ng nY r),some (.f,.bl false)]) (by
   rw[BB (by rw[OP,hx];rfl)];simp only[pv,seval,hm,IG])]
  simp only[pv,seval,je]
theorem qh(ps:List Pl)(hl:ps.length<=99)(hp:∀p∈ps,Gh p nY.length):∃ds,nV bh (.t [.f,.l .f]) (eN nY ps) []=.ok ((.f,.bl true),ds):=by
 obtain⟨ones,ho⟩:∃o:List Int,o=nY.map fun _=>1:=⟨_,rfl⟩
 obtain⟨zeros,hz⟩:∃o:List Int,o=nY.map fun _=>0:=⟨_,rfl⟩
 have c1:c8 (az 0) fS (aD (.int 1)) (nY.map D.str) [none]=.ok (ones.map D.int):=by
  rw[ho,Pf];refine cB (fun env=>∃t,env=[t]) _ ?_ _ ⟨_,rfl⟩;rintro m _ env ⟨t,rfl⟩;exact⟨_,rfl,_,_,rfl,_,rfl⟩
 have c0:c8 (az 0) fS (aD (.int 0)) (nY.map D.str) [none]=.ok (zeros.map D.int):=by
  rw[hz,Pf];refine cB (fun env=>∃t,env=[t]) _ ?_ _ ⟨_,rfl⟩;rintro m _ env ⟨t,rfl⟩;exact⟨_,rfl,_,_,rfl,_,rfl⟩
 have lo:ones.length=nY.length:=by rw[ho,bQ]
 have lz:zeros.length=nY.length:=by rw[hz,bQ]
 have l1:(ones.map D.int).length<=sizeLine:=cQ (by rw[bQ];lia);have l0:(zeros.map D.int).length<=sizeLine:=cQ (by rw[bQ];lia);have f1:=Eu ones;have f0:=Eu zeros;have g1:∀k,k<nY.length->ones.getD k 0=1:=fun k hk=>by
  rw[ho,List.getD_eq_getElem?_getD,List.getElem?_map,wm hk];rfl
 have g0:∀k,k<nY.length->zeros.getD k 0=0:=fun k hk=>by
  rw[hz,List.getD_eq_getElem?_getD,List.getElem?_map,wm hk];rfl
 obtain⟨r,hr⟩:=yH (ps:=ps) hn g1 g0;have hq:∀q∈ps++[((1:Int),ones,zeros)],Gh q nY.length:=fun q hq=>by
  rcases yT hq with hq|hq
  ·exact hp q hq
  ·rw[Pr]at hq;rw[hq];exact⟨lo,lz⟩
 have OQ:(ps++[((1:Int),ones,zeros)]).length<=100:=by
  rw[iZ,Pd];lia
 have Lj:=lM nd hs hn _ OQ hq;have HJ:=tq nd hs hn _ OQ hq;rw[hr]at Lj HJ;obtain⟨_,hm⟩:=Lj;have HJ:a9 [eN nY (ps++[(1,ones,zeros)]),.int 12]=.ok (.t [.l .f,.l .f],qg r):=HJ;have IG:=pL nY r;have GU:=wB r;have heq:=jR _ (nh nY r);have hsz:(ps.map eP).length<sizeLine:=f9 (by rw[bQ];lia);refine⟨eN nY (ps++[(1,ones,zeros)]),uP fun p=>?_⟩;have s1:∀t:FS,sSeq (bW 1 (mQ (bA c7 (ai (aq (dw (nr (aA ED (au 0) (aq (aD (.int 0))))) [none] (az 0) fS (aD (.int 1)))) aB)))) t [some (.pin p (.t [.f,.l .f]),.tup [.tup (nY.map D.str),.lst (ps.map eP)]),none,none]=t [some (.pin p (.t [.f,.l .f]),.tup [.tup (nY.map D.str),.lst (ps.map eP)]),some (.f,.tup (ones.map D.int)),none]:=fun t=>av (by
  simp only[pv,seval,op,lK,d8,Pq,yo,yp,Jl,c1,l1,f1,cA,cH])
 have s2:∀t:FS,sSeq (eX (sj 0 (mQ (j6 (aH (aD (.int 1)) (aH (aV 1) (aH (bA c7 (ai (aq (dw (nr (aA ED (au 0) (aq (aD (.int 0))))) [none] (az 0) fS (aD (.int 0)))) aB)) cp))))))) t [some (.pin p (.t [.f,.l .f]),.tup [.tup (nY.map D.str),.lst (ps.map eP)]),some (.f,.tup (ones.map D.int)),none]=t [some (.pin p (.t [.f,.l .f]),eN nY (ps++[(1,ones,zeros)])),some (.f,.tup (ones.map D.int)),none]:=fun t=>av (by
  have eg:eN nY (ps++[((1:Int),ones,zeros)])=.tup [.tup (nY.map D.str),.lst (ps.map eP++[.tup [.int 1,.tup (ones.map D.int),.tup (zeros.map D.int)]])]:=by
   unfold eN;rw[Pe];rfl
  rw[eg];simp only[pv,seval,op,lK,yI,d8,Pq,yo,yp,Jl,c0,l0,f0,f1,cA,cH,flatDs,jc,P0,hsz])
 unfold bh fE;rw[vm (h:=by rfl),show(some (O.pin p (.t [.f,.l .f]),eN nY ps)::(List.map (fun d=>some (O.f,d)) []++List.replicate 2 none):PV.Env)=[some (.pin p (.t [.f,.l .f]),.tup [.tup (nY.map D.str),.lst (ps.map eP)]),none,none] from rfl,s1,s2];have i0:ED (eN nY (ps++[((1:Int),ones,zeros)])) (.int 0)=.ok (.f,.tup (nY.map D.str)):=rfl;generalize eN nY (ps++[((1:Int),ones,zeros)])=EN at i0 hm HJ ⊢;have j0:ED (qg r) (.int 0)=.ok (.f,.lst (r.2.map eA)):=rfl;have j1:ED (qg r) (.int 1)=.ok (.f,.lst (r.1.map eM)):=rfl;have heq:HS (ng nY r) (.tup [.tup [.tup (nY.map D.str),.lst (r.2.map eA)],.lst (r.1.map eM)])=.ok (.f,.bl true):=heq;generalize ng nY r=RD at hm IG heq;generalize qg r=DD at HJ GU j0 j1;rw[av (env':=[some (.pin p (.t [.f,.l .f]),EN),some (.f,.tup (ones.map D.int)),some (.t [.l .f,.l .f],DD)]) (by simp only[pv,seval,op,HJ,GU])];simp only[pv,seval,op,yj,lK,d8,Pq,yo,yp,hm,IG,i0,j0,j1,heq,cA,gK]
end
theorem law_plain(ns:List Int)(h:ns.length<=63):∃o,m_law [.lst (ns.map D.int)]=.ok (o,.bl true):=by
 obtain⟨nY,hn0,M1,nd,hs,Ke⟩:=yB ns;obtain⟨ps,M3,hp0,hp8,Fd⟩:=vy ns 2 nY.length (by lia);have Fd:bE [.lst (ns.map D.int),.int 2,.int (nY.length:Int)]=.ok (.l .f,.lst (ps.map eP)):=Fd;have Nv:cT (.tup (nY.map D.str))=true:=by rw[cH,PV.flat_strs]
 have J0:=BE nd hs M1 ps (by lia) M3;have HJ:=tq nd hs M1 ps (by lia) M3;have Lj:=lM nd hs M1 ps (by lia) M3;obtain⟨ds,N1⟩:=qh nd hs M1 ps (by lia) M3;have HQ:=jS _ (yM nY ps);unfold m_law AU;rw[bu (h:=by rfl)];rw[av (env':=[some (.f,.lst (ns.map D.int)),some (.f,.tup (nY.map D.str)),none,none,none,none,none]) (by simp only[pv,seval,Ke,cA,Nv])];rw[av (env':=[some (.f,.lst (ns.map D.int)),some (.f,.tup (nY.map D.str)),some (.f,eN nY ps),none,none,none,none]) (by
  unfold eN;simp only[pv,seval,op,bQ,Fd,pw,yK])]
 rw[av (env':=[some (.f,.lst (ns.map D.int)),some (.f,.tup (nY.map D.str)),some (.f,eN nY ps),some (.t [.f,.l .f],eN nY ps),none,none,none]) (by
  unfold eN;simp only[pv,seval,op,sI,JU])]
 generalize eN nY ps=EN at J0 HJ Lj N1 HQ ⊢;cases e:dt nY ps with
 |none=>
  rw[e]at J0 HJ;dsimp only at J0 HJ;have heq:HS (.tup [.non,.bl true]) (.tup [.non,.bl true])=.ok (.f,.bl true):=jR _ rfl;have Mx:aZ (.t [.f,.f]) (.tup [.non,.bl true])=true:=rfl;have GV:cT .non=true:=rfl;have Jn:Ka .non .non=.ok (.f,.bl true):=rfl;rw[av (env':=[some (.f,.lst (ns.map D.int)),some (.f,.tup (nY.map D.str)),some (.f,EN),some (.t [.f,.l .f],EN),some (.f,.non),some (.f,.bl true),none]) (by simp only[pv,seval,op,tj,J0,Mx,and_self,Rh])];rw[av (env':=[some (.f,.lst (ns.map D.int)),some (.f,.tup (nY.map D.str)),some (.f,EN),some (.t [.f,.l .f],EN),some (.f,.non),some (.f,.bl true),some (.f,.non)]) (by simp only[pv,seval,op,HJ,cA,GV])];rw[av (env':=[some (.f,.lst (ns.map D.int)),some (.f,.tup (nY.map D.str)),some (.f,EN),some (.t [.f,.l .f],EN),some (.f,.non),some (.f,.bl true),some (.f,.non)]) (by simp only[pv,seval,op,HQ,Jn,iY,PY,P1])];simp only[pv,seval,op,Jn,J0,Mx,heq,tm,N1];exact⟨_,rfl⟩
 |some r=>
  rw[e]at J0 HJ Lj;dsimp only at J0 HJ Lj;obtain⟨_,hm⟩:=Lj;have Mx:=yL nY r;have IG:=pL nY r;have GU:=wB r;have Jn:Ka (qg r) .non=.ok (.f,.bl false):=rfl;have j0:ED (qg r) (.int 0)=.ok (.f,.lst (r.2.map eA)):=rfl;have j1:ED (qg r) (.int 1)=.ok (.f,.lst (r.1.map eM)):=rfl;have k0:ED (ng nY r) (.int 0)=.ok (.f,Ia nY r.2):=rfl;have k1:ED (ng nY r) (.int 1)=.ok (.f,.lst (r.1.map eM)):=rfl;have kt:mD "tuple" (ng nY r)=true:=rfl;have kl:jY [ng nY r]=.ok (.f,.int 2):=rfl;have heq:HS (ng nY r) (.tup [.tup [.tup (nY.map D.str),.lst (r.2.map eA)],.lst (r.1.map eM)])=.ok (.f,.bl true):=jR _ (nh nY r);have Iv:bg [Ia nY r.2,.tup [.tup (nY.map D.str),.lst (r.2.map eA)]]=.ok (.f,.bl true):=qf nY r.2;have hmk:=oB r.1;have N2:uY 4 [some (.f,.lst (ns.map D.int)),some (.f,.tup (nY.map D.str)),some (.f,EN),some (.t [.f,.l .f],EN),some (.t [.t [.f,.l .f],.l .f],ng nY r),some (.f,.bl false),some (.t [.l .f,.l .f],qg r)]=.ok ((.f,.non),[some (.f,.lst (ns.map D.int)),some (.f,.tup (nY.map D.str)),some (.f,EN),some (.t [.f,.l .f],EN),some (.t [.t [.f,.l .f],.l .f],.tup [.tup [.tup (nY.map D.str),.lst []],.lst (r.1.map eM)]),some (.f,.bl false),some (.t [.l .f,.l .f],qg r)]):=rfl;generalize ng nY r=RD at J0 hm Mx IG k0 k1 kt kl heq N2;generalize qg r=DD at HJ GU Jn j0 j1 N2;rw[av (env':=[some (.f,.lst (ns.map D.int)),some (.f,.tup (nY.map D.str)),some (.f,EN),some (.t [.f,.l .f],EN),some (.t [.t [.f,.l .f],.l .f],RD),some (.f,.bl false),none]) (by simp only[pv,seval,op,tj,J0,Mx,and_self,Rh])];rw[av (env':=[some (.f,.lst (ns.map D.int)),some (.f,.tup (nY.map D.str)),some (.f,EN),some (.t [.f,.l .f],EN),some (.t [.t [.f,.l .f],.l .f],RD),some (.f,.bl false),some (.t [.l .f,.l .f],DD)]) (by simp only[pv,seval,op,HJ,GU])];rw[av (env':=[some (.f,.lst (ns.map D.int)),some (.f,.tup (nY.map D.str)),some (.f,EN),some (.t [.f,.l .f],EN),some (.t [.t [.f,.l .f],.l .f],RD),some (.f,.bl false),some (.t [.l .f,.l .f],DD)]) (by simp only[pv,seval,op,HQ,Jn,iY,PY,P1])];rw[av (env':=[some (.f,.lst (ns.map D.int)),some (.f,.tup (nY.map D.str)),some (.f,EN),some (.t [.f,.l .f],EN),some (.t [.t [.f,.l .f],.l .f],RD),some (.f,.bl false),some (.t [.l .f,.l .f],DD)]) (by simp only[pv,seval,op,Jn,iY])];rw[av (env':=[some (.f,.lst (ns.map D.int)),some (.f,.tup (nY.map D.str)),some (.f,EN),some (.t [.f,.l .f],EN),some (.t [.t [.f,.l .f],.l .f],RD),some (.f,.bl false),some (.t [.l .f,.l .f],DD)]) (by
   simp only[pv,seval,op,tf,d8,Pq,yo,yp,kt,kl,k0,j0,Iv,cA,gK,P1,iY];try rfl)]
  rw[av (env':=[some (.f,.lst (ns.map D.int)),some (.f,.tup (nY.map D.str)),some (.f,EN),some (.t [.f,.l .f],EN),some (.t [.t [.f,.l .f],.l .f],RD),some (.f,.bl false),some (.t [.l .f,.l .f],DD)]) (by
   simp only[pv,seval,op,tf,d8,Pq,yo,yp,k1,j1,hmk,cA,gK,P1,iY])]
  rw[av (env':=[some (.f,.lst (ns.map D.int)),some (.f,.tup (nY.map D.str)),some (.f,EN),some (.t [.f,.l .f],EN),some (.t [.t [.f,.l .f],.l .f],.tup [.tup [.tup (nY.map D.str),.lst []],.lst (r.1.map eM)]),some (.f,.bl false),some (.t [.l .f,.l .f],DD)]) (by
   rw[HZ,N2,Fv])]
  rw[av (env':=[some (.f,.lst (ns.map D.int)),some (.f,.tup (nY.map D.str)),some (.f,EN),some (.t [.f,.l .f],EN),some (.t [.t [.f,.l .f],.l .f],.tup [.tup [.tup (nY.map D.str),.lst []],.lst []]),some (.f,.bl false),some (.t [.l .f,.l .f],DD)]) (by simp only[pv,seval,op,yJ])];simp only[pv,seval,op,lK,d8,Pq,yo,yp,hm,IG,j0,j1,heq,cA,gK,tm,N1];exact⟨_,rfl⟩
end LW
namespace FIN
open PySem PySem.Spec PyProof.Rows L2 NX PV LW
theorem BF{l:PySem.W.OpenLaw}{w:World}{K:W.Frag}{h:Heap}{mg:Str->Option Value}{fa f:Addr}{od an:Option Addr}{sl:Array (Option Value)}{oc kV dc pm cd ct:Value}(X:K.In h)(G:h.Ns mainGlobals mg)(hfa:mg "law" = some (.ref fa))
  (aL:PySem.W.nsIn K mainGlobals "law" = some (some (.ref f))) (lL:K.lookup f=some ⟨oc,od,.func (PySem.W.fnOf "law" "law" (dH lD) (bU lD) (defScope lD) .none kV dc pm an cd ct),sl⟩) (cL:PySem.W.codeIn K cd "law" = true) (kL:PySem.W.keepIn K (.ref f)=true)
  (Fi:Def K mg "first_marking" dn) (Hl:Def K mg "can_go" lr) (Ib:Def K mg "moved" og) (GA:Def K mg "explored" ik) (GC:Def K mg "run_of" jb) (Ft:Def K mg "_law_cell_at" dN) (FY:Def K mg "_law_mixed" fF) (FZ:Def K mg "_law_names" fG) (Gj:Def K mg "_law_step" gH) (GD:Def K mg "_law_run" il) (Gk:Def K mg "_law_fold" gI) (F0:Def K mg "_law_place" fH) (FD:Def K mg "_law_scaled" eL) (FE:Def K mg "_law_places" eQ) (F1:Def K mg "_law_moves" fI) (F2:Def K mg "_law_whole" fJ) (Fj:Def K mg "_law_is_chart" dq) (EX:Def K mg "_law_are_markings" cj) (Gm:Def K mg "_law_told" gJ) (Fl:Def K mg "_law_one_more" dr)
  (En:Gi mg "MOST_STATES" (12))
  (HV:PySem.W.nsIn K mainGlobals "all" = some none) (GY:PySem.W.nsIn K mainGlobals "bool" = some none) (HW:PySem.W.nsIn K mainGlobals "int" = some none) (Ei:PySem.W.nsIn K mainGlobals "isinstance" = some none) (ER:PySem.W.nsIn K mainGlobals "len" = some none) (Fq:PySem.W.nsIn K mainGlobals "list" = some none) (Hj:PySem.W.nsIn K mainGlobals "max" = some none) (EY:PySem.W.nsIn K mainGlobals "range" = some none) (E9:PySem.W.nsIn K mainGlobals "sorted" = some none) (HX:PySem.W.nsIn K mainGlobals "str" = some none) (Em:PySem.W.nsIn K mainGlobals "tuple" = some none) (Gf:PySem.W.nsIn K mainGlobals "zip" = some none) {Et:Addr}(EI:PySem.W.nsIn K mainGlobals "TooGreat" = some (some (.ref Et))) (FL:PySem.W.excIn K Et [.type "ValueError",.type "Exception",.type "BaseException",.type "object"] "ValueError.__new__" = true):
  ∃fd:FuncData,(∀(s:Shared) (v:Value),BindsTo s fd ⟨[v],[]⟩ [("_law_script",v)])/\∀base:Heap,K.In base->base.Ns mainGlobals mg->FnOk l.prog w K mg base Iw 6 fa fd ["_law_script"] (uM K):=by
 have e:=hfa.symm.trans (RE X G aL);cases e;have F:=vO (st:=lD) lL cL kL;have My:=Pt X G HV;have y_bool:=Pt X G GY;have Mz:=Pt X G HW;have E1:=Pt X G Ei;have GF:=Pt X G ER;have HK:=Pt X G Fq;have MA:=Pt X G Hj;have Ha:=Pt X G EY;have Hm:=Pt X G E9;have MB:=Pt X G HX;have EV:=Pt X G Em;have Je:=Pt X G Gf;have Lk:=RE X G EI;refine⟨PySem.W.fnOf "law" "law" (dH lD) (bU lD) (defScope lD) .none kV dc pm an cd ct,fun s v=>.of_eq rfl,fun base KB GB=>?_⟩;have GH:Kw mg base "TooGreat" Et:=⟨_,_,_,_,PySem.F.excBase_ValueError,zZ KB GB EI FL⟩
 have Gs:Ct l.prog w K mg base "first_marking" 1 (spF K bt):=iV Fi EV;have Jf:Ct l.prog w K mg base "can_go" 1 (spF K fT):=su Hl My Je;have J2:Ct l.prog w K mg base "moved" 2 (spF K ft):=u9 Ib Jf EV Je;have GI:Ct l.prog w K mg base "explored" 3 (spF K bJ):=oh GA Gs J2 En GF;have GJ:Ct l.prog w K mg base "run_of" 4 (spF K cv):=sv GC GI En GF;have Iu:=qb (P:=l.prog) (w:=w) (K:=K) (mg:=mg) (base:=base) GC GI GH En GF;have Fu:Ct l.prog w K mg base "_law_cell_at" 1 (spF K aE):=jN Ft GF;have Fg:Ct l.prog w K mg base "_law_mixed" 1 (spF K aN):=lu FY;have Hb:Ct l.prog w K mg base "_law_names" 2 (spF K ck):=lx FZ Fg Ha Hm;have Hn:Ct l.prog w K mg base "_law_step" 1 (spF K b8):=mS Gj EV Je;have GK:Ct l.prog w K mg base "_law_run" 2 (spF K a9):=oi GD Hn GF Hm EV;have Ho:Ct l.prog w K mg base "_law_fold" 2 (spF K cG):=mT Gk Fg;have Hc:Ct l.prog w K mg base "_law_place" 2 (spF K cm):=ly F0 Fg MA Ha;have GQ:Ct l.prog w K mg base "_law_scaled" 1 (spF K bD):=j9 FD EV;have GR:Ct l.prog w K mg base "_law_places" 3 (spF K bE):=ka FE Fu Ho Hc GQ Ha;have Hd:Ct l.prog w K mg base "_law_moves" 3 (spF K cn):=lA F1 Fu Hb EV;have F3:Ct l.prog w K mg base "_law_whole" 1 (spF K m__law_whole):=lC F2 y_bool Mz E1;have Gu:Ct l.prog w K mg base "_law_is_chart" 2 (spF K bg):=iW Fj F3 E1 GF HK MB EV;have Fz:Ct l.prog w K mg base "_law_are_markings" 2 (spF K aR):=fZ EX F3 E1 HK EV;have Hq:Ct l.prog w K mg base "_law_told" 5 (spF K b9):=mU Gm Iu GJ GH;have Gv:Ct l.prog w K mg base "_law_one_more" 5 (spM K (.t [.f,.l .f]) bh):=iX Fl GK GJ EV;exact(AW F Fz Gu Hd Gv GR GK Hq GJ E1 GF HK EV).imp (Ay law_plain)
end FIN
def PySem.W.Fast.tw1412966638950691032:=0
def PySem.W.Fast.tw15048487635441226906:=0
def PySem.W.Fast.tw17152579200731782013:=0
def PySem.W.Fast.tw13788640882333686426:=0
def PySem.W.Fast.tw7345096238674168348:=0
def PySem.W.Fast.tw454051964429716936:=0
def PySem.W.Fast.tw527426552988535732:=0
def PySem.W.Fast.tw17636286134605572392:=0
def PySem.W.Fast.tw4082010323415100140:=0
def PySem.W.Fast.tw2578296021128794959:=0
def PySem.W.Fast.tw5459719447464786488:=0
def PySem.W.Fast.tw7144525935452748123:=0
def PySem.W.Fast.tw15610351583385498690:=0
def PySem.W.Fast.tw16935965214445082997:=0
def PySem.W.Fast.tw16771921767507218154:=0
def PySem.W.Fast.tw4297959958445210509:=0
def PySem.W.Fast.tw7944664394458028296:=0
def PySem.W.Fast.tw1863491857465027612:=0
def PySem.W.Fast.tw9125983707516003161:=0
def PySem.W.Fast.tw13210670050478813281:=0
def PySem.W.Fast.tw14115195713524495947:=0
def PySem.W.Fast.tw13342889140555693132:=0
def PySem.W.Fast.tw8729207673289891104:=0
def PySem.W.Fast.tw7677795523571702932:=0
def PySem.W.Fast.tw7844316130356860697:=0
open PySem PySem.W PyProof.Rows
set_option maxRecDepth 100000 in
set_option maxHeartbeats 0 in
theorem PySem.Challenge.cw_netfinder_k22_runs_walked_holds : PySem.Challenge.rw_netfinder_k22_runs_walked.Holds := by
  w_on; o_law; k_head; (case hw => w_witness2)
  k_fill
  refine PV.DQ (l := PySem.Challenge.rw_netfinder_k22_runs_walked) (k := 6) (x := "_law_script") rfl rfl ⟨rfl, by decide, by decide⟩ (fun w h Y => PySem.W.kIn_of Y) ?F
  case F =>
    intro w mg fa h KX G LM
    refine' FIN.BF KX G LM ?aL ?lL ?cL ?kL ?Fi ?Hl ?Ib ?GA ?GC ?Ft ?FY ?FZ ?Gj ?GD ?Gk ?F0 ?FD ?FE ?F1 ?F2 ?Fj ?EX ?Gm ?Fl ?En ?HV ?GY ?HW ?Ei ?ER ?Fq ?Hj ?EY ?E9 ?HX ?Em ?Gf ?EI ?FL
    (case aL => k_is); (case lL => k_is); (case cL => k_is); (case kL => k_is)
    iterate 20 (refine' PV.AD KX G ?a ?l ?c ?k; (case a => k_is); (case l => k_is); (case c => k_is); (case k => k_is))
    (case En => (refine' PV.Cr KX G ?a; (case a => k_is)))
    iterate 12 k_is
    (case EI => k_is)
    (case FL => k_exc)
